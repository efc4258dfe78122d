/- lists.each: a list's rows, over whatever takes them. -/
import Derived.Test.YtgijihfijoiafaaGreatDoorQPLWalksVLWalksX
import Derived.Test.YtgijihfijoiafaaGreatDoorQPCodBag
import Derived.Lib.OwnBridge
namespace Go.Proofs.YtgijihfijoiafaaGreatDoor
set_option linter.unusedVariables false
open Go.RowKit Go.ChangeShapes

/-- A line's row. -/
def rowB (s : ByteArray) : ByteArray := ⟨(rowL s.data.toList).toArray⟩
/-- The first line of over 4096 bytes, counted from one; 0: none. -/
def longL : List ByteArray → Nat → Nat
  | [], _ => 0
  | t :: l, j => if 4096 < t.size then j + 1 else longL l (j + 1)
/-- What a list's rows do to a state; an error's number, and its line. -/
def runR {σ : Type} (step : σ → ByteArray → σ × Int) : List ByteArray → Nat → σ → σ × Int × Nat
  | [], _, st => (st, 0, 0)
  | r :: l, j, st => if (rowB r).size = 0 then runR step l (j + 1) st else if (step st (rowB r)).2 = 0 then runR step l (j + 1) (step st (rowB r)).1 else ((step st (rowB r)).1, (step st (rowB r)).2, j + 1)
/-- A text's lines. -/
def linesL (s : ByteArray) : List ByteArray := (List.range (Lns.nL s)).map (Lns.line s)
theorem linesL_len (s : ByteArray) : (linesL s).length = Lns.nL s := by simp [linesL]
theorem linesL_drop (s : ByteArray) (k : Nat) (h : k < Lns.nL s) : (linesL s).drop k = Lns.line s k :: (linesL s).drop (k + 1) := by
  rw [List.drop_eq_getElem_cons (by rw [linesL_len]; exact h)]
  simp [linesL]
theorem linesL_end (s : ByteArray) : (linesL s).drop (Lns.nL s) = [] := by rw [← linesL_len, List.drop_length]
theorem drop_len (p : UInt8 → Bool) (l : List UInt8) : (l.dropWhile p).length ≤ l.length := (List.dropWhile_sublist p).length_le
theorem trimS_len (l cs : List UInt8) : (Lib.trimS l cs).length ≤ l.length := by
  unfold Lib.trimS Lib.trimLeftS Lib.trimRightS
  refine Nat.le_trans (drop_len _ _) ?_
  rw [List.length_reverse]
  exact Nat.le_trans (drop_len _ _) (by rw [List.length_reverse]; exact Nat.le_refl _)
theorem rowL_len (l : List UInt8) : (rowL l).length ≤ l.length := by
  have h1 : (Lib.cut l [35]).1.length ≤ l.length := by
    unfold Lib.cut
    split
    · simp; omega
    · simp
  exact Nat.le_trans (trimS_len _ _) h1
theorem rowB_size (s : ByteArray) : (rowB s).size ≤ s.size := rowL_len s.data.toList
theorem longL_zero : ∀ (l : List ByteArray) (j : Nat), longL l j = 0 → ∀ t ∈ l, t.size ≤ 4096
  | [], _, _ => by simp
  | t :: l, j, h => by
    unfold longL at h
    split at h
    · omega
    · intro u hu
      rcases List.mem_cons.1 hu with rfl | hu
      · omega
      · exact longL_zero l _ h u hu
/-- Texts lie in a block. -/
def TSg (w : World) (g : Nat) (v : Value) (k : Nat) (F : Nat → ByteArray) : Prop := (∃ ad c, v = .slice ad 0 c ∧ k = 0) ∨ ∃ c, v = .slice (some ⟨g, 0, none⟩) k c ∧ ∀ i, i < k → w.cell? ⟨g, i, none⟩ = some (.string (F i))
theorem tsg_own {w : World} {base k : Nat} {v : Value} {F : Nat → ByteArray} (h : w.ownsRow base 9 1 v k (Lns.tcells F k)) : ∃ g, base ≤ g ∧ TSg w g v k F ∧ (0 < k → g < w.heap.size) := by
  have h0 := h
  obtain ⟨hl, ⟨rfl, rfl⟩ | ⟨g, cap, cur, rfl, hg, hh, h3⟩⟩ := h
  · exact ⟨base, Nat.le_refl _, Or.inl ⟨none, 0, rfl, rfl⟩, fun h => absurd h (by omega)⟩
  · exact ⟨g, hg, Or.inr ⟨cap, rfl, fun i hi => by rw [h0.cellAt i (by omega)]; exact Lns.tcells_at F k i hi⟩, fun _ => lt_of_heap hh⟩
theorem TSg.form {w : World} {g : Nat} {v : Value} {k : Nat} {F : Nat → ByteArray} (h : TSg w g v k F) : ∃ ad c, v = .slice ad k c ∧ (0 < k → ad = some ⟨g, 0, none⟩) := by
  rcases h with ⟨ad, c, rfl, rfl⟩ | ⟨c, rfl, _⟩
  · exact ⟨ad, c, rfl, fun h => absurd h (by omega)⟩
  · exact ⟨_, c, rfl, fun _ => rfl⟩
theorem TSg.at {w : World} {g : Nat} {v : Value} {k : Nat} {F : Nat → ByteArray} (h : TSg w g v k F) {w' : World} (e : w'.heap[g]? = w.heap[g]?) (i : Nat) (hi : i < k) : w'.cell? ⟨g, i, none⟩ = some (.string (F i)) := by
  rcases h with ⟨ad, c, rfl, rfl⟩ | ⟨c, rfl, h⟩
  · omega
  · exact (World.cell?_of_block e).trans (h i hi)
theorem toList_length (r : ByteArray) : r.toList.length = r.size := by
  rw [Lib.toList_data]; rfl
set_option maxRecDepth 100000 in
set_option maxHeartbeats 2000000 in
theorem each_long (nm s : ByteArray) (v : Value) (fv : Value) (w : World) (hs : s.size ≤ 40000) (hT : Lns.Tabs w) (hb : Lns.BSl w v s) (j : Nat) (hj : longL (linesL s) 0 = j + 1) :
    Calls Tryz.prog 30 #[.string nm, v, fv] w fun e w' => ∃ b c, w.heap.size ≤ b ∧ b < c ∧ e = .returned (val [⟨c, nm, 0⟩, ⟨b, ⟨#[]⟩, j + 1⟩] 3) ∧ Lie w' [⟨c, nm, 0⟩, ⟨b, ⟨#[]⟩, j + 1⟩] 3 ∧ Below w.heap.size w w' := by
  have ct := Lns.split_any s v w hs hT hb
  have hnl := Lns.nL_le s
  obtain ⟨vd, vc, rfl⟩ := hb.form
  have HJ : Hid (longL (linesL s) 0 = j + 1) := hj
  clear hT hb hj
  go_enter Tryz.func30, Tryz.ntmps30
  go_wp2_with fail
  refine ct.mono ?_
  rintro e w1 ⟨v1, rfl, hown, hb1⟩
  obtain ⟨g, hg, ht, hgl⟩ := tsg_own hown
  have HB : Hid (Below w.heap.size w w1) := hb1
  have HT : Hid (TSg w1 g v1 (Lns.nL s) (Lns.line s)) := ht
  obtain ⟨ad, c, rfl, had⟩ := ht.form
  clear ht hown hb1 ct
  generalize hn : Lns.nL s = n at *
  have HN : Hid (Lns.nL s = n) := hn
  clear hn
  go_wp2
  go_loopg [18] (n) (fun gh iv wr => ∃ k : Nat, k ≤ n ∧ gh = n - k ∧ iv = .int .i64 k ∧ wr = w1 ∧ Hid (longL ((linesL s).drop k) k = j + 1))
  case atStart => exact ⟨0, Nat.zero_le _, rfl, rfl, rfl, HJ⟩
  case round =>
    obtain ⟨k, hk, hgh, rfl, rfl, HL⟩ := hrel
    by_cases hlt : k < n
    · obtain rfl := had (by omega)
      have z0 : (0 : Int) ≤ (k : Int) := by omega
      have z1 : (k : Int) < (n : Int) := by omega
      have hc := HT.out.at rfl k hlt
      have HL1 := HL.out
      rw [linesL_drop s k (by rw [HN.out]; exact hlt)] at HL1
      unfold longL at HL1
      generalize Lns.line s k = t at hc HL1
      by_cases ht : 4096 < t.size
      · rw [if_pos ht] at HL1
        have HJ2 : Hid (k = j) := by show _ = _; omega
        clear HL1 HL
        have ht' : (4096 : Int) < (t.size : Int) := by omega
        go_wp2_with fail
        refine (new_any ⟨#[]⟩ (k + 1) _ _ _).mono ?_
        rintro e w2 ⟨rfl, rfl⟩
        go_wp2_with fail
        refine (new_any nm 0 _ _ _).mono ?_
        rintro e w2 ⟨rfl, rfl⟩
        go_wp2
        go_ret
        have hk2 := HJ2.out
        subst hk2
        have hsz := HB.out.size
        have hl := Lie.new (Lie.new (w := wr) (c := 3) (l := []) trivial ⟨#[]⟩ ((k : Int) + 1)) nm 0
        simp only [World.size_alloc] at hl
        exact ⟨_, _, hsz, by simp, rfl, hl, (HB.out.alloc hsz _).alloc (by simp; omega) _⟩
      · rw [if_neg ht] at HL1
        have HL2 : Hid (longL ((linesL s).drop (k + 1)) (k + 1) = j + 1) := HL1
        clear HL1 HL
        have ht' : ¬ (4096 : Int) < (t.size : Int) := by omega
        go_wp2
        go_roundg (n - (k + 1))
        case measure => omega
        case rel => exact ⟨k + 1, hlt, rfl, by go_num, rfl, HL2⟩
    · exfalso
      have : k = Lns.nL s := by rw [HN.out]; omega
      have h2 := HL.out
      rw [this, linesL_end] at h2
      simp [longL] at h2
set_option maxRecDepth 100000 in
set_option maxHeartbeats 2000000 in
theorem each_run {σ : Type} (nm s : ByteArray) (v : Value) (K : Nat) (cap : Array Value) (Inv : Nat → σ → World → Prop) (G : σ → Prop) (step : σ → ByteArray → σ × Int) (s0 : σ) (m : Int) (w : World) (hs : s.size ≤ 40000) (hT : Lns.Tabs w) (hb : Lns.BSl w v s)
    (hM : ∀ X st w', Inv X st w' → w'.cell? ⟨3, 0, none⟩ = some (.int .i64 m))
    (hE : ∀ r w', (callFunc K (#[.string r] ++ cap)).run Tryz.prog w' = .ok (.enter K (#[.string r] ++ cap)) w')
    (hG0 : G s0) (hGs : ∀ st r, G st → (step st r).2 = 0 → G (step st r).1)
    (hC : ∀ X st r w', G st → r.size ≤ 4096 → r.size ≠ 0 → Inv X st w' → X < w'.heap.size → Calls Tryz.prog K (#[.string r] ++ cap) w' fun e w'' => e = .returned (.int .i64 (step st r).2) ∧ Inv X (step st r).1 w'' ∧ w''.heap[X]? = w'.heap[X]? ∧ w'.heap.size ≤ w''.heap.size)
    (hS : ∀ X st w' w'', Inv X st w' → Below w'.heap.size w' w'' → Inv X st w'')
    (h0 : ∀ X w', Below w.heap.size w w' → w.heap.size ≤ X → Inv X s0 w')
    (hL : longL (linesL s) 0 = 0) :
    Calls Tryz.prog 30 #[.string nm, v, .func (.func K) #[] cap] w fun e w' => ∃ X st c ln, runR step (linesL s) 0 s0 = (st, c, ln) ∧ Inv X st w' ∧ ((c = 0 ∧ G st ∧ e = .returned .nilIface) ∨ (c ≠ 0 ∧ ∃ b, e = .returned (val [⟨b, nm, ln⟩] c) ∧ Lie w' [⟨b, nm, ln⟩] c)) := by
  have ct := Lns.split_any s v w hs hT hb
  have hnl := Lns.nL_le s
  obtain ⟨vd, vc, rfl⟩ := hb.form
  have HL : Hid (∀ t ∈ linesL s, t.size ≤ 4096) := longL_zero _ _ hL
  have H0 : Hid (∀ X w', Below w.heap.size w w' → w.heap.size ≤ X → Inv X s0 w') := h0
  have HS : Hid (∀ X st w' w'', Inv X st w' → Below w'.heap.size w' w'' → Inv X st w'') := hS
  have HGs : Hid (∀ st r, G st → (step st r).2 = 0 → G (step st r).1) := hGs
  have HG0 : Hid (G s0) := hG0
  have HC : Hid (∀ X st r w', G st → r.size ≤ 4096 → r.size ≠ 0 → Inv X st w' → X < w'.heap.size → Calls Tryz.prog K (#[.string r] ++ cap) w' fun e w'' => e = .returned (.int .i64 (step st r).2) ∧ Inv X (step st r).1 w'' ∧ w''.heap[X]? = w'.heap[X]? ∧ w'.heap.size ≤ w''.heap.size) := hC
  have HM : Hid (∀ X st w', Inv X st w' → w'.cell? ⟨3, 0, none⟩ = some (.int .i64 m)) := hM
  obtain ⟨Z, hZ⟩ : ∃ Z, runR step (linesL s) 0 s0 = Z := ⟨_, rfl⟩
  rw [hZ]
  have HZ : Hid (runR step (linesL s) 0 s0 = Z) := hZ
  clear hT hb hL h0 hS hC hM hZ hGs hG0
  go_enter Tryz.func30, Tryz.ntmps30
  go_wp2_with fail
  refine ct.mono ?_
  rintro e w1 ⟨v1, rfl, hown, hb1⟩
  obtain ⟨g, hg, ht, hgl⟩ := tsg_own hown
  have HB : Hid (Below w.heap.size w w1) := hb1
  have HT : Hid (TSg w1 g v1 (Lns.nL s) (Lns.line s)) := ht
  have HI : Hid (Inv g s0 w1) := H0.out g w1 hb1 hg
  obtain ⟨ad, c, rfl, had⟩ := ht.form
  clear ht hown hb1 ct
  generalize hn : Lns.nL s = n at *
  have HN : Hid (Lns.nL s = n) := hn
  clear hn
  go_wp2
  go_loopg [18] (n) (fun gh iv wr => ∃ k : Nat, k ≤ n ∧ gh = n - k ∧ iv = .int .i64 k ∧ wr = w1)
  case atStart => exact ⟨0, Nat.zero_le _, rfl, rfl, rfl⟩
  case round =>
    obtain ⟨k, hk, hgh, rfl, hw⟩ := hrel
    subst wr
    by_cases hlt : k < n
    · obtain rfl := had (by omega)
      have z0 : (0 : Int) ≤ (k : Int) := by omega
      have z1 : (k : Int) < (n : Int) := by omega
      have hc := HT.out.at rfl k hlt
      have ht : (Lns.line s k).size ≤ 4096 := HL.out _ (by unfold linesL; rw [HN.out]; exact List.mem_map.2 ⟨k, List.mem_range.2 hlt, rfl⟩)
      generalize Lns.line s k = t at hc ht
      have ht' : ¬ (4096 : Int) < (t.size : Int) := by omega
      clear ht
      go_wp2
      go_roundg (n - (k + 1))
      case measure => omega
      case rel => exact ⟨k + 1, hlt, rfl, by go_num, rfl⟩
    · obtain rfl : k = n := by omega
      go_wp2
      go_loopg [35] (k) (fun gh iv wr => ∃ j : Nat, ∃ st : σ, j ≤ k ∧ gh = k - j ∧ iv = .int .i64 j ∧ Hid (wr.heap[g]? = w1.heap[g]?) ∧ Hid (w1.heap.size ≤ wr.heap.size) ∧ Hid (Inv g st wr) ∧ Hid (G st) ∧ Hid (runR step ((linesL s).drop j) j st = Z))
      case atStart => exact ⟨0, s0, Nat.zero_le _, rfl, rfl, rfl, Nat.le_refl _, HI, HG0, HZ⟩
      case round =>
        obtain ⟨j, st, hj, hgh, rfl, HG, HU, HI, HGG, HR⟩ := hrel
        by_cases hlt : j < k
        · obtain rfl := had (by omega)
          have z0 : (0 : Int) ≤ (j : Int) := by omega
          have z1 : (j : Int) < (k : Int) := by omega
          have hc := HT.out.at HG.out j hlt
          have ht : (Lns.line s j).size ≤ 4096 := HL.out _ (by unfold linesL; rw [HN.out]; exact List.mem_map.2 ⟨j, List.mem_range.2 hlt, rfl⟩)
          have HR1 := HR.out
          rw [linesL_drop s j (by rw [HN.out]; exact hlt)] at HR1
          unfold runR at HR1
          have hgw := hgl (by omega)
          generalize Lns.line s j = t at hc ht HR1
          have hrs := rowB_size t
          have ct := trim_any t wr (by omega) m (HM.out g st wr HI.out)
          change Calls Tryz.prog 57 #[.string t] wr (fun e w' => e = .returned (.string (rowB t)) ∧ Below wr.heap.size wr w') at ct
          generalize rowB t = r at ct HR1 hrs
          go_wp2_with fail
          refine ct.mono ?_
          rintro e w2 ⟨rfl, hb2⟩
          have HI2 : Hid (Inv g st w2) := HS.out g st wr w2 HI.out hb2
          have hu := HU.out
          have HG2 : Hid (w2.heap[g]? = w1.heap[g]?) := (hb2.block g (by omega)).trans HG.out
          have hu2 : w1.heap.size ≤ w2.heap.size := Nat.le_trans hu hb2.size
          clear HG HU hu ct hb2 HI hc
          by_cases hr : r.size = 0
          · rw [if_pos hr] at HR1
            have HR2 : Hid (runR step ((linesL s).drop (j + 1)) (j + 1) st = Z) := HR1
            have HU2 : Hid (w1.heap.size ≤ w2.heap.size) := hu2
            clear HR HR1 hu2
            obtain rfl : r = ⟨#[]⟩ := by
              cases r with
              | mk d => congr 1; exact Array.eq_empty_of_size_eq_zero hr
            go_wp2
            go_roundg (k - (j + 1))
            case measure => omega
            case rel => exact ⟨j + 1, st, hlt, rfl, by go_num, HG2, HU2, HI2, HGG, HR2⟩
          · rw [if_neg hr] at HR1
            have hgs := HGs.out st r HGG.out
            have cc := HC.out g st r w2 HGG.out (by omega) hr HI2.out (by omega)
            have hne : r.toList.isEmpty = false := by
              cases e : r.toList.isEmpty
              · rfl
              · exfalso
                have h2 := toList_length r
                rw [List.isEmpty_iff.1 e] at h2
                exact hr h2.symm
            have HGS : Hid ((step st r).2 = 0 → G (step st r).1) := hgs
            clear hgs
            generalize step st r = q at HR1 cc HGS
            go_wp2_with fail
            refine cc.mono ?_
            rintro e w3 ⟨rfl, hi3, hg3, hu3⟩
            have HI3 : Hid (Inv g q.1 w3) := hi3
            have HG3 : Hid (w3.heap[g]? = w1.heap[g]?) := hg3.trans HG2.out
            have HU3 : Hid (w1.heap.size ≤ w3.heap.size) := Nat.le_trans hu2 hu3
            clear hi3 hg3 hu3 hu2 HG2 HI2 cc HR
            obtain ⟨st', cq⟩ := q
            simp only at HR1 HI3 ⊢
            by_cases hq : cq = 0
            · subst hq
              rw [if_pos rfl] at HR1
              have HR2 : Hid (runR step ((linesL s).drop (j + 1)) (j + 1) st' = Z) := HR1
              clear HR1
              go_wp2
              go_roundg (k - (j + 1))
              case measure => omega
              case rel => exact ⟨j + 1, st', hlt, rfl, by go_num, HG3, HU3, HI3, HGS.out (by trivial), HR2⟩
            · rw [if_neg hq] at HR1
              have HR2 : Hid ((st', cq, j + 1) = Z) := HR1
              clear HR1
              go_wp2_with fail
              refine (new_any nm ((j : Int) + 1) _ _ _).mono ?_
              rintro e w4 ⟨rfl, rfl⟩
              go_wp2
              go_ret
              have hl := Lie.new (w := w3) (c := cq) (l := []) trivial nm ((j : Int) + 1)
              refine ⟨g, st', cq, j + 1, HR2.out.symm, HS.out g st' w3 _ HI3.out ((Below.refl _ _).alloc (Nat.le_refl _) _), Or.inr ⟨hq, w3.heap.size, rfl, ?_⟩⟩
              exact hl
        · obtain rfl : j = k := by omega
          have HR1 := HR.out
          rw [← HN.out, linesL_end] at HR1
          have HR2 : Hid ((st, 0, 0) = Z) := HR1
          clear HR1
          go_wp2
          go_ret
          exact ⟨g, st, 0, 0, HR2.out.symm, HI.out, Or.inl ⟨rfl, HGG.out, rfl⟩⟩
end Go.Proofs.YtgijihfijoiafaaGreatDoor
/- lists.Words: what takes a row. -/
namespace Go.Proofs.YtgijihfijoiafaaGreatDoor
set_option linter.unusedVariables false
open Go.RowKit Go.ChangeShapes

theorem ends_go (s : ByteArray) : ∀ d k, s.size - pos s k ≤ d → (∀ j, j < k → pos s j < s.size) → ∃ K, Ends s K
  | 0, k, hd, h => ⟨k, ⟨by have := pos_le s k h; omega, h⟩⟩
  | d + 1, k, hd, h => by
    by_cases h1 : pos s k < s.size
    · have h2 := (wd_pos s (pos s k) h1).1
      refine ends_go s d (k + 1) (by simp only [pos]; omega) (fun j hj => ?_)
      rcases Nat.lt_succ_iff_lt_or_eq.1 hj with h3 | h3
      · exact h j h3
      · rw [h3]; exact h1
    · exact ⟨k, ⟨by have := pos_le s k h; omega, h⟩⟩
theorem ends_ex (s : ByteArray) : ∃ K, Ends s K := ends_go s s.size 0 (by omega) (fun j hj => absurd hj (Nat.not_lt_zero j))
/-- How many signs. -/
def kG (s : ByteArray) : Nat → Nat → Nat
  | 0, k => k
  | f + 1, k => if pos s k = s.size then k else kG s f (k + 1)
theorem kG_ends {s : ByteArray} {K : Nat} (hK : Ends s K) : ∀ f k, k ≤ K → K ≤ k + f → kG s f k = K
  | 0, k, h1, h2 => by show k = K; omega
  | f + 1, k, h1, h2 => by
    show (if pos s k = s.size then k else kG s f (k + 1)) = K
    by_cases h : pos s k = s.size
    · rw [if_pos h]
      rcases Nat.lt_or_ge k K with hl | hg
      · exact absurd h (Nat.ne_of_lt (hK.2 k hl))
      · omega
    · rw [if_neg h]
      have hne : k ≠ K := fun e => h (by rw [e]; exact hK.1)
      exact kG_ends hK f (k + 1) (by omega) (by omega)
def kS (s : ByteArray) : Nat := kG s s.size 0
theorem kS_ends (s : ByteArray) : Ends s (kS s) := by
  obtain ⟨K, hK⟩ := ends_ex s
  have hl := hK.le
  have h := kG_ends hK s.size 0 (Nat.zero_le _) (by omega)
  show Ends s (kG s s.size 0)
  rw [h]
  exact hK
theorem kS_is {s : ByteArray} {k : Nat} (h : Ends s k) : kS s = k := (kS_ends s).one h
/-- Bytes are equal or not. -/
def bytesDec : DecidableEq ByteArray := fun s t => decidable_of_iff (s.data = t.data) ⟨fun h => by cases s; cases t; cases h; rfl, fun h => by rw [h]⟩
/-- A text is in a list or not. -/
def memDec (s : ByteArray) : (L : List ByteArray) → Decidable (s ∈ L)
  | [] => isFalse (by simp)
  | t :: L => match bytesDec s t with
    | isTrue h => isTrue (by simp [h])
    | isFalse h => match memDec s L with
      | isTrue k => isTrue (List.mem_cons_of_mem _ k)
      | isFalse k => isFalse (by simp [h, k])
/-- Check's number of a text; a text in small letters. -/
def chk (s : ByteArray) : Int := chkL s.size (rl s (kS s))
def fld (s : ByteArray) : ByteArray := tx (wrL 1 (sg s (kS s)))
theorem check_at (s : ByteArray) (w : World) (hn : s.size ≤ 5000) (hT : Tabs w) :
    Calls Tryz.prog 12 #[.string s] w fun e w' => e = .returned (.int .i64 (chk s)) ∧ Below w.heap.size w w' := check_any s (kS s) w hn hT (kS_ends s)
theorem fold_at (s : ByteArray) (w : World) (hn : s.size ≤ 5000) (hT : Tabs w) :
    Calls Tryz.prog 21 #[.string s] w fun e w' => e = .returned (.string (fld s)) ∧ Below w.heap.size w w' := fold_any s (kS s) w hn hT (kS_ends s)
theorem flat_len (l : List Int) : (l.flatMap enc).length ≤ 4 * l.length := by
  induction l with
  | nil => simp
  | cons a l ih => rw [List.flatMap_cons, List.length_append, List.length_cons]; have := enc_le a; omega
theorem fld_size (s : ByteArray) : (fld s).size ≤ 4 * s.size := by
  unfold fld tx
  rw [strOfNums_size]
  refine Nat.le_trans (flat_len _) ?_
  rw [wrL_len]
  have h1 : (sg s (kS s)).length ≤ kS s := by
    unfold sg
    refine Nat.le_trans (List.length_filter_le _ _) ?_
    simp [rl]
  have h2 := (kS_ends s).le
  omega
/-- Words' own: how many were there, and which. -/
structure WSt where
  n : Nat
  L : List ByteArray
def wstep (st : WSt) (r : ByteArray) : WSt × Int :=
  haveI : ∀ (s : ByteArray) (L : List ByteArray), Decidable (s ∈ L) := memDec
  if chk r ≠ 0 then (st, chk r) else if st.n = 4096 then (st, 4) else if fld r ∈ st.L then (⟨st.n + 1, st.L⟩, 0) else (⟨st.n + 1, st.L ++ [fld r]⟩, 0)
theorem own_block {w w' : World} {base e size n : Nat} {v : Value} {xs : List Value} (h : w.ownsRow base e size v n xs) (hb : ∀ k, base ≤ k → k < w.heap.size → w'.heap[k]? = w.heap[k]?) : w'.ownsRow base e size v n xs := by
  obtain ⟨h1, h2 | ⟨g, cap, cur, rfl, hg, hh, h3⟩⟩ := h
  · exact ⟨h1, Or.inl h2⟩
  · exact ⟨h1, Or.inr ⟨g, cap, cur, rfl, hg, (hb g hg (lt_of_heap hh)).trans hh, h3⟩⟩
theorem own_form {w : World} {base e size n : Nat} {v : Value} {xs : List Value} (h : w.ownsRow base e size v n xs) : ∃ ad c, v = .slice ad n c := by
  obtain ⟨h1, ⟨rfl, rfl⟩ | ⟨g, cap, cur, rfl, hg, hh, h3⟩⟩ := h
  · exact ⟨_, _, rfl⟩
  · exact ⟨_, _, rfl⟩
/-- What Words keeps while its rows are taken. -/
structure WInv (w0 : World) (X : Nat) (st : WSt) (w : World) : Prop where
  up : Below w0.heap.size w0 w
  a : Bk w (w0.heap.size + 2) #[.int .i64 st.n] 3
  t : Bk w (w0.heap.size + 3) #[.map (some (w0.heap.size + 1))] 63
  bag : ∃ m, m ≤ st.L.length ∧ Bag w (w0.heap.size + 1) m st.L
  l : ∃ v, Bk w w0.heap.size #[v] 28 ∧ w.ownsRow (X + 1) 9 1 v st.L.length (st.L.map Value.string)
  x : w0.heap.size + 4 ≤ X
  n : st.n ≤ 4096
  c : st.L.length ≤ st.n
theorem WInv.stay {w0 w w' : World} {X : Nat} {st : WSt} (h : WInv w0 X st w) (hb : Below w.heap.size w w') : WInv w0 X st w' := by
  obtain ⟨m, hm, hbag⟩ := h.bag
  obtain ⟨v, hv, ho⟩ := h.l
  exact ⟨h.up.trans (hb.mono h.up.size), h.a.stay hb, h.t.stay hb, ⟨m, hm, hbag.stay hb⟩, ⟨v, hv.stay hb, own_block ho (fun k _ hk => hb.block k hk)⟩, h.x, h.n, h.c⟩
theorem Bag.same {w : World} {b n : Nat} {L L' : List ByteArray} (h : Bag w b n L) (e : ∀ s, s ∈ L ↔ s ∈ L') : Bag w b n L' := by
  obtain ⟨D, h1, h2⟩ := h
  exact ⟨D, h1, fun s => (h2 s).trans (e s)⟩
theorem Bag.mono {w : World} {b n m : Nat} {L : List ByteArray} (h : Bag w b n L) (e : n ≤ m) : Bag w b m L := by
  obtain ⟨D, h1, h2⟩ := h
  exact ⟨D, h1.mono e, h2⟩
theorem tabs_up {w0 w : World} (h : Tabs w0) (hb : Below w0.heap.size w0 w) : Tabs w := tabs_stay h hb
theorem WInv.count {w0 w : World} {X : Nat} {st : WSt} (h : WInv w0 X st w) (hn : st.n < 4096) : WInv w0 X ⟨st.n + 1, st.L⟩ (w.setCell ⟨w0.heap.size + 2, 0, none⟩ (.int .i64 ((st.n : Int) + 1))) := by
  obtain ⟨m, hm, hbag⟩ := h.bag
  obtain ⟨v, hv, ho⟩ := h.l
  have hx := h.x
  refine ⟨h.up.setCell (by simp) _, h.a.set 0 _, h.t.other (by simp) _, ⟨m, hm, hbag.block (Below.heap_setCell w _ _ _ (by simp))⟩, ⟨v, hv.other (by simp) _, own_block ho (fun k hk _ => Below.heap_setCell w _ _ _ (by simp; omega))⟩, h.x, by simp; omega, by have := h.c; simp; omega⟩
theorem chk_small {r : ByteArray} (h : chk r = 0) : r.size ≤ 64 := by
  unfold chk chkL at h
  split at h <;> omega
set_option maxRecDepth 100000 in
set_option maxHeartbeats 2000000 in
theorem words1_any (w0 : World) (hT0 : Tabs w0) (X : Nat) (st : WSt) (r : ByteArray) (w : World) (hr : r.size ≤ 4096) (h : WInv w0 X st w) (hX : X < w.heap.size) :
    Calls Tryz.prog 31 #[.string r, .pointer (some ⟨w0.heap.size + 2, 0, none⟩), .pointer (some ⟨w0.heap.size + 3, 0, none⟩), .pointer (some ⟨w0.heap.size, 0, none⟩)] w fun e w' =>
      e = .returned (.int .i64 (wstep st r).2) ∧ WInv w0 X (wstep st r).1 w' ∧ w'.heap[X]? = w.heap[X]? ∧ w.heap.size ≤ w'.heap.size := by
  have c1 := check_at r w (by omega) (tabs_up hT0 h.up)
  obtain ⟨Z, hZ⟩ : ∃ Z, wstep st r = Z := ⟨_, rfl⟩
  rw [hZ]
  unfold wstep at hZ
  have HX : Hid (X < w.heap.size) := hX
  clear hX
  by_cases hc : chk r = 0
  · have h64 := chk_small hc
    rw [hc] at c1
    rw [if_neg (by simp [hc])] at hZ
    go_enter Tryz.func31, Tryz.ntmps31
    go_wp2_with fail
    refine c1.mono ?_
    rintro e w1 ⟨rfl, hb1⟩
    have HI : Hid (WInv w0 X st w1) := h.stay hb1
    have ha := HI.out.a.cell 0 rfl
    have hfa := HI.out.a.frozen 0
    have HG : Hid (w1.heap[X]? = w.heap[X]?) := hb1.block X HX.out
    have HU : Hid (w.heap.size ≤ w1.heap.size) := hb1.size
    clear c1 hb1
    by_cases hn : st.n = 4096
    · rw [if_pos hn] at hZ
      rw [hn] at ha
      have HZ : Hid ((st, (4 : Int)) = Z) := hZ
      clear hZ
      go_wp2
      go_ret
      rw [← HZ.out]
      exact ⟨rfl, HI.out, HG.out, HU.out⟩
    · rw [if_neg hn] at hZ
      have hlt : st.n < 4096 := by have := h.n; omega
      have hn' : ¬ (st.n : Int) = 4096 := by omega
      have hll := HI.out.c
      have HI1 := HI.out.count hlt
      have hfs := fld_size r
      clear h
      go_wp2_with fail
      refine (fold_at r _ (by omega) (tabs_up hT0 HI1.up)).mono ?_
      rintro e w2 ⟨rfl, hb2⟩
      have hI2 := HI1.stay hb2
      have hx := hI2.x
      have HG2 : Hid (w2.heap[X]? = w.heap[X]?) := (hb2.block X (by have := HX.out; have := HU.out; simp [World.setCell]; omega)).trans ((Below.heap_setCell w1 _ _ _ (by simp; omega)).trans HG.out)
      have HU2 : Hid (w.heap.size ≤ w2.heap.size) := Nat.le_trans HU.out (by have := hb2.size; simpa [World.setCell] using this)
      clear ha hfa HI1 HG HU hb2 HI
      have ht := hI2.t.cell 0 rfl
      obtain ⟨m, hm, hbag⟩ := hI2.bag
      simp only at hm
      by_cases hin : fld r ∈ st.L
      · rw [if_pos hin] at hZ
        have HZ : Hid ((⟨st.n + 1, st.L⟩, (0 : Int)) = Z) := hZ
        have c3 := add_old _ m st.L (fld r) w2 (by omega) hbag hin
        have HI2 : Hid (WInv w0 X ⟨st.n + 1, st.L⟩ w2) := hI2
        clear hZ hin hI2 hbag hfs
        generalize fld r = f at c3 ⊢
        go_wp2_with fail
        refine c3.mono ?_
        rintro e w3 ⟨rfl, hb3⟩
        have HI3 : Hid (WInv w0 X ⟨st.n + 1, st.L⟩ w3) := HI2.out.stay hb3
        have HG3 : Hid (w3.heap[X]? = w.heap[X]?) := (hb3.block X (Nat.lt_of_lt_of_le HX.out HU2.out)).trans HG2.out
        have HU3 : Hid (w.heap.size ≤ w3.heap.size) := Nat.le_trans HU2.out hb3.size
        clear hb3 c3 HI2 HG2 HU2
        go_wp2
        go_ret
        rw [← HZ.out]
        exact ⟨rfl, HI3.out, HG3.out, HU3.out⟩
      · rw [if_neg hin] at hZ
        have HZ : Hid ((⟨st.n + 1, st.L ++ [fld r]⟩, (0 : Int)) = Z) := hZ
        have c3 := add_new _ m st.L (fld r) w2 (by omega) (by omega) hbag hin
        have HI2 : Hid (WInv w0 X ⟨st.n + 1, st.L⟩ w2) := hI2
        clear hZ hin hI2 hbag hfs
        generalize fld r = f at c3 HZ ⊢
        go_wp2_with fail
        refine c3.mono ?_
        rintro e w3 ⟨rfl, hbag3, hk3⟩
        have hsz := hk3.size
        obtain ⟨v, hv, hol⟩ := HI2.out.l
        simp only at hol
        have hv3 : Bk w3 w0.heap.size #[v] 28 := hv.kept hk3 hv.lt (by simp)
        have hol3 : w3.ownsRow (X + 1) 9 1 v st.L.length (st.L.map Value.string) := own_block hol (fun k hk hl => hk3.block k hl (by omega))
        have HA : Hid (Bk w3 (w0.heap.size + 2) #[.int .i64 ((st.n + 1 : Nat) : Int)] 3) := HI2.out.a.kept hk3 HI2.out.a.lt (by simp)
        have HTT : Hid (Bk w3 (w0.heap.size + 3) #[.map (some (w0.heap.size + 1))] 63) := HI2.out.t.kept hk3 HI2.out.t.lt (by simp)
        have HP : Hid (Below w0.heap.size w0 w3) := HI2.out.up.trans (hk3.below HI2.out.up.size (fun k hk => by omega))
        have HG3 : Hid (w3.heap[X]? = w.heap[X]?) := (hk3.block X (Nat.lt_of_lt_of_le HX.out HU2.out) (by omega)).trans HG2.out
        have HU3 : Hid (w.heap.size ≤ w3.heap.size) := Nat.le_trans HU2.out hsz
        have HX3 : Hid (X < w3.heap.size) := Nat.lt_of_lt_of_le HX.out HU3.out
        have HO : Hid (w3.ownsRow (X + 1) 9 1 v st.L.length (st.L.map Value.string)) := hol3
        have HV : Hid (Bk w3 w0.heap.size #[v] 28) := hv3
        have hcv := hv3.cell 0 rfl
        have HBG : Hid (Bag w3 (w0.heap.size + 1) (m + 1) (f :: st.L)) := hbag3
        obtain ⟨i0, hi, hz0, hz1, hz2⟩ := info_parts Lns.info9
        clear c3 hk3 hsz HI2 HG2 HU2 hv hol hol3 hv3 hbag3 ht
        go_wp2_with (at_builtin; refine wpList_append_own _ rfl _ _ 28 rfl (X + 1) 9 i0 _ 1 16 Tryz.underlying28 hi hz0 hz1 hz2 rfl (by decide) _ _ _ rfl (HO.out.alloc _) ⟨w3.heap.size, 0, none⟩ 1 1 [.string f] rfl rfl (Lns.one_new _ _ _) (Lns.one_one _ rfl) (by unfold maxLen; omega) (by omega) (by have := HX3.out; simp only [World.size_alloc]; omega) ?_)
        intro v' w4 hown4 hgr hnil
        obtain ⟨ad4, cp4, rfl⟩ := own_form hown4
        have hx4 := HX3.out
        have hlo := HO.out.lt
        have hne : ∀ k, k ≤ X → some k ≠ v.ownBlock := fun k hk e => by have := (hlo k e.symm).1; omega
        have hbk : ∀ k, k ≤ X → w4.heap[k]? = w3.heap[k]? := fun k hk =>
          (hgr.block k (by simp; omega) (hne k hk)).trans (((Below.refl w3.heap.size w3).alloc (Nat.le_refl _) _).block k (by omega))
        have hv4 : Bk w4 w0.heap.size #[v] 28 := (hbk _ (by omega)).trans HV.out
        have hc4 := hv4.cell 0 rfl
        have hf4 := hv4.frozen 0
        have HE : Hid (WInv w0 X ⟨st.n + 1, st.L ++ [f]⟩ (w4.setCell ⟨w0.heap.size, 0, none⟩ (.slice ad4 (st.L.length + 1) cp4))) := by
          have hsz4 := hgr.size
          simp only [World.size_alloc] at hsz4
          have hb4 : Below w0.heap.size w0 w4 := ⟨hgr.os.trans HP.out.os, hgr.tape.trans HP.out.tape, hgr.output.trans HP.out.output, by have := HP.out.size; omega, fun k hk => (hbk k (by omega)).trans (HP.out.block k hk)⟩
          have hbg4 : Bag w4 (w0.heap.size + 1) (m + 1) (f :: st.L) := HBG.out.block (hbk _ (by omega))
          refine ⟨hb4.setCell (Nat.le_refl _) _, Bk.other ((hbk _ (by omega)).trans HA.out) (by simp) _, Bk.other ((hbk _ (by omega)).trans HTT.out) (by simp) _, ⟨m + 1, by simp; omega, (hbg4.block (Below.heap_setCell w4 _ _ _ (by simp))).same (fun s => by simp [or_comm])⟩, ⟨_, hv4.set 0 _, ?_⟩, hx, by simp; omega, by simp; omega⟩
          have ho := own_block (w' := w4.setCell ⟨w0.heap.size, 0, none⟩ (.slice ad4 (st.L.length + 1) cp4)) hown4 (fun k hk _ => Below.heap_setCell w4 _ _ _ (by simp; omega))
          simpa using ho
        have HG4 : Hid ((w4.setCell ⟨w0.heap.size, 0, none⟩ (.slice ad4 (st.L.length + 1) cp4)).heap[X]? = w.heap[X]?) := (Below.heap_setCell w4 _ _ _ (by simp; omega)).trans ((hbk X (Nat.le_refl _)).trans HG3.out)
        have HU4 : Hid (w.heap.size ≤ (w4.setCell ⟨w0.heap.size, 0, none⟩ (.slice ad4 (st.L.length + 1) cp4)).heap.size) := by
          have hsz4 := hgr.size
          simp only [World.size_alloc] at hsz4
          have := HU3.out
          show _ ≤ _
          simp [World.setCell]
          omega
        clear hown4 hgr hnil hlo hne hbk hv4 HO HV HA HTT HBG HP HG3 HU3 hcv
        go_wp2
        go_ret
        rw [← HZ.out]
        exact ⟨rfl, HE.out, HG4.out, HU4.out⟩
  · rw [if_pos hc] at hZ
    have HZ : Hid ((st, chk r) = Z) := hZ
    clear hZ
    generalize chk r = z at c1 hc HZ
    go_enter Tryz.func31, Tryz.ntmps31
    go_wp2_with fail
    refine c1.mono ?_
    rintro e w1 ⟨rfl, hb1⟩
    have HI : Hid (WInv w0 X st w1) := h.stay hb1
    have HG : Hid (w1.heap[X]? = w.heap[X]?) := hb1.block X HX.out
    have HU : Hid (w.heap.size ≤ w1.heap.size) := hb1.size
    clear c1 hb1
    go_wp2
    go_ret
    rw [← HZ.out]
    exact ⟨rfl, HI.out, HG.out, HU.out⟩
end Go.Proofs.YtgijihfijoiafaaGreatDoor
