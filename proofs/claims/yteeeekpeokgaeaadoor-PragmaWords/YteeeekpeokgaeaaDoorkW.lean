/- lines.New. -/
import Derived.Test.YteeeekpeokgaeaaDoorkKit
import Derived.Test.YteeeekpeokgaeaaDoorPkYPcs3
namespace Go.Proofs.YteeeekpeokgaeaaDoor.Lns
set_option linter.unusedVariables false
open Go.RowKit Go.ChangeShapes
def icells (l : List Nat) : List Value := l.map fun x => .int .i64 (x : Nat)
theorem icells_len (l : List Nat) : (icells l).length = l.length := by simp [icells]
theorem icells_add (l m : List Nat) : icells (l ++ m) = icells l ++ icells m := by simp [icells]
def posL (s : ByteArray) (k : Nat) : List Nat := (List.range k).map (pos s)
theorem posL_succ (s : ByteArray) (k : Nat) : posL s (k + 1) = posL s k ++ [pos s k] := by simp [posL, List.range_succ]
theorem posL_len (s : ByteArray) (k : Nat) : (posL s k).length = k := by simp [posL]
theorem isl_own {w : World} {base : Nat} {v : Value} {l : List Nat} {k : Nat} {P : Nat → Nat} (h : w.ownsRow base 3 1 v k (icells l)) (hP : ∀ i, i < k → l[i]? = some (P i)) : ISl w v k P := by
  have h0 := h
  obtain ⟨hl, ⟨rfl, rfl⟩ | ⟨g, cap, cur, rfl, hg, hh, h3⟩⟩ := h
  · exact Or.inl ⟨none, 0, rfl, rfl⟩
  · refine Or.inr ⟨g, cap, rfl, fun i hi => ?_⟩
    rw [h0.cellAt i (by omega)]
    simp [icells, hP i hi]
/-- The index as it is made: its own block, its two rows, what lies below. -/
structure NI (w wU : World) (gx n : Nat) (wr : World) (vl vs : Value) (l m : List Nat) : Prop where
  box : wr.heap[gx]? = some (.cells #[.int .i64 n, vl, vs] 83 (0, 0))
  rowL : wr.ownsRow wU.heap.size 3 1 vl l.length (icells l)
  rowS : wr.ownsRow wU.heap.size 3 1 vs m.length (icells m)
  apart : ∀ g, vl.ownBlock = some g → vs.ownBlock ≠ some g
  kept : ∀ b, b < wU.heap.size → b ≠ gx → wr.heap[b]? = wU.heap[b]?
  below : Below w.heap.size w wr
  size : wU.heap.size ≤ wr.heap.size
theorem NI.cells {w wU : World} {gx n : Nat} {wr : World} {vl vs : Value} {l m : List Nat} (h : NI w wU gx n wr vl vs l m) : wr.cell? ⟨gx, 0, none⟩ = some (.int .i64 n) ∧ wr.cell? ⟨gx, 1, none⟩ = some vl ∧ wr.cell? ⟨gx, 2, none⟩ = some vs ∧ wr.frozen? ⟨gx, 1, none⟩ = false ∧ wr.frozen? ⟨gx, 2, none⟩ = false := by
  have hb := h.box
  refine ⟨?_, ?_, ?_, ?_, ?_⟩ <;> simp [World.cell?, World.frozen?, hb]
theorem NI.alloc {w wU : World} {gx n : Nat} {wr : World} {vl vs : Value} {l m : List Nat} (h : NI w wU gx n wr vl vs l m) (hg : gx < wU.heap.size) (hw : w.heap.size ≤ wU.heap.size) (o : Obj) : NI w wU gx n (wr.alloc o) vl vs l m where
  box := by rw [((Below.refl wr.heap.size wr).alloc (Nat.le_refl _) o).block gx (by have := h.size; omega)]; exact h.box
  rowL := h.rowL.alloc o
  rowS := h.rowS.alloc o
  apart := h.apart
  kept := fun b hb hne => by rw [((Below.refl wr.heap.size wr).alloc (Nat.le_refl _) o).block b (by have := h.size; omega)]; exact h.kept b hb hne
  below := h.below.alloc (by have := h.size; omega) o
  size := by have := h.size; simp only [World.size_alloc]; omega
theorem NI.drew {w wU : World} {gx n : Nat} {wr : World} {vl vs : Value} {l m : List Nat} (h : NI w wU gx n wr vl vs l m) : NI w wU gx n wr.drew vl vs l m where
  box := h.box
  rowL := h.rowL
  rowS := h.rowS
  apart := h.apart
  kept := h.kept
  below := h.below.drew
  size := h.size
theorem NI.putL {w wU : World} {gx n : Nat} {wr w1 : World} {vl vs : Value} {l m : List Nat} {g cap p H : Nat} (h : NI w wU gx n wr vl vs l m) (hgx : gx < wU.heap.size) (hwx : w.heap.size ≤ gx)
    (hown : w1.ownsRow wU.heap.size 3 1 (.slice (some ⟨g, 0, none⟩) (l.length + 1) cap) (l.length + 1) (icells l ++ [.int .i64 p])) (hgrow : wr.grownBy w1 vl.ownBlock) (hat : vl.ownBlock = some g ∨ g = H) (hH : wr.heap.size = H) :
    NI w wU gx n (w1.setCell ⟨gx, 1, none⟩ (.slice (some ⟨g, 0, none⟩) (l.length + 1) cap)) (.slice (some ⟨g, 0, none⟩) (l.length + 1) cap) vs (l ++ [p]) m := by
  have hbl : ∀ k, vl.ownBlock = some k → wU.heap.size ≤ k := fun k hk => own_base h.rowL k hk
  have hol : ∀ k, vs.ownBlock = some k → k < wr.heap.size := fun k hk => (h.rowS.lt k hk).2
  have hne : some gx ≠ vl.ownBlock := fun hh => by have := hbl gx hh.symm; omega
  have hsz := h.size
  have hbox : w1.heap[gx]? = some (.cells #[.int .i64 n, vl, vs] 83 (0, 0)) := by rw [hgrow.block gx (by omega) hne]; exact h.box
  have hwU : wU.heap.size ≤ g := own_base hown g rfl
  have hdis : vs.ownBlock ≠ some g := fun hh => by
    rcases hat with h2 | h2
    · exact h.apart g h2 hh
    · have := hol g hh; omega
  refine ⟨?_, ?_, ?_, ?_, ?_, ?_, ?_⟩
  · rw [heap_setCell_same w1 gx 1 _ 83 _ hbox]; rfl
  · rw [List.length_append, icells_add]
    exact ownsRow_setCell_other hown (a := ⟨gx, _, none⟩) (by show some g ≠ some gx; intro hh; injection hh with hh; omega) _
  · refine ownsRow_setCell_other (h.rowS.kept hgrow ?_) (fun hh => by have := own_base h.rowS gx hh; omega) _
    cases hob : vs.ownBlock with
    | none => exact Or.inl rfl
    | some k => exact Or.inr (fun hh => h.apart k hh.symm hob)
  · intro k hk
    obtain rfl : g = k := by injection hk
    exact hdis
  · intro b hb hbx
    rw [heap_setCell_other w1 _ b _ hbx, hgrow.block b (by omega) (fun hh => by have := hbl b hh.symm; omega)]
    exact h.kept b hb hbx
  · exact (h.below.grown hgrow (by omega) (fun k hk => by have := hbl k hk; omega)).setCell hwx _
  · have := hgrow.size
    simp only [World.size_setCell]; omega
theorem NI.putS {w wU : World} {gx n : Nat} {wr w1 : World} {vl vs : Value} {l m : List Nat} {g cap p H : Nat} (h : NI w wU gx n wr vl vs l m) (hgx : gx < wU.heap.size) (hwx : w.heap.size ≤ gx)
    (hown : w1.ownsRow wU.heap.size 3 1 (.slice (some ⟨g, 0, none⟩) (m.length + 1) cap) (m.length + 1) (icells m ++ [.int .i64 p])) (hgrow : wr.grownBy w1 vs.ownBlock) (hat : vs.ownBlock = some g ∨ g = H) (hH : wr.heap.size = H) :
    NI w wU gx n (w1.setCell ⟨gx, 2, none⟩ (.slice (some ⟨g, 0, none⟩) (m.length + 1) cap)) vl (.slice (some ⟨g, 0, none⟩) (m.length + 1) cap) l (m ++ [p]) := by
  have hbl : ∀ k, vs.ownBlock = some k → wU.heap.size ≤ k := fun k hk => own_base h.rowS k hk
  have hol : ∀ k, vl.ownBlock = some k → k < wr.heap.size := fun k hk => (h.rowL.lt k hk).2
  have hne : some gx ≠ vs.ownBlock := fun hh => by have := hbl gx hh.symm; omega
  have hsz := h.size
  have hbox : w1.heap[gx]? = some (.cells #[.int .i64 n, vl, vs] 83 (0, 0)) := by rw [hgrow.block gx (by omega) hne]; exact h.box
  have hwU : wU.heap.size ≤ g := own_base hown g rfl
  have hdis : vl.ownBlock ≠ some g := fun hh => by
    rcases hat with h2 | h2
    · exact h.apart g hh h2
    · have := hol g hh; omega
  refine ⟨?_, ?_, ?_, ?_, ?_, ?_, ?_⟩
  · rw [heap_setCell_same w1 gx 2 _ 83 _ hbox]; rfl
  · refine ownsRow_setCell_other (h.rowL.kept hgrow ?_) (fun hh => by have := own_base h.rowL gx hh; omega) _
    cases hob : vl.ownBlock with
    | none => exact Or.inl rfl
    | some k => exact Or.inr (fun hh => h.apart k hob hh.symm)
  · rw [List.length_append, icells_add]
    exact ownsRow_setCell_other hown (a := ⟨gx, _, none⟩) (by show some g ≠ some gx; intro hh; injection hh with hh; omega) _
  · intro k hk hh
    obtain rfl : g = k := by injection hh
    exact hdis hk
  · intro b hb hbx
    rw [heap_setCell_other w1 _ b _ hbx, hgrow.block b (by omega) (fun hh => by have := hbl b hh.symm; omega)]
    exact h.kept b hb hbx
  · exact (h.below.grown hgrow (by omega) (fun k hk => by have := hbl k hk; omega)).setCell hwx _
  · have := hgrow.size
    simp only [World.size_setCell]; omega
theorem NI.mid {w wU : World} {gx n : Nat} {wr w1 : World} {vl vs v : Value} {l m : List Nat} (h : NI w wU gx n wr vl vs l m) (hgx : gx < wU.heap.size) (hv : v = vl ∨ v = vs) (hgrow : wr.grownBy w1 v.ownBlock) :
    w1.cell? ⟨gx, 1, none⟩ = some vl ∧ w1.cell? ⟨gx, 2, none⟩ = some vs ∧ w1.frozen? ⟨gx, 1, none⟩ = false ∧ w1.frozen? ⟨gx, 2, none⟩ = false := by
  have hne : some gx ≠ v.ownBlock := fun hh => by
    rcases hv with rfl | rfl
    · have := own_base h.rowL gx hh.symm; omega
    · have := own_base h.rowS gx hh.symm; omega
  have hsz := h.size
  have hbox : w1.heap[gx]? = some (.cells #[.int .i64 n, vl, vs] 83 (0, 0)) := by rw [hgrow.block gx (by omega) hne]; exact h.box
  refine ⟨?_, ?_, ?_, ?_⟩ <;> simp [World.cell?, World.frozen?, hbox]
theorem far_cell {w w1 : World} {row : Option Nat} {gx i : Nat} {a : Addr} {v u : Value} (hgrow : w.grownBy w1 row) (h : w.cell? a = some v) (hne : some a.block ≠ row) (hx : gx ≠ a.block) : (w1.setCell ⟨gx, i, none⟩ u).cell? a = some v := by
  rw [World.cell?_setCell_far _ _ _ _ hx]
  exact hgrow.cell h hne

set_option maxRecDepth 100000 in
set_option maxHeartbeats 2000000 in
theorem new_at (s : ByteArray) (b off cap : Nat) (w : World) (hs : s.size ≤ 40000) (hcap : s.size ≤ cap) (hT : Tabs w) (hb : By w b off s) :
    Calls Tryd.prog 27 #[.slice (some ⟨b, off, none⟩) s.size cap] w fun e w' => ∃ K, ∃ v, e = .returned v ∧ Idx w' v s K ∧ Below w.heap.size w w' := by
  obtain ⟨i0, hi, hz0, hz1, hz2⟩ := info_parts info3
  have HU0 : Hid (Up w.heap.size w (w.alloc (.cells #[.int .i64 s.size, .slice none 0 0, .slice none 0 0] 83))) := (Up.refl w).alloc _
  have cu := units_any s b off cap (w.alloc (.cells #[.int .i64 s.size, .slice none 0 0, .slice none 0 0] 83)) hs hcap (tabs_stay hT HU0.out.1) (hb.stay HU0.out.1)
  have hbx : (w.alloc (.cells #[.int .i64 s.size, .slice none 0 0, .slice none 0 0] 83)).heap[w.heap.size]? = some (.cells #[.int .i64 s.size, .slice none 0 0, .slice none 0 0] 83 (0, 0)) := heap_alloc_new _ _
  have hsw : (w.alloc (.cells #[.int .i64 s.size, .slice none 0 0, .slice none 0 0] 83)).heap.size = w.heap.size + 1 := by simp
  obtain ⟨W, hW⟩ : ∃ W, w.alloc (.cells #[.int .i64 s.size, .slice none 0 0, .slice none 0 0] 83) = W := ⟨_, rfl⟩
  rw [hW] at HU0 cu hbx hsw
  clear hT hb
  go_enter Tryd.func27, Tryd.ntmps27
  go_wp2_with fail
  refine cu.mono ?_
  rintro e wU ⟨K, vU, rfl, he, hown, hbU⟩
  have HE : Hid (Ends s K) := he
  have hK := he.le
  have hgx : w.heap.size < wU.heap.size := by have := hbU.size; omega
  have hwU : w.heap.size ≤ wU.heap.size := by omega
  have HN0 : Hid (NI w wU w.heap.size s.size wU (.slice none 0 0) (.slice none 0 0) [] []) := ⟨by rw [hbU.block w.heap.size (by omega)]; exact hbx, World.ownsRow_nil _ _ _ _, World.ownsRow_nil _ _ _ _, (fun g hg => by cases hg), (fun _ _ _ => rfl), (HU0.out.stay hbU).1, Nat.le_refl _⟩
  have hform : ∃ a1 c1, vU = .slice a1 K c1 ∧ (∀ j, j < K → ∃ g, a1 = some ⟨g, 0, none⟩ ∧ w.heap.size < g ∧ Us wU g K s) := by
    have h0 := hown
    obtain ⟨_, ⟨rfl, rfl⟩ | ⟨g, cap, cur, rfl, hg, _⟩⟩ := hown
    · exact ⟨none, 0, rfl, fun j hj => absurd hj (Nat.not_lt_zero j)⟩
    · exact ⟨_, cap, rfl, fun j _ => ⟨g, rfl, by omega, us_of h0⟩⟩
  obtain ⟨a1, c1, rfl, hus⟩ := hform
  have HS : Hid (∀ j, j < K → ∃ g, a1 = some ⟨g, 0, none⟩ ∧ w.heap.size < g ∧ Us wU g K s) := hus
  clear hus hown hbU he hbx hsw cu hW HU0
  go_wp2
  go_loopg [4, 14] K (fun m bv iv wr => ∃ k : Nat, k ≤ K ∧ m = K - k ∧ iv = .int .i64 k ∧ bv = .bool (isSt s (pos s k)) ∧ Hid (∃ vl vs, NI w wU w.heap.size s.size wr vl vs (lst s (pos s k)) (posL s k)))
  case atStart => exact ⟨0, Nat.zero_le _, rfl, rfl, rfl, ⟨_, _, HN0.out⟩⟩
  case round =>
    obtain ⟨k, hk, hm, rfl, rfl, HX⟩ := hrel
    obtain ⟨vl, vs, hN⟩ := HX.out
    clear HX HN0
    by_cases hlt : k < K
    · have z0 : (0 : Int) ≤ (k : Int) := by omega
      have z1 : (k : Int) < (K : Int) := by omega
      obtain ⟨g, hgg, hgw, hus⟩ := HS.out k hlt
      subst hgg
      obtain ⟨u0, u1, u2, u3⟩ := hus k hlt
      have hkg := hN.kept g u0 (by omega)
      have a1 := (World.cell?_of_block (a := ⟨g, k * 3, none⟩) hkg).trans u1
      have a2 := (World.cell?_of_block (a := ⟨g, k * 3 + 1, none⟩) hkg).trans u2
      have a3 := (World.cell?_of_block (a := ⟨g, k * 3 + 2, none⟩) hkg).trans u3
      have hp := HE.out.2 k hlt
      have HST : Hid (lst s (pos s (k + 1)) = lst s (pos s k) ++ (if isSt s (pos s k) then [pos s k] else [])) := lst_step s _ hp
      have HNX : Hid (isSt s (pos s (k + 1)) = decide (rn s (pos s k) = 10)) := isSt_next s _ hp
      have HPL : Hid (posL s (k + 1) = posL s k ++ [pos s k]) := posL_succ s k
      have hll := lst_len s (pos s k)
      have hml : (posL s k).length ≤ 40000 := by rw [posL_len]; omega
      clear hus u1 u2 u3 hkg
      generalize rn s (pos s k) = r at a1 HNX ⊢
      generalize wd s (pos s k) = d at a3 ⊢
      generalize lst s (pos s k) = l at hN HST hll
      generalize posL s k = mm at hN HPL hml
      generalize isSt s (pos s k) = b0 at HST ⊢
      generalize pos s k = p at a2 hp HST HPL hll ⊢
      have HN1 : Hid (NI w wU w.heap.size s.size (wr.alloc (.cells #[.int .i32 r, .int .i64 p, .int .i64 d] 74)) vl vs l mm) := hN.alloc hgx hwU _
      obtain ⟨wA, hwA⟩ : ∃ wA, wr.alloc (.cells #[.int .i32 r, .int .i64 p, .int .i64 d] 74) = wA := ⟨_, rfl⟩
      have q0 : wA.cell? ⟨wr.heap.size, 0, none⟩ = some (.int .i32 r) := by rw [← hwA]; simp
      have q1 : wA.cell? ⟨wr.heap.size, 1, none⟩ = some (.int .i64 p) := by rw [← hwA]; simp
      rw [hwA] at HN1
      obtain ⟨n0, n1, n2, f1, f2⟩ := HN1.out.cells
      have hu1 : some wr.heap.size ≠ vl.ownBlock := fun h => by have := (hN.rowL.lt _ h.symm).2; omega
      have hu2 : some wr.heap.size ≠ vs.ownBlock := fun h => by have := (hN.rowS.lt _ h.symm).2; omega
      have hwr := hN.size
      have hwA2 := hwA
      clear hwA2
      cases b0
      · have HSTx := HST
        clear HST
        have HST : Hid (lst s (pos s (k + 1)) = l) := by show lst s (pos s (k + 1)) = l; have := HSTx.out; simpa using this
        clear HSTx
        go_upto_region 8 with fail
        clear hwA
        go_cut [14] from 14 to 46 (fun iv wx => iv = .int .i64 k ∧ Hid (∃ vl3 vs3, NI w wU w.heap.size s.size wx vl3 vs3 l (mm ++ [p]) ∧ wx.cell? ⟨wr.heap.size, 0, none⟩ = some (.int .i32 r) ∧ wx.cell? ⟨wr.heap.size, 1, none⟩ = some (.int .i64 p)))
        case first =>
          obtain ⟨_, n1', n2', f1', f2'⟩ := (HN1.out.alloc hgx hwU (.cells #[.int .i64 (p : Nat)] 3)).cells
          go_region_law (refine step_append_lies _ rfl (.tmp 35) (.tmp 39) 40 rfl wU.heap.size 3 i0 _ 1 8 Tryd.underlying40 hi hz0 hz1 hz2 rfl (by decide) vs mm.length (icells mm) (by simp [Act.eval]) (by first | exact (HN1.out.alloc hgx hwU _).drew.rowS | exact ((HN1.out.drew).alloc hgx hwU _).rowS) ⟨wA.heap.size, 0, none⟩ 1 1 [.int .i64 (p : Nat)] (by simp [Act.eval]) rfl (by first | exact one_new _ _ _ | exact fun j x hj => one_new wA _ _ j x hj) (one_one _ rfl) (by decide) (by unfold maxLen; omega) (by omega) (by have := HN1.out.size; simp; omega) _ rfl ?_; intro g2 cap2 w1 hown hgrow hat hlt2; obtain ⟨m1, m2, m3, m4⟩ := NI.mid (by first | exact (HN1.out.alloc hgx hwU _).drew | exact (HN1.out.drew).alloc hgx hwU _) hgx (Or.inr rfl) hgrow)
          all_goals
            go_wp2
            go_meet
            case rel => exact ⟨rfl, ⟨_, _, NI.putS (by first | exact (HN1.out.alloc hgx hwU _).drew | exact (HN1.out.drew).alloc hgx hwU _) hgx (Nat.le_refl _) hown hgrow hat rfl, far_cell hgrow (cell_stay q0 ((Up.refl wA).alloc _).1.drew) hu2 (by show w.heap.size ≠ wr.heap.size; omega), far_cell hgrow (cell_stay q1 ((Up.refl wA).alloc _).1.drew) hu2 (by show w.heap.size ≠ wr.heap.size; omega)⟩⟩
        case rest =>
          obtain ⟨rfl, HC⟩ := hcut
          obtain ⟨vl3, vs3, hN3, c0, c1'⟩ := HC.out
          have HN3 : Hid (NI w wU w.heap.size s.size wc vl3 vs3 l (mm ++ [p])) := hN3
          clear hN3 HC n0 n1 n2 f1 f2 q0 q1
          by_cases hr : r = 10
          · subst hr
            go_wp2
            go_roundg (K - (k + 1))
            case measure => omega
            case rel => exact ⟨k + 1, by omega, rfl, by go_num, by rw [HNX.out]; rfl, ⟨vl3, vs3, by rw [HST.out, HPL.out]; exact HN3.out⟩⟩
          · go_wp2
            go_roundg (K - (k + 1))
            case measure => omega
            case rel => exact ⟨k + 1, by omega, rfl, by go_num, by rw [HNX.out, decide_eq_false hr]; simp [hr], ⟨vl3, vs3, by rw [HST.out, HPL.out]; exact HN3.out⟩⟩
      · have HSTx := HST
        clear HST
        have HST : Hid (lst s (pos s (k + 1)) = l ++ [p]) := by show lst s (pos s (k + 1)) = l ++ [p]; have := HSTx.out; simpa using this
        clear HSTx
        go_upto_region 7 with fail
        clear hwA
        go_cut [14] from 14 to 46 (fun iv wx => iv = .int .i64 k ∧ Hid (∃ vl2, NI w wU w.heap.size s.size wx vl2 vs (l ++ [p]) mm ∧ wx.cell? ⟨wr.heap.size, 0, none⟩ = some (.int .i32 r) ∧ wx.cell? ⟨wr.heap.size, 1, none⟩ = some (.int .i64 p)))
        case first =>
          obtain ⟨_, n1', n2', f1', f2'⟩ := (HN1.out.alloc hgx hwU (.cells #[.int .i64 (p : Nat)] 3)).cells
          go_region_law (refine step_append_lies _ rfl (.tmp 23) (.tmp 27) 40 rfl wU.heap.size 3 i0 _ 1 8 Tryd.underlying40 hi hz0 hz1 hz2 rfl (by decide) vl l.length (icells l) (by simp [Act.eval]) (by first | exact (HN1.out.alloc hgx hwU _).drew.rowL | exact ((HN1.out.drew).alloc hgx hwU _).rowL) ⟨wA.heap.size, 0, none⟩ 1 1 [.int .i64 (p : Nat)] (by simp [Act.eval]) rfl (by first | exact one_new _ _ _ | exact fun j x hj => one_new wA _ _ j x hj) (one_one _ rfl) (by decide) (by unfold maxLen; omega) (by omega) (by have := HN1.out.size; simp; omega) _ rfl ?_; intro g2 cap2 w1 hown hgrow hat hlt2; obtain ⟨m1, m2, m3, m4⟩ := NI.mid (by first | exact (HN1.out.alloc hgx hwU _).drew | exact (HN1.out.drew).alloc hgx hwU _) hgx (Or.inl rfl) hgrow)
          all_goals
            go_wp2
            go_meet
            case rel => exact ⟨rfl, ⟨_, NI.putL (by first | exact (HN1.out.alloc hgx hwU _).drew | exact (HN1.out.drew).alloc hgx hwU _) hgx (Nat.le_refl _) hown hgrow hat rfl, far_cell hgrow (cell_stay q0 ((Up.refl wA).alloc _).1.drew) hu1 (by show w.heap.size ≠ wr.heap.size; omega), far_cell hgrow (cell_stay q1 ((Up.refl wA).alloc _).1.drew) hu1 (by show w.heap.size ≠ wr.heap.size; omega)⟩⟩
        case rest =>
          obtain ⟨rfl, HC⟩ := hcut
          obtain ⟨vl2, hN2, q0, q1⟩ := HC.out
          clear HC n0 n1 n2 f1 f2 HN1
          have HN1 : Hid (NI w wU w.heap.size s.size wc vl2 vs (l ++ [p]) mm) := hN2
          clear hN2
          obtain ⟨n0, n1, n2, f1, f2⟩ := HN1.out.cells
          go_upto_region 8 with fail
          go_cut [14] from 14 to 46 (fun iv wx => iv = .int .i64 k ∧ Hid (∃ vl3 vs3, NI w wU w.heap.size s.size wx vl3 vs3 (l ++ [p]) (mm ++ [p]) ∧ wx.cell? ⟨wr.heap.size, 0, none⟩ = some (.int .i32 r) ∧ wx.cell? ⟨wr.heap.size, 1, none⟩ = some (.int .i64 p)))
          case first =>
            obtain ⟨_, n1', n2', f1', f2'⟩ := (HN1.out.alloc hgx hwU (.cells #[.int .i64 (p : Nat)] 3)).cells
            go_region_law (refine step_append_lies _ rfl (.tmp 35) (.tmp 39) 40 rfl wU.heap.size 3 i0 _ 1 8 Tryd.underlying40 hi hz0 hz1 hz2 rfl (by decide) vs mm.length (icells mm) (by simp [Act.eval]) (by first | exact (HN1.out.alloc hgx hwU _).drew.rowS | exact ((HN1.out.drew).alloc hgx hwU _).rowS) ⟨wc.heap.size, 0, none⟩ 1 1 [.int .i64 (p : Nat)] (by simp [Act.eval]) rfl (by first | exact one_new _ _ _ | exact fun j x hj => one_new wc _ _ j x hj) (one_one _ rfl) (by decide) (by unfold maxLen; omega) (by omega) (by have := HN1.out.size; simp; omega) _ rfl ?_; intro g2 cap2 w1 hown hgrow hat hlt2; obtain ⟨m1, m2, m3, m4⟩ := NI.mid (by first | exact (HN1.out.alloc hgx hwU _).drew | exact (HN1.out.drew).alloc hgx hwU _) hgx (Or.inr rfl) hgrow)
            all_goals
              go_wp2
              go_meet
              case rel => exact ⟨rfl, ⟨_, _, NI.putS (by first | exact (HN1.out.alloc hgx hwU _).drew | exact (HN1.out.drew).alloc hgx hwU _) hgx (Nat.le_refl _) hown hgrow hat rfl, far_cell hgrow (cell_stay q0 ((Up.refl wc).alloc _).1.drew) hu2 (by show w.heap.size ≠ wr.heap.size; omega), far_cell hgrow (cell_stay q1 ((Up.refl wc).alloc _).1.drew) hu2 (by show w.heap.size ≠ wr.heap.size; omega)⟩⟩
          case rest =>
            obtain ⟨rfl, HC⟩ := hcut
            obtain ⟨vl3, vs3, hN3, c0, c1'⟩ := HC.out
            have HN3 : Hid (NI w wU w.heap.size s.size wc vl3 vs3 (l ++ [p]) (mm ++ [p])) := hN3
            clear hN3 HC n0 n1 n2 f1 f2 q0 q1
            by_cases hr : r = 10
            · subst hr
              go_wp2
              go_roundg (K - (k + 1))
              case measure => omega
              case rel => exact ⟨k + 1, by omega, rfl, by go_num, by rw [HNX.out]; rfl, ⟨vl3, vs3, by rw [HST.out, HPL.out]; exact HN3.out⟩⟩
            · go_wp2
              go_roundg (K - (k + 1))
              case measure => omega
              case rel => exact ⟨k + 1, by omega, rfl, by go_num, by rw [HNX.out, decide_eq_false hr]; simp [hr], ⟨vl3, vs3, by rw [HST.out, HPL.out]; exact HN3.out⟩⟩
    · obtain rfl : k = K := by omega
      have hE := HE.out.1
      rw [hE] at hN
      obtain ⟨n0, n1, n2, f1, f2⟩ := hN.cells
      have HN9 : Hid (NI w wU w.heap.size s.size wr vl vs (lst s s.size) (posL s k)) := hN
      clear hN
      go_wp2
      go_ret
      refine ⟨k, _, rfl, ⟨HE.out, w.heap.size, vl, vs, rfl, n0, n1, n2, ?_, ?_⟩, HN9.out.below⟩
      · exact isl_own HN9.out.rowL (fun i hi => S_at hi)
      · have h5 := HN9.out.rowS
        rw [posL_len] at h5
        exact isl_own h5 (fun i hi => by simp [posL, List.getElem?_range hi])
end Go.Proofs.YteeeekpeokgaeaaDoor.Lns
