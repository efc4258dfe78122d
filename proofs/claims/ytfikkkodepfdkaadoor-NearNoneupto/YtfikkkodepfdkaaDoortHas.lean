/- trie.Has. -/
import Derived.Test.YtfikkkodepfdkaaDoortAsk
import Derived.Test.YtfikkkodepfdkaaDoortBin
namespace Go.Proofs.YtfikkkodepfdkaaDoor
set_option linter.unusedVariables false
open Go.RowKit Go.ChangeShapes
/-- Where the runes lead, if anywhere. -/
def goP : List PN → Nat → List Int → Option Nat
  | _, i, [] => some i
  | P, i, r :: rs =>
    match P[i]? with
    | none => none
    | some n => if r ∈ n.R then (match n.K[n.R.idxOf r]? with | none => none | some c => goP P c rs) else none
def hasP (P : List PN) (rs : List Int) : Bool :=
  match goP P 0 rs with
  | none => false
  | some i => ((P[i]?).map PN.e).getD false
theorem idx_at {R : List Int} (hR : Up2 R) {z : Nat} {x : Int} (h : R[z]? = some x) : R.idxOf x = z := by
  obtain ⟨hz, e⟩ := List.getElem?_eq_some_iff.1 h
  have hlt : R.idxOf x < R.length := List.idxOf_lt_length_of_mem (List.mem_of_getElem? h)
  have h2 : R[R.idxOf x]? = some x := by rw [List.getElem?_eq_getElem hlt, List.getElem_idxOf hlt]
  rcases Nat.lt_trichotomy (R.idxOf x) z with e1 | e1 | e1
  · have := hR.lt h2 h e1; omega
  · exact e1
  · have := hR.lt h h2 e1; omega
theorem goP_snoc (P : List PN) : ∀ (rs : List Int) (i : Nat) (r : Int), goP P i (rs ++ [r]) = (goP P i rs).bind fun j => goP P j [r]
  | [], i, r => rfl
  | x :: rs, i, r => by
    simp only [List.cons_append, goP]
    cases P[i]? with
    | none => rfl
    | some n =>
      dsimp only
      by_cases hx : x ∈ n.R
      · rw [if_pos hx, if_pos hx]
        cases n.K[n.R.idxOf x]? with
        | none => rfl
        | some c => exact goP_snoc P rs c r
      · rw [if_neg hx, if_neg hx]; rfl
theorem goP_none (P : List PN) (b : List Int) : ∀ (a : List Int) (i : Nat), goP P i a = none → goP P i (a ++ b) = none
  | [], i, h => by cases h
  | x :: a, i, h => by
    simp only [List.cons_append, goP] at h ⊢
    cases hp : P[i]? with
    | none => rfl
    | some n =>
      rw [hp] at h
      dsimp only at h ⊢
      by_cases hx : x ∈ n.R
      · rw [if_pos hx] at h ⊢
        cases hK : n.K[n.R.idxOf x]? with
        | none => rfl
        | some c =>
          rw [hK] at h
          exact goP_none P b a c h
      · rw [if_neg hx]
theorem goP_one {P : List PN} {i : Nat} {n : PN} (h : P[i]? = some n) (r : Int) : goP P i [r] = if r ∈ n.R then n.K[n.R.idxOf r]? else none := by
  simp only [goP, h]
  split
  · cases n.K[n.R.idxOf r]? <;> rfl
  · rfl
theorem rs_take (s : ByteArray) (j : Nat) (hj : j < kS s) : (rs s).take (j + 1) = (rs s).take j ++ [rn s (pos s j)] := rl_take s (kS s) j hj
theorem hasP_no {P : List PN} {L : List Int} {j : Nat} (h : goP P 0 (L.take j) = none) : hasP P L = false := by
  unfold hasP
  have := goP_none P (L.drop j) _ _ h
  rw [List.take_append_drop] at this
  rw [this]
theorem hasP_yes {P : List PN} {L : List Int} {i : Nat} {n : PN} (h : goP P 0 L = some i) (hn : P[i]? = some n) : hasP P L = n.e := by
  unfold hasP
  rw [h]
  dsimp only
  rw [hn]; rfl
/-- Runes rise at each node. -/
def RiseP (P : List PN) : Prop := ∀ n ∈ P, Up2 n.R
set_option maxHeartbeats 1000000 in
set_option maxRecDepth 100000 in
theorem has_any {w0 w : World} {T m : Nat} {vN : Value} {l : List Nd} (h : TrieM w w0.heap.size T m vN l) (hT : Tabs w) (hok : OkP (l.map Nd.p)) (hri : RiseP (l.map Nd.p)) (h1 : 0 < l.length) (h2 : l.length ≤ 800000) (s : ByteArray) (hs : s.size ≤ 1000000) :
    Calls Tryd.prog 24 #[.pointer (some ⟨T, 0, none⟩), .string s] w fun e w' => e = .returned (.bool (decide (s.size ≤ 64) && hasP (l.map Nd.p) (rs s))) ∧ Below w.heap.size w w' := by
  have HT : Hid (Tabs w) := hT
  have H : Hid (TrieM w w0.heap.size T m vN l) := h
  have HO : Hid (OkP (l.map Nd.p)) := hok
  have HI : Hid (RiseP (l.map Nd.p)) := hri
  clear hT h hok hri
  by_cases h64 : 64 < s.size
  · have z1 : (64 : Int) < (s.size : Int) := by omega
    have hd : decide (s.size ≤ 64) = false := decide_eq_false (by omega)
    rw [hd, Bool.false_and]
    go_enter Tryd.func24, Tryd.ntmps24
    go_wp2
    go_ret
    exact ⟨rfl, Below.refl _ _⟩
  · have z1 : ¬ (64 : Int) < (s.size : Int) := by omega
    have hd : decide (s.size ≤ 64) = true := decide_eq_true (by omega)
    rw [hd, Bool.true_and]
    clear hd
    obtain ⟨⟨nr, nk, p⟩, hn⟩ : ∃ n, l[0]? = some n := ⟨_, List.getElem?_eq_getElem h1⟩
    have c1 := node_any H.out hn (by omega)
    obtain ⟨ar, cr, er⟩ := own_slice (H.out.rr 0 _ hn)
    obtain ⟨ak, ck, ek⟩ := own_slice (H.out.kk 0 _ hn)
    dsimp only at er ek
    rw [er, ek] at c1
    have HN : Hid (l[0]? = some ⟨nr, nk, p⟩) := hn
    have HE : Hid (nr = .slice ar p.R.length cr ∧ nk = .slice ak p.K.length ck) := ⟨er, ek⟩
    clear hn er ek
    go_enter Tryd.func24, Tryd.ntmps24
    go_wp2_with fail
    refine c1.mono ?_
    rintro e w1 ⟨rfl, hb1⟩
    have HB1 : Hid (Below w.heap.size w w1) := hb1
    clear hb1 c1
    go_upto_region 4 with fail
    have hU1 : Up w.heap.size w (w1.alloc (.cells #[.slice ar p.R.length cr, .slice ak p.K.length ck, .bool p.e] 70)) := ((Up.refl w).stay HB1.out).alloc _
    have hblk := heap_alloc_new w1 (.cells #[.slice ar p.R.length cr, .slice ak p.K.length ck, .bool p.e] 70)
    have hszB : (w1.alloc (.cells #[.slice ar p.R.length cr, .slice ak p.K.length ck, .bool p.e] 70)).heap.size = w1.heap.size + 1 := by simp
    have hBlo : w.heap.size ≤ w1.heap.size := HB1.out.size
    generalize w1.heap.size = B at *
    generalize w1.alloc (.cells #[.slice ar p.R.length cr, .slice ak p.K.length ck, .bool p.e] 70) = w2 at *
    clear HB1
    have HU1 : Hid (Up w.heap.size w w2) := hU1
    have HBK : Hid (w2.heap[B]? = some (.cells #[.slice ar p.R.length cr, .slice ak p.K.length ck, .bool p.e] 70 (0, 0))) := hblk
    have cr2 := runes_any s w2 (by omega) (tabs_stay HT.out hU1.1)
    clear hU1 hblk w1
    go_wp2_with fail
    refine cr2.mono ?_
    rintro e w3 ⟨k, v, rfl, hEnds, hown, hb3⟩
    obtain rfl : k = kS s := hEnds.one (kS_ends s)
    have hk64 : kS s ≤ 64 := by have := (kS_ends s).le; omega
    rw [hszB] at hown
    have HW : Hid (w3.ownsRow (B + 1) 21 1 v (kS s) (rcells s (kS s))) := hown
    have HU3 : Hid (Up w.heap.size w w3) := HU1.out.stay hb3
    have HBK3 : Hid (w3.heap[B]? = some (.cells #[.slice ar p.R.length cr, .slice ak p.K.length ck, .bool p.e] 70 (0, 0))) := (hb3.block B (lt_of_heap HBK.out)).trans HBK.out
    obtain ⟨ad, cv, rfl⟩ := own_slice hown
    clear cr2 hEnds hown hb3 HBK HU1 hszB
    generalize hkk : kS s = k at *
    have HKK : Hid (kS s = k) := hkk
    clear hkk
    go_wp2
    go_loopg [18] k (fun g ix wr => ∃ (j i : Nat) (n : Nd), j ≤ k ∧ g = k - j ∧ ix = .int .i64 j ∧ Hid (goP (l.map Nd.p) 0 ((rs s).take j) = some i) ∧ Hid (l[i]? = some n) ∧ Hid (wr.heap[B]? = some (.cells #[n.r, n.k, .bool n.p.e] 70 (0, 0))) ∧ Hid (Up w.heap.size w wr) ∧ Hid (wr.ownsRow (B + 1) 21 1 (.slice ad k cv) k (rcells s k)))
    case atStart =>
      refine ⟨0, 0, ⟨nr, nk, p⟩, Nat.zero_le _, rfl, rfl, rfl, HN, ?_, HU3, HW⟩
      show _ = _
      rw [HE.out.1, HE.out.2]
      exact HBK3.out
    case round =>
      obtain ⟨j, i, ⟨nr', nk', p'⟩, hj, hg, rfl, HG, HN', HBK', HU, HW'⟩ := hrel
      clear HN HE HBK3 HU3 HW
      have HM : Hid (TrieM wr w0.heap.size T m vN l) := H.out.stay HU.out.1
      obtain ⟨ar', cr', er⟩ := own_slice (HM.out.rr i _ HN'.out)
      obtain ⟨ak', ck', ek⟩ := own_slice (HM.out.kk i _ HN'.out)
      dsimp only at er ek
      have hpm : p' ∈ l.map Nd.p := List.mem_map.2 ⟨_, List.mem_of_getElem? HN'.out, rfl⟩
      have hpi : (l.map Nd.p)[i]? = some p' := by rw [List.getElem?_map, HN'.out]; rfl
      have hrr := HM.out.rr i _ HN'.out
      have hkr := HM.out.kk i _ HN'.out
      dsimp only at hrr hkr
      have hok := HO.out p' hpm
      have hup := HI.out p' hpm
      have b0 : wr.cell? ⟨B, 0, none⟩ = some nr' := by rw [cell_of_row wr B 0 _ _ _ HBK'.out]; rfl
      have b1 : wr.cell? ⟨B, 1, none⟩ = some nk' := by rw [cell_of_row wr B 1 _ _ _ HBK'.out]; rfl
      have b2 : wr.cell? ⟨B, 2, none⟩ = some (.bool p'.e) := by rw [cell_of_row wr B 2 _ _ _ HBK'.out]; rfl
      have hplen : p'.R.length ≤ 800000 := by have := hok.2.2; rw [List.length_map] at this; omega
      by_cases hlt : j < k
      · obtain ⟨g1, rfl⟩ : ∃ g1, ad = some ⟨g1, 0, none⟩ := by
          obtain ⟨g1, cap, e, _⟩ := HW'.out.form (by omega)
          injection e with e1 _ _
          exact ⟨g1, e1⟩
        have hc : wr.cell? ⟨g1, j, none⟩ = some (.int .i32 (rn s (pos s j))) := by
          rw [HW'.out.cellAt j (by omega)]
          simp [rcells, hlt]
        have hgo : goP (l.map Nd.p) 0 ((rs s).take (j + 1)) = if rn s (pos s j) ∈ p'.R then p'.K[p'.R.idxOf (rn s (pos s j))]? else none := by
          rw [rs_take s j (by rw [HKK.out]; exact hlt), goP_snoc, HG.out]
          exact goP_one hpi _
        generalize rn s (pos s j) = r at *
        have z2 : ((j : Nat) : Int) < (k : Int) := by omega
        have z3 : (0 : Int) ≤ (j : Int) := by omega
        have cs := search_any p'.R hup hrr (by omega) r
        have hlo := (HW'.out.lt g1 rfl)
        by_cases hr : r ∈ p'.R
        · rw [decide_eq_true hr] at cs
          rw [if_pos hr] at hgo
          subst er ek
          have HGO : Hid _ := hgo
          have HX : Hid (r ∈ p'.R) := hr
          have HKR : Hid (wr.ownsRow w0.heap.size 3 1 (.slice ak' p'.K.length ck') p'.K.length (p'.K.map i64c)) := hkr
          have HUP : Hid _ := hup
          have HOK : Hid _ := hok
          have HPI : Hid _ := hpi
          clear hgo hr hkr hrr hup hok hpm hpi
          go_wp2_with fail
          refine cs.mono ?_
          rintro e w4 ⟨z, rfl, hz, hw4⟩
          subst w4
          have hz := hz HX.out
          have hzl : z < p'.R.length := (List.getElem?_eq_some_iff.1 hz).1
          have hidx := idx_at HUP.out hz
          rw [hidx] at HGO
          obtain ⟨c, hcK⟩ : ∃ c, p'.K[z]? = some c := ⟨_, List.getElem?_eq_getElem (by rw [← HOK.out.1]; exact hzl)⟩
          have hcl : c < l.length := by have := HOK.out.2.1 c (List.mem_of_getElem? hcK); rwa [List.length_map] at this
          obtain ⟨gk, rfl⟩ : ∃ gk, ak' = some ⟨gk, 0, none⟩ := by
            obtain ⟨gk, cap, e, _⟩ := HKR.out.form (by rw [← HOK.out.1]; omega)
            injection e with e1 _ _
            exact ⟨gk, e1⟩
          have hck : wr.cell? ⟨gk, z, none⟩ = some (.int .i64 (c : Int)) := by
            rw [HKR.out.cellAt z (by rw [← HOK.out.1]; omega), List.getElem?_map, hcK]; rfl
          have z4 : ((z : Nat) : Int) < (p'.K.length : Int) := by have := HOK.out.1; omega
          have z5 : (0 : Int) ≤ (z : Int) := by omega
          obtain ⟨⟨nr2, nk2, p2⟩, hn2⟩ : ∃ n, l[c]? = some n := ⟨_, List.getElem?_eq_getElem hcl⟩
          have cn := node_any HM.out hn2 (by omega)
          obtain ⟨ar2, cr2, er2⟩ := own_slice (HM.out.rr c _ hn2)
          obtain ⟨ak2, ck2, ek2⟩ := own_slice (HM.out.kk c _ hn2)
          dsimp only at er2 ek2
          have HN2 : Hid (l[c]? = some ⟨nr2, nk2, p2⟩) := hn2
          clear hn2
          subst er2 ek2
          have HG2 : Hid (goP (l.map Nd.p) 0 ((rs s).take (j + 1)) = some c) := by show _ = _; rw [HGO.out, hcK]
          clear cs hz hcK HGO HKR HUP HOK hidx
          go_wp2_with fail
          refine cn.mono ?_
          rintro e w5 ⟨rfl, hb5⟩
          have HB5 : Hid (Below wr.heap.size wr w5) := hb5
          have HBK5 : w5.heap[B]? = some (.cells #[.slice ar' p'.R.length cr', .slice (some ⟨gk, 0, none⟩) p'.K.length ck', .bool p'.e] 70 (0, 0)) := (hb5.block B (lt_of_heap HBK'.out)).trans HBK'.out
          have d0 : w5.cell? ⟨B, 0, none⟩ = some (.slice ar' p'.R.length cr') := by rw [cell_of_row w5 B 0 _ _ _ HBK5]; rfl
          have d1 : w5.cell? ⟨B, 1, none⟩ = some (.slice (some ⟨gk, 0, none⟩) p'.K.length ck') := by rw [cell_of_row w5 B 1 _ _ _ HBK5]; rfl
          have d2 : w5.cell? ⟨B, 2, none⟩ = some (.bool p'.e) := by rw [cell_of_row w5 B 2 _ _ _ HBK5]; rfl
          have f0 : w5.frozen? ⟨B, 0, none⟩ = false := frozen_of_row w5 B 0 _ _ HBK5
          have f1 : w5.frozen? ⟨B, 1, none⟩ = false := frozen_of_row w5 B 1 _ _ HBK5
          have f2 : w5.frozen? ⟨B, 2, none⟩ = false := frozen_of_row w5 B 2 _ _ HBK5
          have HK5 : Hid _ := HBK5
          clear cn hb5 HBK5 b0 b1 b2 hck
          go_wp2
          go_roundg (k - (j + 1))
          case measure => omega
          case rel =>
            refine ⟨j + 1, c, ⟨_, _, p2⟩, by omega, rfl, by go_num, HG2, HN2, ?_, ?_, ?_⟩
            · have a1 := heap_setCell_same w5 B 0 _ _ (.slice ar2 p2.R.length cr2) HK5.out
              have a2 := heap_setCell_same _ B 1 _ _ (.slice ak2 p2.K.length ck2) a1
              exact heap_setCell_same _ B 2 _ _ (.bool p2.e) a2
            · exact (((HU.out.stay HB5.out).setCell (p := ⟨B, 0, none⟩) hBlo _).setCell (p := ⟨B, 1, none⟩) hBlo _).setCell (p := ⟨B, 2, none⟩) hBlo _
            · refine own_of_blocks (own_stay HW'.out HB5.out) fun q hq => ?_
              have e : g1 = q := by simpa [Value.ownBlock] using hq
              subst e
              have hne : g1 ≠ B := by omega
              rw [heap_setCell_other _ ⟨B, 2, none⟩ g1 _ (fun e => hne e), heap_setCell_other _ ⟨B, 1, none⟩ g1 _ (fun e => hne e), heap_setCell_other _ ⟨B, 0, none⟩ g1 _ (fun e => hne e)]
        · rw [decide_eq_false hr] at cs
          rw [if_neg hr] at hgo
          have HF : Hid (hasP (l.map Nd.p) (rs s) = false) := hasP_no hgo
          subst er ek
          clear hgo hr hkr hrr hup hok hpm hpi
          go_wp2_with fail
          refine cs.mono ?_
          rintro e w4 ⟨z, rfl, -, hw4⟩
          subst w4
          clear cs
          go_wp2
          go_ret
          exact ⟨by rw [HF.out]; rfl, HU.out.1⟩
      · obtain rfl : j = k := by omega
        have HF : Hid (hasP (l.map Nd.p) (rs s) = p'.e) := by
          have h3 := HG.out
          rw [List.take_of_length_le (by simp [rs, rl, HKK.out])] at h3
          exact hasP_yes h3 hpi
        subst er ek
        clear hkr hrr hup hok hpm hpi
        go_wp2
        go_ret
        exact ⟨by rw [HF.out]; rfl, HU.out.1⟩
end Go.Proofs.YtfikkkodepfdkaaDoor
