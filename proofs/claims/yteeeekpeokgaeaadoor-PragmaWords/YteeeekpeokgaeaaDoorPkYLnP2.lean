/- What single lines ask, one behind the other. -/
import Derived.Test.YteeeekpeokgaeaaDoorPkYPcs3
import Derived.Test.YteeeekpeokgaeaaDoorPkYAwk2
namespace Go.Proofs.YteeeekpeokgaeaaDoor
set_option linter.unusedVariables false
open Go.RowKit Go.ChangeShapes Tns
open Lns (nL nL_le line S)
theorem strOfNums_app (a b : List Int) : strOfNums (a ++ b) = strOfNums a ++ strOfNums b := by
  apply ByteArray.ext
  simp [strOfNums]
/-- The lines, by number. -/
def tB : Nat → ByteArray
  | 0 => ⟨#[120, 32, 115, 112, 101, 108, 108, 58, 111, 102, 102, 32, 121, 10]⟩
  | 1 => ⟨#[115, 112, 101, 108, 108, 58, 111, 110, 10]⟩
  | 2 => ⟨#[115, 112, 101, 108, 108, 58, 108, 105, 110, 101, 10]⟩
  | 3 => ⟨#[115, 112, 101, 108, 108, 58, 110, 101, 120, 116, 10]⟩
  | _ => ⟨#[112, 108, 97, 105, 110, 10]⟩
def tI : Nat → List Int
  | 0 => [120, 32, 115, 112, 101, 108, 108, 58, 111, 102, 102, 32, 121, 10]
  | 1 => [115, 112, 101, 108, 108, 58, 111, 110, 10]
  | 2 => [115, 112, 101, 108, 108, 58, 108, 105, 110, 101, 10]
  | 3 => [115, 112, 101, 108, 108, 58, 110, 101, 120, 116, 10]
  | _ => [112, 108, 97, 105, 110, 10]
def stE : Nat → Bool → Bool → Bool × Bool × Bool
  | 0, o, x => (true, true, false)
  | 1, o, x => (false, o || x, false)
  | 2, o, x => (o, true, false)
  | 3, o, x => (o, o || x, true)
  | _, o, x => (o, o || x, false)
theorem tB_one (k : Nat) (hk : k < 5) : nL (tB k) = 1 ∧ line (tB k) 0 = tB k ∧ 0 < (tB k).size ∧ bt (tB k) ((tB k).size - 1) = 10 ∧ (tB k).size ≤ 14 := by
  rcases (show k = 0 ∨ k = 1 ∨ k = 2 ∨ k = 3 ∨ k = 4 by omega) with rfl | rfl | rfl | rfl | rfl
  all_goals exact ⟨by kernel_rfl, by kernel_rfl, by decide, by decide, by decide⟩
theorem tB_nums (k : Nat) (hk : k < 5) : strOfNums (tI k) = tB k := by
  rcases (show k = 0 ∨ k = 1 ∨ k = 2 ∨ k = 3 ∨ k = 4 by omega) with rfl | rfl | rfl | rfl | rfl
  all_goals kernel_rfl
theorem stp_tB (k : Nat) (hk : k < 5) (o x : Bool) (w : List ByteArray) : scn (tB k) 0 ⟨o, o || x, false, w⟩ = ⟨(stE k o x).1, (stE k o x).2.1, (stE k o x).2.2, w⟩ := by
  rcases (show k = 0 ∨ k = 1 ∨ k = 2 ∨ k = 3 ∨ k = 4 by omega) with rfl | rfl | rfl | rfl | rfl
  all_goals (cases o <;> cases x <;> kernel_rfl)
theorem rdL_left (t b : ByteArray) (ht : 0 < t.size) (hn : bt t (t.size - 1) = 10) : ∀ j, j ≤ nL t → rdL (t ++ b) j = rdL t j
  | 0, _ => rfl
  | j + 1, h => by
    show stp (line (t ++ b) j) (S (t ++ b) j) (rdL (t ++ b) j) = stp (line t j) (S t j) (rdL t j)
    rw [rdL_left t b ht hn j (by omega), Lns.line_join_left t b ht hn j (by omega), Lns.S_join_left t b ht hn j (by omega)]
theorem rdA_join (t b : ByteArray) (ht : 0 < t.size) (hn : bt t (t.size - 1) = 10) (h1 : nL b = 1) (h2 : line b 0 = b) : rdA (t ++ b) = stp b t.size (rdA t) := by
  unfold rdA
  rw [Lns.nL_join t b ht hn, h1]
  show stp (line (t ++ b) (nL t)) (S (t ++ b) (nL t)) (rdL (t ++ b) (nL t)) = _
  rw [rdL_left t b ht hn (nL t) (Nat.le_refl _)]
  have e1 := Lns.line_join_right t b ht hn 0
  have e2 := Lns.S_join_right t b ht hn 0
  rw [Nat.add_zero] at e1 e2
  rw [e1, e2, h2, Lns.S_zero, Nat.add_zero]
theorem rdA_first (b : ByteArray) (h1 : nL b = 1) (h2 : line b 0 = b) : rdA b = stp b 0 ⟨false, false, [], []⟩ := by
  unfold rdA
  rw [h1]
  show stp (line b 0) (S b 0) (rdL b 0) = _
  rw [h2, Lns.S_zero]
  rfl
/-- The text of lines. -/
def TX : List Nat → ByteArray
  | [] => ⟨#[]⟩
  | k :: l => TX l ++ tB k
/-- What holds behind lines (the last one first). -/
structure Sq where
  o : Bool
  x : Bool
  g : List (Nat × Bool)
def sq : List Nat → Sq
  | [] => ⟨false, false, []⟩
  | k :: l => ⟨(stE k (sq l).o (sq l).x).1, (stE k (sq l).o (sq l).x).2.2, (sq l).g ++ [((TX l).size, (stE k (sq l).o (sq l).x).2.1)]⟩
theorem TX_ends : ∀ (l : List Nat), (∀ k ∈ l, k < 5) → l ≠ [] → 0 < (TX l).size ∧ bt (TX l) ((TX l).size - 1) = 10
  | [], _, h => absurd rfl h
  | k :: l, hk, _ => by
    obtain ⟨-, -, h3, h4, -⟩ := tB_one k (hk k (List.mem_cons_self ..))
    show 0 < (TX l ++ tB k).size ∧ bt (TX l ++ tB k) ((TX l ++ tB k).size - 1) = 10
    rw [Lns.join_size]
    refine ⟨by omega, ?_⟩
    have e : bt (TX l ++ tB k) ((TX l).size + ((tB k).size - 1)) = bt (tB k) ((tB k).size - 1) := by
      unfold bt
      rw [Lns.join_get_right]
    rw [show (TX l).size + (tB k).size - 1 = (TX l).size + ((tB k).size - 1) by omega, e]
    exact h4
theorem TX_size : ∀ (l : List Nat), (∀ k ∈ l, k < 5) → (TX l).size ≤ 14 * l.length
  | [], _ => Nat.le_refl _
  | k :: l, hk => by
    have h1 := TX_size l (fun q hq => hk q (List.mem_cons_of_mem _ hq))
    obtain ⟨-, -, -, -, h5⟩ := tB_one k (hk k (List.mem_cons_self ..))
    show (TX l ++ tB k).size ≤ 14 * (l.length + 1)
    rw [Lns.join_size]
    omega
theorem rdA_TX : ∀ (l : List Nat), (∀ k ∈ l, k < 5) → (rdA (TX l)).o = (sq l).o ∧ (rdA (TX l)).x = (sq l).x ∧ (∀ p ∈ (rdA (TX l)).r, p.1 + p.2 ≤ (TX l).size) ∧ (∀ q ∈ (sq l).g, q.1 < (TX l).size ∧ offB (rdA (TX l)).r (q.1 : Int) = q.2) ∧ (rdA (TX l)).r.length = (sq l).g.countP (fun q => q.2) ∧ (rdA (TX l)).w = []
  | [], _ => ⟨rfl, rfl, (fun p hp => by cases hp), (fun q hq => by cases hq), rfl, rfl⟩
  | k :: l, hk => by
    have hk5 := hk k (List.mem_cons_self ..)
    obtain ⟨i1, i2, i3, i4, i5, i6⟩ := rdA_TX l (fun q hq => hk q (List.mem_cons_of_mem _ hq))
    obtain ⟨b1, b2, b3, -, -⟩ := tB_one k hk5
    have hst : rdA (TX (k :: l)) = stp (tB k) (TX l).size (rdA (TX l)) := by
      cases l with
      | nil =>
        show rdA (⟨#[]⟩ ++ tB k) = _
        rw [show (⟨#[]⟩ : ByteArray) ++ tB k = tB k from ByteArray.empty_append, rdA_first (tB k) b1 b2]
        rfl
      | cons k' l' =>
        obtain ⟨e1, e2⟩ := TX_ends (k' :: l') (fun q hq => hk q (List.mem_cons_of_mem _ hq)) (by simp)
        exact rdA_join (TX (k' :: l')) (tB k) e1 e2 b1 b2
    have hsz : (TX (k :: l)).size = (TX l).size + (tB k).size := Lns.join_size _ _
    have hs2 : stp (tB k) (TX l).size (rdA (TX l)) = ⟨(stE k (sq l).o (sq l).x).1, (stE k (sq l).o (sq l).x).2.2, bif (stE k (sq l).o (sq l).x).2.1 then (rdA (TX l)).r ++ [((TX l).size, (tB k).size)] else (rdA (TX l)).r, []⟩ := by
      unfold stp
      rw [i1, i2, i6, stp_tB k hk5]
    rw [hst, hs2, hsz]
    obtain ⟨R, hR⟩ : ∃ R, (rdA (TX l)).r = R := ⟨_, rfl⟩
    obtain ⟨N, hN⟩ : ∃ N, (TX l).size = N := ⟨_, rfl⟩
    rw [hR, hN] at i3 i4
    rw [hR] at i5
    rw [hR, hN]
    have hno : offB R (N : Int) = false := by
      unfold offB
      rw [List.any_eq_false]
      intro p hp
      have := i3 p hp
      simp
      omega
    have hg : (sq (k :: l)).g = (sq l).g ++ [(N, (stE k (sq l).o (sq l).x).2.1)] := by rw [← hN]; rfl
    refine ⟨rfl, rfl, ?_, ?_, ?_, rfl⟩
    · cases hq : (stE k (sq l).o (sq l).x).2.1
      · intro p hp
        have := i3 p hp
        omega
      · intro p hp
        rcases List.mem_append.1 (show p ∈ R ++ [(N, (tB k).size)] from hp) with h | h
        · have := i3 p h
          omega
        · obtain rfl : p = (N, (tB k).size) := by simpa using h
          exact Nat.le_refl _
    · intro q hq
      rw [hg] at hq
      rcases List.mem_append.1 hq with h | h
      · obtain ⟨h1, h2⟩ := i4 q h
        refine ⟨by omega, ?_⟩
        cases (stE k (sq l).o (sq l).x).2.1
        · exact h2
        · show offB (R ++ [(N, (tB k).size)]) (q.1 : Int) = q.2
          rw [← h2]
          unfold offB
          rw [List.any_append]
          simp
          omega
      · obtain rfl : q = (N, (stE k (sq l).o (sq l).x).2.1) := by simpa using h
        refine ⟨by show N < _; omega, ?_⟩
        cases (stE k (sq l).o (sq l).x).2.1
        · exact hno
        · show offB (R ++ [(N, (tB k).size)]) (N : Int) = true
          unfold offB
          rw [List.any_append]
          simp
          omega
    · rw [hg, List.countP_append, ← i5]
      cases (stE k (sq l).o (sq l).x).2.1
      · rfl
      · show (R ++ [(N, (tB k).size)]).length = _
        rw [List.length_append]
        rfl
end Go.Proofs.YteeeekpeokgaeaaDoor
/- PragmaPlain. -/
namespace Go.Proofs.YteeeekpeokgaeaaDoor
set_option linter.unusedVariables false
open Go.RowKit Go.ChangeShapes Tns
open Lns (nL nL_le line S)
/-- A row of one's own, a cell of it written. -/
theorem own_cell {w : World} {base e n g cap j : Nat} {xs : List Value} {u : Value} (h : w.ownsRow base e 1 (.slice (some ⟨g, 0, none⟩) n cap) n xs) (hj : j < n) : (w.setCell ⟨g, j, none⟩ u).ownsRow base e 1 (.slice (some ⟨g, 0, none⟩) n cap) n (xs.set j u) := by
  obtain ⟨hl, ⟨h1, h2⟩ | ⟨g', cap', cur, e1, hg, hh, hc, hm, hs, ht⟩⟩ := h
  · cases h1
  · injection e1 with e1 e2 e3
    injection e1 with e1
    injection e1 with e1
    subst e1 e3
    refine ⟨by rw [List.length_set]; exact hl, Or.inr ⟨g, cap, cur.setIfInBounds j u, rfl, hg, cells_set hh j u, hc, hm, by rw [Array.size_setIfInBounds]; exact hs, ?_⟩⟩
    rw [← ht, Array.toList_setIfInBounds, List.take_set]
theorem ob_set {w : World} {base g cap j : Nat} {l : List Int} {x : Int} (h : OB w base (.slice (some ⟨g, 0, none⟩) l.length cap) l) (hj : j < l.length) : OB (w.setCell ⟨g, j, none⟩ (.int .u8 x)) base (.slice (some ⟨g, 0, none⟩) (l.set j x).length cap) (l.set j x) := by
  have h1 := own_cell (u := .int .u8 x) h hj
  unfold OB
  rw [List.length_set]
  have e : u8L (l.set j x) = (u8L l).set j (.int .u8 x) := by simp [u8L, List.map_set]
  rw [e]
  exact h1
/-- Colons turned. -/
def unc (x : Int) : Int := if x = 58 then 59 else x
def pmx (l : List Int) (i : Nat) : List Int := (l.take i).map unc ++ l.drop i
theorem pmx_len (l : List Int) (i : Nat) : (pmx l i).length = l.length := by
  unfold pmx
  rw [List.length_append, List.length_map, ← List.length_append, List.take_append_drop]
theorem pmx_zero (l : List Int) : pmx l 0 = l := rfl
theorem pmx_all (l : List Int) : pmx l l.length = l.map unc := by
  unfold pmx
  rw [List.take_length, List.drop_length, List.append_nil]
theorem pmx_at {l : List Int} {i : Nat} {x : Int} (h : l[i]? = some x) : (pmx l i)[i]? = some x := by
  have hi := (List.getElem?_eq_some_iff.1 h).1
  unfold pmx
  rw [List.getElem?_append_right (by rw [List.length_map, List.length_take]; omega), List.length_map, List.length_take, List.getElem?_drop, ← h]
  congr 1
  omega
theorem pmx_succ {l : List Int} {i : Nat} {x : Int} (h : l[i]? = some x) : pmx l (i + 1) = (pmx l i).set i (unc x) := by
  have hi := (List.getElem?_eq_some_iff.1 h).1
  have hx : l[i] = x := by rw [List.getElem?_eq_getElem hi] at h; exact Option.some.inj h
  unfold pmx
  rw [List.take_add_one, h, List.drop_eq_getElem_cons hi, hx, List.map_append]
  rw [List.set_append_right _ _ (by rw [List.length_map, List.length_take]; omega)]
  rw [show i - ((l.take i).map unc).length = 0 by rw [List.length_map, List.length_take]; omega]
  simp
theorem pmx_same {l : List Int} {i : Nat} {x : Int} (h : l[i]? = some x) (hx : x ≠ 58) : pmx l (i + 1) = pmx l i := by
  rw [pmx_succ h, show unc x = x from if_neg hx]
  have e := pmx_at h
  have hi := (List.getElem?_eq_some_iff.1 e).1
  rw [List.getElem?_eq_getElem hi] at e
  rw [← Option.some.inj e]
  exact List.set_getElem_self hi
/-- Without a colon nothing is asked. -/
theorem ext_no {X : ByteArray} {k : Nat} (hk : k + 6 ≤ X.size) (h : bt X (k + 5) ≠ 58) : ¬ X.extract k (k + 6) = sMark := fun e => by
  have e1 : bt (X.extract k (k + 6)) 5 = bt X (k + 5) := ext_bt hk (by omega)
  rw [e] at e1
  exact h (e1 ▸ (by decide : bt sMark 5 = 58))
theorem scF_none {X : ByteArray} (h : ∀ i, i < X.size → bt X i ≠ 58) : ∀ f k p, scF X f k p = p
  | 0, k, p => rfl
  | f + 1, k, p => by
    rw [scF]
    by_cases hk : k + 6 ≤ X.size
    · rw [if_pos hk, if_neg (ext_no hk (h (k + 5) (by omega)))]
      exact scF_none h f (k + 1) p
    · rw [if_neg hk]
theorem rdL_none {s : ByteArray} (h : ∀ i, i < s.size → bt s i ≠ 58) : ∀ j, rdL s j = ⟨false, false, [], []⟩
  | 0 => rfl
  | j + 1 => by
    show stp (line s j) (S s j) (rdL s j) = _
    rw [rdL_none h j]
    unfold stp scn
    rw [scF_none (fun i hi => ?_)]
    · rfl
    · rw [Lns.line_size] at hi
      have h1 := Lns.S_le s (j + 1)
      have e : bt (line s j) i = bt s (S s j + i) := by
        unfold bt line
        rw [Lns.sub_get s (S s j) (S s (j + 1)) i h1 hi]
      rw [e]
      exact h _ (by omega)
theorem unc_byt {l : List Int} (h : Byt l) : Byt (l.map unc) := fun x hx => by
  obtain ⟨y, hy, rfl⟩ := List.mem_map.1 hx
  have := h y hy
  unfold unc
  split <;> omega
theorem unc_rd {l : List Int} (h : Byt l) : rdA (strOfNums (l.map unc)) = ⟨false, false, [], []⟩ := by
  refine rdL_none (fun i hi => ?_) _
  rw [strOfNums_size, List.length_map] at hi
  have hb := unc_byt h
  have e : (bt (strOfNums (l.map unc)) i : Int) = (l.map unc)[i]'(by rw [List.length_map]; exact hi) := by
    have h1 := nums_bt (l := l.map unc) (i := i) (x := (l.map unc)[i]'(by rw [List.length_map]; exact hi)) (List.getElem?_eq_getElem _) (hb _ (List.getElem_mem _))
    exact h1
  have h2 : (l.map unc)[i]'(by rw [List.length_map]; exact hi) ≠ 58 := by
    rw [List.getElem_map]
    unfold unc
    split <;> omega
  omega
end Go.Proofs.YteeeekpeokgaeaaDoor
