/- What single lines ask, one behind the other. -/
import Derived.Test.YteeeekpeokgaeaaDoorPkYPcs3
namespace Go.Proofs.YteeeekpeokgaeaaDoor
set_option linter.unusedVariables false
open Go.RowKit Go.ChangeShapes Tns
open Lns (nL nL_le line S)
theorem strOfNums_app (a b : List Int) : strOfNums (a ++ b) = strOfNums a ++ strOfNums b := by
  apply ByteArray.ext
  simp [strOfNums]
/-- The lines, by number. -/
def tB : Nat → ByteArray
  | 0 => ⟨#[120, 32, 115, 112, 101, 108, 108, 58, 111, 102, 102, 32, 121, 10]⟩
  | 1 => ⟨#[115, 112, 101, 108, 108, 58, 111, 110, 10]⟩
  | 2 => ⟨#[115, 112, 101, 108, 108, 58, 108, 105, 110, 101, 10]⟩
  | 3 => ⟨#[115, 112, 101, 108, 108, 58, 110, 101, 120, 116, 10]⟩
  | _ => ⟨#[112, 108, 97, 105, 110, 10]⟩
def tI : Nat → List Int
  | 0 => [120, 32, 115, 112, 101, 108, 108, 58, 111, 102, 102, 32, 121, 10]
  | 1 => [115, 112, 101, 108, 108, 58, 111, 110, 10]
  | 2 => [115, 112, 101, 108, 108, 58, 108, 105, 110, 101, 10]
  | 3 => [115, 112, 101, 108, 108, 58, 110, 101, 120, 116, 10]
  | _ => [112, 108, 97, 105, 110, 10]
def stE : Nat → Bool → Bool → Bool × Bool × Bool
  | 0, o, x => (true, true, false)
  | 1, o, x => (false, o || x, false)
  | 2, o, x => (o, true, false)
  | 3, o, x => (o, o || x, true)
  | _, o, x => (o, o || x, false)
theorem tB_one (k : Nat) (hk : k < 5) : nL (tB k) = 1 ∧ line (tB k) 0 = tB k ∧ 0 < (tB k).size ∧ bt (tB k) ((tB k).size - 1) = 10 ∧ (tB k).size ≤ 14 := by
  rcases (show k = 0 ∨ k = 1 ∨ k = 2 ∨ k = 3 ∨ k = 4 by omega) with rfl | rfl | rfl | rfl | rfl
  all_goals exact ⟨by kernel_rfl, by kernel_rfl, by decide, by decide, by decide⟩
theorem tB_nums (k : Nat) (hk : k < 5) : strOfNums (tI k) = tB k := by
  rcases (show k = 0 ∨ k = 1 ∨ k = 2 ∨ k = 3 ∨ k = 4 by omega) with rfl | rfl | rfl | rfl | rfl
  all_goals kernel_rfl
theorem stp_tB (k : Nat) (hk : k < 5) (o x : Bool) (w : List ByteArray) : scn (tB k) 0 ⟨o, o || x, false, w⟩ = ⟨(stE k o x).1, (stE k o x).2.1, (stE k o x).2.2, w⟩ := by
  rcases (show k = 0 ∨ k = 1 ∨ k = 2 ∨ k = 3 ∨ k = 4 by omega) with rfl | rfl | rfl | rfl | rfl
  all_goals (cases o <;> cases x <;> kernel_rfl)
theorem rdL_left (t b : ByteArray) (ht : 0 < t.size) (hn : bt t (t.size - 1) = 10) : ∀ j, j ≤ nL t → rdL (t ++ b) j = rdL t j
  | 0, _ => rfl
  | j + 1, h => by
    show stp (line (t ++ b) j) (S (t ++ b) j) (rdL (t ++ b) j) = stp (line t j) (S t j) (rdL t j)
    rw [rdL_left t b ht hn j (by omega), Lns.line_join_left t b ht hn j (by omega), Lns.S_join_left t b ht hn j (by omega)]
theorem rdA_join (t b : ByteArray) (ht : 0 < t.size) (hn : bt t (t.size - 1) = 10) (h1 : nL b = 1) (h2 : line b 0 = b) : rdA (t ++ b) = stp b t.size (rdA t) := by
  unfold rdA
  rw [Lns.nL_join t b ht hn, h1]
  show stp (line (t ++ b) (nL t)) (S (t ++ b) (nL t)) (rdL (t ++ b) (nL t)) = _
  rw [rdL_left t b ht hn (nL t) (Nat.le_refl _)]
  have e1 := Lns.line_join_right t b ht hn 0
  have e2 := Lns.S_join_right t b ht hn 0
  rw [Nat.add_zero] at e1 e2
  rw [e1, e2, h2, Lns.S_zero, Nat.add_zero]
theorem rdA_first (b : ByteArray) (h1 : nL b = 1) (h2 : line b 0 = b) : rdA b = stp b 0 ⟨false, false, [], []⟩ := by
  unfold rdA
  rw [h1]
  show stp (line b 0) (S b 0) (rdL b 0) = _
  rw [h2, Lns.S_zero]
  rfl
/-- The text of lines. -/
def TX : List Nat → ByteArray
  | [] => ⟨#[]⟩
  | k :: l => TX l ++ tB k
/-- What holds behind lines (the last one first). -/
structure Sq where
  o : Bool
  x : Bool
  g : List (Nat × Bool)
def sq : List Nat → Sq
  | [] => ⟨false, false, []⟩
  | k :: l => ⟨(stE k (sq l).o (sq l).x).1, (stE k (sq l).o (sq l).x).2.2, (sq l).g ++ [((TX l).size, (stE k (sq l).o (sq l).x).2.1)]⟩
theorem TX_ends : ∀ (l : List Nat), (∀ k ∈ l, k < 5) → l ≠ [] → 0 < (TX l).size ∧ bt (TX l) ((TX l).size - 1) = 10
  | [], _, h => absurd rfl h
  | k :: l, hk, _ => by
    obtain ⟨-, -, h3, h4, -⟩ := tB_one k (hk k (List.mem_cons_self ..))
    show 0 < (TX l ++ tB k).size ∧ bt (TX l ++ tB k) ((TX l ++ tB k).size - 1) = 10
    rw [Lns.join_size]
    refine ⟨by omega, ?_⟩
    have e : bt (TX l ++ tB k) ((TX l).size + ((tB k).size - 1)) = bt (tB k) ((tB k).size - 1) := by
      unfold bt
      rw [Lns.join_get_right]
    rw [show (TX l).size + (tB k).size - 1 = (TX l).size + ((tB k).size - 1) by omega, e]
    exact h4
theorem TX_size : ∀ (l : List Nat), (∀ k ∈ l, k < 5) → (TX l).size ≤ 14 * l.length
  | [], _ => Nat.le_refl _
  | k :: l, hk => by
    have h1 := TX_size l (fun q hq => hk q (List.mem_cons_of_mem _ hq))
    obtain ⟨-, -, -, -, h5⟩ := tB_one k (hk k (List.mem_cons_self ..))
    show (TX l ++ tB k).size ≤ 14 * (l.length + 1)
    rw [Lns.join_size]
    omega
theorem rdA_TX : ∀ (l : List Nat), (∀ k ∈ l, k < 5) → (rdA (TX l)).o = (sq l).o ∧ (rdA (TX l)).x = (sq l).x ∧ (∀ p ∈ (rdA (TX l)).r, p.1 + p.2 ≤ (TX l).size) ∧ (∀ q ∈ (sq l).g, q.1 < (TX l).size ∧ offB (rdA (TX l)).r (q.1 : Int) = q.2) ∧ (rdA (TX l)).r.length = (sq l).g.countP (fun q => q.2) ∧ (rdA (TX l)).w = []
  | [], _ => ⟨rfl, rfl, (fun p hp => by cases hp), (fun q hq => by cases hq), rfl, rfl⟩
  | k :: l, hk => by
    have hk5 := hk k (List.mem_cons_self ..)
    obtain ⟨i1, i2, i3, i4, i5, i6⟩ := rdA_TX l (fun q hq => hk q (List.mem_cons_of_mem _ hq))
    obtain ⟨b1, b2, b3, -, -⟩ := tB_one k hk5
    have hst : rdA (TX (k :: l)) = stp (tB k) (TX l).size (rdA (TX l)) := by
      cases l with
      | nil =>
        show rdA (⟨#[]⟩ ++ tB k) = _
        rw [show (⟨#[]⟩ : ByteArray) ++ tB k = tB k from ByteArray.empty_append, rdA_first (tB k) b1 b2]
        rfl
      | cons k' l' =>
        obtain ⟨e1, e2⟩ := TX_ends (k' :: l') (fun q hq => hk q (List.mem_cons_of_mem _ hq)) (by simp)
        exact rdA_join (TX (k' :: l')) (tB k) e1 e2 b1 b2
    have hsz : (TX (k :: l)).size = (TX l).size + (tB k).size := Lns.join_size _ _
    have hs2 : stp (tB k) (TX l).size (rdA (TX l)) = ⟨(stE k (sq l).o (sq l).x).1, (stE k (sq l).o (sq l).x).2.2, bif (stE k (sq l).o (sq l).x).2.1 then (rdA (TX l)).r ++ [((TX l).size, (tB k).size)] else (rdA (TX l)).r, []⟩ := by
      unfold stp
      rw [i1, i2, i6, stp_tB k hk5]
    rw [hst, hs2, hsz]
    obtain ⟨R, hR⟩ : ∃ R, (rdA (TX l)).r = R := ⟨_, rfl⟩
    obtain ⟨N, hN⟩ : ∃ N, (TX l).size = N := ⟨_, rfl⟩
    rw [hR, hN] at i3 i4
    rw [hR] at i5
    rw [hR, hN]
    have hno : offB R (N : Int) = false := by
      unfold offB
      rw [List.any_eq_false]
      intro p hp
      have := i3 p hp
      simp
      omega
    have hg : (sq (k :: l)).g = (sq l).g ++ [(N, (stE k (sq l).o (sq l).x).2.1)] := by rw [← hN]; rfl
    refine ⟨rfl, rfl, ?_, ?_, ?_, rfl⟩
    · cases hq : (stE k (sq l).o (sq l).x).2.1
      · intro p hp
        have := i3 p hp
        omega
      · intro p hp
        rcases List.mem_append.1 (show p ∈ R ++ [(N, (tB k).size)] from hp) with h | h
        · have := i3 p h
          omega
        · obtain rfl : p = (N, (tB k).size) := by simpa using h
          exact Nat.le_refl _
    · intro q hq
      rw [hg] at hq
      rcases List.mem_append.1 hq with h | h
      · obtain ⟨h1, h2⟩ := i4 q h
        refine ⟨by omega, ?_⟩
        cases (stE k (sq l).o (sq l).x).2.1
        · exact h2
        · show offB (R ++ [(N, (tB k).size)]) (q.1 : Int) = q.2
          rw [← h2]
          unfold offB
          rw [List.any_append]
          simp
          omega
      · obtain rfl : q = (N, (stE k (sq l).o (sq l).x).2.1) := by simpa using h
        refine ⟨by show N < _; omega, ?_⟩
        cases (stE k (sq l).o (sq l).x).2.1
        · exact hno
        · show offB (R ++ [(N, (tB k).size)]) (N : Int) = true
          unfold offB
          rw [List.any_append]
          simp
          omega
    · rw [hg, List.countP_append, ← i5]
      cases (stE k (sq l).o (sq l).x).2.1
      · rfl
      · show (R ++ [(N, (tB k).size)]).length = _
        rw [List.length_append]
        rfl
end Go.Proofs.YteeeekpeokgaeaaDoor
