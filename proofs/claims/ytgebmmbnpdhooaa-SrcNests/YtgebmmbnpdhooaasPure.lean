/- src: programs' remarks and strings, plainly; no program in this text. -/
import Derived.Test.YtgebmmbnpdhooaasCL
namespace Go.Proofs.Ytgebmmbnpdhooaa
set_option linter.unusedVariables false
open Go.RowKit Go.ChangeShapes
/-- A kind of strings; a family. -/
structure Qt where
  mark : List Int
  inn : Int
  esc : Bool
  dbl : Bool
  lng : Bool
structure Fm where
  line : List Int
  apart : Bool
  opn : List Int
  sht : List Int
  nst : Bool
  qs : List Qt
def qD : Qt := ⟨[34], 5, true, false, false⟩
def qS : Qt := ⟨[39], 5, true, false, false⟩
/-- A format's family (of those from 4 to 8). -/
def fam (f : Int) : Fm :=
  if f = 4 then ⟨[47, 47], false, [47, 42], [42, 47], false, [qD, qS]⟩
  else if f = 5 then ⟨[47, 47], false, [47, 42], [42, 47], false, [qD, qS, ⟨[96], 7, false, false, true⟩]⟩
  else if f = 6 then ⟨[35], false, [], [], false, [⟨[34, 34, 34], 5, true, false, true⟩, ⟨[39, 39, 39], 5, true, false, true⟩, qD, qS]⟩
  else if f = 7 then ⟨[35], true, [], [], false, [⟨[34], 5, true, false, true⟩, ⟨[39], 7, false, false, true⟩]⟩
  else ⟨[45, 45], false, [47, 42], [42, 47], true, [⟨[39], 5, false, true, true⟩, ⟨[34], 7, false, true, true⟩]⟩
structure GdQ (q : Qt) : Prop where
  byt : Byt q.mark
  pos : 1 ≤ q.mark.length
  few : q.mark.length ≤ 3
structure GdF (F : Fm) : Prop where
  lb : Byt F.line
  l1 : 1 ≤ F.line.length
  l2 : F.line.length ≤ 2
  ob : Byt F.opn
  o2 : F.opn.length ≤ 2
  sb : Byt F.sht
  s2 : F.sht.length ≤ 2
  os : F.opn ≠ [] → 1 ≤ F.opn.length ∧ 1 ≤ F.sht.length
  qs : ∀ q ∈ F.qs, GdQ q
  q4 : F.qs.length ≤ 4
theorem gd_fam (f : Int) : GdF (fam f) := by
  have hq : ∀ (m : List Int) (i : Int) (e d l : Bool), m.all (fun x => decide (0 ≤ x) && decide (x < 256)) = true → 1 ≤ m.length → m.length ≤ 3 → GdQ ⟨m, i, e, d, l⟩ := fun m i e d l h1 h2 h3 => ⟨byt_lit m h1, h2, h3⟩
  unfold fam
  split
  · exact ⟨byt_lit _ rfl, by decide, by decide, byt_lit _ rfl, by decide, byt_lit _ rfl, by decide, fun _ => by decide, fun q hq' => by
      rcases List.mem_cons.1 hq' with rfl | hq'
      · exact hq _ _ _ _ _ rfl (by decide) (by decide)
      rw [List.mem_singleton] at hq'
      subst hq'
      exact hq _ _ _ _ _ rfl (by decide) (by decide), by decide⟩
  split
  · exact ⟨byt_lit _ rfl, by decide, by decide, byt_lit _ rfl, by decide, byt_lit _ rfl, by decide, fun _ => by decide, fun q hq' => by
      rcases List.mem_cons.1 hq' with rfl | hq'
      · exact hq _ _ _ _ _ rfl (by decide) (by decide)
      rcases List.mem_cons.1 hq' with rfl | hq'
      · exact hq _ _ _ _ _ rfl (by decide) (by decide)
      rw [List.mem_singleton] at hq'
      subst hq'
      exact hq _ _ _ _ _ rfl (by decide) (by decide), by decide⟩
  split
  · exact ⟨byt_lit _ rfl, by decide, by decide, byt_lit _ rfl, by decide, byt_lit _ rfl, by decide, fun h => absurd rfl h, fun q hq' => by
      rcases List.mem_cons.1 hq' with rfl | hq'
      · exact hq _ _ _ _ _ rfl (by decide) (by decide)
      rcases List.mem_cons.1 hq' with rfl | hq'
      · exact hq _ _ _ _ _ rfl (by decide) (by decide)
      rcases List.mem_cons.1 hq' with rfl | hq'
      · exact hq _ _ _ _ _ rfl (by decide) (by decide)
      rw [List.mem_singleton] at hq'
      subst hq'
      exact hq _ _ _ _ _ rfl (by decide) (by decide), by decide⟩
  split
  · exact ⟨byt_lit _ rfl, by decide, by decide, byt_lit _ rfl, by decide, byt_lit _ rfl, by decide, fun h => absurd rfl h, fun q hq' => by
      rcases List.mem_cons.1 hq' with rfl | hq'
      · exact hq _ _ _ _ _ rfl (by decide) (by decide)
      rw [List.mem_singleton] at hq'
      subst hq'
      exact hq _ _ _ _ _ rfl (by decide) (by decide), by decide⟩
  · exact ⟨byt_lit _ rfl, by decide, by decide, byt_lit _ rfl, by decide, byt_lit _ rfl, by decide, fun _ => by decide, fun q hq' => by
      rcases List.mem_cons.1 hq' with rfl | hq'
      · exact hq _ _ _ _ _ rfl (by decide) (by decide)
      rw [List.mem_singleton] at hq'
      subst hq'
      exact hq _ _ _ _ _ rfl (by decide) (by decide), by decide⟩
/-- Labels laid over others, from a place up to another. -/
def pt (L l : Nat → Int) (i e : Nat) : Nat → Int := fun j => if i ≤ j ∧ j < e then l j else L j
def ahd (x : Int) (a : Nat) (r : Nat × (Nat → Int)) : Nat × (Nat → Int) := (r.1, fun j => if j < a then x else r.2 j)
def ahd2 (r : Nat × (Nat → Int)) (m : Nat → Int) : Nat → Int := fun j => if j < r.1 then r.2 j else m j
theorem pt_none (L l : Nat → Int) {i e : Nat} (h : e ≤ i) : pt L l i e = L := by
  funext j
  unfold pt
  rw [if_neg (by omega)]
theorem pt_one (L : Nat → Int) (x : Int) (i e : Nat) : pt L (fun _ => x) i e = setL L x (i : Int) (e : Int) := by
  funext j
  unfold pt setL
  by_cases h : i ≤ j ∧ j < e
  · rw [if_pos h, if_pos (by omega)]
  · rw [if_neg h, if_neg (by omega)]
theorem pt_ahd (L : Nat → Int) (x : Int) {i a : Nat} (r : Nat × (Nat → Int)) (h1 : i ≤ a) (h2 : a ≤ r.1) : pt L (ahd x a r).2 i (ahd x a r).1 = pt (setL L x (i : Int) (a : Int)) r.2 a r.1 := by
  funext j
  unfold pt setL ahd
  dsimp only
  by_cases h3 : i ≤ j ∧ j < r.1
  · rw [if_pos h3]
    by_cases h4 : j < a
    · rw [if_pos h4, if_neg (by omega), if_pos (by omega)]
    · rw [if_neg h4, if_pos (by omega)]
  · rw [if_neg h3, if_neg (by omega), if_neg (by omega)]
/-- Strings: two marks in a row; over; how many bytes at once; where one ends. -/
def prB (q : Qt) (c : Nat → Int) (k : Nat) : Bool := q.dbl && oc (q.mark ++ q.mark) c k
def enB (q : Qt) (c : Nat → Int) (k : Nat) : Bool := (c k == 10 && !q.lng) || (oc q.mark c k && !prB q c k)
def esB (q : Qt) (c : Nat → Int) (k : Nat) : Bool := q.esc && c k == 92 && (q.lng || !(c (k + 1) == 10))
def tkN (q : Qt) (c : Nat → Int) (k : Nat) : Nat := if prB q c k = true then 2 * q.mark.length else if esB q c k = true then 2 else 1
def lnG (q : Qt) (c : Nat → Int) (n : Nat) : Nat → Nat → Nat
  | 0, k => k
  | f + 1, k => if n ≤ k ∨ enB q c k = true then k else lnG q c n f (min (k + tkN q c k) n)
def lnE (q : Qt) (c : Nat → Int) (n k : Nat) : Nat := lnG q c n (n - k) k
theorem tkN_pos {q : Qt} (hq : GdQ q) (c : Nat → Int) (k : Nat) : 1 ≤ tkN q c k ∧ tkN q c k ≤ 6 := by
  have := hq.pos
  have := hq.few
  unfold tkN
  split
  · omega
  · split <;> omega
theorem lnG_more {q : Qt} (hq : GdQ q) (c : Nat → Int) (n : Nat) : ∀ f m k, n - k ≤ f → n - k ≤ m → lnG q c n f k = lnG q c n m k
  | 0, 0, k, h1, h2 => rfl
  | 0, m + 1, k, h1, h2 => by
    show k = if n ≤ k ∨ enB q c k = true then k else _
    rw [if_pos (Or.inl (by omega))]
  | f + 1, 0, k, h1, h2 => by
    show (if n ≤ k ∨ enB q c k = true then k else _) = k
    rw [if_pos (Or.inl (by omega))]
  | f + 1, m + 1, k, h1, h2 => by
    show (if n ≤ k ∨ enB q c k = true then k else lnG q c n f (min (k + tkN q c k) n)) = (if n ≤ k ∨ enB q c k = true then k else lnG q c n m (min (k + tkN q c k) n))
    by_cases h : n ≤ k ∨ enB q c k = true
    · rw [if_pos h, if_pos h]
    · have := tkN_pos hq c k
      have h3 : ¬ n ≤ k := fun e => h (Or.inl e)
      rw [lnG_more hq c n f m _ (by omega) (by omega)]
theorem lnE_end (q : Qt) (c : Nat → Int) {n k : Nat} (h : n ≤ k) : lnE q c n k = k := by
  unfold lnE
  rw [show n - k = 0 by omega]
  rfl
theorem lnE_yes {q : Qt} {c : Nat → Int} {n k : Nat} (h : enB q c k = true) : lnE q c n k = k := by
  unfold lnE
  cases n - k with
  | zero => rfl
  | succ f =>
    show (if n ≤ k ∨ enB q c k = true then k else _) = k
    rw [if_pos (Or.inr h)]
theorem lnE_no {q : Qt} (hq : GdQ q) {c : Nat → Int} {n k : Nat} (h : k < n) (h1 : enB q c k = false) : lnE q c n k = lnE q c n (min (k + tkN q c k) n) := by
  have := tkN_pos hq c k
  unfold lnE
  rw [lnG_more hq c n (n - min (k + tkN q c k) n) (n - (k + 1)) _ (by omega) (by omega)]
  rw [show n - k = (n - (k + 1)) + 1 by omega]
  show (if n ≤ k ∨ enB q c k = true then k else _) = _
  rw [if_neg (by rw [h1]; intro e; rcases e with e | e; omega; cases e)]
theorem lnG_all {q : Qt} (hq : GdQ q) (c : Nat → Int) (n : Nat) : ∀ f k, n - k ≤ f → k ≤ n → k ≤ lnG q c n f k ∧ lnG q c n f k ≤ n ∧ (lnG q c n f k < n → enB q c (lnG q c n f k) = true)
  | 0, k, h1, h2 => ⟨Nat.le_refl _, h2, fun h => absurd h (show ¬ k < n by omega)⟩
  | f + 1, k, h1, h2 => by
    show k ≤ (if n ≤ k ∨ enB q c k = true then k else lnG q c n f (min (k + tkN q c k) n)) ∧ (if n ≤ k ∨ enB q c k = true then k else lnG q c n f (min (k + tkN q c k) n)) ≤ n ∧ ((if n ≤ k ∨ enB q c k = true then k else lnG q c n f (min (k + tkN q c k) n)) < n → enB q c (if n ≤ k ∨ enB q c k = true then k else lnG q c n f (min (k + tkN q c k) n)) = true)
    by_cases h : n ≤ k ∨ enB q c k = true
    · rw [if_pos h]
      exact ⟨Nat.le_refl _, h2, fun h3 => h.resolve_left (by omega)⟩
    · have := tkN_pos hq c k
      have h3 : ¬ n ≤ k := fun e => h (Or.inl e)
      rw [if_neg h]
      have := lnG_all hq c n f (min (k + tkN q c k) n) (by omega) (by omega)
      exact ⟨by omega, this.2.1, this.2.2⟩
theorem lnE_le {q : Qt} (hq : GdQ q) (c : Nat → Int) {n k : Nat} (h : k ≤ n) : k ≤ lnE q c n k ∧ lnE q c n k ≤ n := ⟨(lnG_all hq c n _ k (Nat.le_refl _) h).1, (lnG_all hq c n _ k (Nat.le_refl _) h).2.1⟩
/-- A string behind its first mark: where all of it ends; its labels. -/
def txR (q : Qt) (c : Nat → Int) (n a : Nat) : Nat × (Nat → Int) := ahd q.inn (lnE q c n a) (if oc q.mark c (lnE q c n a) = true then lnE q c n a + q.mark.length else lnE q c n a, fun _ => 4)
theorem txR_le {q : Qt} (hq : GdQ q) {c : Nat → Int} {n a : Nat} (hC : Ch c n) (h : a ≤ n) : lnE q c n a ≤ (txR q c n a).1 ∧ (txR q c n a).1 ≤ n := by
  have h1 := lnE_le hq c h
  have h0 := hq.pos
  unfold txR ahd
  dsimp only
  split
  · rename_i h2
    have := oc_len hC.2 q.mark hq.byt _ (by intro e; rw [e] at h0; exact absurd h0 (by decide)) h2
    omega
  · omega
/-- Remarks between: where one ends; its labels. -/
def rmG (F : Fm) (c : Nat → Int) (n : Nat) : Nat → Nat → Nat → Nat × (Nat → Int)
  | 0, _, i => (i, fun _ => 1)
  | f + 1, d, i => if d = 0 ∨ n ≤ i then (i, fun _ => 1) else if oc F.sht c i = true then ahd 3 (i + F.sht.length) (rmG F c n f (d - 1) (i + F.sht.length)) else if (!F.nst || !oc F.opn c i) = true then ahd 1 (i + 1) (rmG F c n f d (i + 1)) else if d = 32 then (n, fun _ => 6) else ahd 3 (i + F.opn.length) (rmG F c n f (d + 1) (i + F.opn.length))
def rm (F : Fm) (c : Nat → Int) (n d i : Nat) : Nat × (Nat → Int) := rmG F c n (n - i) d i
section
variable {F : Fm} {c : Nat → Int} {n d i : Nat}
theorem rmG_more (ho : 1 ≤ F.opn.length) (hs : 1 ≤ F.sht.length) : ∀ f m d i, n - i ≤ f → n - i ≤ m → rmG F c n f d i = rmG F c n m d i
  | 0, 0, d, i, h1, h2 => rfl
  | 0, m + 1, d, i, h1, h2 => by
    show (i, fun _ => (1 : Int)) = if d = 0 ∨ n ≤ i then _ else _
    rw [if_pos (Or.inr (by omega))]
  | f + 1, 0, d, i, h1, h2 => by
    show (if d = 0 ∨ n ≤ i then _ else _) = (i, fun _ => (1 : Int))
    rw [if_pos (Or.inr (by omega))]
  | f + 1, m + 1, d, i, h1, h2 => by
    show (if d = 0 ∨ n ≤ i then (i, fun _ => (1 : Int)) else if oc F.sht c i = true then ahd 3 (i + F.sht.length) (rmG F c n f (d - 1) (i + F.sht.length)) else if (!F.nst || !oc F.opn c i) = true then ahd 1 (i + 1) (rmG F c n f d (i + 1)) else if d = 32 then (n, fun _ => 6) else ahd 3 (i + F.opn.length) (rmG F c n f (d + 1) (i + F.opn.length))) = (if d = 0 ∨ n ≤ i then (i, fun _ => (1 : Int)) else if oc F.sht c i = true then ahd 3 (i + F.sht.length) (rmG F c n m (d - 1) (i + F.sht.length)) else if (!F.nst || !oc F.opn c i) = true then ahd 1 (i + 1) (rmG F c n m d (i + 1)) else if d = 32 then (n, fun _ => 6) else ahd 3 (i + F.opn.length) (rmG F c n m (d + 1) (i + F.opn.length)))
    by_cases h : d = 0 ∨ n ≤ i
    · rw [if_pos h, if_pos h]
    · have h3 : ¬ n ≤ i := fun e => h (Or.inr e)
      rw [rmG_more ho hs f m (d - 1) (i + F.sht.length) (by omega) (by omega), rmG_more ho hs f m d (i + 1) (by omega) (by omega), rmG_more ho hs f m (d + 1) (i + F.opn.length) (by omega) (by omega)]
theorem rm_end (h : d = 0 ∨ n ≤ i) : rm F c n d i = (i, fun _ => 1) := by
  unfold rm
  cases n - i with
  | zero => rfl
  | succ f =>
    show (if d = 0 ∨ n ≤ i then _ else _) = _
    rw [if_pos h]
theorem rm_one (hd : d ≠ 0) (hi : i < n) : rm F c n d i = if oc F.sht c i = true then ahd 3 (i + F.sht.length) (rmG F c n (n - (i + 1)) (d - 1) (i + F.sht.length)) else if (!F.nst || !oc F.opn c i) = true then ahd 1 (i + 1) (rmG F c n (n - (i + 1)) d (i + 1)) else if d = 32 then (n, fun _ => 6) else ahd 3 (i + F.opn.length) (rmG F c n (n - (i + 1)) (d + 1) (i + F.opn.length)) := by
  unfold rm
  rw [show n - i = (n - (i + 1)) + 1 by omega]
  show (if d = 0 ∨ n ≤ i then _ else _) = _
  rw [if_neg (by omega)]
theorem rm_sht (ho : 1 ≤ F.opn.length) (hs : 1 ≤ F.sht.length) (hd : d ≠ 0) (hi : i < n) (h : oc F.sht c i = true) : rm F c n d i = ahd 3 (i + F.sht.length) (rm F c n (d - 1) (i + F.sht.length)) := by
  rw [rm_one hd hi, if_pos h]
  unfold rm
  rw [rmG_more ho hs (n - (i + 1)) (n - (i + F.sht.length)) _ _ (by omega) (by omega)]
theorem rm_pro (hd : d ≠ 0) (hi : i < n) (h : oc F.sht c i = false) (h1 : (!F.nst || !oc F.opn c i) = true) : rm F c n d i = ahd 1 (i + 1) (rm F c n d (i + 1)) := by
  rw [rm_one hd hi, if_neg (by rw [h]; exact Bool.false_ne_true), if_pos h1]
  rfl
theorem rm_opq (hi : i < n) (h : oc F.sht c i = false) (h1 : (!F.nst || !oc F.opn c i) = false) : rm F c n 32 i = (n, fun _ => 6) := by
  rw [rm_one (by decide) hi, if_neg (by rw [h]; exact Bool.false_ne_true), if_neg (by rw [h1]; exact Bool.false_ne_true), if_pos rfl]
theorem rm_opn (ho : 1 ≤ F.opn.length) (hs : 1 ≤ F.sht.length) (hd : d ≠ 0) (hd2 : d ≠ 32) (hi : i < n) (h : oc F.sht c i = false) (h1 : (!F.nst || !oc F.opn c i) = false) : rm F c n d i = ahd 3 (i + F.opn.length) (rm F c n (d + 1) (i + F.opn.length)) := by
  rw [rm_one hd hi, if_neg (by rw [h]; exact Bool.false_ne_true), if_neg (by rw [h1]; exact Bool.false_ne_true), if_neg hd2]
  unfold rm
  rw [rmG_more ho hs (n - (i + 1)) (n - (i + F.opn.length)) _ _ (by omega) (by omega)]
theorem rmG_le (hC : Ch c n) (hF : GdF F) (ho : 1 ≤ F.opn.length) (hs : 1 ≤ F.sht.length) : ∀ f d i, i ≤ n → i ≤ (rmG F c n f d i).1 ∧ (rmG F c n f d i).1 ≤ n
  | 0, d, i, h => ⟨Nat.le_refl _, h⟩
  | f + 1, d, i, h => by
    show i ≤ (if d = 0 ∨ n ≤ i then (i, fun _ => (1 : Int)) else if oc F.sht c i = true then ahd 3 (i + F.sht.length) (rmG F c n f (d - 1) (i + F.sht.length)) else if (!F.nst || !oc F.opn c i) = true then ahd 1 (i + 1) (rmG F c n f d (i + 1)) else if d = 32 then (n, fun _ => 6) else ahd 3 (i + F.opn.length) (rmG F c n f (d + 1) (i + F.opn.length))).1 ∧ (if d = 0 ∨ n ≤ i then (i, fun _ => (1 : Int)) else if oc F.sht c i = true then ahd 3 (i + F.sht.length) (rmG F c n f (d - 1) (i + F.sht.length)) else if (!F.nst || !oc F.opn c i) = true then ahd 1 (i + 1) (rmG F c n f d (i + 1)) else if d = 32 then (n, fun _ => 6) else ahd 3 (i + F.opn.length) (rmG F c n f (d + 1) (i + F.opn.length))).1 ≤ n
    by_cases h0 : d = 0 ∨ n ≤ i
    · rw [if_pos h0]
      exact ⟨Nat.le_refl _, h⟩
    rw [if_neg h0]
    cases h1 : oc F.sht c i with
    | true =>
      rw [if_pos rfl]
      have := oc_len hC.2 F.sht hF.sb i (by intro e; rw [e] at hs; exact absurd hs (by decide)) h1
      have := rmG_le hC hF ho hs f (d - 1) (i + F.sht.length) (by omega)
      exact ⟨by show i ≤ (rmG F c n f (d - 1) (i + F.sht.length)).1; omega, this.2⟩
    | false =>
      rw [if_neg Bool.false_ne_true]
      cases h2 : (!F.nst || !oc F.opn c i) with
      | true =>
        rw [if_pos rfl]
        have := rmG_le hC hF ho hs f d (i + 1) (by omega)
        exact ⟨by show i ≤ (rmG F c n f d (i + 1)).1; omega, this.2⟩
      | false =>
        rw [if_neg Bool.false_ne_true]
        have h3 : oc F.opn c i = true := by
          cases h3 : oc F.opn c i with
          | true => rfl
          | false => rw [h3] at h2; simp at h2
        have := oc_len hC.2 F.opn hF.ob i (by intro e; rw [e] at ho; exact absurd ho (by decide)) h3
        by_cases h4 : d = 32
        · rw [if_pos h4]
          exact ⟨h, Nat.le_refl _⟩
        · rw [if_neg h4]
          have := rmG_le hC hF ho hs f (d + 1) (i + F.opn.length) (by omega)
          exact ⟨by show i ≤ (rmG F c n f (d + 1) (i + F.opn.length)).1; omega, this.2⟩
theorem rm_le (hC : Ch c n) (hF : GdF F) (ho : 1 ≤ F.opn.length) (hs : 1 ≤ F.sht.length) (h : i ≤ n) : i ≤ (rm F c n d i).1 ∧ (rm F c n d i).1 ≤ n := rmG_le hC hF ho hs _ d i h
end
/-- Whatever there is: where it ends; its labels. -/
def spB (x : Int) : Bool := x == 32 || x == 9 || x == 13 || x == 10 || x == 59
def frB (F : Fm) (c : Nat → Int) (i : Nat) : Bool := !F.apart || i == 0 || spB (c (i - 1))
def ntB (F : Fm) (c : Nat → Int) (i : Nat) : Bool := oc F.line c i && frB F c i
def opB (F : Fm) (c : Nat → Int) (i : Nat) : Bool := !F.opn.isEmpty && oc F.opn c i
def fq (qs : List Qt) (c : Nat → Int) (i : Nat) : Option Qt := qs.find? fun q => oc q.mark c i
def tqR (c : Nat → Int) (n i : Nat) : Option Qt → Nat × (Nat → Int)
  | some q => ahd 4 (i + q.mark.length) (txR q c n (i + q.mark.length))
  | none => (i + 1, fun _ => 4)
def nx (F : Fm) (c : Nat → Int) (n i : Nat) : Nat × (Nat → Int) :=
  if ntB F c i = true then ahd 3 (i + F.line.length) (fs (oc [10] c) n (i + F.line.length), fun _ => 1)
  else if opB F c i = true then ahd 3 (i + F.opn.length) (rm F c n 1 (i + F.opn.length))
  else tqR c n i (fq F.qs c i)
theorem opB_ne {F : Fm} {c : Nat → Int} {i : Nat} (h : opB F c i = true) : F.opn ≠ [] ∧ oc F.opn c i = true := by
  unfold opB at h
  cases e : F.opn with
  | nil => rw [e] at h; cases h
  | cons a l => rw [e] at h; exact ⟨by simp, by simpa using h⟩
theorem nx_le {F : Fm} (hF : GdF F) {c : Nat → Int} {n i : Nat} (hC : Ch c n) (h : i < n) : i < (nx F c n i).1 ∧ (nx F c n i).1 ≤ n := by
  unfold nx
  split
  · rename_i h1
    unfold ntB at h1
    have h2 := hF.l1
    have := oc_len hC.2 F.line hF.lb i (by intro e; rw [e] at h2; exact absurd h2 (by decide)) (by revert h1; cases oc F.line c i <;> simp)
    have h3 := fs_ge (oc [10] c) n (i + F.line.length)
    have h4 := fs_le (oc [10] c) (n := n) (i := i + F.line.length) (by omega)
    exact ⟨by show i < fs _ _ _; omega, h4⟩
  · split
    · rename_i h1
      obtain ⟨h2, h3⟩ := opB_ne h1
      have h4 := hF.os h2
      have := oc_len hC.2 F.opn hF.ob i h2 h3
      have := rm_le (d := 1) hC hF h4.1 h4.2 (i := i + F.opn.length) (by omega)
      exact ⟨by show i < (rm F c n 1 (i + F.opn.length)).1; omega, this.2⟩
    · cases e : fq F.qs c i with
      | none => exact ⟨Nat.lt_succ_self i, h⟩
      | some q =>
        have h1 := List.find?_some e
        have hq := hF.qs q (List.mem_of_find?_eq_some e)
        have h0 := hq.pos
        have := oc_len hC.2 q.mark hq.byt i (by intro e; rw [e] at h0; exact absurd h0 (by decide)) h1
        have h5 := txR_le hq hC (a := i + q.mark.length) (by omega)
        have h6 := lnE_le hq c (n := n) (k := i + q.mark.length) (by omega)
        exact ⟨by show i < (txR q c n (i + q.mark.length)).1; omega, h5.2⟩
/-- All of it. -/
def lxG (F : Fm) (c : Nat → Int) (n : Nat) : Nat → Nat → Nat → Int
  | 0, _, _ => 4
  | f + 1, i, j => if n ≤ i then 4 else if j < (nx F c n i).1 then (nx F c n i).2 j else lxG F c n f (nx F c n i).1 j
def lx (F : Fm) (c : Nat → Int) (n i : Nat) : Nat → Int := lxG F c n (n - i) i
theorem lxG_more {F : Fm} (hF : GdF F) {c : Nat → Int} {n : Nat} (hC : Ch c n) : ∀ f m i j, n - i ≤ f → n - i ≤ m → lxG F c n f i j = lxG F c n m i j
  | 0, 0, i, j, h1, h2 => rfl
  | 0, m + 1, i, j, h1, h2 => by
    show (4 : Int) = if n ≤ i then 4 else _
    rw [if_pos (by omega)]
  | f + 1, 0, i, j, h1, h2 => by
    show (if n ≤ i then 4 else _) = (4 : Int)
    rw [if_pos (by omega)]
  | f + 1, m + 1, i, j, h1, h2 => by
    show (if n ≤ i then (4 : Int) else if j < (nx F c n i).1 then (nx F c n i).2 j else lxG F c n f (nx F c n i).1 j) = (if n ≤ i then 4 else if j < (nx F c n i).1 then (nx F c n i).2 j else lxG F c n m (nx F c n i).1 j)
    by_cases h : n ≤ i
    · rw [if_pos h, if_pos h]
    · have := nx_le hF hC (i := i) (by omega)
      rw [lxG_more hF hC f m _ j (by omega) (by omega)]
theorem lx_one {F : Fm} (hF : GdF F) {c : Nat → Int} {n : Nat} (hC : Ch c n) {i : Nat} (h : i < n) : lx F c n i = (ahd2 (nx F c n i) (lx F c n (nx F c n i).1)) := by
  have := nx_le hF hC h
  funext j
  unfold lx ahd2
  rw [lxG_more hF hC (n - (nx F c n i).1) (n - (i + 1)) _ j (by omega) (by omega)]
  rw [show n - i = (n - (i + 1)) + 1 by omega]
  show (if n ≤ i then (4 : Int) else _) = _
  rw [if_neg (by omega)]
/-- The labels of a file. -/
def lxA (F : Fm) (c : Nat → Int) (n : Nat) : Nat → Int := lx F c n 0
theorem pt_lx {F : Fm} (hF : GdF F) {c : Nat → Int} {n : Nat} (hC : Ch c n) {i : Nat} (h : i < n) (L : Nat → Int) : pt L (lx F c n i) i n = pt (pt L (nx F c n i).2 i (nx F c n i).1) (lx F c n (nx F c n i).1) (nx F c n i).1 n := by
  have := nx_le hF hC h
  rw [lx_one hF hC h]
  funext j
  unfold pt ahd2
  by_cases h1 : i ≤ j ∧ j < n
  · rw [if_pos h1]
    by_cases h2 : j < (nx F c n i).1
    · rw [if_pos h2, if_neg (by omega), if_pos (by omega)]
    · rw [if_neg h2, if_pos (by omega)]
  · rw [if_neg h1, if_neg (by omega), if_neg (by omega)]
end Go.Proofs.Ytgebmmbnpdhooaa
