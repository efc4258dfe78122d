/- mark: a line's text, and the lines of a file, plainly; no program in this text. -/
import Derived.Test.YtodjfeheagnnpaaDoormPure
import Derived.Test.YtodjfeheagnnpaaDoorgPure
namespace Go.Proofs.YtodjfeheagnnpaaDoor
set_option linter.unusedVariables false
open Go.RowKit Go.ChangeShapes
/-- Bytes as a text. -/
def bs (c : Nat → Int) (n : Nat) : ByteArray := strOfNums (cl c n)
/-- Letters, in their ranges. -/
def grL (r : Int) : Bool := (decide (65 ≤ r) && decide (r ≤ 90)) || (decide (192 ≤ r) && decide (r ≤ 222) && !decide (r = 215))
def leL (r : Int) : Bool := grL r || grL (r - 32) || decide (r = 223) || (decide (255 ≤ r) && decide (r ≤ 591)) || (decide (880 ≤ r) && decide (r ≤ 1327))
/-- Where letters end, from a place on; how many they are. -/
def leG (s : ByteArray) : Nat → Nat → Nat → Nat × Nat
  | 0, p, k => (p, k)
  | f + 1, p, k => if s.size ≤ p then (p, k) else if leL (rn s p) = true then leG s f (p + wd s p) (k + 1) else (p, k)
def le (s : ByteArray) (p k : Nat) : Nat × Nat := leG s (s.size - p) p k
theorem leG_more {s : ByteArray} : ∀ f g p k, s.size - p ≤ f → s.size - p ≤ g → leG s f p k = leG s g p k
  | 0, g, p, k, h1, h2 => by
    cases g with
    | zero => rfl
    | succ g => show (p, k) = if s.size ≤ p then (p, k) else _; rw [if_pos (by omega)]
  | f + 1, 0, p, k, h1, h2 => by show (if s.size ≤ p then (p, k) else _) = (p, k); rw [if_pos (by omega)]
  | f + 1, g + 1, p, k, h1, h2 => by
    show (if s.size ≤ p then (p, k) else if leL (rn s p) = true then leG s f (p + wd s p) (k + 1) else (p, k)) = (if s.size ≤ p then (p, k) else if leL (rn s p) = true then leG s g (p + wd s p) (k + 1) else (p, k))
    by_cases h : s.size ≤ p
    · rw [if_pos h, if_pos h]
    · have := wd_pos s p (by omega)
      rw [leG_more f g (p + wd s p) (k + 1) (by omega) (by omega)]
theorem le_end {s : ByteArray} {p : Nat} (h : s.size ≤ p) (k : Nat) : le s p k = (p, k) := by unfold le; rw [show s.size - p = 0 by omega]; rfl
theorem le_one {s : ByteArray} {p : Nat} (h : p < s.size) (k : Nat) : le s p k = if leL (rn s p) = true then le s (p + wd s p) (k + 1) else (p, k) := by
  have hw := wd_pos s p h
  unfold le
  rw [show s.size - p = (s.size - p - 1) + 1 by omega]
  show (if s.size ≤ p then (p, k) else if leL (rn s p) = true then leG s (s.size - p - 1) (p + wd s p) (k + 1) else (p, k)) = _
  rw [if_neg (by omega), leG_more (s.size - p - 1) (s.size - (p + wd s p)) (p + wd s p) (k + 1) (by omega) (by omega)]
/-- A link: behind it; 0: there is none. -/
def anB (x : Int) : Bool := x == 32 || x == 9 || x == 13 || x == 10 || x == 60 || x == 62
def lkQ (c : Nat → Int) (n i : Nat) : Nat := (le (bs c n) (i + 1) 0).1
def lkK (c : Nat → Int) (n i : Nat) : Nat := (le (bs c n) (i + 1) 0).2
def lkJ (c : Nat → Int) (n i : Nat) : Nat := fs (fun j => anB (c j)) n (lkQ c n i)
def lkP (c : Nat → Int) (n i : Nat) : Nat := if (decide (2 ≤ lkK c n i) && (c (lkQ c n i) == 58) && decide (lkJ c n i < n) && (c (lkJ c n i) == 62)) = true then lkJ c n i + 1 else 0
/-- A remark. -/
def rmJ (c : Nat → Int) (n i : Nat) : Nat := fs (oc [45, 45, 62] c) n (i + 4)
def rmP (c : Nat → Int) (n i : Nat) : Nat := if (oc [60, 33, 45, 45] c i && decide (rmJ c n i < n)) = true then rmJ c n i + 3 else 0
/-- What a < begins: behind it, and the labels. -/
def gtB (c : Nat → Int) (n i : Nat) : Bool := decide (fs (fun j => c j == 62) n i < n)
def anE (c : Nat → Int) (n i : Nat) : Nat := if gtB c n i = false then i + 1 else if 0 < lkP c n i then lkP c n i else if 0 < rmP c n i then rmP c n i else match tg c n i with
  | some t => t.e
  | none => i + 1
def anL (L : Nat → Int) (c : Nat → Int) (n i : Nat) : Nat → Int := if gtB c n i = false then L else if 0 < lkP c n i then setL L 2 (i : Int) ((lkP c n i : Nat) : Int) else if 0 < rmP c n i then setL L 3 (i : Int) ((rmP c n i : Nat) : Int) else match tg c n i with
  | some t => layT L i t
  | none => L
/-- Ticks; a link's place. -/
def tcK (c : Nat → Int) (n i : Nat) : Nat := rwP 96 (sf c i) (n - i)
def tcE (c : Nat → Int) (n i : Nat) : Nat := match tk (tcK c n i) c n (i + tcK c n i) with
  | some q => q + tcK c n i
  | none => i + tcK c n i
def tcL (L : Nat → Int) (c : Nat → Int) (n i : Nat) : Nat → Int := match tk (tcK c n i) c n (i + tcK c n i) with
  | some q => setL L 4 (i : Int) ((q + tcK c n i : Nat) : Int)
  | none => L
def tgO (c : Nat → Int) (n i : Nat) : Option Nat := if c i = 40 then shP c n i 0 else none
def taE (c : Nat → Int) (n i : Nat) : Nat := match tgO c n i with
  | some q => q
  | none => i
def taL (L : Nat → Int) (c : Nat → Int) (n i : Nat) : Nat → Int := match tgO c n i with
  | some q => setL L 2 (i : Int) ((q : Nat) : Int)
  | none => L
/-- What stands at a place of a text. -/
def txE (c : Nat → Int) (n i : Nat) : Nat := if c i = 92 then i + 2 else if c i = 96 then tcE c n i else if c i = 93 then taE c n (i + 1) else if c i = 60 then anE c n i else i + 1
def txL (L : Nat → Int) (c : Nat → Int) (n i : Nat) : Nat → Int := if c i = 92 then L else if c i = 96 then tcL L c n i else if c i = 93 then taL L c n (i + 1) else if c i = 60 then anL L c n i else L
theorem tcK_pos {c : Nat → Int} {n i : Nat} (hi : i < n) (h : c i = 96) : 0 < tcK c n i := by
  rcases Nat.eq_zero_or_pos (tcK c n i) with h0 | h0
  · have := rwP_hit (s := 96) (c := sf c i) (n := n - i) (by unfold tcK at h0; omega)
    unfold tcK at h0
    rw [h0] at this
    exact absurd h this
  · exact h0
theorem tcK_le (c : Nat → Int) {n i : Nat} (hi : i ≤ n) : i + tcK c n i ≤ n := by have := rwP_le 96 (sf c i) (n - i); unfold tcK; omega
theorem tcE_le {c : Nat → Int} {n i : Nat} (hi : i < n) (h : c i = 96) : i < tcE c n i ∧ tcE c n i ≤ n := by
  have h1 := tcK_pos hi h
  have h2 := tcK_le c (n := n) (i := i) (by omega)
  unfold tcE
  cases e : tk (tcK c n i) c n (i + tcK c n i) with
  | none => show i < i + tcK c n i ∧ i + tcK c n i ≤ n; omega
  | some q =>
    have := tkG_le _ _ _ e
    show i < q + tcK c n i ∧ q + tcK c n i ≤ n
    omega
theorem tgO_le {c : Nat → Int} {n i q : Nat} (h : tgO c n i = some q) : i < q ∧ q ≤ n := by
  unfold tgO at h
  split at h
  · exact shG_le _ _ _ _ h
  · cases h
theorem taE_le (c : Nat → Int) {n i : Nat} (hi : i ≤ n) : i ≤ taE c n i ∧ taE c n i ≤ n := by
  unfold taE
  cases e : tgO c n i with
  | none => exact ⟨Nat.le_refl _, hi⟩
  | some q => have := tgO_le e; exact ⟨Nat.le_of_lt this.1, this.2⟩
theorem leG_le {s : ByteArray} : ∀ f p k, p ≤ (leG s f p k).1 ∧ (p ≤ s.size → (leG s f p k).1 ≤ s.size)
  | 0, p, k => ⟨Nat.le_refl _, fun h => h⟩
  | f + 1, p, k => by
    show p ≤ (if s.size ≤ p then (p, k) else if leL (rn s p) = true then leG s f (p + wd s p) (k + 1) else (p, k)).1 ∧ (p ≤ s.size → (if s.size ≤ p then (p, k) else if leL (rn s p) = true then leG s f (p + wd s p) (k + 1) else (p, k)).1 ≤ s.size)
    by_cases h : s.size ≤ p
    · rw [if_pos h]; exact ⟨Nat.le_refl _, fun h => h⟩
    · have hw := wd_pos s p (by omega)
      have ih := leG_le (s := s) f (p + wd s p) (k + 1)
      rw [if_neg h]
      by_cases h2 : leL (rn s p) = true
      · rw [if_pos h2]; exact ⟨by omega, fun _ => ih.2 (by omega)⟩
      · rw [if_neg h2]; exact ⟨Nat.le_refl _, fun h => h⟩
theorem bs_size (c : Nat → Int) (n : Nat) : (bs c n).size = n := by
  have : (bs c n).size = (cl c n).length := by unfold bs strOfNums; simp [ByteArray.size]
  rw [this, cl_len]
theorem lkQ_le (c : Nat → Int) {n i : Nat} (hi : i < n) : i < lkQ c n i ∧ lkQ c n i ≤ n := by
  have h := leG_le (s := bs c n) ((bs c n).size - (i + 1)) (i + 1) 0
  rw [bs_size] at h
  unfold lkQ le
  rw [bs_size]
  exact ⟨h.1, h.2 hi⟩
theorem lkP_le (c : Nat → Int) {n i : Nat} (hi : i < n) (h : 0 < lkP c n i) : i < lkP c n i ∧ lkP c n i ≤ n := by
  have hq := lkQ_le c hi
  have hj := fs_ge (fun j => anB (c j)) n (lkQ c n i)
  unfold lkP at h ⊢
  split at h
  · rename_i h1
    rw [if_pos h1]
    simp only [Bool.and_eq_true, decide_eq_true_eq] at h1
    have : lkQ c n i ≤ lkJ c n i := hj
    omega
  · omega
theorem rmP_le {c : Nat → Int} {n i : Nat} (hC : Ch c n) (h : 0 < rmP c n i) : i < rmP c n i ∧ rmP c n i ≤ n := by
  have hj := fs_ge (oc [45, 45, 62] c) n (i + 4)
  unfold rmP at h ⊢
  split at h
  · rename_i h1
    rw [if_pos h1]
    simp only [Bool.and_eq_true, decide_eq_true_eq] at h1
    have h2 : oc [45, 45, 62] c (rmJ c n i) = true := fs_hit (P := oc [45, 45, 62] c) h1.2
    have h3 := oc_len hC.2 [45, 45, 62] (byt_lit _ rfl) (rmJ c n i) (by simp) h2
    have : i + 4 ≤ rmJ c n i := hj
    simp at h3
    omega
  · omega
theorem anE_le {c : Nat → Int} {n i : Nat} (hC : Ch c n) (hi : i < n) : i < anE c n i ∧ anE c n i ≤ n := by
  unfold anE
  by_cases h1 : gtB c n i = false
  · rw [if_pos h1]; omega
  rw [if_neg h1]
  by_cases h2 : 0 < lkP c n i
  · rw [if_pos h2]; exact lkP_le c hi h2
  rw [if_neg h2]
  by_cases h3 : 0 < rmP c n i
  · rw [if_pos h3]; exact rmP_le hC h3
  rw [if_neg h3]
  cases e : tg c n i with
  | none => show i < i + 1 ∧ i + 1 ≤ n; omega
  | some t => have := tg_ok hC e; exact ⟨this.1, this.2.1⟩
theorem txE_gt {c : Nat → Int} {n i : Nat} (hC : Ch c n) (hi : i < n) : i < txE c n i ∧ txE c n i ≤ n + 1 := by
  unfold txE
  by_cases h1 : c i = 92
  · rw [if_pos h1]; omega
  rw [if_neg h1]
  by_cases h2 : c i = 96
  · rw [if_pos h2]; have := tcE_le hi h2; omega
  rw [if_neg h2]
  by_cases h3 : c i = 93
  · rw [if_pos h3]; have := taE_le c (n := n) (i := i + 1) (by omega); omega
  rw [if_neg h3]
  by_cases h4 : c i = 60
  · rw [if_pos h4]; have := anE_le hC hi; omega
  rw [if_neg h4]; omega
/-- A line's text. -/
def txG (c : Nat → Int) (n : Nat) : Nat → Nat → (Nat → Int) → (Nat → Int)
  | 0, _, L => L
  | f + 1, i, L => if n ≤ i then L else txG c n f (txE c n i) (txL L c n i)
def tx (c : Nat → Int) (n i : Nat) (L : Nat → Int) : Nat → Int := txG c n (n - i) i L
theorem txG_more {c : Nat → Int} {n : Nat} (hC : Ch c n) : ∀ f g i L, n - i ≤ f → n - i ≤ g → txG c n f i L = txG c n g i L
  | 0, g, i, L, h1, h2 => by
    cases g with
    | zero => rfl
    | succ g => show L = if n ≤ i then L else _; rw [if_pos (by omega)]
  | f + 1, 0, i, L, h1, h2 => by show (if n ≤ i then L else _) = L; rw [if_pos (by omega)]
  | f + 1, g + 1, i, L, h1, h2 => by
    show (if n ≤ i then L else txG c n f (txE c n i) (txL L c n i)) = (if n ≤ i then L else txG c n g (txE c n i) (txL L c n i))
    by_cases h : n ≤ i
    · rw [if_pos h, if_pos h]
    · have := txE_gt hC (show i < n by omega)
      rw [txG_more hC f g (txE c n i) (txL L c n i) (by omega) (by omega)]
theorem tx_end {c : Nat → Int} {n i : Nat} (h : n ≤ i) (L : Nat → Int) : tx c n i L = L := by unfold tx; rw [show n - i = 0 by omega]; rfl
theorem tx_one {c : Nat → Int} {n i : Nat} (hC : Ch c n) (h : i < n) (L : Nat → Int) : tx c n i L = tx c n (txE c n i) (txL L c n i) := by
  have := txE_gt hC h
  unfold tx
  rw [show n - i = (n - i - 1) + 1 by omega]
  show (if n ≤ i then L else txG c n (n - i - 1) (txE c n i) (txL L c n i)) = _
  rw [if_neg (by omega)]
  exact txG_more hC _ _ _ _ (by omega) (by omega)
/-- A line's end. -/
def lnE (c : Nat → Int) (n i : Nat) : Nat := if fs (fun j => c j == 10) n i < n then fs (fun j => c j == 10) n i + 1 else n
theorem lnE_le (c : Nat → Int) {n i : Nat} (hi : i < n) : i < lnE c n i ∧ lnE c n i ≤ n := by
  have := fs_ge (fun j => c j == 10) n i
  unfold lnE
  split <;> omega
/-- What a line leaves: the fence that is open (its sign, how many), whether code may follow by its indent. -/
structure Ms where
  s : Int
  k : Nat
  fr : Bool
def stM (m : Ms) (d : Nat → Int) (n : Nat) : Ms :=
  if 0 < m.k then (if clP m.s m.k d n = true then ⟨0, 0, false⟩ else ⟨m.s, m.k, false⟩)
  else if tmN d n = 0 then ⟨m.s, m.k, true⟩
  else if (m.fr && decide (indP d n = 4)) = true then ⟨m.s, m.k, true⟩
  else if opOk d n = true then ⟨opS d n, opK d n, false⟩
  else ⟨m.s, m.k, false⟩
/-- A line's labels. -/
def lnL (L : Nat → Int) (m : Ms) (c : Nat → Int) (a e : Nat) : Nat → Int :=
  if 0 < m.k then setL L 4 (a : Int) (e : Int)
  else if tmN (ln c a e) (e - a) = 0 then L
  else if (m.fr && decide (indP (ln c a e) (e - a) = 4)) = true then setL L 4 (a : Int) (e : Int)
  else if opOk (ln c a e) (e - a) = true then setL L 4 (a : Int) (e : Int)
  else if dfP (ln c a e) (e - a) = true then setL L 2 (a : Int) (e : Int)
  else tx (tr c e) e a L
/-- The lines from a place on. -/
def mkG (c : Nat → Int) (n : Nat) : Nat → Nat → Ms → (Nat → Int) → (Nat → Int)
  | 0, _, _, L => L
  | f + 1, i, m, L => if n ≤ i then L else mkG c n f (lnE c n i) (stM m (ln c i (lnE c n i)) (lnE c n i - i)) (lnL L m c i (lnE c n i))
def mk (c : Nat → Int) (n i : Nat) (m : Ms) (L : Nat → Int) : Nat → Int := mkG c n (n - i) i m L
theorem mkG_more {c : Nat → Int} {n : Nat} : ∀ f g i m L, n - i ≤ f → n - i ≤ g → mkG c n f i m L = mkG c n g i m L
  | 0, g, i, m, L, h1, h2 => by
    cases g with
    | zero => rfl
    | succ g => show L = if n ≤ i then L else _; rw [if_pos (by omega)]
  | f + 1, 0, i, m, L, h1, h2 => by show (if n ≤ i then L else _) = L; rw [if_pos (by omega)]
  | f + 1, g + 1, i, m, L, h1, h2 => by
    show (if n ≤ i then L else mkG c n f (lnE c n i) (stM m (ln c i (lnE c n i)) (lnE c n i - i)) (lnL L m c i (lnE c n i))) = (if n ≤ i then L else mkG c n g (lnE c n i) (stM m (ln c i (lnE c n i)) (lnE c n i - i)) (lnL L m c i (lnE c n i)))
    by_cases h : n ≤ i
    · rw [if_pos h, if_pos h]
    · have := lnE_le c (show i < n by omega)
      rw [mkG_more f g _ _ _ (by omega) (by omega)]
theorem mk_end {c : Nat → Int} {n i : Nat} (h : n ≤ i) (m : Ms) (L : Nat → Int) : mk c n i m L = L := by unfold mk; rw [show n - i = 0 by omega]; rfl
theorem mk_one {c : Nat → Int} {n i : Nat} (h : i < n) (m : Ms) (L : Nat → Int) : mk c n i m L = mk c n (lnE c n i) (stM m (ln c i (lnE c n i)) (lnE c n i - i)) (lnL L m c i (lnE c n i)) := by
  have := lnE_le c h
  unfold mk
  rw [show n - i = (n - i - 1) + 1 by omega]
  show (if n ≤ i then L else mkG c n (n - i - 1) (lnE c n i) (stM m (ln c i (lnE c n i)) (lnE c n i - i)) (lnL L m c i (lnE c n i))) = _
  rw [if_neg (by omega)]
  exact mkG_more _ _ _ _ _ (by omega) (by omega)
/-- The front matter: behind it; 0: there is none. -/
def frG (c : Nat → Int) (n : Nat) : Nat → Nat → Nat
  | 0, _ => 0
  | f + 1, i => if n ≤ i then 0 else if dsP (ln c i (lnE c n i)) (lnE c n i - i) = true then lnE c n i else frG c n f (lnE c n i)
def fr (c : Nat → Int) (n i : Nat) : Nat := frG c n (n - i) i
theorem frG_more {c : Nat → Int} {n : Nat} : ∀ f g i, n - i ≤ f → n - i ≤ g → frG c n f i = frG c n g i
  | 0, g, i, h1, h2 => by
    cases g with
    | zero => rfl
    | succ g => show 0 = if n ≤ i then 0 else _; rw [if_pos (by omega)]
  | f + 1, 0, i, h1, h2 => by show (if n ≤ i then 0 else _) = 0; rw [if_pos (by omega)]
  | f + 1, g + 1, i, h1, h2 => by
    show (if n ≤ i then 0 else if dsP (ln c i (lnE c n i)) (lnE c n i - i) = true then lnE c n i else frG c n f (lnE c n i)) = (if n ≤ i then 0 else if dsP (ln c i (lnE c n i)) (lnE c n i - i) = true then lnE c n i else frG c n g (lnE c n i))
    by_cases h : n ≤ i
    · rw [if_pos h, if_pos h]
    · have := lnE_le c (show i < n by omega)
      rw [frG_more f g _ (by omega) (by omega)]
theorem fr_end {c : Nat → Int} {n i : Nat} (h : n ≤ i) : fr c n i = 0 := by unfold fr; rw [show n - i = 0 by omega]; rfl
theorem fr_one {c : Nat → Int} {n i : Nat} (h : i < n) : fr c n i = if dsP (ln c i (lnE c n i)) (lnE c n i - i) = true then lnE c n i else fr c n (lnE c n i) := by
  have := lnE_le c h
  unfold fr
  rw [show n - i = (n - i - 1) + 1 by omega]
  show (if n ≤ i then 0 else if dsP (ln c i (lnE c n i)) (lnE c n i - i) = true then lnE c n i else frG c n (n - i - 1) (lnE c n i)) = _
  rw [if_neg (by omega), frG_more (n - i - 1) (n - lnE c n i) (lnE c n i) (by omega) (by omega)]
def frP (c : Nat → Int) (n : Nat) : Nat := if n = 0 then 0 else if dsP (ln c 0 (lnE c n 0)) (lnE c n 0 - 0) = true then fr c n (lnE c n 0) else 0
/-- A file's labels. -/
def mkA (c : Nat → Int) (n : Nat) : Nat → Int := mk c n (frP c n) ⟨0, 0, true⟩ (setL (fun _ => 1) 4 0 ((frP c n : Nat) : Int))
end Go.Proofs.YtodjfeheagnnpaaDoor
