/- tex: what stands in a file, plainly; no program in this text. -/
import Derived.Test.YtlgfmhhhecaddaaDoorxByt
import Derived.Test.YtlgfmhhhecaddaaDoorgPure
namespace Go.Proofs.YtlgfmhhhecaddaaDoor
set_option linter.unusedVariables false
open Go.RowKit Go.ChangeShapes
/-- Bytes as a text; the sign at a place, and how long it is; none at the end. -/
def bs (c : Nat → Int) (n : Nat) : ByteArray := strOfNums (cl c n)
def rnE (s : ByteArray) (p : Nat) : Int := if p < s.size then rn s p else -1
def wdE (s : ByteArray) (p : Nat) : Nat := if p < s.size then wd s p else 0
theorem bs_size (c : Nat → Int) (n : Nat) : (bs c n).size = n := by
  unfold bs
  rw [strOfNums_size, cl_len]
theorem wdE_le (s : ByteArray) {p : Nat} (h : p ≤ s.size) : p + wdE s p ≤ s.size ∧ wdE s p ≤ 4 := by
  unfold wdE
  by_cases h1 : p < s.size
  · rw [if_pos h1]
    have := wd_pos s p h1
    omega
  · rw [if_neg h1]
    omega
/-- How many bytes are gone over at one. -/
def tkn (x : Int) : Nat := if x = 92 then 2 else 1
theorem tkn_pos (x : Int) : 1 ≤ tkn x ∧ tkn x ≤ 2 := by unfold tkn; split <;> omega
/-- The first place, as bytes are gone over, at which it holds; else the end, or one behind it. -/
def skG (P : Nat → Bool) (c : Nat → Int) (n : Nat) : Nat → Nat → Nat
  | 0, k => k
  | f + 1, k => if n ≤ k then k else if P k = true then k else skG P c n f (k + tkn (c k))
def sk (P : Nat → Bool) (c : Nat → Int) (n k : Nat) : Nat := skG P c n (n - k) k
theorem skG_more {P : Nat → Bool} {c : Nat → Int} {n : Nat} : ∀ f g k, n - k ≤ f → n - k ≤ g → skG P c n f k = skG P c n g k
  | 0, g, k, h1, h2 => by
    cases g with
    | zero => rfl
    | succ g => show k = if n ≤ k then k else _; rw [if_pos (by omega)]
  | f + 1, 0, k, h1, h2 => by show (if n ≤ k then k else _) = k; rw [if_pos (by omega)]
  | f + 1, g + 1, k, h1, h2 => by
    show (if n ≤ k then k else if P k = true then k else skG P c n f (k + tkn (c k))) = (if n ≤ k then k else if P k = true then k else skG P c n g (k + tkn (c k)))
    have := tkn_pos (c k)
    by_cases h : n ≤ k
    · rw [if_pos h, if_pos h]
    · rw [skG_more f g (k + tkn (c k)) (by omega) (by omega)]
theorem sk_end (P : Nat → Bool) (c : Nat → Int) {n k : Nat} (h : n ≤ k) : sk P c n k = k := by unfold sk; rw [show n - k = 0 by omega]; rfl
theorem sk_one (P : Nat → Bool) (c : Nat → Int) {n k : Nat} (h : k < n) : sk P c n k = if P k = true then k else sk P c n (k + tkn (c k)) := by
  have := tkn_pos (c k)
  unfold sk
  rw [skG_more (n - (k + tkn (c k))) (n - (k + 1)) (k + tkn (c k)) (by omega) (by omega), show n - k = (n - (k + 1)) + 1 by omega]
  show (if n ≤ k then k else _) = _
  rw [if_neg (by omega)]
theorem sk_yes {P : Nat → Bool} {c : Nat → Int} {n k : Nat} (h : k < n) (hp : P k = true) : sk P c n k = k := by rw [sk_one P c h, if_pos hp]
theorem sk_no {P : Nat → Bool} {c : Nat → Int} {n k : Nat} (h : k < n) (hp : P k = false) : sk P c n k = sk P c n (k + tkn (c k)) := by rw [sk_one P c h, if_neg (by rw [hp]; exact Bool.false_ne_true)]
theorem sk_le (P : Nat → Bool) (c : Nat → Int) (n : Nat) : ∀ d k, n - k ≤ d → k ≤ sk P c n k ∧ (k ≤ n + 1 → sk P c n k ≤ n + 1)
  | 0, k, h => by rw [sk_end P c (by omega)]; omega
  | d + 1, k, h => by
    rcases Nat.lt_or_ge k n with h1 | h1
    · have ht := tkn_pos (c k)
      rw [sk_one P c h1]
      by_cases hp : P k = true
      · rw [if_pos hp]; omega
      · rw [if_neg hp]
        have := sk_le P c n d (k + tkn (c k)) (by omega)
        omega
    · rw [sk_end P c h1]; omega
/-- Math: its sign; where it ends. -/
def mqS (c : Nat → Int) (i : Nat) : List Int := if oc [36, 36] c i = true then [36, 36] else [36]
def mtK (c : Nat → Int) (n i : Nat) : Nat := sk (oc (mqS c i) c) c n (i + (mqS c i).length)
def mtE (c : Nat → Int) (n i : Nat) : Nat := min (mtK c n i + (mqS c i).length) n
/-- The place behind the bracket that ends so many open ones; 0, if it doesn't come, or if they stand too deep. -/
def brG (o s : Int) (c : Nat → Int) (n : Nat) : Nat → Nat → Nat → Nat
  | 0, _, _ => 0
  | f + 1, i, d => if n ≤ i then 0 else if c i = 92 then brG o s c n f (i + 2) d else if c i = o then (if 32 < d + 1 then 0 else brG o s c n f (i + 1) (d + 1)) else if c i = s then (if d = 1 then i + 1 else brG o s c n f (i + 1) (d - 1)) else brG o s c n f (i + 1) d
def br (o s : Int) (c : Nat → Int) (n i d : Nat) : Nat := brG o s c n (n - i) i d
theorem brG_more {o s : Int} {c : Nat → Int} {n : Nat} : ∀ f g i d, n - i ≤ f → n - i ≤ g → brG o s c n f i d = brG o s c n g i d
  | 0, g, i, d, h1, h2 => by
    cases g with
    | zero => rfl
    | succ g => show 0 = if n ≤ i then 0 else _; rw [if_pos (by omega)]
  | f + 1, 0, i, d, h1, h2 => by show (if n ≤ i then 0 else _) = 0; rw [if_pos (by omega)]
  | f + 1, g + 1, i, d, h1, h2 => by
    show (if n ≤ i then 0 else if c i = 92 then brG o s c n f (i + 2) d else if c i = o then (if 32 < d + 1 then 0 else brG o s c n f (i + 1) (d + 1)) else if c i = s then (if d = 1 then i + 1 else brG o s c n f (i + 1) (d - 1)) else brG o s c n f (i + 1) d) = (if n ≤ i then 0 else if c i = 92 then brG o s c n g (i + 2) d else if c i = o then (if 32 < d + 1 then 0 else brG o s c n g (i + 1) (d + 1)) else if c i = s then (if d = 1 then i + 1 else brG o s c n g (i + 1) (d - 1)) else brG o s c n g (i + 1) d)
    by_cases h : n ≤ i
    · rw [if_pos h, if_pos h]
    · rw [brG_more f g (i + 2) d (by omega) (by omega), brG_more f g (i + 1) (d + 1) (by omega) (by omega), brG_more f g (i + 1) (d - 1) (by omega) (by omega), brG_more f g (i + 1) d (by omega) (by omega)]
theorem br_end {o s : Int} {c : Nat → Int} {n i : Nat} (h : n ≤ i) (d : Nat) : br o s c n i d = 0 := by unfold br; rw [show n - i = 0 by omega]; rfl
theorem br_one {o s : Int} {c : Nat → Int} {n i : Nat} (h : i < n) (d : Nat) : br o s c n i d = if c i = 92 then br o s c n (i + 2) d else if c i = o then (if 32 < d + 1 then 0 else br o s c n (i + 1) (d + 1)) else if c i = s then (if d = 1 then i + 1 else br o s c n (i + 1) (d - 1)) else br o s c n (i + 1) d := by
  unfold br
  rw [brG_more (n - (i + 2)) (n - (i + 1)) (i + 2) d (by omega) (by omega), show n - i = (n - (i + 1)) + 1 by omega]
  show (if n ≤ i then 0 else _) = _
  rw [if_neg (by omega)]
theorem br_le {o s : Int} {c : Nat → Int} {n : Nat} : ∀ k i d, n - i ≤ k → br o s c n i d = 0 ∨ (i < br o s c n i d ∧ br o s c n i d ≤ n)
  | 0, i, d, h => Or.inl (br_end (by omega) d)
  | k + 1, i, d, h => by
    rcases Nat.lt_or_ge i n with h1 | h1
    · rw [br_one h1 d]
      have a1 := br_le (o := o) (s := s) (c := c) (n := n) k (i + 2) d (by omega)
      have a2 := br_le (o := o) (s := s) (c := c) (n := n) k (i + 1) (d + 1) (by omega)
      have a3 := br_le (o := o) (s := s) (c := c) (n := n) k (i + 1) (d - 1) (by omega)
      have a4 := br_le (o := o) (s := s) (c := c) (n := n) k (i + 1) d (by omega)
      split
      · omega
      · split
        · split <;> omega
        · split
          · split <;> omega
          · omega
    · exact Or.inl (br_end h1 d)
/-- The place behind the group at a place; 0, if there is none; behind all groups. -/
def grp (c : Nat → Int) (n i : Nat) : Nat := if c i = 123 then br 123 125 c n (i + 1) 1 else if c i = 91 then br 91 93 c n (i + 1) 1 else 0
theorem grp_le (c : Nat → Int) (n i : Nat) : grp c n i = 0 ∨ (i + 1 < grp c n i ∧ grp c n i ≤ n) := by
  unfold grp
  split
  · exact br_le _ _ _ (Nat.le_refl _)
  · split
    · exact br_le _ _ _ (Nat.le_refl _)
    · exact Or.inl rfl
def gpG (c : Nat → Int) (n : Nat) : Nat → Nat → Nat
  | 0, i => i
  | f + 1, i => if grp c n i = 0 then i else gpG c n f (grp c n i)
def gps (c : Nat → Int) (n i : Nat) : Nat := gpG c n (n - i) i
theorem gpG_more {c : Nat → Int} {n : Nat} : ∀ f g i, n - i ≤ f → n - i ≤ g → gpG c n f i = gpG c n g i
  | 0, g, i, h1, h2 => by
    cases g with
    | zero => rfl
    | succ g =>
      show i = if grp c n i = 0 then i else _
      have := grp_le c n i
      rw [if_pos (by omega)]
  | f + 1, 0, i, h1, h2 => by
    show (if grp c n i = 0 then i else _) = i
    have := grp_le c n i
    rw [if_pos (by omega)]
  | f + 1, g + 1, i, h1, h2 => by
    show (if grp c n i = 0 then i else gpG c n f (grp c n i)) = (if grp c n i = 0 then i else gpG c n g (grp c n i))
    have := grp_le c n i
    by_cases h : grp c n i = 0
    · rw [if_pos h, if_pos h]
    · rw [gpG_more f g (grp c n i) (by omega) (by omega)]
theorem gps_no {c : Nat → Int} {n i : Nat} (h : grp c n i = 0) : gps c n i = i := by
  unfold gps
  cases n - i with
  | zero => rfl
  | succ k => show (if grp c n i = 0 then i else _) = i; rw [if_pos h]
theorem gps_one {c : Nat → Int} {n i : Nat} (h : grp c n i ≠ 0) : gps c n i = gps c n (grp c n i) := by
  have h1 := grp_le c n i
  unfold gps
  rw [gpG_more (n - grp c n i) (n - (i + 1)) (grp c n i) (by omega) (by omega), show n - i = (n - (i + 1)) + 1 by omega]
  show (if grp c n i = 0 then i else _) = _
  rw [if_neg h]
theorem gps_le (c : Nat → Int) (n : Nat) : ∀ d i, n - i ≤ d → i ≤ n → i ≤ gps c n i ∧ gps c n i ≤ n
  | 0, i, h, hi => by
    have h1 := grp_le c n i
    rw [gps_no (by omega)]; omega
  | d + 1, i, h, hi => by
    have h1 := grp_le c n i
    by_cases h2 : grp c n i = 0
    · rw [gps_no h2]; omega
    · have := gps_le c n d (grp c n i) (by omega) (by omega)
      rw [gps_one h2]
      omega
/-- Behind verb: the *; where its code ends. -/
def vbS (c : Nat → Int) (k : Nat) : Nat := if c k = 42 then k + 1 else k
def vbN (c : Nat → Int) (n k : Nat) : Nat := bh [10] c n k
def vbQ (c : Nat → Int) (n k : Nat) : Nat := fs (fun j => c j == c k) (vbN c n k) (k + 1)
def vbF (c : Nat → Int) (n k : Nat) : Nat := if vbQ c n k < vbN c n k then vbQ c n k + 1 else vbN c n k
def vbE (c : Nat → Int) (n k : Nat) : Nat := if n ≤ vbS c k ∨ c (vbS c k) = 10 then vbS c k else vbF c n (vbS c k)
def vbL (L c : Nat → Int) (n k : Nat) : Nat → Int := setL (setL L 2 (k : Int) ((vbS c k : Nat) : Int)) 4 ((vbS c k : Nat) : Int) ((vbE c n k : Nat) : Int)
/-- The names: of commands whose groups aren't read; of environments that aren't. -/
def bareB (l : List Int) : Bool := l == [98, 105, 98, 108, 105, 111, 103, 114, 97, 112, 104, 121] || l == [98, 105, 98, 108, 105, 111, 103, 114, 97, 112, 104, 121, 115, 116, 121, 108, 101] || l == [99, 105, 116, 101] || l == [100, 111, 99, 117, 109, 101, 110, 116, 99, 108, 97, 115, 115] || l == [101, 110, 100] || l == [105, 110, 99, 108, 117, 100, 101] || l == [105, 110, 99, 108, 117, 100, 101, 103, 114, 97, 112, 104, 105, 99, 115] || l == [105, 110, 112, 117, 116] || l == [108, 97, 98, 101, 108] || l == [112, 97, 103, 101, 114, 101, 102] || l == [114, 101, 102] || l == [117, 115, 101, 112, 97, 99, 107, 97, 103, 101]
def whB (l : List Int) : Bool := l == [97, 108, 105, 103, 110] || l == [97, 108, 105, 103, 110, 42] || l == [101, 113, 117, 97, 116, 105, 111, 110] || l == [101, 113, 117, 97, 116, 105, 111, 110, 42] || l == [108, 115, 116, 108, 105, 115, 116, 105, 110, 103] || l == [118, 101, 114, 98, 97, 116, 105, 109]
def isV (l : List Int) : Bool := l == [118, 101, 114, 98]
def isBg (l : List Int) : Bool := l == [98, 101, 103, 105, 110]
/-- What lies in the group at a place. -/
def bcd (c : Nat → Int) (n k : Nat) : List Int := if grp c n k = 0 ∨ c k ≠ 123 then [] else cl (fun j => c (k + 1 + j)) (grp c n k - 1 - (k + 1))
/-- What isn't read: the text that ends it; where it ends. -/
def enT (l : List Int) : List Int := [92, 101, 110, 100, 123] ++ l ++ [125]
def unE (c : Nat → Int) (n e : Nat) (t : List Int) : Nat := bh t c n e
def unL (L c : Nat → Int) (n e : Nat) (t : List Int) : Nat → Int := if fs (oc t c) n e < n then setL (setL L 4 (e : Int) ((fs (oc t c) n e : Nat) : Int)) 2 ((fs (oc t c) n e : Nat) : Int) ((fs (oc t c) n e + t.length : Nat) : Int) else setL L 4 (e : Int) (n : Int)
/-- Behind begin. -/
def bgE (c : Nat → Int) (n k : Nat) : Nat := if whB (bcd c n k) = true then unE c n (gps c n k) (enT (bcd c n k)) else gps c n k
def gpL (L c : Nat → Int) (n k : Nat) : Nat → Int := setL L 2 (k : Int) ((gps c n k : Nat) : Int)
def bgL (L c : Nat → Int) (n k : Nat) : Nat → Int := if whB (bcd c n k) = true then unL (gpL L c n k) c n (gps c n k) (enT (bcd c n k)) else gpL L c n k
/-- A command: where its name ends; its name; where all of it ends. -/
def cmK (c : Nat → Int) (n i : Nat) : Nat := ps ltB c n (i + 1)
def cmN (c : Nat → Int) (n i : Nat) : List Int := cl (fun j => c (i + 1 + j)) (cmK c n i - (i + 1))
def cmE (c : Nat → Int) (n i : Nat) : Nat := if isV (cmN c n i) = true then vbE c n (cmK c n i) else if isBg (cmN c n i) = true then bgE c n (cmK c n i) else if bareB (cmN c n i) = true then gps c n (cmK c n i) else cmK c n i
def cm1 (L c : Nat → Int) (n i : Nat) : Nat → Int := setL L 2 (i : Int) ((cmK c n i : Nat) : Int)
def cmL (L c : Nat → Int) (n i : Nat) : Nat → Int := if isV (cmN c n i) = true then vbL (cm1 L c n i) c n (cmK c n i) else if isBg (cmN c n i) = true then bgL (cm1 L c n i) c n (cmK c n i) else if bareB (cmN c n i) = true then gpL (cm1 L c n i) c n (cmK c n i) else cm1 L c n i
/-- What begins with a backslash. -/
def bkE (c : Nat → Int) (n i : Nat) : Nat := if c (i + 1) = 40 then bh [92, 41] c n (i + 2) else if c (i + 1) = 91 then bh [92, 93] c n (i + 2) else if ltB (c (i + 1)) = true then cmE c n i else i + 1 + wdE (bs c n) (i + 1)
def bkL (L c : Nat → Int) (n i : Nat) : Nat → Int := if c (i + 1) = 40 then setL L 4 (i : Int) ((bh [92, 41] c n (i + 2) : Nat) : Int) else if c (i + 1) = 91 then setL L 4 (i : Int) ((bh [92, 93] c n (i + 2) : Nat) : Int) else if ltB (c (i + 1)) = true then cmL L c n i else setL L 2 (i : Int) ((i + 1 + wdE (bs c n) (i + 1) : Nat) : Int)
/-- Signs that are markup by themselves. -/
def mkB (x : Int) : Bool := x == 123 || x == 125 || x == 126 || x == 38 || x == 35 || x == 94 || x == 95
/-- What comes next. -/
def nxE (c : Nat → Int) (n i : Nat) : Nat := if c i = 37 then bh [10] c n i else if c i = 36 then mtE c n i else if c i = 92 then bkE c n i else i + 1
def nxL (L c : Nat → Int) (n i : Nat) : Nat → Int := if c i = 37 then setL L 3 (i : Int) ((bh [10] c n i : Nat) : Int) else if c i = 36 then setL L 4 (i : Int) ((mtE c n i : Nat) : Int) else if c i = 92 then bkL L c n i else if mkB (c i) = true then setL L 2 (i : Int) ((i + 1 : Nat) : Int) else setL L 1 (i : Int) ((i + 1 : Nat) : Int)
theorem b10 : Byt [10] := byt_lit _ rfl
theorem bh_gt {c : Nat → Int} {n : Nat} (hC : Ch c n) {i : Nat} (hi : i < n) : i < bh [10] c n i ∧ bh [10] c n i ≤ n := by
  have h1 := fs_ge (oc [10] c) n i
  have h2 := fs_le (oc [10] c) (n := n) (i := i) (by omega)
  unfold bh
  split
  · exact ⟨by show _ < _ + 1; omega, by show _ + 1 ≤ n; omega⟩
  · omega
theorem vbF_le {c : Nat → Int} {n k : Nat} (hC : Ch c n) (h : k < n) : k < vbF c n k ∧ vbF c n k ≤ n := by
  have h1 := bh_gt hC h
  have h2 := fs_ge (fun j => c j == c k) (vbN c n k) (k + 1)
  have h3 := fs_le (fun j => c j == c k) (n := vbN c n k) (i := k + 1) (by unfold vbN; omega)
  unfold vbF vbQ
  unfold vbN at *
  split <;> omega
theorem vbS_le {c : Nat → Int} {n k : Nat} (hC : Ch c n) (h : k ≤ n) : k ≤ vbS c k ∧ vbS c k ≤ n := by
  unfold vbS
  split
  · rename_i h1
    rcases Nat.lt_or_ge k n with h2 | h2
    · omega
    · rw [hC.2 k h2] at h1; exact absurd h1 (by decide)
  · omega
theorem vbE_le {c : Nat → Int} {n k : Nat} (hC : Ch c n) (h : k ≤ n) : k ≤ vbS c k ∧ vbS c k ≤ vbE c n k ∧ vbE c n k ≤ n := by
  have h1 := vbS_le hC h
  unfold vbE
  split
  · omega
  · rename_i h2
    have := vbF_le hC (k := vbS c k) (by omega)
    omega
theorem enT_ne (l : List Int) : enT l ≠ [] := by simp [enT]
theorem enT_byt {l : List Int} (h : Byt l) : Byt (enT l) := fun x hx => by
  unfold enT at hx
  rcases List.mem_append.1 hx with hx | hx
  · rcases List.mem_append.1 hx with hx | hx
    · exact byt_lit [92, 101, 110, 100, 123] rfl x hx
    · exact h x hx
  · exact byt_lit [125] rfl x hx
theorem cl_byt' {c : Nat → Int} {m : Nat} (h : ∀ j, j < m → 0 ≤ c j ∧ c j < 256) : Byt (cl c m) := fun x hx => by
  obtain ⟨j, hj, rfl⟩ := List.mem_map.1 hx
  exact h j (List.mem_range.1 hj)
theorem bcd_byt {c : Nat → Int} {n : Nat} (hC : Ch c n) (k : Nat) : Byt (bcd c n k) := by
  unfold bcd
  split
  · intro x hx; cases hx
  · have := grp_le c n k
    exact cl_byt' fun j hj => hC.1 _ (by omega)
theorem cmK_le {c : Nat → Int} {n i : Nat} (h : i < n) : i + 1 ≤ cmK c n i ∧ cmK c n i ≤ n := ⟨ps_ge ltB c n (i + 1), ps_le ltB c h⟩
theorem cmN_byt {c : Nat → Int} {n : Nat} (hC : Ch c n) {i : Nat} (h : i < n) : Byt (cmN c n i) := by
  have := cmK_le (c := c) h
  exact cl_byt' fun j hj => hC.1 _ (by omega)
theorem bgE_le {c : Nat → Int} {n k : Nat} (hC : Ch c n) (h : k ≤ n) : k ≤ bgE c n k ∧ bgE c n k ≤ n := by
  have h1 := gps_le c n _ k (Nat.le_refl _) h
  unfold bgE
  split
  · have := bh_le hC.2 (enT (bcd c n k)) (enT_byt (bcd_byt hC k)) (enT_ne _) (gps c n k) h1.2
    unfold unE
    omega
  · exact h1
theorem cmE_le {c : Nat → Int} {n i : Nat} (hC : Ch c n) (h : i < n) : i < cmE c n i ∧ cmE c n i ≤ n := by
  have h1 := cmK_le (c := c) h
  have h2 := vbE_le hC (k := cmK c n i) h1.2
  have h3 := bgE_le hC (k := cmK c n i) h1.2
  have h4 := gps_le c n _ (cmK c n i) (Nat.le_refl _) h1.2
  unfold cmE
  split
  · omega
  · split
    · omega
    · split <;> omega
theorem in_of {c : Nat → Int} {n : Nat} (hC : Ch c n) {i : Nat} (h : 0 ≤ c i) : i < n := by
  rcases Nat.lt_or_ge i n with h1 | h1
  · exact h1
  · rw [hC.2 i h1] at h; exact absurd h (by decide)
theorem bkE_le {c : Nat → Int} {n i : Nat} (hC : Ch c n) (h : i < n) : i < bkE c n i ∧ bkE c n i ≤ n := by
  unfold bkE
  split
  · rename_i h1
    have := in_of hC (i := i + 1) (by omega)
    have := bh_le hC.2 [92, 41] (byt_lit _ rfl) (by simp) (i + 2) (by omega)
    omega
  · split
    · rename_i h1
      have := in_of hC (i := i + 1) (by omega)
      have := bh_le hC.2 [92, 93] (byt_lit _ rfl) (by simp) (i + 2) (by omega)
      omega
    · split
      · exact cmE_le hC h
      · have := wdE_le (bs c n) (p := i + 1) (by rw [bs_size]; omega)
        rw [bs_size] at this
        omega
theorem mtE_le {c : Nat → Int} {n i : Nat} (h : i < n) : i < mtE c n i ∧ mtE c n i ≤ n := by
  have h1 := (sk_le (oc (mqS c i) c) c n _ (i + (mqS c i).length) (Nat.le_refl _)).1
  have h2 : 1 ≤ (mqS c i).length := by unfold mqS; split <;> decide
  unfold mtE mtK
  omega
theorem nxE_le {c : Nat → Int} {n i : Nat} (hC : Ch c n) (h : i < n) : i < nxE c n i ∧ nxE c n i ≤ n := by
  unfold nxE
  split
  · exact bh_gt hC h
  · split
    · exact mtE_le h
    · split
      · exact bkE_le hC h
      · omega
/-- All of it. -/
def lxG (c : Nat → Int) (n : Nat) : Nat → Nat → (Nat → Int) → (Nat → Int)
  | 0, _, L => L
  | k + 1, i, L => if n ≤ i then L else lxG c n k (nxE c n i) (nxL L c n i)
def lx (c : Nat → Int) (n i : Nat) (L : Nat → Int) : Nat → Int := lxG c n (n - i) i L
theorem lxG_more {c : Nat → Int} {n : Nat} (hC : Ch c n) : ∀ k m i L, n - i ≤ k → n - i ≤ m → lxG c n k i L = lxG c n m i L
  | 0, m, i, L, h1, h2 => by
    cases m with
    | zero => rfl
    | succ m =>
      show L = if n ≤ i then L else _
      rw [if_pos (by omega)]
  | k + 1, 0, i, L, h1, h2 => by
    show (if n ≤ i then L else _) = L
    rw [if_pos (by omega)]
  | k + 1, m + 1, i, L, h1, h2 => by
    show (if n ≤ i then L else lxG c n k (nxE c n i) (nxL L c n i)) = (if n ≤ i then L else lxG c n m (nxE c n i) (nxL L c n i))
    by_cases h : n ≤ i
    · rw [if_pos h, if_pos h]
    · have ha := nxE_le hC (i := i) (by omega)
      rw [lxG_more hC k m (nxE c n i) _ (by omega) (by omega)]
theorem lx_end {c : Nat → Int} {n i : Nat} (h : n ≤ i) (L : Nat → Int) : lx c n i L = L := by
  unfold lx
  rw [show n - i = 0 by omega]
  rfl
theorem lx_one {c : Nat → Int} {n i : Nat} (hC : Ch c n) (h : i < n) (L : Nat → Int) : lx c n i L = lx c n (nxE c n i) (nxL L c n i) := by
  have ha := nxE_le hC h
  unfold lx
  rw [lxG_more hC (n - nxE c n i) (n - (i + 1)) (nxE c n i) _ (by omega) (by omega)]
  rw [show n - i = (n - (i + 1)) + 1 by omega]
  show (if n ≤ i then L else _) = _
  rw [if_neg (by omega)]
/-- The labels of a file. -/
def lxA (c : Nat → Int) (n : Nat) : Nat → Int := lx c n 0 (fun _ => 1)
end Go.Proofs.YtlgfmhhhecaddaaDoor
