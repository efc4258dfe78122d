/- What a file asks, plainly. -/
import Derived.Test.YteeeekpeokgaeaaDoorPkChk2
import Derived.Test.YteeeekpeokgaeaaDoorkKit
import Derived.Test.YteeeekpeokgaeaaDoorPkKA3
namespace Go.Proofs.YteeeekpeokgaeaaDoor
set_option linter.unusedVariables false
open Go.RowKit Lns Tns
/-- The marks. -/
def sMark : ByteArray := ⟨#[115, 112, 101, 108, 108, 58]⟩
def sOff : ByteArray := ⟨#[111, 102, 102]⟩
def sOn : ByteArray := ⟨#[111, 110]⟩
def sLine : ByteArray := ⟨#[108, 105, 110, 101]⟩
def sNext : ByteArray := ⟨#[110, 101, 120, 116]⟩
def sWords : ByteArray := ⟨#[119, 111, 114, 100, 115]⟩
/-- Where the letters a to z end that stand from a place on. -/
def lowB (b : Nat) : Bool := decide (97 ≤ b) && decide (b ≤ 122)
def lowF (s : ByteArray) : Nat → Nat → Nat
  | 0, e => e
  | f + 1, e => bif decide (e < s.size) && lowB (bt s e) then lowF s f (e + 1) else e
def low (s : ByteArray) (e : Nat) : Nat := lowF s (s.size - e) e
theorem low_on {s : ByteArray} {e : Nat} (h : e < s.size) (hb : lowB (bt s e) = true) : low s e = low s (e + 1) := by
  unfold low
  rw [show s.size - e = (s.size - (e + 1)) + 1 by omega]
  show (bif decide (e < s.size) && lowB (bt s e) then lowF s (s.size - (e + 1)) (e + 1) else e) = _
  rw [hb, show decide (e < s.size) = true by simpa using h]
  rfl
theorem low_no {s : ByteArray} {e : Nat} (hb : lowB (bt s e) = false) : low s e = e := by
  unfold low
  cases s.size - e with
  | zero => rfl
  | succ f =>
    show (bif decide (e < s.size) && lowB (bt s e) then lowF s f (e + 1) else e) = _
    rw [hb, Bool.and_false]
    rfl
theorem low_end {s : ByteArray} {e : Nat} (h : s.size ≤ e) : low s e = e := by
  unfold low
  rw [show s.size - e = 0 by omega]
  rfl
theorem low_ge {s : ByteArray} : ∀ d e, e + d = s.size → e ≤ low s e ∧ low s e ≤ s.size
  | 0, e, h => by rw [low_end (by omega)]; omega
  | d + 1, e, h => by
    cases hb : lowB (bt s e)
    · rw [low_no hb]; omega
    · rw [low_on (by omega) hb]
      have := low_ge (s := s) d (e + 1) (by omega)
      omega
theorem low_all {s : ByteArray} : ∀ d e, e + d = s.size → ∀ j, e ≤ j → j < low s e → lowB (bt s j) = true
  | 0, e, h, j, h1, h2 => by rw [low_end (by omega)] at h2; omega
  | d + 1, e, h, j, h1, h2 => by
    cases hb : lowB (bt s e)
    · rw [low_no hb] at h2; omega
    · rw [low_on (by omega) hb] at h2
      rcases Nat.eq_or_lt_of_le h1 with he | he
      · subst he; exact hb
      · exact low_all d (e + 1) (by omega) j he h2
theorem low_not {s : ByteArray} : ∀ d e, e + d = s.size → low s e = s.size ∨ lowB (bt s (low s e)) = false
  | 0, e, h => by rw [low_end (by omega)]; omega
  | d + 1, e, h => by
    cases hb : lowB (bt s e)
    · rw [low_no hb]; exact Or.inr hb
    · rw [low_on (by omega) hb]; exact low_not d (e + 1) (by omega)
/-- What stands between words. -/
def blB (b : Nat) : Bool := decide (b = 32) || decide (b = 9) || decide (b = 44)
def skF (s : ByteArray) : Nat → Nat → Nat
  | 0, i => i
  | f + 1, i => bif decide (i < s.size) && blB (bt s i) then skF s f (i + 1) else i
def sk (s : ByteArray) (i : Nat) : Nat := skF s (s.size - i) i
theorem sk_on {s : ByteArray} {e : Nat} (h : e < s.size) (hb : blB (bt s e) = true) : sk s e = sk s (e + 1) := by
  unfold sk
  rw [show s.size - e = (s.size - (e + 1)) + 1 by omega]
  show (bif decide (e < s.size) && blB (bt s e) then skF s (s.size - (e + 1)) (e + 1) else e) = _
  rw [hb, show decide (e < s.size) = true by simpa using h]
  rfl
theorem sk_no {s : ByteArray} {e : Nat} (hb : blB (bt s e) = false) : sk s e = e := by
  unfold sk
  cases s.size - e with
  | zero => rfl
  | succ f =>
    show (bif decide (e < s.size) && blB (bt s e) then skF s f (e + 1) else e) = _
    rw [hb, Bool.and_false]
    rfl
theorem sk_end {s : ByteArray} {e : Nat} (h : s.size ≤ e) : sk s e = e := by
  unfold sk
  rw [show s.size - e = 0 by omega]
  rfl
theorem sk_ge {s : ByteArray} : ∀ d e, e + d = s.size → e ≤ sk s e ∧ sk s e ≤ s.size
  | 0, e, h => by rw [sk_end (by omega)]; omega
  | d + 1, e, h => by
    cases hb : blB (bt s e)
    · rw [sk_no hb]; omega
    · rw [sk_on (by omega) hb]
      have := sk_ge (s := s) d (e + 1) (by omega)
      omega
/-- A text from a place on. -/
def frm (s : ByteArray) (i : Nat) : ByteArray := s.extract i s.size
theorem ext_sub (s : ByteArray) (p q : Nat) : s.extract p q = sub s p q := by
  apply ByteArray.ext
  rw [ByteArray.data_extract]
  rfl
theorem ext_bt {s : ByteArray} {p q i : Nat} (h : q ≤ s.size) (hi : i < q - p) : bt (s.extract p q) i = bt s (p + i) := by
  unfold bt
  rw [ext_sub, sub_get s p q i h hi]
theorem frm_size (s : ByteArray) (i : Nat) : (frm s i).size = s.size - i := by
  unfold frm
  rw [ByteArray.size_extract]
  omega
theorem frm_bt {s : ByteArray} {i j : Nat} (h : i + j < s.size) : bt (frm s i) j = bt s (i + j) := ext_bt (Nat.le_refl _) (by omega)
theorem frm_frm (s : ByteArray) (i j : Nat) : frm (frm s i) j = frm s (i + j) := by
  apply ByteArray.ext
  unfold frm
  rw [ByteArray.data_extract, ByteArray.data_extract, ByteArray.data_extract, Array.extract_extract, ByteArray.size_extract]
  congr 1
  show min (i + (min s.size s.size - i)) s.size = s.size
  omega
theorem frm_zero (s : ByteArray) : frm s 0 = s := by
  apply ByteArray.ext
  unfold frm
  rw [ByteArray.data_extract]
  exact Array.extract_size
/-- Does a sign belong to a word? -/
def wsB (r : Int) : Bool := lB r || (r == 39)
def weF (s : ByteArray) : Nat → Nat → Nat
  | 0, p => p
  | f + 1, p => bif decide (p < s.size) && wsB (rn s p) then weF s f (p + wd s p) else p
/-- Where the word ends that a text begins with. -/
def we (s : ByteArray) : Nat := weF s s.size 0
/-- The words that a text has, up to what is none. -/
def knF : Nat → ByteArray → List ByteArray
  | 0, _ => []
  | f + 1, s => bif decide (chk ((frm s (sk s 0)).extract 0 (we (frm s (sk s 0)))) = 0) then fld ((frm s (sk s 0)).extract 0 (we (frm s (sk s 0)))) :: knF f (frm (frm s (sk s 0)) (we (frm s (sk s 0)))) else []
def knw (s : ByteArray) : List ByteArray := knF (s.size + 1) s
/-- What was asked so far. -/
structure Ps where
  o : Bool
  a : Bool
  x : Bool
  w : List ByteArray
/-- One text that is asked, and what stands behind it. -/
def ask (t rest : ByteArray) (p : Ps) : Ps :=
  if t = sOff then { p with o := true, a := true }
  else if t = sLine then { p with a := true }
  else if t = sOn then { p with o := false }
  else if t = sNext then { p with x := true }
  else if t = sWords then { p with w := p.w ++ knw rest }
  else p
/-- A line, from a place on. -/
def scF (s : ByteArray) : Nat → Nat → Ps → Ps
  | 0, _, p => p
  | f + 1, k, p =>
    if k + 6 ≤ s.size then
      (if s.extract k (k + 6) = sMark then scF s f (low s (k + 6)) (ask (s.extract (k + 6) (low s (k + 6))) (frm s (low s (k + 6))) p) else scF s f (k + 1) p)
    else p
def scn (s : ByteArray) (k : Nat) (p : Ps) : Ps := scF s (s.size - k) k p
theorem scF_end {s : ByteArray} {k : Nat} (h : s.size < k + 6) : ∀ f p, scF s f k p = p
  | 0, p => rfl
  | f + 1, p => by
    show (if k + 6 ≤ s.size then _ else p) = p
    rw [if_neg (by omega)]
theorem scF_any {s : ByteArray} : ∀ f g k p, s.size ≤ k + f → s.size ≤ k + g → scF s f k p = scF s g k p
  | 0, g, k, p, h1, h2 => by rw [scF_end (by omega) g p]; rfl
  | f + 1, 0, k, p, h1, h2 => by rw [scF_end (by omega) (f + 1) p]; rfl
  | f + 1, g + 1, k, p, h1, h2 => by
    show (if k + 6 ≤ s.size then (if s.extract k (k + 6) = sMark then scF s f (low s (k + 6)) _ else scF s f (k + 1) p) else p) = (if k + 6 ≤ s.size then (if s.extract k (k + 6) = sMark then scF s g (low s (k + 6)) _ else scF s g (k + 1) p) else p)
    by_cases hk : k + 6 ≤ s.size
    · rw [if_pos hk, if_pos hk]
      have hl := low_ge (s := s) (s.size - (k + 6)) (k + 6) (by omega)
      by_cases hm : s.extract k (k + 6) = sMark
      · rw [if_pos hm, if_pos hm]
        exact scF_any f g _ _ (by omega) (by omega)
      · rw [if_neg hm, if_neg hm]
        exact scF_any f g _ _ (by omega) (by omega)
    · rw [if_neg hk, if_neg hk]
theorem scn_end {s : ByteArray} {k : Nat} {p : Ps} (h : s.size < k + 6) : scn s k p = p := scF_end h _ _
theorem scn_no {s : ByteArray} {k : Nat} {p : Ps} (hk : k + 6 ≤ s.size) (hm : ¬ s.extract k (k + 6) = sMark) : scn s k p = scn s (k + 1) p := by
  unfold scn
  rw [show s.size - k = (s.size - (k + 1)) + 1 by omega]
  show (if k + 6 ≤ s.size then (if s.extract k (k + 6) = sMark then scF s _ (low s (k + 6)) _ else scF s (s.size - (k + 1)) (k + 1) p) else p) = _
  rw [if_pos hk, if_neg hm]
theorem scn_yes {s : ByteArray} {k : Nat} {p : Ps} (hk : k + 6 ≤ s.size) (hm : s.extract k (k + 6) = sMark) : scn s k p = scn s (low s (k + 6)) (ask (s.extract (k + 6) (low s (k + 6))) (frm s (low s (k + 6))) p) := by
  have hl := low_ge (s := s) (s.size - (k + 6)) (k + 6) (by omega)
  have e : scn s k p = scF s ((s.size - (k + 1)) + 1) k p := by
    unfold scn
    rw [show s.size - k = (s.size - (k + 1)) + 1 by omega]
  rw [e]
  show (if k + 6 ≤ s.size then (if s.extract k (k + 6) = sMark then scF s (s.size - (k + 1)) (low s (k + 6)) _ else _) else p) = _
  rw [if_pos hk, if_pos hm]
  exact scF_any _ _ _ _ (by omega) (by omega)
/-- What is known behind so many lines. -/
structure Rd where
  o : Bool
  x : Bool
  r : List (Nat × Nat)
  w : List ByteArray
def stp (s : ByteArray) (at_ : Nat) (p : Rd) : Rd :=
  let q := scn s 0 ⟨p.o, p.o || p.x, false, p.w⟩
  ⟨q.o, q.x, bif q.a then p.r ++ [(at_, s.size)] else p.r, q.w⟩
def rdL (s : ByteArray) : Nat → Rd
  | 0 => ⟨false, false, [], []⟩
  | j + 1 => stp (line s j) (S s j) (rdL s j)
def rdA (s : ByteArray) : Rd := rdL s (nL s)
/-- Does a place lie on one of the lines? -/
def offB (l : List (Nat × Nat)) (at_ : Int) : Bool := l.any fun p => decide ((p.1 : Int) ≤ at_) && decide (at_ < ((p.1 + p.2 : Nat) : Int))
end Go.Proofs.YteeeekpeokgaeaaDoor
/- ref.tail. -/
namespace Go.Proofs.YteeeekpeokgaeaaDoor.Lns
set_option linter.unusedVariables false
open Go.RowKit Go.ChangeShapes
theorem tail_any (b off n cap i x : Nat) (w : World) (hx : i < n → w.cell? ⟨b, off + i, none⟩ = some (.int .u8 x)) :
    Calls Tryd.prog 61 #[.slice (some ⟨b, off, none⟩) n cap, .int .i64 i] w fun e w' => e = .returned (.bool (tailB n i x)) ∧ w' = w := by
  by_cases h : i < n
  · have hc := hx h
    have h' : (i : Int) < (n : Int) := by omega
    have h0 : (0 : Int) ≤ (i : Int) := by omega
    by_cases h1 : 128 ≤ x
    · have h1' : (128 : Int) ≤ (x : Int) := by omega
      have ht : tailB n i x = decide ((x : Int) < 192) := by simp only [tailB, h, h1, decide_true, Bool.true_and]; exact decide_eq_decide.2 (by omega)
      rw [ht]
      go_enter Tryd.func61, Tryd.ntmps61
      go_wp2
      go_ret
      exact ⟨rfl, rfl⟩
    · have h1' : ¬ (128 : Int) ≤ (x : Int) := by omega
      have ht : tailB n i x = false := by simp [tailB, h1]
      rw [ht]
      go_enter Tryd.func61, Tryd.ntmps61
      go_wp2
      go_ret
      exact ⟨rfl, rfl⟩
  · have h' : ¬ (i : Int) < (n : Int) := by omega
    have ht : tailB n i x = false := by simp [tailB, h]
    rw [ht]
    go_enter Tryd.func61, Tryd.ntmps61
    go_wp2
    go_ret
    exact ⟨rfl, rfl⟩
end Go.Proofs.YteeeekpeokgaeaaDoor.Lns
/- ref.Next. -/
namespace Go.Proofs.YteeeekpeokgaeaaDoor.Lns
set_option linter.unusedVariables false
open Go.RowKit Go.ChangeShapes

set_option maxRecDepth 100000 in
set_option maxHeartbeats 4000000 in
theorem rnext_one (b off n cap x0 x1 x2 x3 : Nat) (w : World) (hn : (0 : Int) < (n : Int)) (c0 : w.cell? ⟨b, off, none⟩ = some (.int .u8 x0)) (c1 : 1 < n → w.cell? ⟨b, off + 1, none⟩ = some (.int .u8 x1)) (c2 : 2 < n → w.cell? ⟨b, off + 2, none⟩ = some (.int .u8 x2)) (c3 : 3 < n → w.cell? ⟨b, off + 3, none⟩ = some (.int .u8 x3)) (l0 : x0 < 256) (l1 : x1 < 256) (l2 : x2 < 256) (l3 : x3 < 256) (h : x0 < 128) :
    Calls Tryd.prog 47 #[.slice (some ⟨b, off, none⟩) n cap] w fun e w' => e = .returned (.tuple #[.int .i32 (kn (Go.Lib.decodeN n x0 x1 x2 x3)), .int .i64 (Go.Lib.decodeN n x0 x1 x2 x3).2]) ∧ Below w.heap.size w w' := by
  rw [dec_one n x0 x1 x2 x3 h, show kn (x0, 1) = x0 by unfold kn; rw [if_neg (by simp; omega)]]
  have h' : (x0 : Int) < 128 := by omega
  go_enter Tryd.func47, Tryd.ntmps47
  go_wp2
  go_ret2
  exact ⟨rfl, Below.refl _ _⟩

set_option maxRecDepth 100000 in
set_option maxHeartbeats 4000000 in
theorem rnext_bad (b off n cap x0 x1 x2 x3 : Nat) (w : World) (hn : (0 : Int) < (n : Int)) (c0 : w.cell? ⟨b, off, none⟩ = some (.int .u8 x0)) (c1 : 1 < n → w.cell? ⟨b, off + 1, none⟩ = some (.int .u8 x1)) (c2 : 2 < n → w.cell? ⟨b, off + 2, none⟩ = some (.int .u8 x2)) (c3 : 3 < n → w.cell? ⟨b, off + 3, none⟩ = some (.int .u8 x3)) (l0 : x0 < 256) (l1 : x1 < 256) (l2 : x2 < 256) (l3 : x3 < 256) (h : 128 ≤ x0) (h0 : x0 < 192 ∨ 248 ≤ x0) :
    Calls Tryd.prog 47 #[.slice (some ⟨b, off, none⟩) n cap] w fun e w' => e = .returned (.tuple #[.int .i32 (kn (Go.Lib.decodeN n x0 x1 x2 x3)), .int .i64 (Go.Lib.decodeN n x0 x1 x2 x3).2]) ∧ Below w.heap.size w w' := by
  rw [dec_bad n x0 x1 x2 x3 h h0 l0, kn_bad]
  have h' : ¬ (x0 : Int) < 128 := by omega
  rcases h0 with h0 | h0
  · have a1 : ¬ (192 : Int) ≤ x0 := by omega
    have a2 : ¬ (224 : Int) ≤ x0 := by omega
    have a3 : ¬ (240 : Int) ≤ x0 := by omega
    go_enter Tryd.func47, Tryd.ntmps47
    go_wp2
    go_ret2
    exact ⟨rfl, Below.refl _ _⟩
  · have a1 : (192 : Int) ≤ x0 := by omega
    have a2 : (224 : Int) ≤ x0 := by omega
    have a3 : (240 : Int) ≤ x0 := by omega
    have a4 : ¬ (x0 : Int) < 224 := by omega
    have a5 : ¬ (x0 : Int) < 240 := by omega
    have a6 : ¬ (x0 : Int) < 248 := by omega
    go_enter Tryd.func47, Tryd.ntmps47
    go_wp2
    go_ret2
    exact ⟨rfl, Below.refl _ _⟩

set_option maxRecDepth 100000 in
set_option maxHeartbeats 4000000 in
theorem rnext_two (b off n cap x0 x1 x2 x3 : Nat) (w : World) (hn : (0 : Int) < (n : Int)) (c0 : w.cell? ⟨b, off, none⟩ = some (.int .u8 x0)) (c1 : 1 < n → w.cell? ⟨b, off + 1, none⟩ = some (.int .u8 x1)) (c2 : 2 < n → w.cell? ⟨b, off + 2, none⟩ = some (.int .u8 x2)) (c3 : 3 < n → w.cell? ⟨b, off + 3, none⟩ = some (.int .u8 x3)) (l0 : x0 < 256) (l1 : x1 < 256) (l2 : x2 < 256) (l3 : x3 < 256) (h0 : 192 ≤ x0) (h1 : x0 < 224) :
    Calls Tryd.prog 47 #[.slice (some ⟨b, off, none⟩) n cap] w fun e w' => e = .returned (.tuple #[.int .i32 (kn (Go.Lib.decodeN n x0 x1 x2 x3)), .int .i64 (Go.Lib.decodeN n x0 x1 x2 x3).2]) ∧ Below w.heap.size w w' := by
  have b128 : ¬ (x0 : Int) < 128 := by omega
  have g192 : (192 : Int) ≤ x0 := by omega
  have g224 : ¬ (224 : Int) ≤ x0 := by omega
  have g240 : ¬ (240 : Int) ≤ x0 := by omega
  have s224 : (x0 : Int) < 224 := by omega
  have s240 : (x0 : Int) < 240 := by omega
  have s248 : (x0 : Int) < 248 := by omega
  have ct1 := tail_any b off n cap 1 x1 w c1
  cases t1 : tailB n 1 x1
  · rw [dec_two_no n x0 x1 x2 x3 h0 h1 l1 (Or.inl t1), kn_bad]
    rw [t1] at ct1
    go_enter Tryd.func47, Tryd.ntmps47
    go_wp2_with (go_at_call 61; refine ct1.mono ?_; rintro e w' ⟨rfl, rfl⟩)
    go_ret2
    exact ⟨rfl, Below.refl _ _⟩
  · have t1' := (tailB_iff _ _ _).1 t1
    have i1 : (1 : Int) < (n : Int) := by omega
    have z1 := c1 t1'.1
    have e1 : (128 : Int) ≤ x1 := by omega
    have e2 : (x1 : Int) < 192 := by omega
    rw [t1] at ct1
    by_cases hr : 128 ≤ ((x0 : Int) - 192) * 64 + x1 - 128
    · obtain ⟨r1, r2⟩ := dec_two n x0 x1 x2 x3 h0 h1 l1 t1 hr
      rw [r1, r2]
      clear r1 r2 t1
      go_enter Tryd.func47, Tryd.ntmps47
      go_wp2_with (go_at_call 61; refine ct1.mono ?_; rintro e w' ⟨rfl, rfl⟩)
      go_ret2
      exact ⟨rfl, Below.refl _ _⟩
    · rw [dec_two_no n x0 x1 x2 x3 h0 h1 l1 (Or.inr (by omega)), kn_bad]
      clear t1
      go_enter Tryd.func47, Tryd.ntmps47
      go_wp2_with (go_at_call 61; refine ct1.mono ?_; rintro e w' ⟨rfl, rfl⟩)
      go_ret2
      exact ⟨rfl, Below.refl _ _⟩
end Go.Proofs.YteeeekpeokgaeaaDoor.Lns
