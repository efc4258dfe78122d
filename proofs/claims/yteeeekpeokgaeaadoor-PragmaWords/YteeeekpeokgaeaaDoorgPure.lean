/- Signs and their bytes: no program in this text. -/
import Derived.Lib.DecodeNEq
namespace Go.Proofs.YteeeekpeokgaeaaDoor
set_option linter.unusedVariables false
open Go.Lib

/-- May a rune be put? -/
def okR (r : Int) : Bool := decide (0 ≤ r) && (decide (r < 55296) || decide (57343 < r)) && decide (r ≤ 1114111)
/-- How many bytes it has. -/
def lenR (r : Int) : Nat := if r < 128 then 1 else if r < 2048 then 2 else if r < 65536 then 3 else 4
/-- Its bytes; none, if it can't be put. -/
def enc (r : Int) : List Int :=
  if okR r = false then [] else
  if r < 128 then [r] else
  if r < 2048 then [192 + r / 64, 128 + r % 64] else
  if r < 65536 then [224 + r / 4096, 128 + r / 64 % 64, 128 + r % 64] else
  [240 + r / 262144, 128 + r / 4096 % 64, 128 + r / 64 % 64, 128 + r % 64]
/-- The rune that is told of a decoding: -1 where there is no sign. -/
def kn (d : Nat × Nat) : Int := if d.1 = 65533 ∧ d.2 < 2 then -1 else (d.1 : Int)
def rn (s : ByteArray) (i : Nat) : Int := kn (Utf8.decode s i)
def wd (s : ByteArray) (i : Nat) : Nat := (Utf8.decode s i).2
def bt (s : ByteArray) (i : Nat) : Nat := (s.get! i).toNat
theorem bt_lt (s : ByteArray) (i : Nat) : bt s i < 256 := (s.get! i).toNat_lt

theorem enc_len (r : Int) (h : okR r = true) : (enc r).length = lenR r := by
  unfold enc lenR
  simp only [h, Bool.true_eq_false, if_false]
  repeat' split
  all_goals rfl
theorem lenR_pos (r : Int) : 1 ≤ lenR r ∧ lenR r ≤ 4 := by unfold lenR; repeat' split
                                                           all_goals omega
theorem enc_bad (r : Int) (h : okR r = false) : enc r = [] := by unfold enc; simp [h]

/-- The bytes at a place begin with a rune's. -/
def Sign (s : ByteArray) (i : Nat) (r : Int) : Prop := okR r = true ∧ i + lenR r ≤ s.size ∧ ∀ j x, (enc r)[j]? = some x → (bt s (i + j) : Int) = x

theorem okR_iff (r : Int) : okR r = true ↔ 0 ≤ r ∧ (r < 55296 ∨ 57343 < r) ∧ r ≤ 1114111 := by
  unfold okR
  simp only [Bool.and_eq_true, Bool.or_eq_true, decide_eq_true_eq, and_assoc]

set_option maxRecDepth 100000 in
set_option maxHeartbeats 4000000 in
theorem decodeN_enc (n b0 b1 b2 b3 : Nat) (r : Int) (h : okR r = true) (hn : lenR r ≤ n)
    (h0 : ∀ j x, (enc r)[j]? = some x → ((if j = 0 then b0 else if j = 1 then b1 else if j = 2 then b2 else b3 : Nat) : Int) = x) :
    decodeN n b0 b1 b2 b3 = (r.toNat, lenR r) := by
  have hv := (okR_iff r).1 h
  have hl := enc_len r h
  unfold enc at h0
  simp only [h, Bool.true_eq_false, if_false] at h0
  unfold lenR at hn ⊢
  by_cases c1 : r < 128
  · simp only [c1, if_true] at h0 hn ⊢
    have e0 := h0 0 _ rfl
    simp only [if_true] at e0
    unfold decodeN
    rw [if_pos (by omega)]
    apply Prod.ext <;> simp only <;> omega
  · by_cases c2 : r < 2048
    · simp only [c1, c2, if_true, if_false] at h0 hn ⊢
      have e0 := h0 0 _ rfl
      have e1 := h0 1 _ rfl
      simp only [if_true, Nat.reduceEqDiff, if_false] at e0 e1
      unfold decodeN
      repeat' split
      all_goals first | (exfalso; omega) | (apply Prod.ext <;> simp only <;> omega)
    · by_cases c3 : r < 65536
      · simp only [c1, c2, c3, if_true, if_false] at h0 hn ⊢
        have e0 := h0 0 _ rfl
        have e1 := h0 1 _ rfl
        have e2 := h0 2 _ rfl
        simp only [if_true, Nat.reduceEqDiff, if_false] at e0 e1 e2
        unfold decodeN
        repeat' split
        all_goals first | (exfalso; omega) | (apply Prod.ext <;> simp only <;> omega)
      · simp only [c1, c2, c3, if_false] at h0 hn ⊢
        have e0 := h0 0 _ rfl
        have e1 := h0 1 _ rfl
        have e2 := h0 2 _ rfl
        have e3 := h0 3 _ rfl
        simp only [if_true, Nat.reduceEqDiff, if_false] at e0 e1 e2 e3
        unfold decodeN
        repeat' split
        all_goals first | (exfalso; omega) | (apply Prod.ext <;> simp only <;> omega)

set_option maxRecDepth 100000 in
set_option maxHeartbeats 4000000 in
/-- A decoding is of no sign, or of one: then its bytes stand there. -/
theorem decodeN_cases (n b0 b1 b2 b3 : Nat) (hn : 1 ≤ n) (l0 : b0 < 256) (l1 : b1 < 256) (l2 : b2 < 256) (l3 : b3 < 256) :
    decodeN n b0 b1 b2 b3 = (65533, 1) ∨
    (∃ r : Nat, okR r = true ∧ decodeN n b0 b1 b2 b3 = (r, lenR r) ∧ lenR r ≤ n ∧
      ∀ j x, (enc r)[j]? = some x → ((if j = 0 then b0 else if j = 1 then b1 else if j = 2 then b2 else b3 : Nat) : Int) = x) := by
  obtain ⟨d, hd⟩ : ∃ d, decodeN n b0 b1 b2 b3 = d := ⟨_, rfl⟩
  rw [hd]
  unfold decodeN at hd
  have key : ∀ (r k : Nat), okR r = true → lenR r = k → k ≤ n → (∀ j x, (enc r)[j]? = some x → ((if j = 0 then b0 else if j = 1 then b1 else if j = 2 then b2 else b3 : Nat) : Int) = x) → d = (r, k) →
      d = (65533, 1) ∨ (∃ r : Nat, okR r = true ∧ d = (r, lenR r) ∧ lenR r ≤ n ∧ ∀ j x, (enc r)[j]? = some x → ((if j = 0 then b0 else if j = 1 then b1 else if j = 2 then b2 else b3 : Nat) : Int) = x) :=
    fun r k h1 h2 h3 h4 h5 => Or.inr ⟨r, h1, by rw [h2]; exact h5, by rw [h2]; exact h3, h4⟩
  split at hd
  · -- one byte
    have ho : okR (b0 : Int) = true := (okR_iff _).2 (by omega)
    refine key b0 1 ho (by unfold lenR; rw [if_pos (by omega)]) hn ?_ hd.symm
    intro j x hx
    unfold enc at hx
    rw [if_neg (by simp [ho]), if_pos (by omega)] at hx
    match j, hx with
    | 0, hx => simp at hx; subst hx; rfl
    | j + 1, hx => simp at hx
  · split at hd
    · split at hd
      · have ho : okR ((b0 % 32 * 64 + b1 % 64 : Nat) : Int) = true := (okR_iff _).2 (by omega)
        refine key _ 2 ho (by unfold lenR; rw [if_neg (by omega), if_pos (by omega)]) (by omega) ?_ hd.symm
        intro j x hx
        unfold enc at hx
        rw [if_neg (by simp only [ho]; simp), if_neg (by omega), if_pos (by omega)] at hx
        match j, hx with
        | 0, hx => simp only [List.getElem?_cons_zero, Option.some.injEq] at hx; subst hx; simp only [if_true]; omega
        | 1, hx => simp only [List.getElem?_cons_zero, List.getElem?_cons_succ, Option.some.injEq] at hx; subst hx; simp only [if_true, Nat.reduceEqDiff, if_false]; omega
        | j + 2, hx => simp at hx
      · exact Or.inl hd.symm
    · split at hd
      · split at hd
        · have ho : okR ((b0 % 16 * 4096 + b1 % 64 * 64 + b2 % 64 : Nat) : Int) = true := (okR_iff _).2 (by omega)
          refine key _ 3 ho (by unfold lenR; rw [if_neg (by omega), if_neg (by omega), if_pos (by omega)]) (by omega) ?_ hd.symm
          intro j x hx
          unfold enc at hx
          rw [if_neg (by simp only [ho]; simp), if_neg (by omega), if_neg (by omega), if_pos (by omega)] at hx
          match j, hx with
          | 0, hx => simp only [List.getElem?_cons_zero, Option.some.injEq] at hx; subst hx; simp only [if_true]; omega
          | 1, hx => simp only [List.getElem?_cons_zero, List.getElem?_cons_succ, Option.some.injEq] at hx; subst hx; simp only [if_true, Nat.reduceEqDiff, if_false]; omega
          | 2, hx => simp only [List.getElem?_cons_zero, List.getElem?_cons_succ, Option.some.injEq] at hx; subst hx; simp only [if_true, Nat.reduceEqDiff, if_false]; omega
          | j + 3, hx => simp at hx
        · exact Or.inl hd.symm
      · split at hd
        · split at hd
          · have ho : okR ((b0 % 8 * 262144 + b1 % 64 * 4096 + b2 % 64 * 64 + b3 % 64 : Nat) : Int) = true := (okR_iff _).2 (by omega)
            refine key _ 4 ho (by unfold lenR; rw [if_neg (by omega), if_neg (by omega), if_neg (by omega)]) (by omega) ?_ hd.symm
            intro j x hx
            unfold enc at hx
            rw [if_neg (by simp only [ho]; simp), if_neg (by omega), if_neg (by omega), if_neg (by omega)] at hx
            match j, hx with
            | 0, hx => simp only [List.getElem?_cons_zero, Option.some.injEq] at hx; subst hx; simp only [if_true]; omega
            | 1, hx => simp only [List.getElem?_cons_zero, List.getElem?_cons_succ, Option.some.injEq] at hx; subst hx; simp only [if_true, Nat.reduceEqDiff, if_false]; omega
            | 2, hx => simp only [List.getElem?_cons_zero, List.getElem?_cons_succ, Option.some.injEq] at hx; subst hx; simp only [if_true, Nat.reduceEqDiff, if_false]; omega
            | 3, hx => simp only [List.getElem?_cons_zero, List.getElem?_cons_succ, Option.some.injEq] at hx; subst hx; simp only [Nat.reduceEqDiff, if_false]; omega
            | j + 4, hx => simp at hx
          · exact Or.inl hd.symm
        · exact Or.inl hd.symm

theorem sel (s : ByteArray) (i : Nat) (r : Int) (hok : okR r = true) : (∀ j x, (enc r)[j]? = some x → (bt s (i + j) : Int) = x) ↔
    ∀ j x, (enc r)[j]? = some x → ((if j = 0 then bt s i else if j = 1 then bt s (i + 1) else if j = 2 then bt s (i + 2) else bt s (i + 3) : Nat) : Int) = x := by
  have hl := enc_len r hok
  have h4 := (lenR_pos r).2
  constructor
  · intro h j x hx
    rw [← h j x hx]
    have : j < (enc r).length := (List.getElem?_eq_some_iff.1 hx).1
    match j, this with
    | 0, _ => rfl
    | 1, _ => rfl
    | 2, _ => rfl
    | 3, _ => rfl
    | j + 4, h => omega
  · intro h j x hx
    rw [← h j x hx]
    have : j < (enc r).length := (List.getElem?_eq_some_iff.1 hx).1
    match j, this with
    | 0, _ => rfl
    | 1, _ => rfl
    | 2, _ => rfl
    | 3, _ => rfl
    | j + 4, h => omega

/-- D1: what is put is read. -/
theorem Sign.read {s : ByteArray} {i : Nat} {r : Int} (h : Sign s i r) : Utf8.decode s i = (r.toNat, lenR r) := by
  rw [decode_at]
  have h4 := lenR_pos r
  exact decodeN_enc _ _ _ _ _ r h.1 (by have := h.2.1; omega) ((sel s i r h.1).1 h.2.2)
theorem kn_ok {r : Int} (h : okR r = true) : kn (r.toNat, lenR r) = r := by
  have hv := (okR_iff r).1 h
  unfold kn
  rw [if_neg]
  · simp only; omega
  · simp only
    intro ⟨h1, h2⟩
    unfold lenR at h2
    rw [if_neg (by omega), if_neg (by omega), if_pos (by omega)] at h2
    omega
theorem Sign.rn {s : ByteArray} {i : Nat} {r : Int} (h : Sign s i r) : rn s i = r := by
  unfold YteeeekpeokgaeaaDoor.rn; rw [h.read]; exact kn_ok h.1
theorem Sign.wd {s : ByteArray} {i : Nat} {r : Int} (h : Sign s i r) : wd s i = lenR r := by
  unfold YteeeekpeokgaeaaDoor.wd; rw [h.read]
/-- D2: what is read is a sign, or none: then it has one byte. -/
theorem sign_or (s : ByteArray) (i : Nat) (hi : i < s.size) : Sign s i (rn s i) ∨ (Utf8.decode s i = (65533, 1) ∧ rn s i = -1 ∧ wd s i = 1) := by
  rcases decodeN_cases (s.size - i) (bt s i) (bt s (i + 1)) (bt s (i + 2)) (bt s (i + 3)) (by omega) (bt_lt _ _) (bt_lt _ _) (bt_lt _ _) (bt_lt _ _) with h | ⟨r, hok, h, hle, hb⟩
  · right
    have hd : Utf8.decode s i = (65533, 1) := by rw [decode_at]; exact h
    refine ⟨hd, ?_, ?_⟩
    · unfold rn; rw [hd]; rfl
    · unfold wd; rw [hd]
  · left
    have hs : Sign s i (r : Int) := ⟨hok, by omega, (sel s i r hok).2 hb⟩
    rw [hs.rn]; exact hs
theorem wd_pos (s : ByteArray) (i : Nat) (hi : i < s.size) : 1 ≤ wd s i ∧ i + wd s i ≤ s.size ∧ wd s i ≤ 4 := by
  rcases sign_or s i hi with h | ⟨_, _, h⟩
  · rw [h.wd]; have := lenR_pos (rn s i); have := h.2.1; omega
  · omega
theorem rn_range (s : ByteArray) (i : Nat) (hi : i < s.size) : rn s i = -1 ∨ (okR (rn s i) = true) := by
  rcases sign_or s i hi with h | ⟨_, h, _⟩
  · exact Or.inr h.1
  · exact Or.inl h

/-- The place behind so many signs. -/
def pos (s : ByteArray) : Nat → Nat
  | 0 => 0
  | k + 1 => pos s k + wd s (pos s k)
/-- There are so many signs. -/
def Ends (s : ByteArray) (k : Nat) : Prop := pos s k = s.size ∧ ∀ j, j < k → pos s j < s.size
theorem Ends.one {s : ByteArray} {k k' : Nat} (h : Ends s k) (h' : Ends s k') : k = k' := by
  rcases Nat.lt_trichotomy k k' with g | g | g
  · have := h'.2 k g; have := h.1; omega
  · exact g
  · have := h.2 k' g; have := h'.1; omega
theorem pos_ge (s : ByteArray) : ∀ k, (∀ j, j < k → pos s j < s.size) → k ≤ pos s k
  | 0, _ => Nat.zero_le _
  | k + 1, h => by
    have h1 := pos_ge s k (fun j hj => h j (by omega))
    have h2 := (wd_pos s (pos s k) (h k (by omega))).1
    simp only [pos]; omega
theorem pos_le (s : ByteArray) : ∀ k, (∀ j, j < k → pos s j < s.size) → pos s k ≤ s.size
  | 0, _ => Nat.zero_le _
  | k + 1, h => by
    have h2 := (wd_pos s (pos s k) (h k (by omega))).2.1
    simp only [pos]; exact h2
theorem Ends.le {s : ByteArray} {k : Nat} (h : Ends s k) : k ≤ s.size := by have := pos_ge s k h.2; have := h.1; omega
end Go.Proofs.YteeeekpeokgaeaaDoor
