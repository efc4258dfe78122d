/- Signs and their bytes: no program in this text. Runes put and read again: no program in this text. Small lemmas: the world that grows; no program's function in this text. What lies in memory. The library contracts at this program. utf.Runes; utf.Text. A trie in memory: the Trie's block, the row of nodes, each node's two rows. A trie in memory, changed. A trie in memory: a node more; a word more. trie.step. Tries as lists of nodes: no program in this text. trie.step as one contract; trie.add. -/
import Derived.Lib.DecodeNEq
import Derived.Laws.BytesArg
import Derived.WalkKit
import Derived.Below
import Derived.WalkSmall
import Derived.Deep.QuietTactic
import Derived.BigQuiet
import Derived.Deep.LoopGhost
import Derived.Deep.DeepFit
import Derived.OwnWalk
import Derived.Laws.AppendOwnNone
import Derived.Lib.ConvBytes
import Derived.Shelf.Small.Utf8
import Derived.Shelf.Small.Strs
import Derived.Shelf.Small.Wraps
import Derived.Shelf.Utf8.AppendRunePlain
import Derived.Shelf.Unicode.Decode
import Derived.Shelf.Unicode.DecodeSlow
import Derived.Shelf.Unicode.DecodeAny
import Derived.Deep.AppendLies
import Derived.Laws.OwnMore
import Derived.Deep.DeepCutAuto
import Derived.Test.YtfikkkodepfdkaaDoorProg
namespace Go.Proofs.YtfikkkodepfdkaaDoor
set_option linter.unusedVariables false
open Go.Lib

/-- May a rune be put? -/
def okR (r : Int) : Bool := decide (0 ≤ r) && (decide (r < 55296) || decide (57343 < r)) && decide (r ≤ 1114111)
/-- How many bytes it has. -/
def lenR (r : Int) : Nat := if r < 128 then 1 else if r < 2048 then 2 else if r < 65536 then 3 else 4
/-- Its bytes; none, if it can't be put. -/
def enc (r : Int) : List Int :=
  if okR r = false then [] else
  if r < 128 then [r] else
  if r < 2048 then [192 + r / 64, 128 + r % 64] else
  if r < 65536 then [224 + r / 4096, 128 + r / 64 % 64, 128 + r % 64] else
  [240 + r / 262144, 128 + r / 4096 % 64, 128 + r / 64 % 64, 128 + r % 64]
/-- The rune that is told of a decoding: -1 where there is no sign. -/
def kn (d : Nat × Nat) : Int := if d.1 = 65533 ∧ d.2 < 2 then -1 else (d.1 : Int)
def rn (s : ByteArray) (i : Nat) : Int := kn (Utf8.decode s i)
def wd (s : ByteArray) (i : Nat) : Nat := (Utf8.decode s i).2
def bt (s : ByteArray) (i : Nat) : Nat := (s.get! i).toNat
theorem bt_lt (s : ByteArray) (i : Nat) : bt s i < 256 := (s.get! i).toNat_lt

theorem enc_len (r : Int) (h : okR r = true) : (enc r).length = lenR r := by
  unfold enc lenR
  simp only [h, Bool.true_eq_false, if_false]
  repeat' split
  all_goals rfl
theorem lenR_pos (r : Int) : 1 ≤ lenR r ∧ lenR r ≤ 4 := by unfold lenR; repeat' split
                                                           all_goals omega
theorem enc_bad (r : Int) (h : okR r = false) : enc r = [] := by unfold enc; simp [h]

/-- The bytes at a place begin with a rune's. -/
def Sign (s : ByteArray) (i : Nat) (r : Int) : Prop := okR r = true ∧ i + lenR r ≤ s.size ∧ ∀ j x, (enc r)[j]? = some x → (bt s (i + j) : Int) = x

theorem okR_iff (r : Int) : okR r = true ↔ 0 ≤ r ∧ (r < 55296 ∨ 57343 < r) ∧ r ≤ 1114111 := by
  unfold okR
  simp only [Bool.and_eq_true, Bool.or_eq_true, decide_eq_true_eq, and_assoc]

set_option maxRecDepth 100000 in
set_option maxHeartbeats 4000000 in
theorem decodeN_enc (n b0 b1 b2 b3 : Nat) (r : Int) (h : okR r = true) (hn : lenR r ≤ n)
    (h0 : ∀ j x, (enc r)[j]? = some x → ((if j = 0 then b0 else if j = 1 then b1 else if j = 2 then b2 else b3 : Nat) : Int) = x) :
    decodeN n b0 b1 b2 b3 = (r.toNat, lenR r) := by
  have hv := (okR_iff r).1 h
  have hl := enc_len r h
  unfold enc at h0
  simp only [h, Bool.true_eq_false, if_false] at h0
  unfold lenR at hn ⊢
  by_cases c1 : r < 128
  · simp only [c1, if_true] at h0 hn ⊢
    have e0 := h0 0 _ rfl
    simp only [if_true] at e0
    unfold decodeN
    rw [if_pos (by omega)]
    apply Prod.ext <;> simp only <;> omega
  · by_cases c2 : r < 2048
    · simp only [c1, c2, if_true, if_false] at h0 hn ⊢
      have e0 := h0 0 _ rfl
      have e1 := h0 1 _ rfl
      simp only [if_true, Nat.reduceEqDiff, if_false] at e0 e1
      unfold decodeN
      repeat' split
      all_goals first | (exfalso; omega) | (apply Prod.ext <;> simp only <;> omega)
    · by_cases c3 : r < 65536
      · simp only [c1, c2, c3, if_true, if_false] at h0 hn ⊢
        have e0 := h0 0 _ rfl
        have e1 := h0 1 _ rfl
        have e2 := h0 2 _ rfl
        simp only [if_true, Nat.reduceEqDiff, if_false] at e0 e1 e2
        unfold decodeN
        repeat' split
        all_goals first | (exfalso; omega) | (apply Prod.ext <;> simp only <;> omega)
      · simp only [c1, c2, c3, if_false] at h0 hn ⊢
        have e0 := h0 0 _ rfl
        have e1 := h0 1 _ rfl
        have e2 := h0 2 _ rfl
        have e3 := h0 3 _ rfl
        simp only [if_true, Nat.reduceEqDiff, if_false] at e0 e1 e2 e3
        unfold decodeN
        repeat' split
        all_goals first | (exfalso; omega) | (apply Prod.ext <;> simp only <;> omega)

set_option maxRecDepth 100000 in
set_option maxHeartbeats 4000000 in
/-- A decoding is of no sign, or of one: then its bytes stand there. -/
theorem decodeN_cases (n b0 b1 b2 b3 : Nat) (hn : 1 ≤ n) (l0 : b0 < 256) (l1 : b1 < 256) (l2 : b2 < 256) (l3 : b3 < 256) :
    decodeN n b0 b1 b2 b3 = (65533, 1) ∨
    (∃ r : Nat, okR r = true ∧ decodeN n b0 b1 b2 b3 = (r, lenR r) ∧ lenR r ≤ n ∧
      ∀ j x, (enc r)[j]? = some x → ((if j = 0 then b0 else if j = 1 then b1 else if j = 2 then b2 else b3 : Nat) : Int) = x) := by
  obtain ⟨d, hd⟩ : ∃ d, decodeN n b0 b1 b2 b3 = d := ⟨_, rfl⟩
  rw [hd]
  unfold decodeN at hd
  have key : ∀ (r k : Nat), okR r = true → lenR r = k → k ≤ n → (∀ j x, (enc r)[j]? = some x → ((if j = 0 then b0 else if j = 1 then b1 else if j = 2 then b2 else b3 : Nat) : Int) = x) → d = (r, k) →
      d = (65533, 1) ∨ (∃ r : Nat, okR r = true ∧ d = (r, lenR r) ∧ lenR r ≤ n ∧ ∀ j x, (enc r)[j]? = some x → ((if j = 0 then b0 else if j = 1 then b1 else if j = 2 then b2 else b3 : Nat) : Int) = x) :=
    fun r k h1 h2 h3 h4 h5 => Or.inr ⟨r, h1, by rw [h2]; exact h5, by rw [h2]; exact h3, h4⟩
  split at hd
  · -- one byte
    have ho : okR (b0 : Int) = true := (okR_iff _).2 (by omega)
    refine key b0 1 ho (by unfold lenR; rw [if_pos (by omega)]) hn ?_ hd.symm
    intro j x hx
    unfold enc at hx
    rw [if_neg (by simp [ho]), if_pos (by omega)] at hx
    match j, hx with
    | 0, hx => simp at hx; subst hx; rfl
    | j + 1, hx => simp at hx
  · split at hd
    · split at hd
      · have ho : okR ((b0 % 32 * 64 + b1 % 64 : Nat) : Int) = true := (okR_iff _).2 (by omega)
        refine key _ 2 ho (by unfold lenR; rw [if_neg (by omega), if_pos (by omega)]) (by omega) ?_ hd.symm
        intro j x hx
        unfold enc at hx
        rw [if_neg (by simp only [ho]; simp), if_neg (by omega), if_pos (by omega)] at hx
        match j, hx with
        | 0, hx => simp only [List.getElem?_cons_zero, Option.some.injEq] at hx; subst hx; simp only [if_true]; omega
        | 1, hx => simp only [List.getElem?_cons_zero, List.getElem?_cons_succ, Option.some.injEq] at hx; subst hx; simp only [if_true, Nat.reduceEqDiff, if_false]; omega
        | j + 2, hx => simp at hx
      · exact Or.inl hd.symm
    · split at hd
      · split at hd
        · have ho : okR ((b0 % 16 * 4096 + b1 % 64 * 64 + b2 % 64 : Nat) : Int) = true := (okR_iff _).2 (by omega)
          refine key _ 3 ho (by unfold lenR; rw [if_neg (by omega), if_neg (by omega), if_pos (by omega)]) (by omega) ?_ hd.symm
          intro j x hx
          unfold enc at hx
          rw [if_neg (by simp only [ho]; simp), if_neg (by omega), if_neg (by omega), if_pos (by omega)] at hx
          match j, hx with
          | 0, hx => simp only [List.getElem?_cons_zero, Option.some.injEq] at hx; subst hx; simp only [if_true]; omega
          | 1, hx => simp only [List.getElem?_cons_zero, List.getElem?_cons_succ, Option.some.injEq] at hx; subst hx; simp only [if_true, Nat.reduceEqDiff, if_false]; omega
          | 2, hx => simp only [List.getElem?_cons_zero, List.getElem?_cons_succ, Option.some.injEq] at hx; subst hx; simp only [if_true, Nat.reduceEqDiff, if_false]; omega
          | j + 3, hx => simp at hx
        · exact Or.inl hd.symm
      · split at hd
        · split at hd
          · have ho : okR ((b0 % 8 * 262144 + b1 % 64 * 4096 + b2 % 64 * 64 + b3 % 64 : Nat) : Int) = true := (okR_iff _).2 (by omega)
            refine key _ 4 ho (by unfold lenR; rw [if_neg (by omega), if_neg (by omega), if_neg (by omega)]) (by omega) ?_ hd.symm
            intro j x hx
            unfold enc at hx
            rw [if_neg (by simp only [ho]; simp), if_neg (by omega), if_neg (by omega), if_neg (by omega)] at hx
            match j, hx with
            | 0, hx => simp only [List.getElem?_cons_zero, Option.some.injEq] at hx; subst hx; simp only [if_true]; omega
            | 1, hx => simp only [List.getElem?_cons_zero, List.getElem?_cons_succ, Option.some.injEq] at hx; subst hx; simp only [if_true, Nat.reduceEqDiff, if_false]; omega
            | 2, hx => simp only [List.getElem?_cons_zero, List.getElem?_cons_succ, Option.some.injEq] at hx; subst hx; simp only [if_true, Nat.reduceEqDiff, if_false]; omega
            | 3, hx => simp only [List.getElem?_cons_zero, List.getElem?_cons_succ, Option.some.injEq] at hx; subst hx; simp only [Nat.reduceEqDiff, if_false]; omega
            | j + 4, hx => simp at hx
          · exact Or.inl hd.symm
        · exact Or.inl hd.symm

theorem sel (s : ByteArray) (i : Nat) (r : Int) (hok : okR r = true) : (∀ j x, (enc r)[j]? = some x → (bt s (i + j) : Int) = x) ↔
    ∀ j x, (enc r)[j]? = some x → ((if j = 0 then bt s i else if j = 1 then bt s (i + 1) else if j = 2 then bt s (i + 2) else bt s (i + 3) : Nat) : Int) = x := by
  have hl := enc_len r hok
  have h4 := (lenR_pos r).2
  constructor
  · intro h j x hx
    rw [← h j x hx]
    have : j < (enc r).length := (List.getElem?_eq_some_iff.1 hx).1
    match j, this with
    | 0, _ => rfl
    | 1, _ => rfl
    | 2, _ => rfl
    | 3, _ => rfl
    | j + 4, h => omega
  · intro h j x hx
    rw [← h j x hx]
    have : j < (enc r).length := (List.getElem?_eq_some_iff.1 hx).1
    match j, this with
    | 0, _ => rfl
    | 1, _ => rfl
    | 2, _ => rfl
    | 3, _ => rfl
    | j + 4, h => omega

/-- D1: what is put is read. -/
theorem Sign.read {s : ByteArray} {i : Nat} {r : Int} (h : Sign s i r) : Utf8.decode s i = (r.toNat, lenR r) := by
  rw [decode_at]
  have h4 := lenR_pos r
  exact decodeN_enc _ _ _ _ _ r h.1 (by have := h.2.1; omega) ((sel s i r h.1).1 h.2.2)
theorem kn_ok {r : Int} (h : okR r = true) : kn (r.toNat, lenR r) = r := by
  have hv := (okR_iff r).1 h
  unfold kn
  rw [if_neg]
  · simp only; omega
  · simp only
    intro ⟨h1, h2⟩
    unfold lenR at h2
    rw [if_neg (by omega), if_neg (by omega), if_pos (by omega)] at h2
    omega
theorem Sign.rn {s : ByteArray} {i : Nat} {r : Int} (h : Sign s i r) : rn s i = r := by
  unfold YtfikkkodepfdkaaDoor.rn; rw [h.read]; exact kn_ok h.1
theorem Sign.wd {s : ByteArray} {i : Nat} {r : Int} (h : Sign s i r) : wd s i = lenR r := by
  unfold YtfikkkodepfdkaaDoor.wd; rw [h.read]
/-- D2: what is read is a sign, or none: then it has one byte. -/
theorem sign_or (s : ByteArray) (i : Nat) (hi : i < s.size) : Sign s i (rn s i) ∨ (Utf8.decode s i = (65533, 1) ∧ rn s i = -1 ∧ wd s i = 1) := by
  rcases decodeN_cases (s.size - i) (bt s i) (bt s (i + 1)) (bt s (i + 2)) (bt s (i + 3)) (by omega) (bt_lt _ _) (bt_lt _ _) (bt_lt _ _) (bt_lt _ _) with h | ⟨r, hok, h, hle, hb⟩
  · right
    have hd : Utf8.decode s i = (65533, 1) := by rw [decode_at]; exact h
    refine ⟨hd, ?_, ?_⟩
    · unfold rn; rw [hd]; rfl
    · unfold wd; rw [hd]
  · left
    have hs : Sign s i (r : Int) := ⟨hok, by omega, (sel s i r hok).2 hb⟩
    rw [hs.rn]; exact hs
theorem wd_pos (s : ByteArray) (i : Nat) (hi : i < s.size) : 1 ≤ wd s i ∧ i + wd s i ≤ s.size ∧ wd s i ≤ 4 := by
  rcases sign_or s i hi with h | ⟨_, _, h⟩
  · rw [h.wd]; have := lenR_pos (rn s i); have := h.2.1; omega
  · omega
theorem rn_range (s : ByteArray) (i : Nat) (hi : i < s.size) : rn s i = -1 ∨ (okR (rn s i) = true) := by
  rcases sign_or s i hi with h | ⟨_, h, _⟩
  · exact Or.inr h.1
  · exact Or.inl h

/-- The place behind so many signs. -/
def pos (s : ByteArray) : Nat → Nat
  | 0 => 0
  | k + 1 => pos s k + wd s (pos s k)
/-- There are so many signs. -/
def Ends (s : ByteArray) (k : Nat) : Prop := pos s k = s.size ∧ ∀ j, j < k → pos s j < s.size
theorem Ends.one {s : ByteArray} {k k' : Nat} (h : Ends s k) (h' : Ends s k') : k = k' := by
  rcases Nat.lt_trichotomy k k' with g | g | g
  · have := h'.2 k g; have := h.1; omega
  · exact g
  · have := h.2 k' g; have := h'.1; omega
theorem pos_ge (s : ByteArray) : ∀ k, (∀ j, j < k → pos s j < s.size) → k ≤ pos s k
  | 0, _ => Nat.zero_le _
  | k + 1, h => by
    have h1 := pos_ge s k (fun j hj => h j (by omega))
    have h2 := (wd_pos s (pos s k) (h k (by omega))).1
    simp only [pos]; omega
theorem pos_le (s : ByteArray) : ∀ k, (∀ j, j < k → pos s j < s.size) → pos s k ≤ s.size
  | 0, _ => Nat.zero_le _
  | k + 1, h => by
    have h2 := (wd_pos s (pos s k) (h k (by omega))).2.1
    simp only [pos]; exact h2
theorem Ends.le {s : ByteArray} {k : Nat} (h : Ends s k) : k ≤ s.size := by have := pos_ge s k h.2; have := h.1; omega
end Go.Proofs.YtfikkkodepfdkaaDoor
namespace Go.Proofs.YtfikkkodepfdkaaDoor
set_option linter.unusedVariables false
open Go.Lib
theorem enc_one {r : Int} (h0 : 0 ≤ r) (h1 : r < 128) : enc r = [r] := by
  have ho := (okR_iff r).2 (by omega)
  unfold enc; rw [if_neg (by simp [ho]), if_pos h1]
theorem enc_two {r : Int} (h0 : 128 ≤ r) (h1 : r < 2048) : enc r = [192 + r / 64, 128 + r % 64] := by
  have ho := (okR_iff r).2 (by omega)
  unfold enc; rw [if_neg (by simp [ho]), if_neg (by omega), if_pos h1]
theorem enc_three {r : Int} (h0 : 2048 ≤ r) (h1 : r < 65536) (ho : okR r = true) : enc r = [224 + r / 4096, 128 + r / 64 % 64, 128 + r % 64] := by
  unfold enc; rw [if_neg (by simp [ho]), if_neg (by omega), if_neg (by omega), if_pos h1]
theorem enc_four {r : Int} (h0 : 65536 ≤ r) (ho : okR r = true) : enc r = [240 + r / 262144, 128 + r / 4096 % 64, 128 + r / 64 % 64, 128 + r % 64] := by
  unfold enc; rw [if_neg (by simp [ho]), if_neg (by omega), if_neg (by omega), if_neg (by omega)]
def txt (R : Nat → Int) (k : Nat) : List Int := (List.range k).flatMap fun j => enc (R j)
theorem txt_succ (R : Nat → Int) (k : Nat) : txt R (k + 1) = txt R k ++ enc (R k) := by simp [txt, List.range_succ]
theorem enc_le (r : Int) : (enc r).length ≤ 4 := by
  cases ho : okR r
  · rw [enc_bad r ho]; simp
  · rw [enc_len r ho]; exact (lenR_pos r).2
theorem txt_le (R : Nat → Int) : ∀ k, (txt R k).length ≤ 4 * k
  | 0 => Nat.zero_le _
  | k + 1 => by rw [txt_succ, List.length_append]; have := txt_le R k; have := enc_le (R k); omega
theorem Sign.of {s t : ByteArray} {i j : Nat} {r : Int} (h : Sign s i r) (hn : j + lenR r ≤ t.size) (hb : ∀ m, m < lenR r → bt t (j + m) = bt s (i + m)) : Sign t j r := by
  refine ⟨h.1, hn, fun m x hx => ?_⟩
  have hm : m < lenR r := by rw [← enc_len r h.1]; exact (List.getElem?_eq_some_iff.1 hx).1
  rw [hb m hm]
  exact h.2.2 m x hx

/-! ### joined -/
def Whole (s : ByteArray) (k : Nat) : Prop := ∀ j, j < k → Sign s (pos s j) (rn s (pos s j))
theorem enc_range {r x : Int} (h : x ∈ enc r) : 0 ≤ x ∧ x < 256 := by
  cases ho : okR r
  · rw [enc_bad r ho] at h; cases h
  · have hv := (okR_iff r).1 ho
    by_cases h1 : r < 128
    · rw [enc_one (by omega) h1] at h; simp at h; omega
    by_cases h2 : r < 2048
    · rw [enc_two (by omega) h2] at h; simp at h; omega
    by_cases h3 : r < 65536
    · rw [enc_three (by omega) h3 ho] at h; simp at h; omega
    · rw [enc_four (by omega) ho] at h; simp at h; omega
theorem nums_bt {l : List Int} {i : Nat} {x : Int} (hx : l[i]? = some x) (h : 0 ≤ x ∧ x < 256) : (bt (strOfNums l) i : Int) = x := by
  obtain ⟨hi, rfl⟩ := List.getElem?_eq_some_iff.1 hx
  unfold bt
  show (((strOfNums l).data[i]!).toNat : Int) = _
  have his : i < (strOfNums l).data.size := by show i < (strOfNums l).size; rw [strOfNums_size]; exact hi
  rw [getElem!_pos _ i his]
  simp only [strOfNums, List.getElem_toArray, List.getElem_map, UInt8.toNat_ofNat']
  rw [Nat.mod_eq_of_lt (by omega)]
  omega
theorem sign_in (p q : List Int) {r : Int} (ho : okR r = true) : Sign (strOfNums (p ++ enc r ++ q)) p.length r := by
  refine ⟨ho, ?_, fun j x hx => ?_⟩
  · rw [strOfNums_size, List.length_append, List.length_append, enc_len r ho]; omega
  · have hj : j < (enc r).length := (List.getElem?_eq_some_iff.1 hx).1
    refine nums_bt ?_ (enc_range (List.mem_of_getElem? hx))
    rw [List.getElem?_append_left (by rw [List.length_append]; omega), List.getElem?_append_right (by omega)]
    rw [show p.length + j - p.length = j by omega]
    exact hx
theorem put_all (l : List Int) (hl : ∀ r, r ∈ l → okR r = true) : ∀ j, j ≤ l.length → pos (strOfNums (l.flatMap enc)) j = ((l.take j).flatMap enc).length ∧ (∀ i, i < j → Sign (strOfNums (l.flatMap enc)) (pos (strOfNums (l.flatMap enc)) i) (rn (strOfNums (l.flatMap enc)) (pos (strOfNums (l.flatMap enc)) i)))
  | 0, _ => ⟨rfl, fun i hi => absurd hi (Nat.not_lt_zero i)⟩
  | j + 1, h => by
    obtain ⟨ih, ih2⟩ := put_all l hl j (by omega)
    have hj : j < l.length := by omega
    have hok := hl l[j] (List.getElem_mem hj)
    have hs : Sign (strOfNums (l.flatMap enc)) (pos (strOfNums (l.flatMap enc)) j) l[j] := by
      rw [ih]
      have := sign_in ((l.take j).flatMap enc) ((l.drop (j + 1)).flatMap enc) hok
      have he : l.flatMap enc = (l.take j).flatMap enc ++ enc l[j] ++ (l.drop (j + 1)).flatMap enc := by
        rw [List.append_assoc, ← List.flatMap_cons, ← List.flatMap_append, ← List.drop_eq_getElem_cons hj, List.take_append_drop]
      rw [he]
      exact this
    refine ⟨?_, fun i hi => ?_⟩
    · show pos _ j + wd _ (pos _ j) = _
      rw [hs.wd, ih, ← List.take_append_getElem hj, List.flatMap_append, List.length_append]
      simp [enc_len _ hok]
    · by_cases h1 : i < j
      · exact ih2 i h1
      · obtain rfl : i = j := by omega
        rw [hs.rn]; exact hs
theorem flat_lt (l : List Int) (hl : ∀ r, r ∈ l → okR r = true) (j : Nat) (h : j < l.length) : ((l.take j).flatMap enc).length < (l.flatMap enc).length := by
  have hok := hl l[j] (List.getElem_mem h)
  have he : l.flatMap enc = (l.take j).flatMap enc ++ (enc l[j] ++ (l.drop (j + 1)).flatMap enc) := by
    rw [← List.flatMap_cons, ← List.flatMap_append, ← List.drop_eq_getElem_cons h, List.take_append_drop]
  rw [he, List.length_append, List.length_append, enc_len _ hok]
  have := (lenR_pos l[j]).1
  omega
end Go.Proofs.YtfikkkodepfdkaaDoor
namespace Go.Proofs.YtfikkkodepfdkaaDoor
set_option linter.unusedVariables false
open Go.RowKit Go.ChangeShapes
/-- The world has grown from there on. -/
def Up (B : Nat) (a w : World) : Prop := Below B a w ∧ B ≤ w.heap.size
theorem Up.refl (w : World) : Up w.heap.size w w := ⟨Below.refl _ _, Nat.le_refl _⟩
theorem Up.stay {B : Nat} {a w w' : World} (h : Up B a w) (hb : Below w.heap.size w w') : Up B a w' := ⟨h.1.trans (hb.mono h.2), Nat.le_trans h.2 hb.size⟩
theorem Up.alloc {B : Nat} {a w : World} (h : Up B a w) (o : Obj) : Up B a (w.alloc o) := h.stay ((Below.refl _ _).alloc (Nat.le_refl _) o)
theorem Up.drew {B : Nat} {a w : World} (h : Up B a w) : Up B a w.drew := ⟨h.1.drew, h.2⟩
theorem Up.setCell {B : Nat} {a w : World} (h : Up B a w) {p : Addr} (hp : B ≤ p.block) (u : Value) : Up B a (w.setCell p u) :=
  ⟨h.1.setCell hp u, by simpa [World.setCell] using h.2⟩
theorem cell_stay {w w' : World} {a : Addr} {v : Value} (h : w.cell? a = some v) (hb : Below w.heap.size w w') : w'.cell? a = some v := (hb.cell (World.block_lt_of_cell? w _ h)).trans h
theorem cell_alloc {w : World} {a : Addr} {v : Value} (h : w.cell? a = some v) (o : Obj) : (w.alloc o).cell? a = some v := cell_stay h ((Below.refl _ _).alloc (Nat.le_refl _) o)
theorem lt_of_heap {w : World} {b : Nat} {o : Obj} (h : w.heap[b]? = some o) : b < w.heap.size := (Array.getElem?_eq_some_iff.1 h).1

end Go.Proofs.YtfikkkodepfdkaaDoor
namespace Go.Proofs.YtfikkkodepfdkaaDoor
set_option linter.unusedVariables false
open Go.RowKit Go.ChangeShapes
def from_ (s : ByteArray) (p : Nat) : ByteArray := ⟨s.data.extract p s.data.size⟩
theorem from_size (s : ByteArray) (p : Nat) : (from_ s p).size = s.size - p := by
  show (s.data.extract p s.data.size).size = s.data.size - p
  simp
theorem from_get (s : ByteArray) (p i : Nat) : (from_ s p).get! i = s.get! (p + i) := by
  show (s.data.extract p s.data.size)[i]! = s.data[p + i]!
  simp only [getElem!_def, Array.getElem?_extract, Nat.min_self]
  by_cases h : i < s.data.size - p
  · rw [if_pos h]
  · rw [if_neg h, Array.getElem?_eq_none (by omega)]
theorem from_decode (s : ByteArray) (p i : Nat) : Utf8.decode (from_ s p) i = Utf8.decode s (p + i) := by
  rw [Go.Lib.decode_at, Go.Lib.decode_at, from_size, from_get, from_get, from_get, from_get]
  rw [show s.size - p - i = s.size - (p + i) by omega]
  rfl
theorem own_stay {w w' : World} {base e size n : Nat} {v : Value} {xs : List Value} (h : w.ownsRow base e size v n xs) (hb : Below w.heap.size w w') : w'.ownsRow base e size v n xs := by
  obtain ⟨h1, h2 | ⟨g, cap, cur, rfl, hg, hh, h3⟩⟩ := h
  · exact ⟨h1, Or.inl h2⟩
  · refine ⟨h1, Or.inr ⟨g, cap, cur, rfl, hg, ?_, h3⟩⟩
    rw [hb.block g (Array.getElem?_eq_some_iff.1 hh).1]; exact hh
theorem own_base {w : World} {base e size n : Nat} {v : Value} {xs : List Value} (h : w.ownsRow base e size v n xs) : ∀ k, v.ownBlock = some k → base ≤ k := by
  obtain ⟨h1, ⟨rfl, _⟩ | ⟨g, cap, cur, rfl, hg, hh, h3⟩⟩ := h
  · intro k hk; cases hk
  · intro k hk; cases hk; exact hg
theorem Up.grown {B : Nat} {a w w' : World} {row : Option Nat} (h : Up B a w) (hg : w.grownBy w' row) (hr : ∀ k, row = some k → B ≤ k) : Up B a w' := ⟨h.1.grown hg h.2 hr, Nat.le_trans h.2 hg.size⟩
theorem known_any (d : Nat × Nat) (w : World) :
    Calls Tryd.prog 37 #[.int .i32 d.1, .int .i64 d.2] w fun e w' => e = .returned (.int .i32 (kn d)) ∧ w' = w := by
  obtain ⟨r, n⟩ := d
  by_cases h1 : r = 65533
  · subst h1
    by_cases h2 : n < 2
    · have hk : kn (65533, n) = -1 := by simp [kn, h2]
      have h2' : (n : Int) < 2 := by omega
      rw [hk]
      go_enter Tryd.func37, Tryd.ntmps37
      go_wp2
      go_ret
      exact ⟨rfl, rfl⟩
    · have hk : kn (65533, n) = 65533 := by simp [kn, h2]
      have h2' : ¬ (n : Int) < 2 := by omega
      rw [hk]
      go_enter Tryd.func37, Tryd.ntmps37
      go_wp2
      go_ret
      exact ⟨rfl, rfl⟩
  · have hk : kn (r, n) = r := by simp [kn, h1]
    have h1' : ¬ (r : Int) = 65533 := by omega
    rw [hk]
    go_enter Tryd.func37, Tryd.ntmps37
    go_wp2
    go_ret
    exact ⟨rfl, rfl⟩
def rcells (s : ByteArray) (k : Nat) : List Value := (List.range k).map fun j => .int .i32 (rn s (pos s j))
theorem rcells_succ (s : ByteArray) (k : Nat) : rcells s (k + 1) = rcells s k ++ [.int .i32 (rn s (pos s k))] := by
  simp [rcells, List.range_succ]
theorem info21 : (Tryd.prog.info? 21).map (fun i => (i.zero, i.size, i.bytes)) = some (some (.int .i32 0), 1, 4) := by kernel_rfl
theorem extract_from (s : ByteArray) (p : Nat) : s.extract p s.size = from_ s p := by
  apply ByteArray.ext
  rw [ByteArray.data_extract]
  rfl
theorem info5 : (Tryd.prog.info? 5).map (fun i => (i.zero, i.size, i.bytes)) = some (some (.int .u8 0), 1, 1) := by kernel_rfl
theorem app_own {P : Program} {w : World} {ops : Array Oper} {rest : List Oper} {o : Oper} {a : Act} {Q : Exit → Act → World → Prop} (hgd : o.guard = none) (s x : Operand) (t : TypeId)
    (ho : o.op = .call { callee := .builtin .append, args := #[s, x], argTypes := #[t, t] })
    (base : Nat) (e : TypeId) (i : TypeInfo) (z : Value) (size bytes : Nat) (ht : P.underlying t = some (.slice e)) (hi : P.info? e = some i) (hz : i.zero = some z)
    (hsize : i.size = size) (hby : i.bytes = bytes) (hzs : z.cells.size = size) (hsz : 0 < size)
    (v : Value) (n : Nat) (xs : List Value) (hs : a.eval s = v) (hown : w.ownsRow base e size v n xs)
    (base2 : Nat) (v2 : Value) (m : Nat) (news : List Value) (hx : a.eval x = v2) (hsrc : w.ownsRow base2 e size v2 m news) (h1 : ∀ u ∈ news, u.oneCell' = true)
    (h63 : n + m ≤ maxLen) (hbytes : (n + m) * bytes ≤ 140737488355328) (hbase : base ≤ w.heap.size)
    (h : ∀ v' w', w'.ownsRow base e size v' (n + m) (xs ++ news) → w.grownBy w' v.ownBlock → wpList P ops Q rest (a.put o.dst v') w') : wpList P ops Q (o :: rest) a w := by
  have hc := @World.ownsRow.cells _ _ _ _ _ _ _ hsrc
  obtain ⟨hl, ⟨rfl, rfl⟩ | ⟨g, cap, cur, rfl, hg, hh, h3⟩⟩ := hsrc
  · obtain rfl : news = [] := List.eq_nil_of_length_eq_zero (by simpa using hl)
    refine wpList_append_own_none hgd s x t ho base e i size ht hi v n xs hs hown hx ?_
    exact h v w (by rw [List.append_nil]; exact hown) (World.grownBy.refl _ _)
  · exact wpList_append_own w hgd s x t ho base e i z size bytes ht hi hz hsize hby hzs hsz v n xs hs hown ⟨g, 0, none⟩ m cap news hx hl (hc rfl) h1 h63 hbytes hbase (fun v' w' h2 h3 _ => h v' w' h2 h3)
def cellsOf (l : List Int) : List Value := l.map fun x => .int .u8 x
theorem cellsOf_one (l : List Int) : ∀ u ∈ cellsOf l, u.oneCell' = true := by
  intro u hu
  obtain ⟨x, _, rfl⟩ := List.mem_map.1 hu
  rfl
def Rs (w : World) (b off k : Nat) (R : Nat → Int) : Prop := ∀ i, i < k → w.cell? ⟨b, off + i, none⟩ = some (.int .i32 (R i))
theorem Rs.stay {w w' : World} {b off k : Nat} {R : Nat → Int} (h : Rs w b off k R) (hb : Below w.heap.size w w') : Rs w' b off k R :=
  fun j hj => (hb.cell (World.block_lt_of_cell? w _ (h j hj))).trans (h j hj)
def RSl (w : World) (v : Value) (k : Nat) (R : Nat → Int) : Prop := (∃ ad c, v = .slice ad 0 c ∧ k = 0) ∨ ∃ b off c, v = .slice (some ⟨b, off, none⟩) k c ∧ Rs w b off k R
theorem RSl.stay {w w' : World} {v : Value} {k : Nat} {R : Nat → Int} (h : RSl w v k R) (hb : Below w.heap.size w w') : RSl w' v k R := by
  rcases h with h | ⟨b, off, c, rfl, h⟩
  · exact Or.inl h
  · exact Or.inr ⟨b, off, c, rfl, h.stay hb⟩
theorem own_text {w : World} {base n : Nat} {v : Value} {l : List Int} (h : w.ownsRow base 5 1 v n (cellsOf l)) : (convert 43 9 v).run Tryd.prog w = .ok (.string (strOfNums l)) w := by
  have h0 := h
  obtain ⟨hl, ⟨rfl, rfl⟩ | ⟨g, cap, cur, rfl, hg, hh, h3⟩⟩ := h
  · obtain rfl : l = [] := by
      have : l.length = 0 := by simpa [cellsOf] using hl
      exact List.eq_nil_of_length_eq_zero this
    exact run_convert_bytes_nil w 43 5 Tryd.underlying43 Tryd.underlying5 0 0 9 Tryd.underlying9
  · have hln : l.length = n := by simpa [cellsOf] using hl
    refine run_convert_bytes_arg w 43 5 Tryd.underlying43 Tryd.underlying5 g 0 n cap l hln (fun i hi => ?_) 9 Tryd.underlying9
    rw [Nat.zero_add, h0.cellAt i (by omega)]
    simp [cellsOf, List.getD, List.getElem?_eq_getElem (show i < l.length by omega)]
theorem own_mono {w : World} {base base' e size n : Nat} {v : Value} {xs : List Value} (h : w.ownsRow base e size v n xs) (hb : base' ≤ base) : w.ownsRow base' e size v n xs := by
  obtain ⟨h1, h2 | ⟨g, cap, cur, rfl, hg, h3⟩⟩ := h
  · exact ⟨h1, Or.inl h2⟩
  · exact ⟨h1, Or.inr ⟨g, cap, cur, rfl, Nat.le_trans hb hg, h3⟩⟩
theorem nums_of (s : ByteArray) : strOfNums ((List.range s.size).map fun j => ((s.get! j).toNat : Int)) = s := by
  apply ByteArray.ext
  apply Array.ext'
  rw [strOfNums_data]
  apply List.ext_getElem?
  intro j
  by_cases h : j < s.size
  · have h' : j < s.data.size := h
    simp only [List.map_map, List.getElem?_map, List.getElem?_range h, Option.map_some, Function.comp_apply, Int.toNat_natCast]
    rw [Array.getElem?_toList, Array.getElem?_eq_getElem h']
    show some (UInt8.ofNat (s.data[j]!).toNat) = _
    rw [getElem!_pos s.data j h']
    simp
  · have h' : ¬ j < s.data.size := h
    rw [List.getElem?_eq_none (by simp; omega), List.getElem?_eq_none (by simp; omega)]
end Go.Proofs.YtfikkkodepfdkaaDoor
namespace Go.Proofs
open Go.Shelf
def Tryd.lays119_ren : Go.Shelf.Ren := ⟨fun | 119 => 44 | n => n, fun | 21 => 21 | 4 => 4 | n => n, fun | n => n⟩
theorem Tryd.lays119 : Go.Proofs.Lays.n119 Tryd.prog Tryd.lays119_ren := {
  mixed := by kernel_rfl
  f119 := Tryd.func44.trans (congrArg some (by kernel_rfl))
  t4 := Tryd.underlying4
  a4 := Tryd.isAgg4
  z4 := Tryd.sizeOf4
  v4 := Tryd.zeroValue4
  t21 := Tryd.underlying21
  a21 := Tryd.isAgg21
  z21 := Tryd.sizeOf21
  v21 := Tryd.zeroValue21 }
theorem Tryd.utf8_ValidRune (r : Int) (w : World) :
    Calls Tryd.prog 44 #[.int .i32 r] w fun e w' => e = .returned (.bool (Lib.validRune r)) ∧ w' = w := Any.utf8_ValidRune Tryd.lays119 r w
def Tryd.lays213_ren : Go.Shelf.Ren := ⟨fun | 213 => 68 | 265 => 85 | n => n, fun | 9 => 9 | 3 => 3 | n => n, fun | n => n⟩
theorem Tryd.lays213 : Go.Proofs.Lays.n213 Tryd.prog Tryd.lays213_ren := {
  mixed := by kernel_rfl
  f213 := Tryd.func68.trans (congrArg some (by kernel_rfl))
  f265 := Tryd.func85.trans (congrArg some (by kernel_rfl))
  t3 := Tryd.underlying3
  a3 := Tryd.isAgg3
  z3 := Tryd.sizeOf3
  v3 := Tryd.zeroValue3
  t9 := Tryd.underlying9
  a9 := Tryd.isAgg9
  z9 := Tryd.sizeOf9
  v9 := Tryd.zeroValue9 }
open Go.RowKit in
theorem Tryd.bytealg_CompareString (a b : ByteArray) (w : World) :
    Calls Tryd.prog 68 #[.string a, .string b] w fun e w' => e = .returned (.int .i64 (Lib.compareBytes a.data.toList b.data.toList)) ∧ w' = w := Any.bytealg_CompareString Tryd.lays213 a b w
def Tryd.lays106_ren : Go.Shelf.Ren := ⟨fun | 106 => 55 | 213 => 68 | 265 => 85 | n => n, fun | 9 => 9 | 3 => 3 | n => n, fun | n => n⟩
theorem Tryd.lays106 : Go.Proofs.Lays.n106 Tryd.prog Tryd.lays106_ren := {
  mixed := by kernel_rfl
  f106 := Tryd.func55.trans (congrArg some (by kernel_rfl))
  f213 := Tryd.func68.trans (congrArg some (by kernel_rfl))
  f265 := Tryd.func85.trans (congrArg some (by kernel_rfl))
  t3 := Tryd.underlying3
  a3 := Tryd.isAgg3
  z3 := Tryd.sizeOf3
  v3 := Tryd.zeroValue3
  t9 := Tryd.underlying9
  a9 := Tryd.isAgg9
  z9 := Tryd.sizeOf9
  v9 := Tryd.zeroValue9 }
open Go.RowKit in
theorem Tryd.strings_Compare (a b : ByteArray) (w : World) :
    Calls Tryd.prog 55 #[.string a, .string b] w fun e w' => e = .returned (.int .i64 (Lib.compareBytes a.data.toList b.data.toList)) ∧ w' = w := Any.strings_Compare Tryd.lays106 a b w
def Tryd.lays215_ren : Go.Shelf.Ren := ⟨fun | 215 => 67 | n => n, fun | 3 => 3 | 4 => 4 | n => n, fun | n => n⟩
theorem Tryd.lays215 : Go.Proofs.Lays.n215 Tryd.prog Tryd.lays215_ren := {
  mixed := by kernel_rfl
  f215 := Tryd.func67.trans (congrArg some (by kernel_rfl))
  t3 := Tryd.underlying3
  a3 := Tryd.isAgg3
  z3 := Tryd.sizeOf3
  v3 := Tryd.zeroValue3
  t4 := Tryd.underlying4
  a4 := Tryd.isAgg4
  z4 := Tryd.sizeOf4
  v4 := Tryd.zeroValue4 }
open Go.RowKit in
theorem Tryd.cmp_isNaN_int (x : Int) (w : World) :
    Calls Tryd.prog 67 #[.int .i64 x] w fun e w' => e = .returned (.bool false) ∧ w' = w := Any.cmp_isNaN_int Tryd.lays215 x w
def Tryd.lays122_ren : Go.Shelf.Ren := ⟨fun | 122 => 54 | 215 => 67 | n => n, fun | 3 => 3 | 4 => 4 | n => n, fun | n => n⟩
theorem Tryd.lays122 : Go.Proofs.Lays.n122 Tryd.prog Tryd.lays122_ren := {
  mixed := by kernel_rfl
  f122 := Tryd.func54.trans (congrArg some (by kernel_rfl))
  f215 := Tryd.func67.trans (congrArg some (by kernel_rfl))
  t3 := Tryd.underlying3
  a3 := Tryd.isAgg3
  z3 := Tryd.sizeOf3
  v3 := Tryd.zeroValue3
  t4 := Tryd.underlying4
  a4 := Tryd.isAgg4
  z4 := Tryd.sizeOf4
  v4 := Tryd.zeroValue4 }
open Go.RowKit in
theorem Tryd.cmp_Compare_int (x y : Int) (w : World) :
    Calls Tryd.prog 54 #[.int .i64 x, .int .i64 y] w fun e w' => e = .returned (.int .i64 (Lib.compareInt x y)) ∧ w' = w := Any.cmp_Compare_int Tryd.lays122 x y w
def Tryd.lays278_ren : Go.Shelf.Ren := ⟨fun | 278 => 60 | n => n, fun | 37 => 43 | 21 => 21 | 51 => 107 | 4 => 4 | 46 => 105 | 5 => 5 | n => n, fun | n => n⟩
theorem Tryd.lays278 : Go.Proofs.Lays.n278 Tryd.prog Tryd.lays278_ren := {
  mixed := by kernel_rfl
  f278 := Tryd.func60.trans (congrArg some (by kernel_rfl))
  t4 := Tryd.underlying4
  a4 := Tryd.isAgg4
  z4 := Tryd.sizeOf4
  v4 := Tryd.zeroValue4
  t5 := Tryd.underlying5
  a5 := Tryd.isAgg5
  z5 := Tryd.sizeOf5
  v5 := Tryd.zeroValue5
  t21 := Tryd.underlying21
  a21 := Tryd.isAgg21
  z21 := Tryd.sizeOf21
  v21 := Tryd.zeroValue21
  t37 := Tryd.underlying43
  a37 := Tryd.isAgg43
  z37 := Tryd.sizeOf43
  v37 := Tryd.zeroValue43
  t46 := Tryd.underlying105
  a46 := Tryd.isAgg105
  z46 := Tryd.sizeOf105
  v46 := Tryd.zeroValue105
  t51 := Tryd.underlying107
  a51 := Tryd.isAgg107
  z51 := Tryd.sizeOf107
  v51 := Tryd.zeroValue107 }
open Go.RowKit in
theorem Tryd.utf8_appendRuneNonASCII_plain (B : Nat) (v : Value) (n : Nat) (xs : List Value) (r : Int) (hr0 : -2147483648 ≤ r) (hr1 : r ≤ 2147483647) (hna : r < 0 ∨ 128 ≤ r) (w : World) (hown : w.ownsRow B 5 1 v n xs) (hlen : n + 4 ≤ 140737488355328) (hBw : B ≤ w.heap.size) :
    Calls Tryd.prog 60 #[v, .int .i32 r] w fun e w' => ∃ v', e = .returned v' ∧ w'.ownsRow B 5 1 v' (n + (Lib.runeCells r).length) (xs ++ Lib.runeCells r) ∧ ∃ o, (w.alloc o).grownBy w' v.ownBlock := Any.utf8_appendRuneNonASCII_plain Tryd.lays278 (by kernel_rfl) B v n xs r hr0 hr1 hna w hown hlen hBw
def Tryd.lays242_ren : Go.Shelf.Ren := ⟨fun | 242 => 45 | 278 => 60 | n => n, fun | 37 => 43 | 21 => 21 | 51 => 107 | 4 => 4 | 5 => 5 | 46 => 105 | n => n, fun | n => n⟩
theorem Tryd.lays242 : Go.Proofs.Lays.n242 Tryd.prog Tryd.lays242_ren := {
  mixed := by kernel_rfl
  f242 := Tryd.func45.trans (congrArg some (by kernel_rfl))
  f278 := Tryd.func60.trans (congrArg some (by kernel_rfl))
  t4 := Tryd.underlying4
  a4 := Tryd.isAgg4
  z4 := Tryd.sizeOf4
  v4 := Tryd.zeroValue4
  t5 := Tryd.underlying5
  a5 := Tryd.isAgg5
  z5 := Tryd.sizeOf5
  v5 := Tryd.zeroValue5
  t21 := Tryd.underlying21
  a21 := Tryd.isAgg21
  z21 := Tryd.sizeOf21
  v21 := Tryd.zeroValue21
  t37 := Tryd.underlying43
  a37 := Tryd.isAgg43
  z37 := Tryd.sizeOf43
  v37 := Tryd.zeroValue43
  t46 := Tryd.underlying105
  a46 := Tryd.isAgg105
  z46 := Tryd.sizeOf105
  v46 := Tryd.zeroValue105
  t51 := Tryd.underlying107
  a51 := Tryd.isAgg107
  z51 := Tryd.sizeOf107
  v51 := Tryd.zeroValue107 }
open Go.RowKit in
theorem Tryd.utf8_AppendRune_plain (B : Nat) (v : Value) (n : Nat) (xs : List Value) (r : Int) (hr0 : -2147483648 ≤ r) (hr1 : r ≤ 2147483647) (w : World) (hown : w.ownsRow B 5 1 v n xs) (hlen : n + 4 ≤ 140737488355328) (hBw : B ≤ w.heap.size) :
    Calls Tryd.prog 45 #[v, .int .i32 r] w fun e w' => ∃ v', e = .returned v' ∧ w'.ownsRow B 5 1 v' (n + (Lib.runeCells r).length) (xs ++ Lib.runeCells r) ∧ ∃ o, (w.alloc o).grownBy w' v.ownBlock := Any.utf8_AppendRune_plain Tryd.lays242 (by kernel_rfl) B v n xs r hr0 hr1 w hown hlen hBw
def Tryd.lays197_ren : Go.Shelf.Ren := ⟨fun | 197 => 36 | 260 => 56 | n => n, fun | 9 => 9 | 21 => 21 | 3 => 3 | 4 => 4 | 5 => 5 | 105 => 81 | 119 => 119 | 0 => 0 | 46 => 105 | 139 => 122 | 138 => 121 | n => n, fun | 3 => 0 | 4 => 1 | n => n⟩
theorem Tryd.lays197 : Go.Proofs.Lays.n197 Tryd.prog Tryd.lays197_ren := {
  mixed := by kernel_rfl
  f197 := Tryd.func36.trans (congrArg some (by kernel_rfl))
  f260 := Tryd.func56.trans (congrArg some (by kernel_rfl))
  t0 := Tryd.underlying0
  a0 := Tryd.isAgg0
  z0 := Tryd.sizeOf0
  v0 := Tryd.zeroValue0
  t3 := Tryd.underlying3
  a3 := Tryd.isAgg3
  z3 := Tryd.sizeOf3
  v3 := Tryd.zeroValue3
  t4 := Tryd.underlying4
  a4 := Tryd.isAgg4
  z4 := Tryd.sizeOf4
  v4 := Tryd.zeroValue4
  t5 := Tryd.underlying5
  a5 := Tryd.isAgg5
  z5 := Tryd.sizeOf5
  v5 := Tryd.zeroValue5
  t9 := Tryd.underlying9
  a9 := Tryd.isAgg9
  z9 := Tryd.sizeOf9
  v9 := Tryd.zeroValue9
  t21 := Tryd.underlying21
  a21 := Tryd.isAgg21
  z21 := Tryd.sizeOf21
  v21 := Tryd.zeroValue21
  t46 := Tryd.underlying105
  a46 := Tryd.isAgg105
  z46 := Tryd.sizeOf105
  v46 := Tryd.zeroValue105
  t105 := Tryd.underlying81
  a105 := Tryd.isAgg81
  z105 := Tryd.sizeOf81
  v105 := Tryd.zeroValue81
  t119 := Tryd.underlying119
  a119 := Tryd.isAgg119
  z119 := Tryd.sizeOf119
  t138 := Tryd.underlying121
  a138 := Tryd.isAgg121
  z138 := Tryd.sizeOf121
  v138 := Tryd.zeroValue121
  t139 := Tryd.underlying122
  a139 := Tryd.isAgg122
  z139 := Tryd.sizeOf122
  v139 := Tryd.zeroValue122
  g3 := by kernel_rfl
  g4 := by kernel_rfl }
open Go.RowKit Go.Lib in
theorem Tryd.utf8_DecodeRuneInString_ascii (s : ByteArray) (x : UInt8) (w : World) (h0 : s.data.toList[0]? = some x) (hx : x.toNat < 128) :
    Calls Tryd.prog 36 #[.string s] w fun e w' => e = .returned (.tuple #[.int .i32 x.toNat, .int .i64 1]) ∧ w' = w := Any.utf8_DecodeRuneInString_ascii Tryd.lays197 s x w h0 hx
def Tryd.lays260_ren : Go.Shelf.Ren := ⟨fun | 260 => 56 | n => n, fun | 9 => 9 | 21 => 21 | 3 => 3 | 4 => 4 | 5 => 5 | 119 => 119 | 0 => 0 | 46 => 105 | 139 => 122 | 138 => 121 | n => n, fun | 3 => 0 | 4 => 1 | n => n⟩
theorem Tryd.lays260 : Go.Proofs.Lays.n260 Tryd.prog Tryd.lays260_ren := {
  mixed := by kernel_rfl
  f260 := Tryd.func56.trans (congrArg some (by kernel_rfl))
  t0 := Tryd.underlying0
  a0 := Tryd.isAgg0
  z0 := Tryd.sizeOf0
  v0 := Tryd.zeroValue0
  t3 := Tryd.underlying3
  a3 := Tryd.isAgg3
  z3 := Tryd.sizeOf3
  v3 := Tryd.zeroValue3
  t4 := Tryd.underlying4
  a4 := Tryd.isAgg4
  z4 := Tryd.sizeOf4
  v4 := Tryd.zeroValue4
  t5 := Tryd.underlying5
  a5 := Tryd.isAgg5
  z5 := Tryd.sizeOf5
  v5 := Tryd.zeroValue5
  t9 := Tryd.underlying9
  a9 := Tryd.isAgg9
  z9 := Tryd.sizeOf9
  v9 := Tryd.zeroValue9
  t21 := Tryd.underlying21
  a21 := Tryd.isAgg21
  z21 := Tryd.sizeOf21
  v21 := Tryd.zeroValue21
  t46 := Tryd.underlying105
  a46 := Tryd.isAgg105
  z46 := Tryd.sizeOf105
  v46 := Tryd.zeroValue105
  t119 := Tryd.underlying119
  a119 := Tryd.isAgg119
  z119 := Tryd.sizeOf119
  t138 := Tryd.underlying121
  a138 := Tryd.isAgg121
  z138 := Tryd.sizeOf121
  v138 := Tryd.zeroValue121
  t139 := Tryd.underlying122
  a139 := Tryd.isAgg122
  z139 := Tryd.sizeOf122
  v139 := Tryd.zeroValue122
  g3 := by kernel_rfl
  g4 := by kernel_rfl }
open Go.RowKit Go.Lib in
theorem Tryd.utf8_decodeRuneInStringSlow (s : ByteArray) (w : World) (hT : Lib.Utf8Tabs 0 1 w) :
    Calls Tryd.prog 56 #[.string s] w fun e w' => e = .returned (.tuple #[.int .i32 (Lib.decodeGo s).1, .int .i64 (Lib.decodeGo s).2]) ∧ Below w.heap.size w w' := Any.utf8_decodeRuneInStringSlow Tryd.lays260 s w hT
open Go.RowKit Go.Lib in
theorem Tryd.utf8_DecodeRuneInString (s : ByteArray) (w : World) (hT : Lib.Utf8Tabs 0 1 w) :
    Calls Tryd.prog 36 #[.string s] w fun e w' => e = .returned (.tuple #[.int .i32 (Lib.decodeGo s).1, .int .i64 (Lib.decodeGo s).2]) ∧ Below w.heap.size w w' := Any.utf8_DecodeRuneInString Tryd.lays197 s w hT
end Go.Proofs
namespace Go.Proofs.YtfikkkodepfdkaaDoor
set_option linter.unusedVariables false
open Go.RowKit Go.ChangeShapes
abbrev Tabs (w : World) : Prop := Lib.Utf8Tabs 0 1 w
theorem tabs_stay {w w' : World} (h : Tabs w) (hb : Below w.heap.size w w') : Tabs w' :=
  ⟨fun c hc => (hb.cell (World.block_lt_of_cell? w _ (h.1 c hc))).trans (h.1 c hc),
   fun i hi => ⟨(hb.cell (World.block_lt_of_cell? w _ (h.2 i hi).1)).trans (h.2 i hi).1, (hb.cell (World.block_lt_of_cell? w _ (h.2 i hi).2)).trans (h.2 i hi).2⟩⟩
theorem from_decodeGo (s : ByteArray) (p : Nat) (h : p < s.size) : Lib.decodeGo (from_ s p) = Utf8.decode s p := by
  unfold Lib.decodeGo
  rw [if_neg (by rw [from_size]; omega), from_decode, Nat.add_zero]
theorem dec_string (s : ByteArray) (p : Nat) (w : World) (hp : p < s.size) (hT : Tabs w) :
    Calls Tryd.prog 36 #[.string (s.extract p s.size)] w fun e w' => e = .returned (.tuple #[.int .i32 (Utf8.decode s p).1, .int .i64 (Utf8.decode s p).2]) ∧ Below w.heap.size w w' := by
  have c := Tryd.utf8_DecodeRuneInString (s.extract p s.size) w hT
  rw [show Lib.decodeGo (s.extract p s.size) = Utf8.decode s p by rw [extract_from]; exact from_decodeGo s p hp] at c
  exact c
set_option maxHeartbeats 1000000 in
theorem runes_any (s : ByteArray) (w : World) (hn : s.size ≤ 2000000) (hT : Tabs w) :
    Calls Tryd.prog 17 #[.string s] w fun e w' => ∃ k v, e = .returned v ∧ Ends s k ∧ w'.ownsRow w.heap.size 21 1 v k (rcells s k) ∧ Below w.heap.size w w' := by
  have HT : Hid (Tabs w) := hT
  clear hT
  obtain ⟨i0, hi, hz0, hz1, hz2⟩ := info_parts info21
  go_enter Tryd.func17, Tryd.ntmps17
  go_wp2
  go_loopg [3, 4] (s.size) (fun g l i wr => ∃ k, g = s.size - pos s k ∧ i = .int .i64 (pos s k) ∧ Hid (∀ j, j < k → pos s j < s.size) ∧ Hid (wr.ownsRow w.heap.size 21 1 l k (rcells s k)) ∧ Hid (Up w.heap.size w wr))
  case atStart => exact ⟨0, rfl, rfl, fun j hj => absurd hj (Nat.not_lt_zero j), ⟨rfl, Or.inl ⟨rfl, rfl⟩⟩, Up.refl w⟩
  case round =>
    obtain ⟨k, hg, rfl, HP, HO, HU⟩ := hrel
    have hle := pos_le s k HP.out
    by_cases hlt : pos s k < s.size
    · have z0 : (0 : Int) ≤ (pos s k : Int) := by omega
      have z1 : ((pos s k : Nat) : Int) < (s.size : Int) := by omega
      have z2 : ((pos s k : Nat) : Int) ≤ (s.size : Int) := by omega
      obtain ⟨y1, y2, y3⟩ := wd_pos s (pos s k) hlt
      have hk := pos_ge s k HP.out
      have c24 := dec_string s (pos s k) wr hlt (tabs_stay HT.out HU.out.1)
      go_wp2_with fail
      refine c24.mono ?_
      rintro e w1 ⟨rfl, hb1⟩
      have HO1 : Hid (w1.ownsRow w.heap.size 21 1 u3 k (rcells s k)) := own_stay HO.out hb1
      have HU1 : Hid (Up w.heap.size w w1) := HU.out.stay hb1
      clear hb1 c24 HO HU
      go_wp2_with fail
      refine (known_any (Utf8.decode s (pos s k)) _).mono ?_
      rintro e w2 ⟨rfl, rfl⟩
      go_wp2_with (at_builtin; refine wpList_append_own _ rfl _ _ 37 rfl w.heap.size 21 i0 _ 1 4 Tryd.underlying37 hi hz0 hz1 hz2 rfl (by decide) _ _ _ rfl (HO1.out.alloc _) ⟨w2.heap.size, 0, none⟩ 1 1 [.int .i32 (rn s (pos s k))] rfl rfl ?c1 ?c2 ?c3 ?c4 ?c5 ?_)
      case c1 =>
        intro j u hj
        match j, hj with
        | 0, hj => simp at hj; subst hj; simp [Addr.add, rn]
        | (j + 1), hj => simp at hj
      case c2 => intro u hu; simp at hu; rcases hu with rfl; rfl
      case c3 => unfold maxLen; omega
      case c4 => omega
      case c5 => have := HU1.out.2; simp only [World.size_alloc]; omega
      intro v' w3 hown2 hgr hnil
      have HO2 : Hid (w3.ownsRow w.heap.size 21 1 v' (k + 1) (rcells s (k + 1))) := by
        show w3.ownsRow _ _ _ _ _ _
        rw [rcells_succ]; exact hown2
      have HU2 : Hid (Up w.heap.size w w3) := (HU1.out.alloc _).grown hgr (own_base HO1.out)
      clear hown2 hgr hnil HO1 HU1
      have hw : (Utf8.decode s (pos s k)).2 = wd s (pos s k) := rfl
      rw [hw]
      go_wp2
      go_roundg (s.size - pos s (k + 1))
      case measure => simp only [pos]; omega
      case rel => exact ⟨k + 1, rfl, by simp [pos], fun j hj => by
        rcases Nat.lt_succ_iff_lt_or_eq.1 hj with h | h
        · exact HP.out j h
        · rw [h]; exact hlt, HO2, HU2⟩
    · have z1 : ¬ ((pos s k : Nat) : Int) < (s.size : Int) := by omega
      go_wp2_with fail
      go_ret
      exact ⟨k, _, rfl, ⟨by omega, HP.out⟩, HO.out, HU.out.1⟩
theorem valid_ok (r : Int) : Lib.validRune r = okR r := by
  have h := okR_iff r
  unfold Lib.validRune
  rw [Bool.eq_iff_iff, decide_eq_true_eq, h]
  omega
theorem runeCells_ok {r : Int} (ho : okR r = true) : Lib.runeCells r = cellsOf (enc r) := by
  have hv := (okR_iff r).1 ho
  unfold Lib.runeCells cellsOf
  by_cases h1 : r < 128
  · rw [Lib.encodeRuneZ_one (by omega) (by omega), enc_one (by omega) h1]
  by_cases h2 : r < 2048
  · rw [Lib.encodeRuneZ_two (by omega) (by omega), enc_two (by omega) h2]
  by_cases h3 : r < 65536
  · rw [Lib.encodeRuneZ_three (by omega), enc_three (by omega) h3 ho]
  · rw [Lib.encodeRuneZ_four (by omega) (by omega), enc_four (by omega) ho]
theorem valid_any (r : Int) (w : World) : Calls Tryd.prog 44 #[.int .i32 r] w fun e w' => e = .returned (.bool (okR r)) ∧ w' = w := by
  rw [← valid_ok]; exact Tryd.utf8_ValidRune r w
theorem appendRune_any (B : Nat) (v : Value) (l : List Int) (r : Int) (w : World) (ho : okR r = true) (hown : w.ownsRow B 5 1 v l.length (cellsOf l)) (hl : l.length ≤ 1000000) (hB : B ≤ w.heap.size) :
    Calls Tryd.prog 45 #[v, .int .i32 r] w fun e w' => ∃ v', e = .returned v' ∧ w'.ownsRow B 5 1 v' (l ++ enc r).length (cellsOf (l ++ enc r)) ∧ Below B w w' := by
  have hv := (okR_iff r).1 ho
  refine (Tryd.utf8_AppendRune_plain B v _ _ r (by omega) (by omega) w hown (by omega) hB).mono ?_
  rintro e w' ⟨v', rfl, h1, o, h2⟩
  refine ⟨v', rfl, ?_, ?_⟩
  · rw [runeCells_ok ho] at h1
    rw [cellsOf, List.map_append, List.length_append]
    simpa [cellsOf] using h1
  · exact ((Below.refl _ _).alloc hB o).grown h2 (by simp only [World.size_alloc]; omega) (own_base hown)
theorem text_zero (ad : Option Addr) (c : Nat) (w : World) :
    Calls Tryd.prog 25 #[.slice ad 0 c] w fun e w' => e = .returned (.string (strOfNums [])) ∧ w' = w := by
  have hcv := run_convert_bytes_nil w 43 5 Tryd.underlying43 Tryd.underlying5 0 0 9 Tryd.underlying9
  go_enter Tryd.func25, Tryd.ntmps25
  go_wp2
  go_loopg [3, 8] (0) (fun g l i wr => l = .slice none 0 0 ∧ i = .int .i64 0 ∧ wr = w)
  case atStart => exact ⟨rfl, rfl, rfl⟩
  case round =>
    obtain ⟨rfl, rfl, rfl⟩ := hrel
    go_wp2_with fail
    go_ret
    exact ⟨rfl, rfl⟩
set_option maxHeartbeats 1000000 in
theorem text_at (R : Nat → Int) (k b off cap : Nat) (w : World) (hk : k ≤ 5000) (hR : Rs w b off k R) :
    Calls Tryd.prog 25 #[.slice (some ⟨b, off, none⟩) k cap] w fun e w' => e = .returned (.string (strOfNums (txt R k))) ∧ Below w.heap.size w w' := by
  have HR : Hid (Rs w b off k R) := hR
  clear hR
  go_enter Tryd.func25, Tryd.ntmps25
  go_wp2
  go_loopg [3, 8] k (fun g l i wr => ∃ j : Nat, j ≤ k ∧ g = k - j ∧ i = .int .i64 j ∧ Hid (wr.ownsRow w.heap.size 5 1 l (txt R j).length (cellsOf (txt R j))) ∧ Hid (Up w.heap.size w wr))
  case atStart => exact ⟨0, Nat.zero_le _, rfl, rfl, ⟨rfl, Or.inl ⟨rfl, rfl⟩⟩, Up.refl w⟩
  case round =>
    obtain ⟨j, hj, hg, rfl, HO, HU⟩ := hrel
    by_cases hlt : j < k
    · have z0 : (0 : Int) ≤ (j : Int) := by omega
      have z1 : (j : Int) < (k : Int) := by omega
      have hc := (HR.out.stay HU.out.1) j hlt
      have q1 := txt_le R j
      cases ho : okR (R j)
      · have HO2 : Hid (wr.ownsRow w.heap.size 5 1 u3 (txt R (j + 1)).length (cellsOf (txt R (j + 1)))) := by
          show wr.ownsRow _ _ _ _ _ _
          rw [txt_succ, enc_bad _ ho, List.append_nil]; exact HO.out
        have cv := valid_any (R j) wr
        rw [ho] at cv
        go_wp2_with (go_at_call 44; refine cv.mono ?_; rintro e w' ⟨rfl, rfl⟩)
        go_roundg (k - (j + 1))
        case measure => omega
        case rel => exact ⟨j + 1, by omega, rfl, by go_num, HO2, HU⟩
      · have cv := valid_any (R j) wr
        rw [ho] at cv
        go_wp2_with fail
        refine cv.mono ?_
        rintro e w' ⟨rfl, rfl⟩
        go_wp2_with fail
        refine (appendRune_any w.heap.size _ (txt R j) (R j) _ ho HO.out (by omega) HU.out.2).mono ?_
        rintro e w1 ⟨v', rfl, hown1, hb1⟩
        have HO2 : Hid (w1.ownsRow w.heap.size 5 1 v' (txt R (j + 1)).length (cellsOf (txt R (j + 1)))) := by
          show w1.ownsRow _ _ _ _ _ _
          rw [txt_succ]; exact hown1
        have HU2 : Hid (Up w.heap.size w w1) := ⟨HU.out.1.trans hb1, Nat.le_trans HU.out.2 hb1.size⟩
        clear hown1 hb1 HO HU
        go_wp2
        go_roundg (k - (j + 1))
        case measure => omega
        case rel => exact ⟨j + 1, by omega, rfl, by go_num, HO2, HU2⟩
    · obtain rfl : j = k := by omega
      have hcv := own_text HO.out
      go_wp2_with fail
      go_ret
      exact ⟨rfl, HU.out.1⟩
theorem text_any (R : Nat → Int) (k : Nat) (v : Value) (w : World) (hk : k ≤ 5000) (hR : RSl w v k R) :
    Calls Tryd.prog 25 #[v] w fun e w' => e = .returned (.string (strOfNums (txt R k))) ∧ Below w.heap.size w w' := by
  rcases hR with ⟨ad, c, rfl, rfl⟩ | ⟨b, off, c, rfl, h⟩
  · refine (text_zero ad c w).mono ?_
    rintro e w' ⟨rfl, rfl⟩
    exact ⟨rfl, Below.refl _ _⟩
  · exact text_at R k b off c w hk h
end Go.Proofs.YtfikkkodepfdkaaDoor
namespace Go.Proofs.YtfikkkodepfdkaaDoor
set_option linter.unusedVariables false
open Go.RowKit Go.ChangeShapes
/-- A node, plainly: its runes, its kids' numbers, whether a word ends there. -/
structure PN where
  R : List Int
  K : List Nat
  e : Bool
/-- A node in memory: its two slices besides. -/
structure Nd where
  r : Value
  k : Value
  p : PN
def Nd.cs (n : Nd) : List Value := [n.r, n.k, .bool n.p.e]
def ndC (l : List Nd) : List Value := l.flatMap Nd.cs
def i32c (x : Int) : Value := .int .i32 x
def i64c (x : Nat) : Value := .int .i64 (x : Int)
theorem ndC_len (l : List Nd) : (ndC l).length = l.length * 3 := by
  induction l with
  | nil => rfl
  | cons x l ih =>
    show (x.cs ++ ndC l).length = _
    rw [List.length_append, ih, List.length_cons]
    show 3 + _ = _
    omega
theorem ndC_app (l m : List Nd) : ndC (l ++ m) = ndC l ++ ndC m := by simp [ndC]
theorem ndC_at (l : List Nd) (i : Nat) (n : Nd) (h : l[i]? = some n) : (ndC l)[i * 3]? = some n.r ∧ (ndC l)[i * 3 + 1]? = some n.k ∧ (ndC l)[i * 3 + 2]? = some (.bool n.p.e) := by
  induction l generalizing i with
  | nil => simp at h
  | cons x l ih =>
    have hc : ndC (x :: l) = x.r :: x.k :: Value.bool x.p.e :: ndC l := rfl
    rw [hc]
    match i, h with
    | 0, h =>
      simp at h; subst h
      exact ⟨rfl, rfl, rfl⟩
    | i + 1, h =>
      have h' : l[i]? = some n := by simpa using h
      obtain ⟨a, b, c⟩ := ih i h'
      rw [show (i + 1) * 3 = i * 3 + 3 by omega]
      exact ⟨a, b, c⟩
theorem ndC_set (l : List Nd) (i : Nat) (n x : Nd) (h : l[i]? = some n) : ndC (l.set i x) = (((ndC l).set (i * 3) x.r).set (i * 3 + 1) x.k).set (i * 3 + 2) (.bool x.p.e) := by
  induction l generalizing i with
  | nil => simp at h
  | cons y l ih =>
    match i, h with
    | 0, h => rfl
    | i + 1, h =>
      have h' : l[i]? = some n := by simpa using h
      have e := ih i h'
      rw [show (i + 1) * 3 = i * 3 + 3 by omega]
      show y.r :: y.k :: Value.bool y.p.e :: ndC (l.set i x) = _
      rw [e]
      rfl
/-- The trie lies in memory. -/
structure TrieM (w : World) (base T : Nat) (m : Nat) (vN : Value) (l : List Nd) : Prop where
  bT : base ≤ T
  blk : w.heap[T]? = some (.cells #[.int .i64 (m : Int), vN] 57 (0, 0))
  nodes : w.ownsRow base 70 3 vN l.length (ndC l)
  rr : ∀ (i : Nat) (n : Nd), l[i]? = some n → w.ownsRow base 21 1 n.r n.p.R.length (n.p.R.map i32c)
  kk : ∀ (i : Nat) (n : Nd), l[i]? = some n → w.ownsRow base 3 1 n.k n.p.K.length (n.p.K.map i64c)
  apR : ∀ (i j : Nat) (a b : Nd) (g : Nat), l[i]? = some a → l[j]? = some b → a.r.ownBlock = some g → b.r.ownBlock = some g → i = j
  apK : ∀ (i j : Nat) (a b : Nd) (g : Nat), l[i]? = some a → l[j]? = some b → a.k.ownBlock = some g → b.k.ownBlock = some g → i = j
/-- The trie's blocks. -/
def Foot (T : Nat) (vN : Value) (l : List Nd) (k : Nat) : Prop := k = T ∨ vN.ownBlock = some k ∨ ∃ (i : Nat) (n : Nd), l[i]? = some n ∧ (n.r.ownBlock = some k ∨ n.k.ownBlock = some k)
/-- From a world to a later one: but for the trie's blocks all is as it was; what the trie has now it had, or it is new. -/
structure Went (w w' : World) (F F' : Nat → Prop) : Prop where
  os : w'.os = w.os
  tape : w'.tape = w.tape
  output : w'.output = w.output
  size : w.heap.size ≤ w'.heap.size
  far : ∀ k, k < w.heap.size → ¬ F k → w'.heap[k]? = w.heap[k]?
  new : ∀ k, F' k → F k ∨ w.heap.size ≤ k
theorem Went.refl (w : World) (F : Nat → Prop) : Went w w F F := ⟨rfl, rfl, rfl, Nat.le_refl _, fun _ _ _ => rfl, fun _ h => Or.inl h⟩
theorem Went.trans {a b c : World} {F G H : Nat → Prop} (h : Went a b F G) (k : Went b c G H) : Went a c F H := by
  refine ⟨k.os.trans h.os, k.tape.trans h.tape, k.output.trans h.output, Nat.le_trans h.size k.size, fun i hi hF => ?_, fun i hi => ?_⟩
  · refine (k.far i (Nat.lt_of_lt_of_le hi h.size) fun hG => ?_).trans (h.far i hi hF)
    rcases h.new i hG with h1 | h1
    · exact hF h1
    · omega
  · rcases k.new i hi with h1 | h1
    · exact h.new i h1
    · exact Or.inr (Nat.le_trans h.size h1)
theorem TrieM.lt {w : World} {base T m : Nat} {vN : Value} {l : List Nd} (h : TrieM w base T m vN l) : ∀ k, Foot T vN l k → base ≤ k ∧ k < w.heap.size := by
  rintro k (rfl | hk | ⟨i, n, hn, hk | hk⟩)
  · exact ⟨h.bT, lt_of_heap h.blk⟩
  · exact h.nodes.lt k hk
  · exact (h.rr i n hn).lt k hk
  · exact (h.kk i n hn).lt k hk
theorem own_of_blocks {w w' : World} {base e size n : Nat} {v : Value} {xs : List Value} (h : w.ownsRow base e size v n xs) (hb : ∀ k, v.ownBlock = some k → w'.heap[k]? = w.heap[k]?) : w'.ownsRow base e size v n xs := by
  obtain ⟨h1, h2 | ⟨g, cap, cur, rfl, hg, hh, h3⟩⟩ := h
  · exact ⟨h1, Or.inl h2⟩
  · exact ⟨h1, Or.inr ⟨g, cap, cur, rfl, hg, (hb g rfl).trans hh, h3⟩⟩
/-- The trie lies as it lay where its blocks are as they were. -/
theorem TrieM.keep {w w' : World} {base T m : Nat} {vN : Value} {l : List Nd} (h : TrieM w base T m vN l) (hb : ∀ k, Foot T vN l k → w'.heap[k]? = w.heap[k]?) : TrieM w' base T m vN l :=
  ⟨h.bT, (hb T (Or.inl rfl)).trans h.blk, own_of_blocks h.nodes fun k hk => hb k (Or.inr (Or.inl hk)),
   fun i n hn => own_of_blocks (h.rr i n hn) fun k hk => hb k (Or.inr (Or.inr ⟨i, n, hn, Or.inl hk⟩)),
   fun i n hn => own_of_blocks (h.kk i n hn) fun k hk => hb k (Or.inr (Or.inr ⟨i, n, hn, Or.inr hk⟩)), h.apR, h.apK⟩
theorem TrieM.stay {w w' : World} {base T m : Nat} {vN : Value} {l : List Nd} (h : TrieM w base T m vN l) (hb : Below w.heap.size w w') : TrieM w' base T m vN l :=
  h.keep fun k hk => hb.block k (h.lt k hk).2
/-- Rows of two types lie in two blocks. -/
theorem own_type {w : World} {b1 b2 e1 e2 s1 s2 n1 n2 : Nat} {v1 v2 : Value} {x1 x2 : List Value} (h1 : w.ownsRow b1 e1 s1 v1 n1 x1) (h2 : w.ownsRow b2 e2 s2 v2 n2 x2) (he : e1 ≠ e2) (k : Nat) (hk1 : v1.ownBlock = some k) : v2.ownBlock ≠ some k := by
  intro hk2
  obtain ⟨_, ⟨rfl, _⟩ | ⟨g, cap, cur, rfl, hg, hh, h3⟩⟩ := h1
  · cases hk1
  · obtain ⟨_, ⟨rfl, _⟩ | ⟨g', cap', cur', rfl, hg', hh', h3'⟩⟩ := h2
    · cases hk2
    · cases hk1; cases hk2
      rw [hh] at hh'
      injection hh' with hh'
      injection hh' with _ e _
      exact he e
theorem own_blk {w : World} {b1 e1 s1 n1 T : Nat} {v1 : Value} {x1 : List Value} {cs : Array Value} {e2 : Nat} {f : Nat × Nat} (h1 : w.ownsRow b1 e1 s1 v1 n1 x1) (hT : w.heap[T]? = some (.cells cs e2 f)) (he : e1 ≠ e2) : v1.ownBlock ≠ some T := by
  intro hk1
  obtain ⟨_, ⟨rfl, _⟩ | ⟨g, cap, cur, rfl, hg, hh, h3⟩⟩ := h1
  · cases hk1
  · cases hk1
    rw [hh] at hT
    injection hT with hT
    injection hT with _ e _
    exact he e
end Go.Proofs.YtfikkkodepfdkaaDoor
namespace Go.Proofs.YtfikkkodepfdkaaDoor
set_option linter.unusedVariables false
open Go.RowKit Go.ChangeShapes
theorem ndC_setR (l : List Nd) (i : Nat) (n : Nd) (v : Value) (p : PN) (h : l[i]? = some n) (hp : p.e = n.p.e) : ndC (l.set i ⟨v, n.k, p⟩) = (ndC l).set (i * 3) v := by
  induction l generalizing i with
  | nil => simp at h
  | cons y l ih =>
    match i, h with
    | 0, h =>
      simp at h; subst h
      show v :: y.k :: Value.bool p.e :: ndC l = _
      rw [hp]; rfl
    | i + 1, h =>
      have h' : l[i]? = some n := by simpa using h
      rw [show (i + 1) * 3 = i * 3 + 3 by omega]
      show y.r :: y.k :: Value.bool y.p.e :: ndC (l.set i _) = _
      rw [ih i h']; rfl
theorem ndC_setK (l : List Nd) (i : Nat) (n : Nd) (v : Value) (p : PN) (h : l[i]? = some n) (hp : p.e = n.p.e) : ndC (l.set i ⟨n.r, v, p⟩) = (ndC l).set (i * 3 + 1) v := by
  induction l generalizing i with
  | nil => simp at h
  | cons y l ih =>
    match i, h with
    | 0, h =>
      simp at h; subst h
      show y.r :: v :: Value.bool p.e :: ndC l = _
      rw [hp]; rfl
    | i + 1, h =>
      have h' : l[i]? = some n := by simpa using h
      rw [show (i + 1) * 3 + 1 = i * 3 + 1 + 3 by omega]
      show y.r :: y.k :: Value.bool y.p.e :: ndC (l.set i _) = _
      rw [ih i h']; rfl
theorem ndC_setE (l : List Nd) (i : Nat) (n : Nd) (p : PN) (h : l[i]? = some n) : ndC (l.set i ⟨n.r, n.k, p⟩) = (ndC l).set (i * 3 + 2) (.bool p.e) := by
  induction l generalizing i with
  | nil => simp at h
  | cons y l ih =>
    match i, h with
    | 0, h =>
      simp at h; subst h
      rfl
    | i + 1, h =>
      have h' : l[i]? = some n := by simpa using h
      rw [show (i + 1) * 3 + 2 = i * 3 + 2 + 3 by omega]
      show y.r :: y.k :: Value.bool y.p.e :: ndC (l.set i _) = _
      rw [ih i h']; rfl
theorem set_at {l : List Nd} {i j : Nat} {x a : Nd} (h : (l.set i x)[j]? = some a) : (j = i ∧ a = x) ∨ (j ≠ i ∧ l[j]? = some a) := by
  rw [List.getElem?_set] at h
  by_cases e : i = j
  · subst e
    rw [if_pos rfl] at h
    split at h
    · exact Or.inl ⟨rfl, (Option.some.inj h).symm⟩
    · cases h
  · rw [if_neg e] at h
    exact Or.inr ⟨fun h => e h.symm, h⟩
/-- One node is another now. -/
theorem TrieM.swap {w w2 : World} {base T m : Nat} {vN : Value} {l : List Nd} (h : TrieM w base T m vN l) {i : Nat} {n : Nd} (hn : l[i]? = some n) (x : Nd)
    (hT : w2.heap[T]? = w.heap[T]?) (hN : w2.ownsRow base 70 3 vN l.length (ndC (l.set i x)))
    (hr : w2.ownsRow base 21 1 x.r x.p.R.length (x.p.R.map i32c)) (hk : w2.ownsRow base 3 1 x.k x.p.K.length (x.p.K.map i64c))
    (hfar : ∀ k, k < w.heap.size → vN.ownBlock ≠ some k → n.r.ownBlock ≠ some k → n.k.ownBlock ≠ some k → w2.heap[k]? = w.heap[k]?)
    (hx : ∀ k, x.r.ownBlock = some k → n.r.ownBlock = some k ∨ w.heap.size ≤ k) (hy : ∀ k, x.k.ownBlock = some k → n.k.ownBlock = some k ∨ w.heap.size ≤ k)
    (h1 : w2.os = w.os) (h2 : w2.tape = w.tape) (h3 : w2.output = w.output) (h4 : w.heap.size ≤ w2.heap.size) :
    TrieM w2 base T m vN (l.set i x) ∧ Went w w2 (Foot T vN l) (Foot T vN (l.set i x)) := by
  have hl : (l.set i x).length = l.length := List.length_set
  refine ⟨⟨h.bT, hT.trans h.blk, by rw [hl]; exact hN, ?_, ?_, ?_, ?_⟩, ⟨h1, h2, h3, h4, ?_, ?_⟩⟩
  · intro j a ha
    rcases set_at ha with ⟨rfl, rfl⟩ | ⟨hj, ha⟩
    · exact hr
    · refine own_of_blocks (h.rr j a ha) fun k hk0 => hfar k ((h.rr j a ha).lt k hk0).2 ?_ ?_ ?_
      · exact own_type (h.rr j a ha) h.nodes (by decide) k hk0
      · exact fun hk1 => hj (h.apR j i a n k ha hn hk0 hk1)
      · exact own_type (h.rr j a ha) (h.kk i n hn) (by decide) k hk0
  · intro j a ha
    rcases set_at ha with ⟨rfl, rfl⟩ | ⟨hj, ha⟩
    · exact hk
    · refine own_of_blocks (h.kk j a ha) fun k hk0 => hfar k ((h.kk j a ha).lt k hk0).2 ?_ ?_ ?_
      · exact own_type (h.kk j a ha) h.nodes (by decide) k hk0
      · exact own_type (h.kk j a ha) (h.rr i n hn) (by decide) k hk0
      · exact fun hk1 => hj (h.apK j i a n k ha hn hk0 hk1)
  · intro j j' a b g ha hb hga hgb
    rcases set_at ha with ⟨rfl, rfl⟩ | ⟨hj, ha1⟩ <;> rcases set_at hb with ⟨rfl, rfl⟩ | ⟨hj', hb1⟩
    · rfl
    · rcases hx g hga with h5 | h5
      · exact h.apR _ _ _ _ g hn hb1 h5 hgb
      · exact absurd ((h.rr j' b hb1).lt g hgb).2 (by omega)
    · rcases hx g hgb with h5 | h5
      · exact h.apR _ _ _ _ g ha1 hn hga h5
      · exact absurd ((h.rr j a ha1).lt g hga).2 (by omega)
    · exact h.apR _ _ _ _ g ha1 hb1 hga hgb
  · intro j j' a b g ha hb hga hgb
    rcases set_at ha with ⟨rfl, rfl⟩ | ⟨hj, ha1⟩ <;> rcases set_at hb with ⟨rfl, rfl⟩ | ⟨hj', hb1⟩
    · rfl
    · rcases hy g hga with h5 | h5
      · exact h.apK _ _ _ _ g hn hb1 h5 hgb
      · exact absurd ((h.kk j' b hb1).lt g hgb).2 (by omega)
    · rcases hy g hgb with h5 | h5
      · exact h.apK _ _ _ _ g ha1 hn hga h5
      · exact absurd ((h.kk j a ha1).lt g hga).2 (by omega)
    · exact h.apK _ _ _ _ g ha1 hb1 hga hgb
  · intro k hk0 hF
    exact hfar k hk0 (fun e => hF (Or.inr (Or.inl e))) (fun e => hF (Or.inr (Or.inr ⟨i, n, hn, Or.inl e⟩))) (fun e => hF (Or.inr (Or.inr ⟨i, n, hn, Or.inr e⟩)))
  · rintro k (rfl | hk0 | ⟨j, a, ha, hk0⟩)
    · exact Or.inl (Or.inl rfl)
    · exact Or.inl (Or.inr (Or.inl hk0))
    · rcases set_at ha with ⟨rfl, rfl⟩ | ⟨hj, ha⟩
      · rcases hk0 with hk0 | hk0
        · rcases hx k hk0 with h5 | h5
          · exact Or.inl (Or.inr (Or.inr ⟨_, n, hn, Or.inl h5⟩))
          · exact Or.inr h5
        · rcases hy k hk0 with h5 | h5
          · exact Or.inl (Or.inr (Or.inr ⟨_, n, hn, Or.inr h5⟩))
          · exact Or.inr h5
      · exact Or.inl (Or.inr (Or.inr ⟨j, a, ha, hk0⟩))
theorem TrieM.len {w : World} {base T m g q c : Nat} {l : List Nd} (h : TrieM w base T m (.slice (some ⟨g, 0, none⟩) q c) l) : q = l.length := by
  obtain ⟨_, ⟨e, _⟩ | ⟨g', cap', cur, e, _⟩⟩ := h.nodes
  · cases e
  · injection e
/-- Behind an append onto the node's runes, stored there. -/
theorem TrieM.putR {w w1 : World} {base T m g c z : Nat} {l : List Nd} (h : TrieM w base T m (.slice (some ⟨g, 0, none⟩) z c) l) {i : Nat} {n : Nd} (hn : l[i]? = some n) {o : Obj} {g' q c' : Nat} {R : List Int} (hq : R.length = q)
    (ho : w1.ownsRow base 21 1 (.slice (some ⟨g', 0, none⟩) q c') q (R.map i32c)) (hg : (w.alloc o).grownBy w1 n.r.ownBlock) (ha : n.r.ownBlock = some g' ∨ g' = w.heap.size + 1) :
    TrieM (w1.setCell ⟨g, i * 3, none⟩ (.slice (some ⟨g', 0, none⟩) q c')) base T m (.slice (some ⟨g, 0, none⟩) z c) (l.set i ⟨.slice (some ⟨g', 0, none⟩) q c', n.k, ⟨R, n.p.K, n.p.e⟩⟩) ∧
      Went w (w1.setCell ⟨g, i * 3, none⟩ (.slice (some ⟨g', 0, none⟩) q c')) (Foot T (.slice (some ⟨g, 0, none⟩) z c) l) (Foot T (.slice (some ⟨g, 0, none⟩) z c) (l.set i ⟨.slice (some ⟨g', 0, none⟩) q c', n.k, ⟨R, n.p.K, n.p.e⟩⟩)) := by
  have hz := h.len
  subst hz
  subst hq
  have hal : ∀ k, k < w.heap.size → (w.alloc o).heap[k]? = w.heap[k]? := fun k hk => (World.grownBy_alloc w o none).block k hk (by simp)
  have hsz : (w.alloc o).heap.size = w.heap.size + 1 := by simp
  have hold : ∀ k, k < w.heap.size → n.r.ownBlock ≠ some k → w1.heap[k]? = w.heap[k]? := fun k hk hne => (hg.block k (by omega) (fun e => hne e.symm)).trans (hal k hk)
  have hN1 : w1.ownsRow base 70 3 (.slice (some ⟨g, 0, none⟩) l.length c) l.length (ndC l) := own_of_blocks h.nodes fun k hk => hold k (h.nodes.lt k hk).2 (own_type h.nodes (h.rr i n hn) (by decide) k hk)
  have hne : g' ≠ g := fun e => own_type ho hN1 (by decide) g' rfl (by rw [e]; rfl)
  have hgT : g ≠ T := fun e => own_blk h.nodes h.blk (by decide) (by rw [← e]; rfl)
  have hset : ∀ k, k ≠ g → (w1.setCell ⟨g, i * 3, none⟩ (.slice (some ⟨g', 0, none⟩) R.length c')).heap[k]? = w1.heap[k]? := fun k hk => heap_setCell_other w1 ⟨g, i * 3, none⟩ k _ (fun e => hk e)
  obtain ⟨hs, _⟩ := hN1.stored (i * 3) (.slice (some ⟨g', 0, none⟩) R.length c')
  refine h.swap hn ⟨.slice (some ⟨g', 0, none⟩) R.length c', n.k, ⟨R, n.p.K, n.p.e⟩⟩ ?_ ?_ ?_ ?_ ?_ ?_ ?_ ?_ ?_ ?_ ?_
  · rw [hset T (fun e => hgT e.symm)]
    exact hold T (lt_of_heap h.blk) (own_blk (h.rr i n hn) h.blk (by decide))
  · rw [ndC_setR l i n _ ⟨R, n.p.K, n.p.e⟩ hn rfl]; exact hs
  · exact own_of_blocks ho fun k hk => by cases hk; exact hset _ hne
  · refine own_of_blocks (h.kk i n hn) fun k hk => ?_
    rw [hset k (fun e => own_type (h.kk i n hn) h.nodes (by decide) k hk (by rw [e]; rfl))]
    exact hold k ((h.kk i n hn).lt k hk).2 (own_type (h.kk i n hn) (h.rr i n hn) (by decide) k hk)
  · intro k hk h5 h6 _
    rw [hset k (fun e => h5 (by rw [e]; rfl))]
    exact hold k hk h6
  · intro k hk
    have e : g' = k := by simpa [Value.ownBlock] using hk
    subst e
    rcases ha with h5 | h5
    · exact Or.inl h5
    · exact Or.inr (by omega)
  · exact fun k hk => Or.inl hk
  · exact hg.os
  · exact hg.tape
  · exact hg.output
  · have := hg.size
    simp only [World.setCell]
    simp
    omega
/-- Behind an append onto the node's kids, stored there. -/
theorem TrieM.putK {w w1 : World} {base T m g c z : Nat} {l : List Nd} (h : TrieM w base T m (.slice (some ⟨g, 0, none⟩) z c) l) {i : Nat} {n : Nd} (hn : l[i]? = some n) {o : Obj} {g' q c' : Nat} {K : List Nat} (hq : K.length = q)
    (ho : w1.ownsRow base 3 1 (.slice (some ⟨g', 0, none⟩) q c') q (K.map i64c)) (hg : (w.alloc o).grownBy w1 n.k.ownBlock) (ha : n.k.ownBlock = some g' ∨ g' = w.heap.size + 1) :
    TrieM (w1.setCell ⟨g, i * 3 + 1, none⟩ (.slice (some ⟨g', 0, none⟩) q c')) base T m (.slice (some ⟨g, 0, none⟩) z c) (l.set i ⟨n.r, .slice (some ⟨g', 0, none⟩) q c', ⟨n.p.R, K, n.p.e⟩⟩) ∧
      Went w (w1.setCell ⟨g, i * 3 + 1, none⟩ (.slice (some ⟨g', 0, none⟩) q c')) (Foot T (.slice (some ⟨g, 0, none⟩) z c) l) (Foot T (.slice (some ⟨g, 0, none⟩) z c) (l.set i ⟨n.r, .slice (some ⟨g', 0, none⟩) q c', ⟨n.p.R, K, n.p.e⟩⟩)) := by
  have hz := h.len
  subst hz
  subst hq
  have hal : ∀ k, k < w.heap.size → (w.alloc o).heap[k]? = w.heap[k]? := fun k hk => (World.grownBy_alloc w o none).block k hk (by simp)
  have hsz : (w.alloc o).heap.size = w.heap.size + 1 := by simp
  have hold : ∀ k, k < w.heap.size → n.k.ownBlock ≠ some k → w1.heap[k]? = w.heap[k]? := fun k hk hne => (hg.block k (by omega) (fun e => hne e.symm)).trans (hal k hk)
  have hN1 : w1.ownsRow base 70 3 (.slice (some ⟨g, 0, none⟩) l.length c) l.length (ndC l) := own_of_blocks h.nodes fun k hk => hold k (h.nodes.lt k hk).2 (own_type h.nodes (h.kk i n hn) (by decide) k hk)
  have hne : g' ≠ g := fun e => own_type ho hN1 (by decide) g' rfl (by rw [e]; rfl)
  have hgT : g ≠ T := fun e => own_blk h.nodes h.blk (by decide) (by rw [← e]; rfl)
  have hset : ∀ k, k ≠ g → (w1.setCell ⟨g, i * 3 + 1, none⟩ (.slice (some ⟨g', 0, none⟩) K.length c')).heap[k]? = w1.heap[k]? := fun k hk => heap_setCell_other w1 ⟨g, i * 3 + 1, none⟩ k _ (fun e => hk e)
  obtain ⟨hs, _⟩ := hN1.stored (i * 3 + 1) (.slice (some ⟨g', 0, none⟩) K.length c')
  refine h.swap hn ⟨n.r, .slice (some ⟨g', 0, none⟩) K.length c', ⟨n.p.R, K, n.p.e⟩⟩ ?_ ?_ ?_ ?_ ?_ ?_ ?_ ?_ ?_ ?_ ?_
  · rw [hset T (fun e => hgT e.symm)]
    exact hold T (lt_of_heap h.blk) (own_blk (h.kk i n hn) h.blk (by decide))
  · rw [ndC_setK l i n _ ⟨n.p.R, K, n.p.e⟩ hn rfl]; exact hs
  · refine own_of_blocks (h.rr i n hn) fun k hk => ?_
    rw [hset k (fun e => own_type (h.rr i n hn) h.nodes (by decide) k hk (by rw [e]; rfl))]
    exact hold k ((h.rr i n hn).lt k hk).2 (own_type (h.rr i n hn) (h.kk i n hn) (by decide) k hk)
  · exact own_of_blocks ho fun k hk => by cases hk; exact hset _ hne
  · intro k hk h5 _ h6
    rw [hset k (fun e => h5 (by rw [e]; rfl))]
    exact hold k hk h6
  · exact fun k hk => Or.inl hk
  · intro k hk
    have e : g' = k := by simpa [Value.ownBlock] using hk
    subst e
    rcases ha with h5 | h5
    · exact Or.inl h5
    · exact Or.inr (by omega)
  · exact hg.os
  · exact hg.tape
  · exact hg.output
  · have := hg.size
    simp only [World.setCell]
    simp
    omega
end Go.Proofs.YtfikkkodepfdkaaDoor
namespace Go.Proofs.YtfikkkodepfdkaaDoor
set_option linter.unusedVariables false
open Go.RowKit Go.ChangeShapes
def nd0 : Nd := ⟨.slice none 0 0, .slice none 0 0, ⟨[], [], false⟩⟩
theorem app_at {l : List Nd} {x a : Nd} {j : Nat} (h : (l ++ [x])[j]? = some a) : l[j]? = some a ∨ (j = l.length ∧ a = x) := by
  by_cases e : j < l.length
  · rw [List.getElem?_append_left e] at h; exact Or.inl h
  · rw [List.getElem?_append_right (by omega)] at h
    match hj : j - l.length, h with
    | 0, h => exact Or.inr ⟨by omega, by simpa using h.symm⟩
    | k + 1, h => simp at h
theorem TrieM.grow {w w1 : World} {base T m : Nat} {vN : Value} {l : List Nd} (h : TrieM w base T m vN l) {o : Obj} {g' c' q : Nat} (hq : q = l.length + 1)
    (ho : w1.ownsRow base 70 3 (.slice (some ⟨g', 0, none⟩) q c') q (ndC l ++ [.slice none 0 0, .slice none 0 0, .bool false])) (hg : (w.alloc o).grownBy w1 vN.ownBlock) (ha : vN.ownBlock = some g' ∨ g' = w.heap.size + 1) :
    TrieM (w1.setCell ⟨T, 1, none⟩ (.slice (some ⟨g', 0, none⟩) q c')) base T m (.slice (some ⟨g', 0, none⟩) q c') (l ++ [nd0]) ∧
      Went w (w1.setCell ⟨T, 1, none⟩ (.slice (some ⟨g', 0, none⟩) q c')) (Foot T vN l) (Foot T (.slice (some ⟨g', 0, none⟩) q c') (l ++ [nd0])) := by
  subst hq
  have hal : ∀ k, k < w.heap.size → (w.alloc o).heap[k]? = w.heap[k]? := fun k hk => (World.grownBy_alloc w o none).block k hk (by simp)
  have hsz : (w.alloc o).heap.size = w.heap.size + 1 := by simp
  have hold : ∀ k, k < w.heap.size → vN.ownBlock ≠ some k → w1.heap[k]? = w.heap[k]? := fun k hk hne => (hg.block k (by omega) (fun e => hne e.symm)).trans (hal k hk)
  have hT1 : w1.heap[T]? = some (.cells #[.int .i64 (m : Int), vN] 57 (0, 0)) := (hold T (lt_of_heap h.blk) (own_blk h.nodes h.blk (by decide))).trans h.blk
  have hne : g' ≠ T := fun e => own_blk ho hT1 (by decide) (by rw [← e]; rfl)
  have hset : ∀ k, k ≠ T → (w1.setCell ⟨T, 1, none⟩ (.slice (some ⟨g', 0, none⟩) (l.length + 1) c')).heap[k]? = w1.heap[k]? := fun k hk => heap_setCell_other w1 ⟨T, 1, none⟩ k _ (fun e => hk e)
  have hrk : ∀ (j : Nat) (a : Nd), l[j]? = some a → ∀ k, a.r.ownBlock = some k ∨ a.k.ownBlock = some k → (w1.setCell ⟨T, 1, none⟩ (.slice (some ⟨g', 0, none⟩) (l.length + 1) c')).heap[k]? = w.heap[k]? := by
    intro j a hj k hk
    rcases hk with hk | hk
    · rw [hset k (fun e => own_blk (h.rr j a hj) h.blk (by decide) (by rw [← e]; exact hk))]
      exact hold k ((h.rr j a hj).lt k hk).2 (own_type (h.rr j a hj) h.nodes (by decide) k hk)
    · rw [hset k (fun e => own_blk (h.kk j a hj) h.blk (by decide) (by rw [← e]; exact hk))]
      exact hold k ((h.kk j a hj).lt k hk).2 (own_type (h.kk j a hj) h.nodes (by decide) k hk)
  refine ⟨⟨h.bT, ?_, ?_, ?_, ?_, ?_, ?_⟩, ⟨hg.os, hg.tape, hg.output, ?_, ?_, ?_⟩⟩
  · exact heap_setCell_same w1 T 1 _ _ _ hT1
  · rw [List.length_append, ndC_app]
    exact own_of_blocks ho fun k hk => by
      have e : g' = k := by simpa [Value.ownBlock] using hk
      subst e
      exact hset _ hne
  · intro j a hj
    rcases app_at hj with hj | ⟨rfl, rfl⟩
    · exact own_of_blocks (h.rr j a hj) fun k hk => hrk j a hj k (Or.inl hk)
    · exact World.ownsRow_nil _ _ _ _
  · intro j a hj
    rcases app_at hj with hj | ⟨rfl, rfl⟩
    · exact own_of_blocks (h.kk j a hj) fun k hk => hrk j a hj k (Or.inr hk)
    · exact World.ownsRow_nil _ _ _ _
  · intro i j a b g hi hj hga hgb
    rcases app_at hi with hi | ⟨_, rfl⟩
    · rcases app_at hj with hj | ⟨_, rfl⟩
      · exact h.apR i j a b g hi hj hga hgb
      · cases hgb
    · cases hga
  · intro i j a b g hi hj hga hgb
    rcases app_at hi with hi | ⟨_, rfl⟩
    · rcases app_at hj with hj | ⟨_, rfl⟩
      · exact h.apK i j a b g hi hj hga hgb
      · cases hgb
    · cases hga
  · have := hg.size
    simp only [World.setCell]
    simp
    omega
  · intro k hk hF
    rw [hset k (fun e => hF (Or.inl e))]
    exact hold k hk (fun e => hF (Or.inr (Or.inl e)))
  · rintro k (rfl | hk | ⟨j, a, hj, hk⟩)
    · exact Or.inl (Or.inl rfl)
    · have e : g' = k := by simpa [Value.ownBlock] using hk
      subst e
      rcases ha with h5 | h5
      · exact Or.inl (Or.inr (Or.inl h5))
      · exact Or.inr (by omega)
    · rcases app_at hj with hj | ⟨_, rfl⟩
      · exact Or.inl (Or.inr (Or.inr ⟨j, a, hj, hk⟩))
      · rcases hk with hk | hk <;> cases hk
/-- A word ends at a node. -/
theorem TrieM.putE {w : World} {base T m g c z : Nat} {l : List Nd} (h : TrieM w base T m (.slice (some ⟨g, 0, none⟩) z c) l) {i : Nat} {n : Nd} (hn : l[i]? = some n) (b : Bool) :
    TrieM (w.setCell ⟨g, i * 3 + 2, none⟩ (.bool b)) base T m (.slice (some ⟨g, 0, none⟩) z c) (l.set i ⟨n.r, n.k, ⟨n.p.R, n.p.K, b⟩⟩) ∧
      Went w (w.setCell ⟨g, i * 3 + 2, none⟩ (.bool b)) (Foot T (.slice (some ⟨g, 0, none⟩) z c) l) (Foot T (.slice (some ⟨g, 0, none⟩) z c) (l.set i ⟨n.r, n.k, ⟨n.p.R, n.p.K, b⟩⟩)) := by
  have hz := h.len
  subst hz
  have hgT : g ≠ T := fun e => own_blk h.nodes h.blk (by decide) (by rw [← e]; rfl)
  have hset : ∀ k, k ≠ g → (w.setCell ⟨g, i * 3 + 2, none⟩ (.bool b)).heap[k]? = w.heap[k]? := fun k hk => heap_setCell_other w ⟨g, i * 3 + 2, none⟩ k _ (fun e => hk e)
  obtain ⟨hs, _⟩ := h.nodes.stored (i * 3 + 2) (.bool b)
  refine h.swap hn ⟨n.r, n.k, ⟨n.p.R, n.p.K, b⟩⟩ (hset T (fun e => hgT e.symm)) ?_ ?_ ?_ ?_ (fun k hk => Or.inl hk) (fun k hk => Or.inl hk) rfl rfl rfl ?_
  · rw [ndC_setE l i n ⟨n.p.R, n.p.K, b⟩ hn]; exact hs
  · exact own_of_blocks (h.rr i n hn) fun k hk => hset k (fun e => own_type (h.rr i n hn) h.nodes (by decide) k hk (by rw [e]; rfl))
  · exact own_of_blocks (h.kk i n hn) fun k hk => hset k (fun e => own_type (h.kk i n hn) h.nodes (by decide) k hk (by rw [e]; rfl))
  · exact fun k _ h5 _ _ => hset k (fun e => h5 (by rw [e]; rfl))
  · simp [World.setCell]
/-- One word more. -/
theorem TrieM.putW {w : World} {base T m : Nat} {vN : Value} {l : List Nd} (h : TrieM w base T m vN l) (m' : Nat) :
    TrieM (w.setCell ⟨T, 0, none⟩ (.int .i64 (m' : Int))) base T m' vN l ∧ Went w (w.setCell ⟨T, 0, none⟩ (.int .i64 (m' : Int))) (Foot T vN l) (Foot T vN l) := by
  have hset : ∀ k, k ≠ T → (w.setCell ⟨T, 0, none⟩ (.int .i64 (m' : Int))).heap[k]? = w.heap[k]? := fun k hk => heap_setCell_other w ⟨T, 0, none⟩ k _ (fun e => hk e)
  refine ⟨⟨h.bT, heap_setCell_same w T 0 _ _ _ h.blk, own_of_blocks h.nodes fun k hk => hset k (fun e => own_blk h.nodes h.blk (by decide) (by rw [← e]; exact hk)), ?_, ?_, h.apR, h.apK⟩, ⟨rfl, rfl, rfl, by simp [World.setCell], fun k _ hF => hset k (fun e => hF (Or.inl e)), fun k hk => Or.inl hk⟩⟩
  · exact fun j a hj => own_of_blocks (h.rr j a hj) fun k hk => hset k (fun e => own_blk (h.rr j a hj) h.blk (by decide) (by rw [← e]; exact hk))
  · exact fun j a hj => own_of_blocks (h.kk j a hj) fun k hk => hset k (fun e => own_blk (h.kk j a hj) h.blk (by decide) (by rw [← e]; exact hk))
end Go.Proofs.YtfikkkodepfdkaaDoor
namespace Go.Proofs.YtfikkkodepfdkaaDoor
set_option linter.unusedVariables false
open Go.RowKit Go.ChangeShapes
/-- What the trie's cells hold at a node. -/
theorem TrieM.at {w : World} {base T m : Nat} {vN : Value} {l : List Nd} (h : TrieM w base T m vN l) {i : Nat} {n : Nd} (hn : l[i]? = some n) :
    ∃ g cap, vN = .slice (some ⟨g, 0, none⟩) l.length cap ∧ w.cell? ⟨T, 0, none⟩ = some (.int .i64 (m : Int)) ∧ w.cell? ⟨T, 1, none⟩ = some vN ∧
      w.cell? ⟨g, i * 3, none⟩ = some n.r ∧ w.cell? ⟨g, i * 3 + 1, none⟩ = some n.k ∧ w.cell? ⟨g, i * 3 + 2, none⟩ = some (.bool n.p.e) := by
  have hi : i < l.length := (List.getElem?_eq_some_iff.1 hn).1
  obtain ⟨g, cap, rfl, _, _⟩ := h.nodes.form (by omega)
  obtain ⟨a, b, c⟩ := ndC_at l i n hn
  refine ⟨g, cap, rfl, ?_, ?_, ?_, ?_, ?_⟩
  · rw [cell_of_row w T 0 _ _ _ h.blk]; rfl
  · rw [cell_of_row w T 1 _ _ _ h.blk]; rfl
  · rw [h.nodes.cellAt _ (by omega)]; exact a
  · rw [h.nodes.cellAt _ (by omega)]; exact b
  · rw [h.nodes.cellAt _ (by omega)]; exact c
theorem step_old {w : World} {base T m : Nat} {vN : Value} {l : List Nd} (h : TrieM w base T m vN l) {i : Nat} {n : Nd} (hn : l[i]? = some n) (h63 : l.length ≤ 1000000) (R : List Int) (r : Int) (hR : n.p.R = R ++ [r]) (K : List Nat) (c : Nat) (hK : n.p.K = K ++ [c]) (hl : R.length = K.length) (hRl : R.length ≤ 1000000) :
    Calls Tryd.prog 47 #[.pointer (some ⟨T, 0, none⟩), .int .i64 (i : Int), .int .i32 r] w fun e w' => e = .returned (.int .i64 (c : Int)) ∧ w' = w := by
  have hi : i < l.length := (List.getElem?_eq_some_iff.1 hn).1
  obtain ⟨g, cap, rfl, c0, c1, c2, c3, c4⟩ := h.at hn
  have hr := h.rr i n hn
  have hk := h.kk i n hn
  rw [hR] at hr
  rw [hK] at hk
  rw [List.length_append] at hr hk
  obtain ⟨gr, cr, er, _, _⟩ := hr.form (by simp)
  obtain ⟨gk, ck, ek, _, _⟩ := hk.form (by simp)
  rw [er] at hr c2
  rw [ek] at hk c3
  have d1 := hr.cellAt R.length (by simp)
  have d2 := hk.cellAt K.length (by simp)
  rw [List.map_append, List.getElem?_append_right (by simp)] at d1 d2
  simp only [List.length_map, Nat.sub_self, List.map_cons, List.getElem?_cons_zero, i32c, i64c, List.length_cons, List.length_nil] at d1 d2 c2 c3
  rw [← hl] at d2 c3
  clear hr hk er ek hn h hR hK hl
  generalize R.length = q at d1 d2 c2 c3 hRl
  rw [show q + (0 + 1) = q + 1 by omega] at c2 c3
  have z1 : ((i : Nat) : Int) < (l.length : Int) := by omega
  have z2 : (0 : Int) ≤ (i : Int) := by omega
  have z3 : ((q + 1 : Nat) : Int) - 1 = (q : Int) := by omega
  have z4 : (q : Int) < ((q + 1 : Nat) : Int) := by omega
  have z5 : (0 : Int) ≤ (q : Int) := by omega
  go_enter Tryd.func47, Tryd.ntmps47
  go_wp2
  go_ret
  exact ⟨rfl, rfl⟩
theorem infoI : (Tryd.prog.info? 3).map (fun i => (i.zero, i.size, i.bytes)) = some (some (.int .i64 0), 1, 8) := by kernel_rfl
theorem infoN : (Tryd.prog.info? 70).map (fun i => (i.zero, i.size, i.bytes)) = some (some (.agg #[.slice none 0 0, .slice none 0 0, .bool false]), 3, 56) := by kernel_rfl
theorem TrieM.cells2 {w : World} {base T m g q c : Nat} {l : List Nd} (h : TrieM w base T m (.slice (some ⟨g, 0, none⟩) q c) l) {i : Nat} {n : Nd} (hn : l[i]? = some n) :
    w.cell? ⟨T, 0, none⟩ = some (.int .i64 (m : Int)) ∧ w.cell? ⟨T, 1, none⟩ = some (.slice (some ⟨g, 0, none⟩) q c) ∧ w.cell? ⟨g, i * 3, none⟩ = some n.r ∧ w.cell? ⟨g, i * 3 + 1, none⟩ = some n.k ∧ w.cell? ⟨g, i * 3 + 2, none⟩ = some (.bool n.p.e) ∧
      (∀ j, w.frozen? ⟨g, j, none⟩ = false) ∧ (∀ j, w.frozen? ⟨T, j, none⟩ = false) ∧ q = l.length := by
  obtain ⟨g', cap, e, c0, c1, c2, c3, c4⟩ := h.at hn
  injection e with e1 e2 e3
  injection e1 with e1
  injection e1 with e1 _ _
  subst e1 e2 e3
  exact ⟨c0, c1, c2, c3, c4, fun j => h.nodes.frozenAt j, fun j => frozen_of_row w T j _ _ h.blk, rfl⟩
theorem TrieM.far1 {w w1 : World} {base T m g q c : Nat} {l : List Nd} (h : TrieM w base T m (.slice (some ⟨g, 0, none⟩) q c) l) {o : Obj} {v : Value} {b e s n : Nat} {xs : List Value} (hv : w.ownsRow b e s v n xs) (hg : (w.alloc o).grownBy w1 v.ownBlock) :
    (e ≠ 70 → w1.heap[g]? = w.heap[g]?) ∧ (e ≠ 57 → w1.heap[T]? = w.heap[T]?) := by
  have hlt := h.nodes.lt g rfl
  have hltT := lt_of_heap h.blk
  have hsz : (w.alloc o).heap.size = w.heap.size + 1 := by simp
  refine ⟨fun he => ?_, fun he => ?_⟩
  · exact (hg.block g (by omega) (fun e1 => own_type hv h.nodes he g e1.symm rfl)).trans ((World.grownBy_alloc w o none).block g hlt.2 (by simp))
  · exact (hg.block T (by omega) (fun e1 => own_blk hv h.blk he e1.symm)).trans ((World.grownBy_alloc w o none).block T hltT (by simp))
theorem one_new {w : World} {v : Value} {B : Nat} {o : Obj} (ho : o = .cells #[v] B) : ∀ j u, [v][j]? = some u → (w.alloc o).cell? ((⟨w.heap.size, 0, none⟩ : Addr).add j) = some u := by
  subst ho
  exact World.news_of_block (heap_alloc_new w _)
theorem oneCell_i32 (r : Int) : ∀ u ∈ [Value.int .i32 r], u.oneCell' = true := by
  intro u hu
  simp at hu
  rw [hu]; rfl
theorem oneCell_i64 (r : Int) : ∀ u ∈ [Value.int .i64 r], u.oneCell' = true := by
  intro u hu
  simp at hu
  rw [hu]; rfl
theorem oneCell_slices : ∀ u ∈ [Value.slice none 0 0, .slice none 0 0, .bool false], u.oneCell' = true := by
  intro u hu
  simp at hu
  rcases hu with rfl | rfl <;> rfl
set_option maxHeartbeats 1000000 in
set_option maxRecDepth 100000 in
theorem step_new {w : World} {base T m : Nat} {vN : Value} {l : List Nd} (h : TrieM w base T m vN l) {i : Nat} {nr nk : Value} {R0 : List Int} {K0 : List Nat} {e0 : Bool} (hn : l[i]? = some ⟨nr, nk, ⟨R0, K0, e0⟩⟩) (h63 : l.length ≤ 1000000) (r : Int) (hKl : K0.length ≤ 1000000) (hRl : R0.length ≤ 1000000) (hR : R0.getLast? ≠ some r) (hb : base ≤ w.heap.size) :
    Calls Tryd.prog 47 #[.pointer (some ⟨T, 0, none⟩), .int .i64 (i : Int), .int .i32 r] w fun e w' => ∃ vN' rv kv, e = .returned (.int .i64 (l.length : Int)) ∧
      TrieM w' base T m vN' (l.set i ⟨rv, kv, ⟨R0 ++ [r], K0 ++ [l.length], e0⟩⟩ ++ [nd0]) ∧ Went w w' (Foot T vN l) (Foot T vN' (l.set i ⟨rv, kv, ⟨R0 ++ [r], K0 ++ [l.length], e0⟩⟩ ++ [nd0])) := by
  have hi : i < l.length := (List.getElem?_eq_some_iff.1 hn).1
  obtain ⟨g, cap, rfl, -⟩ := h.at hn
  obtain ⟨c0, c1, c2, c3, c4, f1, -, -⟩ := h.cells2 hn
  replace f1 : Hid (∀ j, w.frozen? ⟨g, j, none⟩ = false) := f1
  dsimp only at c2 c3 c4
  have HR : Hid (w.ownsRow base 21 1 nr R0.length (R0.map i32c)) := h.rr i _ hn
  have HK : Hid (w.ownsRow base 3 1 nk K0.length (K0.map i64c)) := h.kk i _ hn
  have z1 : ((i : Nat) : Int) < (l.length : Int) := by omega
  have z2 : (0 : Int) ≤ (i : Int) := by omega
  obtain ⟨i1, hi1, hz0, hz1, hz2⟩ := info_parts info21
  obtain ⟨i2, hi2, hy0, hy1, hy2⟩ := info_parts infoI
  obtain ⟨i3, hi3, hx0, hx1, hx2⟩ := info_parts infoN
  have H : Hid (TrieM w base T m (.slice (some ⟨g, 0, none⟩) l.length cap) l) := h
  clear h
  rcases List.eq_nil_or_concat R0 with hR0 | ⟨R, x, hR0⟩
  · obtain ⟨cr, ad, rfl⟩ : ∃ cr ad, nr = .slice ad 0 cr := by
      have h0 := HR.out
      rw [hR0] at h0
      obtain ⟨_, ⟨e, _⟩ | ⟨g1, c1, _, e, _⟩⟩ := h0
      · exact ⟨_, _, e⟩
      · exact ⟨_, _, e⟩
    clear hR0 hR
    go_enter Tryd.func47, Tryd.ntmps47
    go_upto_region 6 with fail
    go_wp2_with (at_builtin; refine wpList_append_lies _ rfl _ _ 37 rfl base 21 i1 _ 1 4 Tryd.underlying37 hi1 hz0 hz1 hz2 rfl (by decide) _ _ _ rfl (HR.out.alloc _) ⟨w.heap.size, 0, none⟩ 1 1 [.int .i32 r] rfl rfl (World.news_of_block (heap_alloc_new _ _)) (oneCell_i32 r) (by omega) (by unfold maxLen; omega) (by omega) (by simp; omega) (w.heap.size + 1) (by simp) ?_)
    intro g1 cap1 w1 ho1 hg1 ha1 _
    have ho1' : w1.ownsRow base 21 1 (.slice (some ⟨g1, 0, none⟩) (R0.length + 1) cap1) (R0.length + 1) ((R0 ++ [r]).map i32c) := by rw [List.map_append]; exact ho1
    have b1 := (H.out.far1 HR.out hg1).1 (by decide)
    have e1 := (World.cell?_of_block (a := ⟨g, i * 3, none⟩) b1).trans c2
    have e2 := (World.frozen?_of_block (a := ⟨g, i * 3, none⟩) b1).trans (f1.out _)
    obtain ⟨HT2, HW2⟩ := H.out.putR hn (by simp) ho1' hg1 ha1
    dsimp only at HT2 HW2
    have H2 : Hid (TrieM _ _ _ _ _ _) := HT2
    have W2 : Hid (Went _ _ _ _) := HW2
    clear HT2 HW2 ho1 ho1' hg1 ha1 b1 c0 c1 c2 c3 c4
    go_upto_region 7 with fail
    generalize w1.setCell ⟨g, i * 3, none⟩ (.slice (some ⟨g1, 0, none⟩) (R0.length + 1) cap1) = w2 at *
    clear e1 e2
    have hn2 : (l.set i ⟨.slice (some ⟨g1, 0, none⟩) (R0.length + 1) cap1, nk, ⟨R0 ++ [r], K0, e0⟩⟩)[i]? = some ⟨.slice (some ⟨g1, 0, none⟩) (R0.length + 1) cap1, nk, ⟨R0 ++ [r], K0, e0⟩⟩ := by rw [List.getElem?_set_self hi]
    obtain ⟨-, c1, c2, c3, -, f3, -, -⟩ := H2.out.cells2 hn2
    dsimp only at c2 c3
    have F3 : Hid _ := f3
    clear f3
    have HK2 : Hid (w2.ownsRow base 3 1 nk K0.length (K0.map i64c)) := H2.out.kk i _ hn2
    have s2 := W2.out.size
    go_wp2_with (at_builtin; refine wpList_append_lies _ rfl _ _ 50 rfl base 3 i2 _ 1 8 Tryd.underlying50 hi2 hy0 hy1 hy2 rfl (by decide) _ _ _ rfl (HK2.out.alloc _) ⟨w2.heap.size, 0, none⟩ 1 1 [.int .i64 (l.length : Int)] rfl rfl (World.news_of_block (heap_alloc_new _ _)) (oneCell_i64 _) (by omega) (by unfold maxLen; omega) (by omega) (by simp; omega) (w2.heap.size + 1) (by simp) ?_)
    intro g2 cap2 w3 ho2 hg2 ha2 _
    have ho2' : w3.ownsRow base 3 1 (.slice (some ⟨g2, 0, none⟩) (K0.length + 1) cap2) (K0.length + 1) ((K0 ++ [l.length]).map i64c) := by rw [List.map_append]; exact ho2
    have b1 := (H2.out.far1 HK2.out hg2).1 (by decide)
    have e1 := (World.cell?_of_block (a := ⟨g, i * 3 + 1, none⟩) b1).trans c3
    have e2 := (World.frozen?_of_block (a := ⟨g, i * 3 + 1, none⟩) b1).trans (F3.out _)
    obtain ⟨HT3, HW3⟩ := H2.out.putK hn2 (by simp) ho2' hg2 ha2
    rw [List.set_set] at HT3 HW3
    dsimp only at HT3 HW3
    have H3 : Hid (TrieM _ _ _ _ _ _) := HT3
    have W3 : Hid (Went _ _ _ _) := W2.out.trans HW3
    clear HT3 HW3 ho2 ho2' hg2 ha2 b1 c1 c2 c3 H2 W2 F3 HK2 hn2
    go_upto_region 8 with fail
    generalize w3.setCell ⟨g, i * 3 + 1, none⟩ (.slice (some ⟨g2, 0, none⟩) (K0.length + 1) cap2) = w4 at *
    clear e1 e2
    have hn3 : (l.set i ⟨.slice (some ⟨g1, 0, none⟩) (R0.length + 1) cap1, .slice (some ⟨g2, 0, none⟩) (K0.length + 1) cap2, ⟨R0 ++ [r], K0 ++ [l.length], e0⟩⟩)[i]? = some ⟨.slice (some ⟨g1, 0, none⟩) (R0.length + 1) cap1, .slice (some ⟨g2, 0, none⟩) (K0.length + 1) cap2, ⟨R0 ++ [r], K0 ++ [l.length], e0⟩⟩ := by rw [List.getElem?_set_self hi]
    obtain ⟨-, c1, -, -, -, -, f3, -⟩ := H3.out.cells2 hn3
    have F3 : Hid _ := f3
    clear f3
    have HN : Hid (w4.ownsRow base 70 3 (.slice (some ⟨g, 0, none⟩) l.length cap) l.length (ndC (l.set i ⟨.slice (some ⟨g1, 0, none⟩) (R0.length + 1) cap1, .slice (some ⟨g2, 0, none⟩) (K0.length + 1) cap2, ⟨R0 ++ [r], K0 ++ [l.length], e0⟩⟩))) := by have := H3.out.nodes; rw [List.length_set] at this; exact this
    have s2 := W3.out.size
    go_wp2_with (at_builtin; refine wpList_append_lies _ rfl _ _ 55 rfl base 70 i3 _ 3 56 Tryd.underlying55 hi3 hx0 hx1 hx2 rfl (by decide) _ _ _ rfl (HN.out.alloc _) ⟨w4.heap.size, 0, none⟩ 1 1 [.slice none 0 0, .slice none 0 0, .bool false] rfl rfl (World.news_of_block (heap_alloc_new _ _)) oneCell_slices (by omega) (by unfold maxLen; omega) (by omega) (by simp; omega) (w4.heap.size + 1) (by simp) ?_)
    intro g3 cap3 w5 ho3 hg3 ha3 _
    have b1 := (H3.out.far1 HN.out hg3).2 (by decide)
    have e1 := (World.cell?_of_block (a := ⟨T, 1, none⟩) b1).trans c1
    have e2 := (World.frozen?_of_block (a := ⟨T, 1, none⟩) b1).trans (F3.out _)
    obtain ⟨HT4, HW4⟩ := H3.out.grow (by rw [List.length_set]) ho3 hg3 ha3
    have H4 : Hid (TrieM _ _ _ _ _ _) := HT4
    have W4 : Hid (Went _ _ _ _) := W3.out.trans HW4
    clear HT4 HW4 ho3 hg3 ha3 b1 c1 H3 W3 F3 HN hn3
    go_wp2
    go_ret
    exact ⟨_, _, _, rfl, H4, W4⟩
  · have hx : (x == r) = false := by
      rw [hR0, List.concat_eq_append, List.getLast?_append] at hR
      simpa using hR
    have hq : R0.length = R.length + 1 := by rw [hR0]; simp
    obtain ⟨gr, cr, enr, -, -⟩ := HR.out.form (by omega)
    have d0 := HR.out
    rw [enr] at d0
    have d1 := d0.cellAt R.length (by omega)
    clear d0
    rw [hR0, List.concat_eq_append, List.map_append, List.getElem?_append_right (by simp)] at d1
    simp only [List.length_map, Nat.sub_self, List.map_cons, List.getElem?_cons_zero, i32c] at d1
    rw [hq] at enr
    subst enr
    have hq' : R.length + 1 ≤ R0.length := by omega
    have hq2 : R.length ≤ 1000000 := by omega
    clear hR0 hR
    generalize R.length = q at *
    have z3 : ((q + 1 : Nat) : Int) - 1 = (q : Int) := by omega
    have z4 : (q : Int) < ((q + 1 : Nat) : Int) := by omega
    have z5 : (0 : Int) ≤ (q : Int) := by omega
    have z6 : ¬ x = r := by simpa using hx
    have HQ : Hid (R0.length = q + 1) := hq
    clear hq hq'
    go_enter Tryd.func47, Tryd.ntmps47
    go_upto_region 6 with fail
    go_wp2_with (at_builtin; refine wpList_append_lies _ rfl _ _ 37 rfl base 21 i1 _ 1 4 Tryd.underlying37 hi1 hz0 hz1 hz2 rfl (by decide) _ _ _ rfl (HR.out.alloc _) ⟨w.heap.size, 0, none⟩ 1 1 [.int .i32 r] rfl rfl (World.news_of_block (heap_alloc_new _ _)) (oneCell_i32 r) (by omega) (by unfold maxLen; omega) (by omega) (by simp; omega) (w.heap.size + 1) (by simp) ?_)
    intro g1 cap1 w1 ho1 hg1 ha1 _
    have ho1' : w1.ownsRow base 21 1 (.slice (some ⟨g1, 0, none⟩) (R0.length + 1) cap1) (R0.length + 1) ((R0 ++ [r]).map i32c) := by rw [List.map_append]; exact ho1
    have b1 := (H.out.far1 HR.out hg1).1 (by decide)
    have e1 := (World.cell?_of_block (a := ⟨g, i * 3, none⟩) b1).trans c2
    have e2 := (World.frozen?_of_block (a := ⟨g, i * 3, none⟩) b1).trans (f1.out _)
    obtain ⟨HT2, HW2⟩ := H.out.putR hn (by simp) ho1' hg1 ha1
    dsimp only at HT2 HW2
    have H2 : Hid (TrieM _ _ _ _ _ _) := HT2
    have W2 : Hid (Went _ _ _ _) := HW2
    clear HT2 HW2 ho1 ho1' hg1 ha1 b1 c0 c1 c2 c3 c4
    go_upto_region 7 with fail
    generalize w1.setCell ⟨g, i * 3, none⟩ (.slice (some ⟨g1, 0, none⟩) (R0.length + 1) cap1) = w2 at *
    clear e1 e2
    have hn2 : (l.set i ⟨.slice (some ⟨g1, 0, none⟩) (R0.length + 1) cap1, nk, ⟨R0 ++ [r], K0, e0⟩⟩)[i]? = some ⟨.slice (some ⟨g1, 0, none⟩) (R0.length + 1) cap1, nk, ⟨R0 ++ [r], K0, e0⟩⟩ := by rw [List.getElem?_set_self hi]
    obtain ⟨-, c1, c2, c3, -, f3, -, -⟩ := H2.out.cells2 hn2
    dsimp only at c2 c3
    have F3 : Hid _ := f3
    clear f3
    have HK2 : Hid (w2.ownsRow base 3 1 nk K0.length (K0.map i64c)) := H2.out.kk i _ hn2
    have s2 := W2.out.size
    go_wp2_with (at_builtin; refine wpList_append_lies _ rfl _ _ 50 rfl base 3 i2 _ 1 8 Tryd.underlying50 hi2 hy0 hy1 hy2 rfl (by decide) _ _ _ rfl (HK2.out.alloc _) ⟨w2.heap.size, 0, none⟩ 1 1 [.int .i64 (l.length : Int)] rfl rfl (World.news_of_block (heap_alloc_new _ _)) (oneCell_i64 _) (by omega) (by unfold maxLen; omega) (by omega) (by simp; omega) (w2.heap.size + 1) (by simp) ?_)
    intro g2 cap2 w3 ho2 hg2 ha2 _
    have ho2' : w3.ownsRow base 3 1 (.slice (some ⟨g2, 0, none⟩) (K0.length + 1) cap2) (K0.length + 1) ((K0 ++ [l.length]).map i64c) := by rw [List.map_append]; exact ho2
    have b1 := (H2.out.far1 HK2.out hg2).1 (by decide)
    have e1 := (World.cell?_of_block (a := ⟨g, i * 3 + 1, none⟩) b1).trans c3
    have e2 := (World.frozen?_of_block (a := ⟨g, i * 3 + 1, none⟩) b1).trans (F3.out _)
    obtain ⟨HT3, HW3⟩ := H2.out.putK hn2 (by simp) ho2' hg2 ha2
    rw [List.set_set] at HT3 HW3
    dsimp only at HT3 HW3
    have H3 : Hid (TrieM _ _ _ _ _ _) := HT3
    have W3 : Hid (Went _ _ _ _) := W2.out.trans HW3
    clear HT3 HW3 ho2 ho2' hg2 ha2 b1 c1 c2 c3 H2 W2 F3 HK2 hn2
    go_upto_region 8 with fail
    generalize w3.setCell ⟨g, i * 3 + 1, none⟩ (.slice (some ⟨g2, 0, none⟩) (K0.length + 1) cap2) = w4 at *
    clear e1 e2
    have hn3 : (l.set i ⟨.slice (some ⟨g1, 0, none⟩) (R0.length + 1) cap1, .slice (some ⟨g2, 0, none⟩) (K0.length + 1) cap2, ⟨R0 ++ [r], K0 ++ [l.length], e0⟩⟩)[i]? = some ⟨.slice (some ⟨g1, 0, none⟩) (R0.length + 1) cap1, .slice (some ⟨g2, 0, none⟩) (K0.length + 1) cap2, ⟨R0 ++ [r], K0 ++ [l.length], e0⟩⟩ := by rw [List.getElem?_set_self hi]
    obtain ⟨-, c1, -, -, -, -, f3, -⟩ := H3.out.cells2 hn3
    have F3 : Hid _ := f3
    clear f3
    have HN : Hid (w4.ownsRow base 70 3 (.slice (some ⟨g, 0, none⟩) l.length cap) l.length (ndC (l.set i ⟨.slice (some ⟨g1, 0, none⟩) (R0.length + 1) cap1, .slice (some ⟨g2, 0, none⟩) (K0.length + 1) cap2, ⟨R0 ++ [r], K0 ++ [l.length], e0⟩⟩))) := by have := H3.out.nodes; rw [List.length_set] at this; exact this
    have s2 := W3.out.size
    go_wp2_with (at_builtin; refine wpList_append_lies _ rfl _ _ 55 rfl base 70 i3 _ 3 56 Tryd.underlying55 hi3 hx0 hx1 hx2 rfl (by decide) _ _ _ rfl (HN.out.alloc _) ⟨w4.heap.size, 0, none⟩ 1 1 [.slice none 0 0, .slice none 0 0, .bool false] rfl rfl (World.news_of_block (heap_alloc_new _ _)) oneCell_slices (by omega) (by unfold maxLen; omega) (by omega) (by simp; omega) (w4.heap.size + 1) (by simp) ?_)
    intro g3 cap3 w5 ho3 hg3 ha3 _
    have b1 := (H3.out.far1 HN.out hg3).2 (by decide)
    have e1 := (World.cell?_of_block (a := ⟨T, 1, none⟩) b1).trans c1
    have e2 := (World.frozen?_of_block (a := ⟨T, 1, none⟩) b1).trans (F3.out _)
    obtain ⟨HT4, HW4⟩ := H3.out.grow (by rw [List.length_set]) ho3 hg3 ha3
    have H4 : Hid (TrieM _ _ _ _ _ _) := HT4
    have W4 : Hid (Went _ _ _ _) := W3.out.trans HW4
    clear HT4 HW4 ho3 hg3 ha3 b1 c1 H3 W3 F3 HN hn3
    go_wp2
    go_ret
    exact ⟨_, _, _, rfl, H4, W4⟩
end Go.Proofs.YtfikkkodepfdkaaDoor
namespace Go.Proofs.YtfikkkodepfdkaaDoor
set_option linter.unusedVariables false
def rl (s : ByteArray) (k : Nat) : List Int := (List.range k).map fun j => rn s (pos s j)
def pn0 : PN := ⟨[], [], false⟩
/-- One rune on. -/
def stepP (P : List PN) (i : Nat) (r : Int) : List PN × Nat :=
  match P[i]? with
  | none => (P, 0)
  | some n => if n.R.getLast? = some r then (P, n.K.getLastD 0) else (P.set i ⟨n.R ++ [r], n.K ++ [P.length], n.e⟩ ++ [pn0], P.length)
def walkP : List PN → Nat → List Int → List PN × Nat
  | P, i, [] => (P, i)
  | P, i, r :: rs => walkP (stepP P i r).1 (stepP P i r).2 rs
def endP (P : List PN) (i : Nat) : List PN :=
  match P[i]? with
  | none => P
  | some n => P.set i ⟨n.R, n.K, true⟩
def addP (P : List PN) (rs : List Int) : List PN := endP (walkP P 0 rs).1 (walkP P 0 rs).2
theorem walkP_snoc (P : List PN) (i : Nat) (rs : List Int) (r : Int) : walkP P i (rs ++ [r]) = stepP (walkP P i rs).1 (walkP P i rs).2 r := by
  induction rs generalizing P i with
  | nil => rfl
  | cons x rs ih => exact ih _ _
/-- Runes and kids stand side by side, kids are nodes. -/
def OkP (P : List PN) : Prop := ∀ n ∈ P, n.R.length = n.K.length ∧ (∀ c ∈ n.K, c < P.length) ∧ n.R.length ≤ P.length
theorem okP_step {P : List PN} (h : OkP P) {i : Nat} (hi : i < P.length) (r : Int) : OkP (stepP P i r).1 ∧ (stepP P i r).2 < (stepP P i r).1.length ∧ P.length ≤ (stepP P i r).1.length ∧ (stepP P i r).1.length ≤ P.length + 1 := by
  unfold stepP
  rw [List.getElem?_eq_getElem hi]
  dsimp only
  have hm := h P[i] (List.getElem_mem hi)
  split
  · rename_i hr
    refine ⟨h, ?_, Nat.le_refl _, Nat.le_succ _⟩
    cases hK : P[i].K.getLast? with
    | none =>
      have : P[i].K = [] := List.getLast?_eq_none_iff.1 hK
      have h0 : P[i].R.length = 0 := by rw [hm.1, this]; rfl
      rw [List.eq_nil_of_length_eq_zero h0] at hr
      cases hr
    | some c =>
      have hc := hm.2.1 c (List.mem_of_getLast? hK)
      rw [List.getLastD_eq_getLast?, hK]
      exact hc
  · refine ⟨?_, by simp, by simp, by simp⟩
    intro n hn
    have hlen : (P.set i ⟨P[i].R ++ [r], P[i].K ++ [P.length], P[i].e⟩ ++ [pn0]).length = P.length + 1 := by simp
    rw [hlen]
    rcases List.mem_append.1 hn with hn | hn
    · rcases List.mem_or_eq_of_mem_set hn with hn | rfl
      · have := h n hn
        exact ⟨this.1, fun c hc => Nat.lt_succ_of_lt (this.2.1 c hc), by omega⟩
      · refine ⟨by simp [hm.1], fun c hc => ?_, by simp; omega⟩
        rcases List.mem_append.1 hc with hc | hc
        · exact Nat.lt_succ_of_lt (hm.2.1 c hc)
        · simp at hc; omega
    · simp at hn; subst hn
      exact ⟨rfl, (fun c hc => absurd hc List.not_mem_nil), Nat.zero_le _⟩
theorem okP_walk {P : List PN} (h : OkP P) {i : Nat} (hi : i < P.length) (rs : List Int) : OkP (walkP P i rs).1 ∧ (walkP P i rs).2 < (walkP P i rs).1.length ∧ P.length ≤ (walkP P i rs).1.length ∧ (walkP P i rs).1.length ≤ P.length + rs.length := by
  induction rs generalizing P i with
  | nil => exact ⟨h, hi, Nat.le_refl _, Nat.le_refl _⟩
  | cons r rs ih =>
    obtain ⟨a, b, c, d⟩ := okP_step h hi r
    obtain ⟨a', b', c', d'⟩ := ih a b
    refine ⟨a', b', ?_, ?_⟩
    · exact Nat.le_trans c c'
    · show (walkP (stepP P i r).1 (stepP P i r).2 rs).1.length ≤ _
      simp only [List.length_cons]
      omega
theorem okP_end {P : List PN} (h : OkP P) (i : Nat) : OkP (endP P i) ∧ (endP P i).length = P.length := by
  unfold endP
  cases hn : P[i]? with
  | none => exact ⟨h, rfl⟩
  | some n =>
    dsimp only
    refine ⟨?_, List.length_set⟩
    intro x hx
    rw [List.length_set]
    rcases List.mem_or_eq_of_mem_set hx with hx | rfl
    · exact h x hx
    · exact h n (List.mem_of_getElem? hn)
theorem okP_add {P : List PN} (h : OkP P) (h0 : 0 < P.length) (rs : List Int) : OkP (addP P rs) ∧ P.length ≤ (addP P rs).length ∧ (addP P rs).length ≤ P.length + rs.length := by
  obtain ⟨a, b, c, d⟩ := okP_walk h h0 rs
  obtain ⟨e, f⟩ := okP_end a (walkP P 0 rs).2
  exact ⟨e, by unfold addP; rw [f]; exact c, by unfold addP; rw [f]; exact d⟩
end Go.Proofs.YtfikkkodepfdkaaDoor
namespace Go.Proofs.YtfikkkodepfdkaaDoor
set_option linter.unusedVariables false
open Go.RowKit Go.ChangeShapes
theorem step_any {w : World} {base T m : Nat} {vN : Value} {l : List Nd} (h : TrieM w base T m vN l) (hok : OkP (l.map Nd.p)) {i : Nat} (hi : i < l.length) (h63 : l.length ≤ 900000) (r : Int) (hb : base ≤ w.heap.size) :
    Calls Tryd.prog 47 #[.pointer (some ⟨T, 0, none⟩), .int .i64 (i : Int), .int .i32 r] w fun e w' => ∃ vN' l', e = .returned (.int .i64 ((stepP (l.map Nd.p) i r).2 : Int)) ∧
      TrieM w' base T m vN' l' ∧ l'.map Nd.p = (stepP (l.map Nd.p) i r).1 ∧ Went w w' (Foot T vN l) (Foot T vN' l') := by
  obtain ⟨⟨nr, nk, ⟨R0, K0, e0⟩⟩, hn⟩ : ∃ n, l[i]? = some n := ⟨_, List.getElem?_eq_getElem hi⟩
  have hm : (⟨R0, K0, e0⟩ : PN) ∈ l.map Nd.p := List.mem_map.2 ⟨_, List.mem_of_getElem? hn, rfl⟩
  obtain ⟨k1, k2, k3⟩ := hok _ hm
  rw [List.length_map] at k3
  dsimp only at k1 k2 k3
  have hp : (l.map Nd.p)[i]? = some ⟨R0, K0, e0⟩ := by rw [List.getElem?_map, hn]; rfl
  unfold stepP
  rw [hp]
  dsimp only
  by_cases hr : R0.getLast? = some r
  · rw [if_pos hr]
    obtain ⟨R, rfl⟩ : ∃ R, R0 = R ++ [r] := by
      rcases List.eq_nil_or_concat R0 with rfl | ⟨R, x, rfl⟩
      · cases hr
      · rw [List.concat_eq_append, List.getLast?_append] at hr
        simp at hr
        subst hr
        exact ⟨R, List.concat_eq_append ..⟩
    rcases List.eq_nil_or_concat K0 with rfl | ⟨K, c, rfl⟩
    · simp at k1
    · refine (step_old h hn (by omega) R r rfl K c (List.concat_eq_append ..) (by simpa using k1) (by simp at k3; omega)).mono ?_
      rintro e w' ⟨rfl, rfl⟩
      refine ⟨vN, l, ?_, h, rfl, Went.refl _ _⟩
      simp
  · rw [if_neg hr]
    refine (step_new h hn (by omega) r (by omega) (by omega) hr hb).mono ?_
    rintro e w' ⟨vN', rv, kv, rfl, hT, hW⟩
    refine ⟨vN', _, by rw [List.length_map], hT, ?_, hW⟩
    rw [List.map_append, List.map_set, List.length_map]
    rfl
theorem Went.of_below {w w' : World} {F : Nat → Prop} (h : Below w.heap.size w w') : Went w w' F F := ⟨h.os, h.tape, h.output, h.size, fun k hk _ => h.block k hk, fun k hk => Or.inl hk⟩
theorem rl_take (s : ByteArray) (k j : Nat) (hj : j < k) : (rl s k).take (j + 1) = (rl s k).take j ++ [rn s (pos s j)] := by
  rw [List.take_succ_eq_append_getElem (by simp [rl]; exact hj)]
  simp [rl]
set_option maxHeartbeats 1000000 in
set_option maxRecDepth 100000 in
theorem add_any {w0 w : World} {T m : Nat} {vN : Value} {l : List Nd} (h : TrieM w w0.heap.size T m vN l) (hT : Tabs w0) (hU : Up w0.heap.size w0 w) (hok : OkP (l.map Nd.p)) (h1 : 0 < l.length) (h2 : l.length ≤ 800000) (hm : m ≤ 100000) (s : ByteArray) (hs : s.size ≤ 64) :
    Calls Tryd.prog 27 #[.pointer (some ⟨T, 0, none⟩), .string s] w fun e w' => ∃ vN' l' k u, e = .returned u ∧ Ends s k ∧ k ≤ 64 ∧
      TrieM w' w0.heap.size T (m + 1) vN' l' ∧ l'.map Nd.p = addP (l.map Nd.p) (rl s k) ∧ Went w w' (Foot T vN l) (Foot T vN' l') := by
  have HT : Hid (Tabs w0) := hT
  have H : Hid (TrieM w w0.heap.size T m vN l) := h
  have HU : Hid (Up w0.heap.size w0 w) := hU
  have HOK : Hid (OkP (l.map Nd.p)) := hok
  clear hT h hU hok
  go_enter Tryd.func27, Tryd.ntmps27
  go_wp2_with fail
  refine (runes_any s w (by omega) (tabs_stay HT.out HU.out.1)).mono ?_
  rintro e w1 ⟨k, v, rfl, hEnds, hown, hb1⟩
  have hk64 : k ≤ 64 := by
    have := pos_ge s k hEnds.2
    have := hEnds.1
    omega
  have HE : Hid (Ends s k) := hEnds
  have HO : Hid (w1.ownsRow w.heap.size 21 1 v k (rcells s k)) := hown
  have HB : Hid (Below w.heap.size w w1) := hb1
  have H1 : Hid (TrieM w1 w0.heap.size T m vN l) := H.out.stay hb1
  obtain ⟨ad, cv, rfl⟩ : ∃ ad cv, v = .slice ad k cv := by
    obtain ⟨_, ⟨e, rfl⟩ | ⟨g, cap, _, e, _⟩⟩ := hown
    · exact ⟨_, _, e⟩
    · exact ⟨_, _, e⟩
  clear hown hb1 hEnds
  go_wp2
  go_loopg [4, 10] k (fun g at' ix wr => ∃ (j : Nat) (vM : Value) (l' : List Nd), j ≤ k ∧ g = k - j ∧ at' = .int .i64 ((walkP (l.map Nd.p) 0 ((rl s k).take j)).2 : Int) ∧ ix = .int .i64 j ∧ Hid (TrieM wr w0.heap.size T m vM l') ∧ Hid (l'.map Nd.p = (walkP (l.map Nd.p) 0 ((rl s k).take j)).1) ∧ Hid (Went w1 wr (Foot T vN l) (Foot T vM l')))
  case atStart => exact ⟨0, vN, l, Nat.zero_le _, rfl, rfl, rfl, H1, rfl, Went.refl _ _⟩
  case round =>
    obtain ⟨j, vM, l', hj, hg, rfl, rfl, HM, HP, HW⟩ := hrel
    obtain ⟨o1, o2, o3, o4⟩ := okP_walk HOK.out (i := 0) (by simpa using h1) ((rl s k).take j)
    rw [← HP.out] at o1
    rw [← HP.out, List.length_map] at o2
    have o5 : l'.length ≤ l.length + 64 := by
      rw [← HP.out, List.length_map, List.length_map, List.length_take] at o4
      omega
    have OK : Hid (OkP (l'.map Nd.p)) := o1
    have hbase : w0.heap.size ≤ wr.heap.size := Nat.le_trans HU.out.2 (Nat.le_trans HB.out.size HW.out.size)
    clear o1 o3 o4
    by_cases hlt : j < k
    · obtain ⟨g1, rfl⟩ : ∃ g1, ad = some ⟨g1, 0, none⟩ := by
        obtain ⟨g1, cap, e, _⟩ := HO.out.form (by omega)
        injection e with e1 _ _
        exact ⟨g1, e1⟩
      have hlo := HO.out.lt g1 rfl
      have hnot : ¬ Foot T vN l g1 := fun hF => by have := (H.out.lt g1 hF).2; omega
      have hc : wr.cell? ⟨g1, j, none⟩ = some (.int .i32 (rn s (pos s j))) := by
        rw [World.cell?_of_block (a := ⟨g1, j, none⟩) (HW.out.far g1 hlo.2 hnot), HO.out.cellAt j (by omega)]
        simp [rcells, hlt]
      have ct := step_any HM.out OK.out o2 (by omega) (rn s (pos s j)) hbase
      have HS : Hid (walkP (l.map Nd.p) 0 ((rl s k).take (j + 1)) = stepP (l'.map Nd.p) (walkP (l.map Nd.p) 0 ((rl s k).take j)).2 (rn s (pos s j))) := by
        show _ = _
        rw [rl_take s k j hlt, walkP_snoc, HP.out]
      clear hnot hlo
      generalize hat : (walkP (l.map Nd.p) 0 ((rl s k).take j)).2 = at' at *
      have z1 : ((j : Nat) : Int) < (k : Int) := by omega
      go_wp2_with fail
      refine ct.mono ?_
      rintro e w2 ⟨vM2, l2, rfl, hM2, hP2, hW2⟩
      go_wp2
      go_roundg (k - (j + 1))
      case measure => omega
      case rel =>
        refine ⟨j + 1, vM2, l2, by omega, rfl, ?_, by go_num, hM2, ?_, HW.out.trans hW2⟩
        · rw [HS.out]
        · show _ = _
          rw [HS.out]; exact hP2
    · obtain rfl : j = k := by omega
      have htake : (rl s j).take j = rl s j := List.take_of_length_le (by simp [rl])
      rw [htake] at HP o2 ⊢
      generalize hat : (walkP (l.map Nd.p) 0 (rl s j)).2 = at' at *
      obtain ⟨n, hn⟩ : ∃ n, l'[at']? = some n := ⟨_, List.getElem?_eq_getElem o2⟩
      obtain ⟨g, cap, rfl, -⟩ := HM.out.at hn
      obtain ⟨c0, c1, -, -, c4, f1, f2, -⟩ := HM.out.cells2 hn
      have f3 := f1 (at' * 3 + 2)
      have f4 := f2 0
      clear f1 f2
      obtain ⟨HM2, HW2⟩ := HM.out.putE hn true
      obtain ⟨HM3, HW3⟩ := HM2.putW (m + 1)
      have hne : g ≠ T := fun e => own_blk HM.out.nodes HM.out.blk (by decide) (by rw [← e]; rfl)
      have z1 : ((at' : Nat) : Int) < (l'.length : Int) := by omega
      have z2 : (0 : Int) ≤ (at' : Int) := by omega
      have HMM : Hid (TrieM _ _ _ _ _ _) := HM3
      have HWW : Hid (Went _ _ _ _) := (Went.of_below HB.out).trans (HW.out.trans (HW2.trans HW3))
      clear HM2 HM3 HW2 HW3
      have HX : Hid ((l'.set at' ⟨n.r, n.k, ⟨n.p.R, n.p.K, true⟩⟩).map Nd.p = addP (l.map Nd.p) (rl s j)) := by
        show _ = _
        unfold addP endP
        rw [hat, ← HP.out, List.getElem?_map, hn, List.map_set]
        rfl
      go_wp2
      go_end0
      exact ⟨_, _, j, _, rfl, HE, hk64, HMM, HX, HWW⟩
end Go.Proofs.YtfikkkodepfdkaaDoor
