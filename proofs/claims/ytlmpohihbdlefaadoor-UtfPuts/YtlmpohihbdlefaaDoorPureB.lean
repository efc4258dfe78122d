/- Signs of texts that are joined, cut, put and read again: no program in this text. -/
import Derived.Test.YtlmpohihbdlefaaDoorWalksL
namespace Go.Proofs.YtlmpohihbdlefaaDoor
set_option linter.unusedVariables false
open Go.Lib

/-! ### what is the same at a place -/
theorem decode_same {s t : ByteArray} {i j : Nat} (hn : s.size - i = t.size - j) (h : ∀ m, m < 4 → s.get! (i + m) = t.get! (j + m)) : Utf8.decode s i = Utf8.decode t j := by
  rw [decode_at, decode_at, hn]
  have h0 := h 0 (by omega)
  rw [Nat.add_zero, Nat.add_zero] at h0
  rw [h0, h 1 (by omega), h 2 (by omega), h 3 (by omega)]
/-- A sign is told by its bytes alone. -/
theorem Sign.of {s t : ByteArray} {i j : Nat} {r : Int} (h : Sign s i r) (hn : j + lenR r ≤ t.size) (hb : ∀ m, m < lenR r → bt t (j + m) = bt s (i + m)) : Sign t j r := by
  refine ⟨h.1, hn, fun m x hx => ?_⟩
  have hm : m < lenR r := by rw [← enc_len r h.1]; exact (List.getElem?_eq_some_iff.1 hx).1
  rw [hb m hm]
  exact h.2.2 m x hx

/-! ### joined -/
theorem join_get_left (a b : ByteArray) (i : Nat) (h : i < a.size) : (a ++ b).get! i = a.get! i := by
  have h' : i < a.data.size := h
  show (a ++ b).data[i]! = a.data[i]!
  rw [ByteArray.data_append, getElem!_def, getElem!_def, Array.getElem?_append_left h']
theorem join_get_right (a b : ByteArray) (i : Nat) : (a ++ b).get! (a.size + i) = b.get! i := by
  show (a ++ b).data[a.data.size + i]! = b.data[i]!
  rw [ByteArray.data_append, getElem!_def, getElem!_def, Array.getElem?_append_right (by omega)]
  rw [show a.data.size + i - a.data.size = i by omega]
theorem join_size (a b : ByteArray) : (a ++ b).size = a.size + b.size := by
  show (a ++ b).data.size = a.data.size + b.data.size
  rw [ByteArray.data_append, Array.size_append]
theorem join_right (a b : ByteArray) (i : Nat) : Utf8.decode (a ++ b) (a.size + i) = Utf8.decode b i :=
  decode_same (by rw [join_size]; omega) (fun m _ => by rw [Nat.add_assoc, join_get_right])
theorem join_left {a : ByteArray} (b : ByteArray) {i : Nat} {r : Int} (h : Sign a i r) : Sign (a ++ b) i r :=
  h.of (by rw [join_size]; have := h.2.1; omega) (fun m hm => by unfold bt; rw [join_get_left a b _ (by have := h.2.1; omega)])
/-- All are signs. -/
def Whole (s : ByteArray) (k : Nat) : Prop := ∀ j, j < k → Sign s (pos s j) (rn s (pos s j))
theorem join_pos {a : ByteArray} (b : ByteArray) {k : Nat} (hw : Whole a k) : ∀ j, j ≤ k → pos (a ++ b) j = pos a j
  | 0, _ => rfl
  | j + 1, h => by
    have ih := join_pos b hw j (by omega)
    have hs := hw j (by omega)
    simp only [pos]
    rw [ih, (join_left b hs).wd, hs.wd]
theorem join_rn {a : ByteArray} (b : ByteArray) {k : Nat} (hw : Whole a k) (j : Nat) (h : j < k) : rn (a ++ b) (pos (a ++ b) j) = rn a (pos a j) := by
  rw [join_pos b hw j (by omega), (join_left b (hw j h)).rn]
theorem join_pos_right {a : ByteArray} (b : ByteArray) {k : Nat} (hw : Whole a k) (he : Ends a k) : ∀ j, pos (a ++ b) (k + j) = a.size + pos b j
  | 0 => by rw [Nat.add_zero, join_pos b hw k (Nat.le_refl _), he.1]; rfl
  | j + 1 => by
    have ih := join_pos_right b hw he j
    rw [← Nat.add_assoc]
    simp only [pos]
    unfold wd
    rw [ih, join_right, Nat.add_assoc]
theorem join_rn_right {a : ByteArray} (b : ByteArray) {k : Nat} (hw : Whole a k) (he : Ends a k) (j : Nat) : rn (a ++ b) (pos (a ++ b) (k + j)) = rn b (pos b j) := by
  rw [join_pos_right b hw he j]
  unfold rn
  rw [join_right]
theorem join_ends {a b : ByteArray} {k m : Nat} (hw : Whole a k) (he : Ends a k) (hb : Ends b m) : Ends (a ++ b) (k + m) := by
  refine ⟨by rw [join_pos_right b hw he m, join_size, hb.1], fun j hj => ?_⟩
  rw [join_size]
  by_cases h : j < k
  · rw [join_pos b hw j (by omega)]; have := he.2 j h; omega
  · obtain ⟨i, rfl⟩ : ∃ i, j = k + i := ⟨j - k, by omega⟩
    rw [join_pos_right b hw he i]
    have := hb.2 i (by omega)
    omega

/-! ### put -/
theorem enc_range {r x : Int} (h : x ∈ enc r) : 0 ≤ x ∧ x < 256 := by
  cases ho : okR r
  · rw [enc_bad r ho] at h; cases h
  · have hv := (okR_iff r).1 ho
    by_cases h1 : r < 128
    · rw [enc_one (by omega) h1] at h; simp at h; omega
    by_cases h2 : r < 2048
    · rw [enc_two (by omega) h2] at h; simp at h; omega
    by_cases h3 : r < 65536
    · rw [enc_three (by omega) h3 ho] at h; simp at h; omega
    · rw [enc_four (by omega) ho] at h; simp at h; omega
theorem nums_bt {l : List Int} {i : Nat} {x : Int} (hx : l[i]? = some x) (h : 0 ≤ x ∧ x < 256) : (bt (strOfNums l) i : Int) = x := by
  obtain ⟨hi, rfl⟩ := List.getElem?_eq_some_iff.1 hx
  unfold bt
  show (((strOfNums l).data[i]!).toNat : Int) = _
  have his : i < (strOfNums l).data.size := by show i < (strOfNums l).size; rw [strOfNums_size]; exact hi
  rw [getElem!_pos _ i his]
  simp only [strOfNums, List.getElem_toArray, List.getElem_map, UInt8.toNat_ofNat']
  rw [Nat.mod_eq_of_lt (by omega)]
  omega
/-- A rune's bytes stand in a row: there its sign is. -/
theorem sign_in (p q : List Int) {r : Int} (ho : okR r = true) : Sign (strOfNums (p ++ enc r ++ q)) p.length r := by
  refine ⟨ho, ?_, fun j x hx => ?_⟩
  · rw [strOfNums_size, List.length_append, List.length_append, enc_len r ho]; omega
  · have hj : j < (enc r).length := (List.getElem?_eq_some_iff.1 hx).1
    refine nums_bt ?_ (enc_range (List.mem_of_getElem? hx))
    rw [List.getElem?_append_left (by rw [List.length_append]; omega), List.getElem?_append_right (by omega)]
    rw [show p.length + j - p.length = j by omega]
    exact hx
/-- The runes that can be put. -/
def oks (R : Nat → Int) : Nat → List Int
  | 0 => []
  | k + 1 => oks R k ++ (if okR (R k) = true then [R k] else [])
theorem oks_ok (R : Nat → Int) : ∀ k r, r ∈ oks R k → okR r = true
  | 0, _, h => by cases h
  | k + 1, r, h => by
    rw [oks, List.mem_append] at h
    rcases h with h | h
    · exact oks_ok R k r h
    · by_cases ho : okR (R k) = true
      · rw [if_pos ho] at h; simp at h; rw [h]; exact ho
      · rw [if_neg ho] at h; cases h
theorem txt_oks (R : Nat → Int) : ∀ k, txt R k = (oks R k).flatMap enc
  | 0 => rfl
  | k + 1 => by
    rw [txt_succ, txt_oks R k, oks, List.flatMap_append]
    by_cases ho : okR (R k) = true
    · rw [if_pos ho]; simp
    · rw [if_neg ho, enc_bad _ (by simpa using ho)]; simp
theorem put_all (l : List Int) (hl : ∀ r, r ∈ l → okR r = true) : ∀ j, j ≤ l.length → pos (strOfNums (l.flatMap enc)) j = ((l.take j).flatMap enc).length ∧ (∀ i, i < j → Sign (strOfNums (l.flatMap enc)) (pos (strOfNums (l.flatMap enc)) i) (rn (strOfNums (l.flatMap enc)) (pos (strOfNums (l.flatMap enc)) i)))
  | 0, _ => ⟨rfl, fun i hi => absurd hi (Nat.not_lt_zero i)⟩
  | j + 1, h => by
    obtain ⟨ih, ih2⟩ := put_all l hl j (by omega)
    have hj : j < l.length := by omega
    have hok := hl l[j] (List.getElem_mem hj)
    have hs : Sign (strOfNums (l.flatMap enc)) (pos (strOfNums (l.flatMap enc)) j) l[j] := by
      rw [ih]
      have := sign_in ((l.take j).flatMap enc) ((l.drop (j + 1)).flatMap enc) hok
      have he : l.flatMap enc = (l.take j).flatMap enc ++ enc l[j] ++ (l.drop (j + 1)).flatMap enc := by
        rw [List.append_assoc, ← List.flatMap_cons, ← List.flatMap_append, ← List.drop_eq_getElem_cons hj, List.take_append_drop]
      rw [he]
      exact this
    refine ⟨?_, fun i hi => ?_⟩
    · show pos _ j + wd _ (pos _ j) = _
      rw [hs.wd, ih, ← List.take_append_getElem hj, List.flatMap_append, List.length_append]
      simp [enc_len _ hok]
    · by_cases h1 : i < j
      · exact ih2 i h1
      · obtain rfl : i = j := by omega
        rw [hs.rn]; exact hs
theorem flat_lt (l : List Int) (hl : ∀ r, r ∈ l → okR r = true) (j : Nat) (h : j < l.length) : ((l.take j).flatMap enc).length < (l.flatMap enc).length := by
  have hok := hl l[j] (List.getElem_mem h)
  have he : l.flatMap enc = (l.take j).flatMap enc ++ (enc l[j] ++ (l.drop (j + 1)).flatMap enc) := by
    rw [← List.flatMap_cons, ← List.flatMap_append, ← List.drop_eq_getElem_cons h, List.take_append_drop]
  rw [he, List.length_append, List.length_append, enc_len _ hok]
  have := (lenR_pos l[j]).1
  omega
/-- The text of runes ends whole. -/
theorem text_ends (R : Nat → Int) (k : Nat) : Ends (strOfNums (txt R k)) (oks R k).length ∧ Whole (strOfNums (txt R k)) (oks R k).length := by
  rw [txt_oks]
  have hl := oks_ok R k
  have h := put_all (oks R k) hl
  refine ⟨⟨?_, fun j hj => ?_⟩, (h _ (Nat.le_refl _)).2⟩
  · rw [(h _ (Nat.le_refl _)).1, List.take_length, strOfNums_size]
  · rw [(h j (by omega)).1, strOfNums_size]
    exact flat_lt _ hl j hj

/-! ### read, and put again -/
def numsOf (s : ByteArray) : List Int := (List.range s.size).map fun j => ((s.get! j).toNat : Int)
theorem numsOf_len (s : ByteArray) : (numsOf s).length = s.size := by simp [numsOf]
theorem numsOf_at (s : ByteArray) (i : Nat) (h : i < s.size) : (numsOf s)[i]? = some (bt s i : Int) := by
  simp [numsOf, List.getElem?_range h, bt]
theorem back_take (s : ByteArray) {k : Nat} (hw : Whole s k) : ∀ j, j ≤ k → txt (fun i => rn s (pos s i)) j = (numsOf s).take (pos s j)
  | 0, _ => rfl
  | j + 1, h => by
    have ih := back_take s hw j (by omega)
    have hs := hw j (by omega)
    rw [txt_succ, ih]
    show _ = (numsOf s).take (pos s j + wd s (pos s j))
    rw [hs.wd, List.take_add]
    congr 1
    have h1 := hs.2.1
    apply List.ext_getElem?
    intro m
    by_cases hm : m < lenR (rn s (pos s j))
    · rw [List.getElem?_take_of_lt hm, List.getElem?_drop, numsOf_at s _ (by omega)]
      have hme : m < (enc (rn s (pos s j))).length := by rw [enc_len _ hs.1]; exact hm
      rw [List.getElem?_eq_getElem hme]
      congr 1
      exact (hs.2.2 m _ (List.getElem?_eq_getElem hme)).symm
    · rw [List.getElem?_eq_none (by rw [enc_len _ hs.1]; omega), List.getElem?_eq_none (by rw [List.length_take]; omega)]
theorem back_whole (s : ByteArray) {k : Nat} (hw : Whole s k) (he : Ends s k) : strOfNums (txt (fun i => rn s (pos s i)) k) = s := by
  rw [back_take s hw k (Nat.le_refl _), he.1, ← numsOf_len s, List.take_length]
  exact nums_of s
/-- Are all signs? -/
def wholeB (s : ByteArray) : Nat → Bool
  | 0 => true
  | k + 1 => wholeB s k && decide (0 ≤ rn s (pos s k))
theorem back_len (s : ByteArray) : ∀ k, (∀ j, j < k → pos s j < s.size) → (txt (fun i => rn s (pos s i)) k).length ≤ pos s k ∧ (wholeB s k = false → (txt (fun i => rn s (pos s i)) k).length < pos s k)
  | 0, _ => ⟨Nat.zero_le _, fun h => by cases h⟩
  | k + 1, h => by
    obtain ⟨i1, i2⟩ := back_len s k (fun j hj => h j (by omega))
    have hk := h k (by omega)
    rw [txt_succ, List.length_append]
    show _ ≤ pos s k + wd s (pos s k) ∧ (_ → _ < pos s k + wd s (pos s k))
    rcases sign_or s (pos s k) hk with hs | ⟨_, hr, hwd⟩
    · rw [hs.wd, enc_len _ hs.1]
      refine ⟨by omega, fun hf => ?_⟩
      have h0 := ((okR_iff _).1 hs.1).1
      simp only [wholeB, h0, decide_true, Bool.and_true] at hf
      have := i2 hf
      omega
    · simp only [hr, hwd]
      rw [enc_bad (-1) (by decide)]
      simp only [List.length_nil]
      omega
theorem whole_of (s : ByteArray) : ∀ k, (∀ j, j < k → pos s j < s.size) → wholeB s k = true → Whole s k
  | 0, _, _ => fun j hj => absurd hj (Nat.not_lt_zero j)
  | k + 1, h, hw => by
    rw [wholeB, Bool.and_eq_true, decide_eq_true_eq] at hw
    have ih := whole_of s k (fun j hj => h j (by omega)) hw.1
    intro j hj
    by_cases h1 : j < k
    · exact ih j h1
    · obtain rfl : j = k := by omega
      rcases sign_or s (pos s j) (h j (by omega)) with hs | ⟨_, hr, _⟩
      · exact hs
      · have h2 := hw.2
        rw [hr] at h2
        exact absurd h2 (by decide)
/-- What is read, and put again, is what it was, just where all are signs. -/
theorem back_iff (s : ByteArray) {k : Nat} (he : Ends s k) : (strOfNums (txt (fun i => rn s (pos s i)) k) = s) ↔ wholeB s k = true := by
  cases hw : wholeB s k
  · refine ⟨fun h => ?_, fun h => by cases h⟩
    have h1 := (back_len s k he.2).2 hw
    have h2 := congrArg ByteArray.size h
    rw [strOfNums_size] at h2
    have := he.1
    omega
  · exact ⟨fun _ => rfl, fun _ => back_whole s (whole_of s k he.2 hw) he⟩

/-! ### cut -/
def upto_ (s : ByteArray) (p : Nat) : ByteArray := ⟨s.data.extract 0 p⟩
theorem upto_size (s : ByteArray) (p : Nat) (h : p ≤ s.size) : (upto_ s p).size = p := by
  have h' : p ≤ s.data.size := h
  show (s.data.extract 0 p).size = p
  simp; omega
theorem upto_get (s : ByteArray) (p i : Nat) (hp : p ≤ s.size) (h : i < p) : (upto_ s p).get! i = s.get! i := by
  have h' : p ≤ s.data.size := hp
  show (s.data.extract 0 p)[i]! = s.data[i]!
  simp only [getElem!_def, Array.getElem?_extract]
  rw [if_pos (by omega), Nat.zero_add]
theorem upto_same (s : ByteArray) (p i : Nat) (hp : p ≤ s.size) (hi : i < s.size) (h : i + wd s i ≤ p) : Utf8.decode (upto_ s p) i = Utf8.decode s i := by
  have hw := wd_pos s i hi
  have hz := upto_size s p hp
  rcases sign_or s i hi with hs | ⟨hd, hr, _⟩
  · have := hs.wd
    rw [(hs.of (t := upto_ s p) (j := i) (by rw [hz, ← hs.wd]; exact h) (fun m hm => by unfold bt; rw [upto_get s p _ hp (by omega)])).read, hs.read]
  · rw [hd]
    rcases sign_or (upto_ s p) i (by rw [hz]; omega) with hs | ⟨hd', _, _⟩
    · have h1 := hs.2.1
      rw [hz] at h1
      have h2 := (hs.of (t := s) (j := i) (by omega) (fun m hm => by unfold bt; rw [upto_get s p _ hp (by omega)])).rn
      rw [hr] at h2
      have h3 := hs.1
      rw [← h2] at h3
      exact absurd h3 (by decide)
    · exact hd'
theorem pos_mono (s : ByteArray) : ∀ k j, j ≤ k → pos s j ≤ pos s k
  | 0, j, h => by obtain rfl : j = 0 := by omega
                  exact Nat.le_refl _
  | k + 1, j, h => by
    by_cases h1 : j ≤ k
    · have := pos_mono s k j h1; simp only [pos]; omega
    · obtain rfl : j = k + 1 := by omega
      exact Nat.le_refl _
theorem cut_left (s : ByteArray) {n k : Nat} (he : Ends s n) (hk : k ≤ n) : ∀ j, j ≤ k → pos (upto_ s (pos s k)) j = pos s j
  | 0, _ => rfl
  | j + 1, h => by
    have ih := cut_left s he hk j (by omega)
    have hp : pos s k ≤ s.size := by rw [← he.1]; exact pos_mono s n k hk
    have hm := pos_mono s k (j + 1) h
    simp only [pos] at hm ⊢
    rw [ih]
    unfold wd at hm ⊢
    rw [upto_same s (pos s k) (pos s j) hp (he.2 j (by omega)) (by unfold wd; omega)]
theorem cut_left_same (s : ByteArray) {n k : Nat} (he : Ends s n) (hk : k ≤ n) (j : Nat) (h : j < k) : rn (upto_ s (pos s k)) (pos (upto_ s (pos s k)) j) = rn s (pos s j) ∧ wd (upto_ s (pos s k)) (pos (upto_ s (pos s k)) j) = wd s (pos s j) := by
  have hp : pos s k ≤ s.size := by rw [← he.1]; exact pos_mono s n k hk
  have hm := pos_mono s k (j + 1) h
  simp only [pos] at hm
  rw [cut_left s he hk j (by omega)]
  unfold rn wd at *
  rw [upto_same s (pos s k) (pos s j) hp (he.2 j (by omega)) (by unfold wd; omega)]
  exact ⟨rfl, rfl⟩
theorem cut_left_ends (s : ByteArray) {n k : Nat} (he : Ends s n) (hk : k ≤ n) : Ends (upto_ s (pos s k)) k := by
  have hp : pos s k ≤ s.size := by rw [← he.1]; exact pos_mono s n k hk
  have hz := upto_size s (pos s k) hp
  refine ⟨by rw [cut_left s he hk k (Nat.le_refl _), hz], fun j hj => ?_⟩
  rw [cut_left s he hk j (by omega), hz]
  have h1 := pos_mono s k (j + 1) hj
  have h2 := (wd_pos s (pos s j) (he.2 j (by omega))).1
  simp only [pos] at h1
  omega
theorem cut_right (s : ByteArray) (k : Nat) : ∀ j, pos s (k + j) = pos s k + pos (from_ s (pos s k)) j
  | 0 => rfl
  | j + 1 => by
    have ih := cut_right s k j
    rw [← Nat.add_assoc]
    simp only [pos]
    unfold wd
    rw [ih, from_decode, Nat.add_assoc]
theorem cut_right_same (s : ByteArray) (k j : Nat) : rn (from_ s (pos s k)) (pos (from_ s (pos s k)) j) = rn s (pos s (k + j)) ∧ wd (from_ s (pos s k)) (pos (from_ s (pos s k)) j) = wd s (pos s (k + j)) := by
  rw [cut_right s k j]
  unfold rn wd
  rw [from_decode]
  exact ⟨rfl, rfl⟩
theorem cut_right_ends (s : ByteArray) {n k : Nat} (he : Ends s n) (hk : k ≤ n) : Ends (from_ s (pos s k)) (n - k) := by
  have h0 := cut_right s k (n - k)
  rw [show k + (n - k) = n by omega, he.1] at h0
  refine ⟨by rw [from_size]; omega, fun j hj => ?_⟩
  have h1 := cut_right s k j
  have h2 := he.2 (k + j) (by omega)
  rw [from_size]
  omega
end Go.Proofs.YtlmpohihbdlefaaDoor
