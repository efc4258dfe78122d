/- DecodeLiteral, over what the program's calls answer. -/
import Derived.Test.YtbhjkkbempnjeaaDoorvLt
import Derived.Test.YtbhjkkbempnjeaaDoorPkVF2
import Derived.Test.YtbhjkkbempnjeaaDooruWrd
namespace Go.Proofs.YtbhjkkbempnjeaaDoor
set_option linter.unusedVariables false
open Go.RowKit Go.ChangeShapes
/-- A text's signs. -/
def unS (s : ByteArray) (k : Nat) : List U3 := (List.range k).map fun j => ⟨rn s (pos s j), (pos s j : Int), (wd s (pos s j) : Int)⟩
theorem unS_len (s : ByteArray) (k : Nat) : (unS s k).length = k := by simp [unS]
theorem unS_at (s : ByteArray) (k i : Nat) (h : i < k) : (unS s k)[i]? = some ⟨rn s (pos s i), (pos s i : Int), (wd s (pos s i) : Int)⟩ := by simp [unS, List.getElem?_range h]
theorem unS_cells (s : ByteArray) (k : Nat) : Lns.ucells s k = uC (unS s k) := by
  unfold Lns.ucells uC unS
  rw [List.flatMap_map]
  rfl
theorem unS_txt (s : ByteArray) (k : Nat) : tU (unS s k) = txt (fun i => rn s (pos s i)) k := by
  unfold tU unS txt
  rw [List.flatMap_map]
theorem unS_bd {s : ByteArray} {k : Nat} (he : Ends s k) (hs : s.size ≤ 100000) : ∀ u ∈ unS s k, -1000000 ≤ u.a ∧ u.a ≤ 1000000 ∧ -1000000 ≤ u.n ∧ u.n ≤ 1000000 := by
  intro u hu
  obtain ⟨j, hj, rfl⟩ := List.mem_map.1 hu
  have hj' : j < k := List.mem_range.1 hj
  have h1 := he.2 j hj'
  have h2 := wd_pos s (pos s j) h1
  dsimp only
  omega
theorem lit_self {c : Nat → Int} {n k : Nat} (hC : ∀ j, j < n → 0 ≤ c j ∧ c j < 256) (he : Ends (strOfNums (cl c n)) k) :
    litB c n (unS (strOfNums (cl c n)) k) = (cl c n == txt (fun i => rn (strOfNums (cl c n)) (pos (strOfNums (cl c n)) i)) k) := by
  have hs : (strOfNums (cl c n)).size = n := by rw [strOfNums_size, cl_len]
  rcases Nat.eq_zero_or_pos k with rfl | hk
  · have h0 : n = 0 := by
      have := he.1
      rw [hs] at this
      exact this.symm
    subst h0
    rfl
  · obtain ⟨m, rfl⟩ : ∃ m, k = m + 1 := ⟨k - 1, by omega⟩
    have h1 := unS_at (strOfNums (cl c n)) (m + 1) 0 (by omega)
    have h2 := unS_at (strOfNums (cl c n)) (m + 1) m (by omega)
    rw [lit_is h1 (by rw [unS_len]; exact h2)]
    have h3 : pos (strOfNums (cl c n)) m + wd (strOfNums (cl c n)) (pos (strOfNums (cl c n)) m) = n := by
      have := he.1
      rw [hs] at this
      exact this
    dsimp only
    have h4 : (pos (strOfNums (cl c n)) 0 : Int) = 0 := rfl
    rw [unS_txt, h4, show ((pos (strOfNums (cl c n)) m : Int) + (wd (strOfNums (cl c n)) (pos (strOfNums (cl c n)) m) : Int)) = (n : Int) by omega]
    have h5 : (fun j => c ((0 : Int).toNat + j)) = c := by funext j; show c (0 + j) = c j; rw [Nat.zero_add]
    rw [h5]
    simp
theorem unS_us {w : World} {base k : Nat} {v : Value} {s : ByteArray} (h : w.ownsRow base 56 3 v k (Lns.ucells s k)) : US w v (unS s k) := by
  rw [unS_cells] at h
  have h' : UR w base v (unS s k) := by
    show w.ownsRow _ _ _ _ _ _
    rw [unS_len]
    exact h
  exact h'.us
theorem rcells_rsl {w : World} {base k : Nat} {v : Value} {s : ByteArray} (h : w.ownsRow base 21 1 v k (Tns.rcells s k)) : Tns.RSl w v k fun i => rn s (pos s i) := by
  have h0 := h
  obtain ⟨_, ⟨rfl, h2⟩ | ⟨g, cap, cur, rfl, _⟩⟩ := h
  · exact Or.inl ⟨none, 0, rfl, h2⟩
  · refine Or.inr ⟨g, 0, cap, rfl, fun i hi => ?_⟩
    rw [Nat.zero_add, h0.cellAt i (by omega)]
    simp [Tns.rcells, List.getElem?_range hi]
/-- Text of a text's runes. -/
theorem again_any {w : World} {s : ByteArray} {v : Value} {k base : Nat} (hk : k ≤ 5000) (h : w.ownsRow base 21 1 v k (Tns.rcells s k)) :
    Calls Tryd.prog 42 #[v] w fun e w' => e = .returned (.string (strOfNums (txt (fun i => rn s (pos s i)) k))) ∧ Below w.heap.size w w' := Tns.text_any _ k v w hk (rcells_rsl h)
end Go.Proofs.YtbhjkkbempnjeaaDoor
/- What token answers; utf.Units of bytes. -/
namespace Go.Proofs.YtbhjkkbempnjeaaDoor
set_option linter.unusedVariables false
open Go.RowKit Go.ChangeShapes
/-- Runs answers as it should. -/
def RunsOk : Prop := ∀ (w : World) (v : Value) (l : List U3), US w v l → FitU l → l.length ≤ 5000 →
  Calls Tryd.prog 12 #[v] w fun e w' => ∃ v', e = .returned v' ∧ PAs w' v' (runsL (RU l) l.length 0) ∧ Below w.heap.size w w'
/-- So does Split. -/
def SplitOk : Prop := ∀ (w : World) (v : Value) (l : List U3) (f t : Int), US w v l → FitU l → l.length ≤ 5000 → (-9223372036854775808 ≤ f ∧ f ≤ 9223372036854775807) → (-9223372036854775808 ≤ t ∧ t ≤ 9223372036854775807) →
  Calls Tryd.prog 15 #[v, .agg #[.int .i64 f, .int .i64 t]] w fun e w' => ∃ v', e = .returned v' ∧ PAs w' v' (partsL (RU l) (min t (l.length : Int)).toNat (max f 0).toNat) ∧ Below w.heap.size w w'
/-- So does Words. -/
def WordsOk : Prop := ∀ (w : World) (ad : Option Addr) (n cap : Nat) (c : Nat → Int) (v : Value) (l : List U3) (lo hi : Int), (∀ j, j < n → 0 ≤ c j ∧ c j < 256) → BC w ad n c → n ≤ cap → n ≤ 100000 → cap ≤ 9223372036854775807 → US w v l → FitU l → l.length ≤ 5000 → (∀ u ∈ l, -1000000 ≤ u.a ∧ u.a ≤ 1000000 ∧ -1000000 ≤ u.n ∧ u.n ≤ 1000000) → (-9223372036854775808 ≤ lo ∧ lo ≤ 9223372036854775807) → (-9223372036854775808 ≤ hi ∧ hi ≤ 9223372036854775807) →
  Calls Tryd.prog 19 #[.slice ad n cap, v, .int .i64 lo, .int .i64 hi] w fun e w' => ∃ v', e = .returned v' ∧ WS w' v' (wordsL c n l lo hi) ∧ Below w.heap.size w w'
theorem unS_fit {s : ByteArray} {k : Nat} (he : Ends s k) : FitU (unS s k) := by
  intro u hu
  obtain ⟨j, hj, rfl⟩ := List.mem_map.1 hu
  have hj' : j < k := List.mem_range.1 hj
  have h1 := he.2 j hj'
  have h2 := rn_range s (pos s j) h1
  show Fit (rn s (pos s j))
  unfold Fit
  rcases h2 with h2 | h2
  · omega
  · have := (okR_iff _).1 h2
    omega
theorem unitsB_any {w : World} (hT : Lns.Tabs w) {ad : Option Addr} {n cap : Nat} {c : Nat → Int} (hC : ∀ j, j < n → 0 ≤ c j ∧ c j < 256) (hb : BC w ad n c) (hcap : n ≤ cap) (hn : n ≤ 40000) :
    Calls Tryd.prog 9 #[.slice ad n cap] w fun e w' => ∃ k v, e = .returned v ∧ Ends (strOfNums (cl c n)) k ∧ k ≤ n ∧ UR w' w.heap.size v (unS (strOfNums (cl c n)) k) ∧ Below w.heap.size w w' := by
  have hsz : (strOfNums (cl c n)).size = n := by rw [strOfNums_size, cl_len]
  have hBS : Lns.BSl w (.slice ad n cap) (strOfNums (cl c n)) := by
    rcases Nat.eq_zero_or_pos n with h0 | h0
    · exact Or.inl ⟨ad, cap, by rw [h0], by rw [hsz, h0]⟩
    · obtain ⟨bx, ox, rfl, -⟩ := hb 0 h0
      exact Or.inr ⟨bx, ox, cap, by rw [hsz], by rw [hsz]; exact h0, by rw [hsz]; exact hcap, bc_by hC hb⟩
  refine (Lns.unitsS_any (strOfNums (cl c n)) _ w (by rw [hsz]; exact hn) hT hBS).mono ?_
  rintro e w' ⟨k, v, rfl, he, hr, hbl⟩
  refine ⟨k, v, rfl, he, ?_, ?_, hbl⟩
  · have := he.le
    rw [hsz] at this
    exact this
  · unfold UR
    rw [unS_len, ← unS_cells]
    exact hr
/-- The bytes of the example. -/
def exT : List Int := [112, 97, 114, 115, 101, 72, 84, 77, 76, 70, 105, 108, 101, 32, 100, 111, 110, 39, 116]
end Go.Proofs.YtbhjkkbempnjeaaDoor
