/- ref.Units; signs as runes. -/
import Derived.Test.YtbhjkkbempnjeaaDoorvE
import Derived.Test.YtbhjkkbempnjeaaDoorvLt
import Derived.Test.YtbhjkkbempnjeaaDooruWrd
namespace Go.Proofs.YtbhjkkbempnjeaaDoor.Lns
set_option linter.unusedVariables false
open Go.RowKit Go.ChangeShapes
theorem units_zero (ad : Option Addr) (cap : Nat) (w : World) :
    Calls Tryd.prog 9 #[.slice ad 0 cap] w fun e w' => e = .returned (.slice none 0 0) ∧ w' = w := by
  go_enter Tryd.func9, Tryd.ntmps9
  go_wp2
  go_loopg [3, 4] (0) (fun g l i wr => l = .slice none 0 0 ∧ i = .int .i64 0 ∧ wr = w)
  case atStart => exact ⟨rfl, rfl, rfl⟩
  case round =>
    obtain ⟨rfl, rfl, rfl⟩ := hrel
    go_wp2_with fail
    go_ret
    exact ⟨rfl, rfl⟩
theorem slow_zero (ad : Option Addr) (c : Nat) (w : World) :
    Calls Tryd.prog 61 #[.slice ad 0 c] w fun e w' => e = .returned (.tuple #[.int .i32 65533, .int .i64 0]) ∧ w' = w := by
  go_enter Tryd.func61, Tryd.ntmps61
  go_wp2
  go_ret2
  exact ⟨rfl, rfl⟩
theorem dec_zero (ad : Option Addr) (c : Nat) (w : World) :
    Calls Tryd.prog 43 #[.slice ad 0 c] w fun e w' => e = .returned (.tuple #[.int .i32 65533, .int .i64 0]) ∧ w' = w := by
  go_enter Tryd.func43, Tryd.ntmps43
  go_wp2
  go_loop [8] (fun i => i = .int .i64 0) (fun _ => 0)
  case atStart => rfl
  case round =>
    subst hrel
    go_wp2_with fail
    refine (slow_zero ad c _).mono ?_
    rintro e w' ⟨rfl, rfl⟩
    go_wp2
    go_ret2
    exact ⟨rfl, rfl⟩
theorem next_zero (ad : Option Addr) (c : Nat) (w : World) :
    Calls Tryd.prog 25 #[.slice ad 0 c] w fun e w' => e = .returned (.tuple #[.int .i32 (-1), .int .i64 0]) ∧ w' = w := by
  go_enter Tryd.func25, Tryd.ntmps25
  go_wp2_with fail
  refine (dec_zero ad c _).mono ?_
  rintro e w1 ⟨rfl, rfl⟩
  go_wp2_with fail
  refine (known_any (65533, 0) _).mono ?_
  rintro e w2 ⟨rfl, rfl⟩
  go_wp2
  go_ret2
  exact ⟨rfl, rfl⟩

/-- A slice of bytes, wherever. -/
def BSl (w : World) (v : Value) (s : ByteArray) : Prop := (∃ ad c, v = .slice ad 0 c ∧ s.size = 0) ∨ ∃ b off cap, v = .slice (some ⟨b, off, none⟩) s.size cap ∧ 0 < s.size ∧ s.size ≤ cap ∧ By w b off s
theorem BSl.stay {w w' : World} {v : Value} {s : ByteArray} (h : BSl w v s) (hb : Below w.heap.size w w') : BSl w' v s := by
  rcases h with h | ⟨b, off, c, rfl, h1, h2, h⟩
  · exact Or.inl h
  · exact Or.inr ⟨b, off, c, rfl, h1, h2, h.stay hb⟩
/-- The sign with which bytes begin. -/
def nxR (s : ByteArray) : Int := if s.size = 0 then -1 else rn s 0
def nxN (s : ByteArray) : Nat := if s.size = 0 then 0 else wd s 0
theorem next_any (s : ByteArray) (v : Value) (w : World) (hT : Tabs w) (h : BSl w v s) :
    Calls Tryd.prog 25 #[v] w fun e w' => e = .returned (.tuple #[.int .i32 (nxR s), .int .i64 (nxN s)]) ∧ Below w.heap.size w w' := by
  rcases h with ⟨ad, c, rfl, h⟩ | ⟨b, off, c, rfl, h1, h2, h⟩
  · refine (next_zero ad c w).mono ?_
    rintro e w' ⟨rfl, rfl⟩
    unfold nxR nxN
    rw [if_pos h, if_pos h]
    exact ⟨rfl, Below.refl _ _⟩
  · have c := next_at s 0 b off c w h1 hT h
    unfold nxR nxN
    rw [if_neg (by omega), if_neg (by omega)]
    exact c
theorem ends_zero {s : ByteArray} (h : s.size = 0) : Ends s 0 := ⟨by rw [h]; rfl, fun j hj => absurd hj (Nat.not_lt_zero j)⟩
theorem unitsS_any (s : ByteArray) (v : Value) (w : World) (hn : s.size ≤ 40000) (hT : Tabs w) (h : BSl w v s) :
    Calls Tryd.prog 9 #[v] w fun e w' => ∃ k v, e = .returned v ∧ Ends s k ∧ w'.ownsRow w.heap.size 56 3 v k (ucells s k) ∧ Below w.heap.size w w' := by
  rcases h with ⟨ad, c, rfl, h⟩ | ⟨b, off, c, rfl, h1, h2, h⟩
  · refine (units_zero ad c w).mono ?_
    rintro e w' ⟨rfl, rfl⟩
    exact ⟨0, _, rfl, ends_zero h, World.ownsRow_nil _ _ _ _, Below.refl _ _⟩
  · exact units_any s b off c w hn h2 hT h
end Go.Proofs.YtbhjkkbempnjeaaDoor.Lns
/- DecodeLiteral, over what the program's calls answer. -/
namespace Go.Proofs.YtbhjkkbempnjeaaDoor
set_option linter.unusedVariables false
open Go.RowKit Go.ChangeShapes
/-- A text's signs. -/
def unS (s : ByteArray) (k : Nat) : List U3 := (List.range k).map fun j => ⟨rn s (pos s j), (pos s j : Int), (wd s (pos s j) : Int)⟩
theorem unS_len (s : ByteArray) (k : Nat) : (unS s k).length = k := by simp [unS]
theorem unS_at (s : ByteArray) (k i : Nat) (h : i < k) : (unS s k)[i]? = some ⟨rn s (pos s i), (pos s i : Int), (wd s (pos s i) : Int)⟩ := by simp [unS, List.getElem?_range h]
theorem unS_cells (s : ByteArray) (k : Nat) : Lns.ucells s k = uC (unS s k) := by
  unfold Lns.ucells uC unS
  rw [List.flatMap_map]
  rfl
theorem unS_txt (s : ByteArray) (k : Nat) : tU (unS s k) = txt (fun i => rn s (pos s i)) k := by
  unfold tU unS txt
  rw [List.flatMap_map]
theorem unS_bd {s : ByteArray} {k : Nat} (he : Ends s k) (hs : s.size ≤ 100000) : ∀ u ∈ unS s k, -1000000 ≤ u.a ∧ u.a ≤ 1000000 ∧ -1000000 ≤ u.n ∧ u.n ≤ 1000000 := by
  intro u hu
  obtain ⟨j, hj, rfl⟩ := List.mem_map.1 hu
  have hj' : j < k := List.mem_range.1 hj
  have h1 := he.2 j hj'
  have h2 := wd_pos s (pos s j) h1
  dsimp only
  omega
theorem lit_self {c : Nat → Int} {n k : Nat} (hC : ∀ j, j < n → 0 ≤ c j ∧ c j < 256) (he : Ends (strOfNums (cl c n)) k) :
    litB c n (unS (strOfNums (cl c n)) k) = (cl c n == txt (fun i => rn (strOfNums (cl c n)) (pos (strOfNums (cl c n)) i)) k) := by
  have hs : (strOfNums (cl c n)).size = n := by rw [strOfNums_size, cl_len]
  rcases Nat.eq_zero_or_pos k with rfl | hk
  · have h0 : n = 0 := by
      have := he.1
      rw [hs] at this
      exact this.symm
    subst h0
    rfl
  · obtain ⟨m, rfl⟩ : ∃ m, k = m + 1 := ⟨k - 1, by omega⟩
    have h1 := unS_at (strOfNums (cl c n)) (m + 1) 0 (by omega)
    have h2 := unS_at (strOfNums (cl c n)) (m + 1) m (by omega)
    rw [lit_is h1 (by rw [unS_len]; exact h2)]
    have h3 : pos (strOfNums (cl c n)) m + wd (strOfNums (cl c n)) (pos (strOfNums (cl c n)) m) = n := by
      have := he.1
      rw [hs] at this
      exact this
    dsimp only
    have h4 : (pos (strOfNums (cl c n)) 0 : Int) = 0 := rfl
    rw [unS_txt, h4, show ((pos (strOfNums (cl c n)) m : Int) + (wd (strOfNums (cl c n)) (pos (strOfNums (cl c n)) m) : Int)) = (n : Int) by omega]
    have h5 : (fun j => c ((0 : Int).toNat + j)) = c := by funext j; show c (0 + j) = c j; rw [Nat.zero_add]
    rw [h5]
    simp
theorem unS_us {w : World} {base k : Nat} {v : Value} {s : ByteArray} (h : w.ownsRow base 56 3 v k (Lns.ucells s k)) : US w v (unS s k) := by
  rw [unS_cells] at h
  have h' : UR w base v (unS s k) := by
    show w.ownsRow _ _ _ _ _ _
    rw [unS_len]
    exact h
  exact h'.us
theorem rcells_rsl {w : World} {base k : Nat} {v : Value} {s : ByteArray} (h : w.ownsRow base 21 1 v k (Tns.rcells s k)) : Tns.RSl w v k fun i => rn s (pos s i) := by
  have h0 := h
  obtain ⟨_, ⟨rfl, h2⟩ | ⟨g, cap, cur, rfl, _⟩⟩ := h
  · exact Or.inl ⟨none, 0, rfl, h2⟩
  · refine Or.inr ⟨g, 0, cap, rfl, fun i hi => ?_⟩
    rw [Nat.zero_add, h0.cellAt i (by omega)]
    simp [Tns.rcells, List.getElem?_range hi]
/-- Text of a text's runes. -/
theorem again_any {w : World} {s : ByteArray} {v : Value} {k base : Nat} (hk : k ≤ 5000) (h : w.ownsRow base 21 1 v k (Tns.rcells s k)) :
    Calls Tryd.prog 42 #[v] w fun e w' => e = .returned (.string (strOfNums (txt (fun i => rn s (pos s i)) k))) ∧ Below w.heap.size w w' := Tns.text_any _ k v w hk (rcells_rsl h)
end Go.Proofs.YtbhjkkbempnjeaaDoor
/- What token answers; utf.Units of bytes. -/
namespace Go.Proofs.YtbhjkkbempnjeaaDoor
set_option linter.unusedVariables false
open Go.RowKit Go.ChangeShapes
/-- Runs answers as it should. -/
def RunsOk : Prop := ∀ (w : World) (v : Value) (l : List U3), US w v l → FitU l → l.length ≤ 5000 →
  Calls Tryd.prog 12 #[v] w fun e w' => ∃ v', e = .returned v' ∧ PAs w' v' (runsL (RU l) l.length 0) ∧ Below w.heap.size w w'
/-- So does Split. -/
def SplitOk : Prop := ∀ (w : World) (v : Value) (l : List U3) (f t : Int), US w v l → FitU l → l.length ≤ 5000 → (-9223372036854775808 ≤ f ∧ f ≤ 9223372036854775807) → (-9223372036854775808 ≤ t ∧ t ≤ 9223372036854775807) →
  Calls Tryd.prog 15 #[v, .agg #[.int .i64 f, .int .i64 t]] w fun e w' => ∃ v', e = .returned v' ∧ PAs w' v' (partsL (RU l) (min t (l.length : Int)).toNat (max f 0).toNat) ∧ Below w.heap.size w w'
/-- So does Words. -/
def WordsOk : Prop := ∀ (w : World) (ad : Option Addr) (n cap : Nat) (c : Nat → Int) (v : Value) (l : List U3) (lo hi : Int), (∀ j, j < n → 0 ≤ c j ∧ c j < 256) → BC w ad n c → n ≤ cap → n ≤ 100000 → cap ≤ 9223372036854775807 → US w v l → FitU l → l.length ≤ 5000 → (∀ u ∈ l, -1000000 ≤ u.a ∧ u.a ≤ 1000000 ∧ -1000000 ≤ u.n ∧ u.n ≤ 1000000) → (-9223372036854775808 ≤ lo ∧ lo ≤ 9223372036854775807) → (-9223372036854775808 ≤ hi ∧ hi ≤ 9223372036854775807) →
  Calls Tryd.prog 19 #[.slice ad n cap, v, .int .i64 lo, .int .i64 hi] w fun e w' => ∃ v', e = .returned v' ∧ WS w' v' (wordsL c n l lo hi) ∧ Below w.heap.size w w'
theorem unS_fit {s : ByteArray} {k : Nat} (he : Ends s k) : FitU (unS s k) := by
  intro u hu
  obtain ⟨j, hj, rfl⟩ := List.mem_map.1 hu
  have hj' : j < k := List.mem_range.1 hj
  have h1 := he.2 j hj'
  have h2 := rn_range s (pos s j) h1
  show Fit (rn s (pos s j))
  unfold Fit
  rcases h2 with h2 | h2
  · omega
  · have := (okR_iff _).1 h2
    omega
theorem unitsB_any {w : World} (hT : Lns.Tabs w) {ad : Option Addr} {n cap : Nat} {c : Nat → Int} (hC : ∀ j, j < n → 0 ≤ c j ∧ c j < 256) (hb : BC w ad n c) (hcap : n ≤ cap) (hn : n ≤ 40000) :
    Calls Tryd.prog 9 #[.slice ad n cap] w fun e w' => ∃ k v, e = .returned v ∧ Ends (strOfNums (cl c n)) k ∧ k ≤ n ∧ UR w' w.heap.size v (unS (strOfNums (cl c n)) k) ∧ Below w.heap.size w w' := by
  have hsz : (strOfNums (cl c n)).size = n := by rw [strOfNums_size, cl_len]
  have hBS : Lns.BSl w (.slice ad n cap) (strOfNums (cl c n)) := by
    rcases Nat.eq_zero_or_pos n with h0 | h0
    · exact Or.inl ⟨ad, cap, by rw [h0], by rw [hsz, h0]⟩
    · obtain ⟨bx, ox, rfl, -⟩ := hb 0 h0
      exact Or.inr ⟨bx, ox, cap, by rw [hsz], by rw [hsz]; exact h0, by rw [hsz]; exact hcap, bc_by hC hb⟩
  refine (Lns.unitsS_any (strOfNums (cl c n)) _ w (by rw [hsz]; exact hn) hT hBS).mono ?_
  rintro e w' ⟨k, v, rfl, he, hr, hbl⟩
  refine ⟨k, v, rfl, he, ?_, ?_, hbl⟩
  · have := he.le
    rw [hsz] at this
    exact this
  · unfold UR
    rw [unS_len, ← unS_cells]
    exact hr
/-- The bytes of the example. -/
def exT : List Int := [112, 97, 114, 115, 101, 72, 84, 77, 76, 70, 105, 108, 101, 32, 100, 111, 110, 39, 116]
end Go.Proofs.YtbhjkkbempnjeaaDoor
