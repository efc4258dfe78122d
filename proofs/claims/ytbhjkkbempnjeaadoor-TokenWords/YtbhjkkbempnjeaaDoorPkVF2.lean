/- ref.Units; signs as runes. -/
import Derived.Test.YtbhjkkbempnjeaaDoorvE
import Derived.Test.YtbhjkkbempnjeaaDoorPkVBase2
namespace Go.Proofs.YtbhjkkbempnjeaaDoor.Lns
set_option linter.unusedVariables false
open Go.RowKit Go.ChangeShapes
theorem units_zero (ad : Option Addr) (cap : Nat) (w : World) :
    Calls Tryd.prog 9 #[.slice ad 0 cap] w fun e w' => e = .returned (.slice none 0 0) ∧ w' = w := by
  go_enter Tryd.func9, Tryd.ntmps9
  go_wp2
  go_loopg [3, 4] (0) (fun g l i wr => l = .slice none 0 0 ∧ i = .int .i64 0 ∧ wr = w)
  case atStart => exact ⟨rfl, rfl, rfl⟩
  case round =>
    obtain ⟨rfl, rfl, rfl⟩ := hrel
    go_wp2_with fail
    go_ret
    exact ⟨rfl, rfl⟩
theorem slow_zero (ad : Option Addr) (c : Nat) (w : World) :
    Calls Tryd.prog 61 #[.slice ad 0 c] w fun e w' => e = .returned (.tuple #[.int .i32 65533, .int .i64 0]) ∧ w' = w := by
  go_enter Tryd.func61, Tryd.ntmps61
  go_wp2
  go_ret2
  exact ⟨rfl, rfl⟩
theorem dec_zero (ad : Option Addr) (c : Nat) (w : World) :
    Calls Tryd.prog 43 #[.slice ad 0 c] w fun e w' => e = .returned (.tuple #[.int .i32 65533, .int .i64 0]) ∧ w' = w := by
  go_enter Tryd.func43, Tryd.ntmps43
  go_wp2
  go_loop [8] (fun i => i = .int .i64 0) (fun _ => 0)
  case atStart => rfl
  case round =>
    subst hrel
    go_wp2_with fail
    refine (slow_zero ad c _).mono ?_
    rintro e w' ⟨rfl, rfl⟩
    go_wp2
    go_ret2
    exact ⟨rfl, rfl⟩
theorem next_zero (ad : Option Addr) (c : Nat) (w : World) :
    Calls Tryd.prog 25 #[.slice ad 0 c] w fun e w' => e = .returned (.tuple #[.int .i32 (-1), .int .i64 0]) ∧ w' = w := by
  go_enter Tryd.func25, Tryd.ntmps25
  go_wp2_with fail
  refine (dec_zero ad c _).mono ?_
  rintro e w1 ⟨rfl, rfl⟩
  go_wp2_with fail
  refine (known_any (65533, 0) _).mono ?_
  rintro e w2 ⟨rfl, rfl⟩
  go_wp2
  go_ret2
  exact ⟨rfl, rfl⟩

/-- A slice of bytes, wherever. -/
def BSl (w : World) (v : Value) (s : ByteArray) : Prop := (∃ ad c, v = .slice ad 0 c ∧ s.size = 0) ∨ ∃ b off cap, v = .slice (some ⟨b, off, none⟩) s.size cap ∧ 0 < s.size ∧ s.size ≤ cap ∧ By w b off s
theorem BSl.stay {w w' : World} {v : Value} {s : ByteArray} (h : BSl w v s) (hb : Below w.heap.size w w') : BSl w' v s := by
  rcases h with h | ⟨b, off, c, rfl, h1, h2, h⟩
  · exact Or.inl h
  · exact Or.inr ⟨b, off, c, rfl, h1, h2, h.stay hb⟩
/-- The sign with which bytes begin. -/
def nxR (s : ByteArray) : Int := if s.size = 0 then -1 else rn s 0
def nxN (s : ByteArray) : Nat := if s.size = 0 then 0 else wd s 0
theorem next_any (s : ByteArray) (v : Value) (w : World) (hT : Tabs w) (h : BSl w v s) :
    Calls Tryd.prog 25 #[v] w fun e w' => e = .returned (.tuple #[.int .i32 (nxR s), .int .i64 (nxN s)]) ∧ Below w.heap.size w w' := by
  rcases h with ⟨ad, c, rfl, h⟩ | ⟨b, off, c, rfl, h1, h2, h⟩
  · refine (next_zero ad c w).mono ?_
    rintro e w' ⟨rfl, rfl⟩
    unfold nxR nxN
    rw [if_pos h, if_pos h]
    exact ⟨rfl, Below.refl _ _⟩
  · have c := next_at s 0 b off c w h1 hT h
    unfold nxR nxN
    rw [if_neg (by omega), if_neg (by omega)]
    exact c
theorem ends_zero {s : ByteArray} (h : s.size = 0) : Ends s 0 := ⟨by rw [h]; rfl, fun j hj => absurd hj (Nat.not_lt_zero j)⟩
theorem unitsS_any (s : ByteArray) (v : Value) (w : World) (hn : s.size ≤ 40000) (hT : Tabs w) (h : BSl w v s) :
    Calls Tryd.prog 9 #[v] w fun e w' => ∃ k v, e = .returned v ∧ Ends s k ∧ w'.ownsRow w.heap.size 56 3 v k (ucells s k) ∧ Below w.heap.size w w' := by
  rcases h with ⟨ad, c, rfl, h⟩ | ⟨b, off, c, rfl, h1, h2, h⟩
  · refine (units_zero ad c w).mono ?_
    rintro e w' ⟨rfl, rfl⟩
    exact ⟨0, _, rfl, ends_zero h, World.ownsRow_nil _ _ _ _, Below.refl _ _⟩
  · exact units_any s b off c w hn h2 hT h
end Go.Proofs.YtbhjkkbempnjeaaDoor.Lns
/- Letters. -/
namespace Go.Proofs.YtbhjkkbempnjeaaDoor
set_option linter.unusedVariables false
open Go.RowKit Go.ChangeShapes
/-- Great letters, small ones, letters. -/
def gB (r : Int) : Bool := (decide (65 ≤ r) && decide (r ≤ 90)) || (decide (192 ≤ r) && decide (r ≤ 222) && !decide (r = 215))
def sB (r : Int) : Bool := gB (r - 32)
def lB (r : Int) : Bool := gB r || sB r || decide (r = 223) || (decide (255 ≤ r) && decide (r ≤ 591)) || (decide (880 ≤ r) && decide (r ≤ 1327))
def dn (r : Int) : Int := bif gB r then r + 32 else r
def up (r : Int) : Int := bif sB r then r - 32 else r
/-- A rune that fits. -/
def Fit (r : Int) : Prop := -2147483648 ≤ r ∧ r ≤ 2147483647
theorem gB_iff (r : Int) : gB r = true ↔ (65 ≤ r ∧ r ≤ 90) ∨ (192 ≤ r ∧ r ≤ 222 ∧ r ≠ 215) := by
  unfold gB; simp [and_assoc]
theorem gB_no (r : Int) : gB r = false ↔ ¬ ((65 ≤ r ∧ r ≤ 90) ∨ (192 ≤ r ∧ r ≤ 222 ∧ r ≠ 215)) := by
  rw [← gB_iff]; simp
theorem wrap_sub (r : Int) (h : Fit r) : gB (IntKind.i32.wrap (r - 32)) = sB r := by
  unfold Fit at h
  by_cases h1 : -2147483648 ≤ r - 32
  · rw [show IntKind.i32.wrap (r - 32) = r - 32 by simp [IntKind.wrap, IntKind.bits, IntKind.signed]; omega]; rfl
  · have e : sB r = false := by unfold sB; rw [gB_no]; omega
    rw [e, gB_no]
    have : IntKind.i32.wrap (r - 32) = r - 32 + 4294967296 := by simp [IntKind.wrap, IntKind.bits, IntKind.signed]; omega
    rw [this]; omega
end Go.Proofs.YtbhjkkbempnjeaaDoor
