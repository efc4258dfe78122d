/- ref.Next. -/
import Derived.Test.YtkfgfbdalkifjaaDoorxUD
import Derived.Test.YtkfgfbdalkifjaaDoorvE
namespace Go.Proofs.YtkfgfbdalkifjaaDoor.Lns
set_option linter.unusedVariables false
open Go.RowKit Go.ChangeShapes
theorem rnext_at (s : ByteArray) (p b off cap : Nat) (w : World) (hp : p < s.size) (hb : By w b off s) :
    Calls Tryd.prog 39 #[.slice (some ⟨b, off + p, none⟩) (s.size - p) cap] w fun e w' => e = .returned (.tuple #[.int .i32 (rn s p), .int .i64 (wd s p)]) ∧ Below w.heap.size w w' := by
  unfold rn wd
  rw [Go.Lib.decode_at]
  exact rnext_n b (off + p) (s.size - p) cap _ _ _ _ w (by omega) (hb p hp) (fun h => by rw [Nat.add_assoc]; exact hb (p + 1) (by omega)) (fun h => by rw [Nat.add_assoc]; exact hb (p + 2) (by omega)) (fun h => by rw [Nat.add_assoc]; exact hb (p + 3) (by omega)) (bt_lt s p) (bt_lt s (p + 1)) (bt_lt s (p + 2)) (bt_lt s (p + 3))
set_option maxRecDepth 100000 in
theorem rnext_zero (ad : Option Addr) (cap : Nat) (w : World) :
    Calls Tryd.prog 39 #[.slice ad 0 cap] w fun e w' => e = .returned (.tuple #[.int .i32 (-1), .int .i64 0]) ∧ w' = w := by
  go_enter Tryd.func39, Tryd.ntmps39
  go_wp2
  go_ret2
  exact ⟨rfl, rfl⟩
end Go.Proofs.YtkfgfbdalkifjaaDoor.Lns
