/- string(b) of bytes wherever they lie. -/
import Derived.Test.YtodjfeheagnnpaaGreatDoorhCL
import Derived.Laws.BytesArg
namespace Go.Proofs.YtodjfeheagnnpaaGreatDoor
set_option linter.unusedVariables false
open Go.RowKit Go.ChangeShapes
theorem str_bc {w : World} {ad : Option Addr} {n cap : Nat} {c : Nat → Int} (h : BC w ad n c) : (convert 22 9 (.slice ad n cap)).run Tryz.prog w = .ok (.string (strOfNums (cl c n))) w := by
  rcases Nat.eq_zero_or_pos n with h0 | h0
  · subst h0
    exact run_convert_bytes_zero w 22 5 Tryz.underlying22 Tryz.underlying5 ad cap 9 Tryz.underlying9
  · obtain ⟨b, off, rfl, hc⟩ := h.at h0
    exact run_convert_bytes_arg w 22 5 Tryz.underlying22 Tryz.underlying5 b off n cap (cl c n) (cl_len c n) (fun i hi => by rw [cl_getD c n i hi]; exact hc i hi) 9 Tryz.underlying9
end Go.Proofs.YtodjfeheagnnpaaGreatDoor
