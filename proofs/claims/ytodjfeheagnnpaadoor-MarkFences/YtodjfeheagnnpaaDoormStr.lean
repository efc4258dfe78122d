/- string(b) of bytes wherever they lie. -/
import Derived.Test.YtodjfeheagnnpaaDoorhCL
import Derived.Laws.BytesArg
namespace Go.Proofs.YtodjfeheagnnpaaDoor
set_option linter.unusedVariables false
open Go.RowKit Go.ChangeShapes
theorem str_bc {w : World} {ad : Option Addr} {n cap : Nat} {c : Nat → Int} (h : BC w ad n c) : (convert 22 9 (.slice ad n cap)).run Tryd.prog w = .ok (.string (strOfNums (cl c n))) w := by
  rcases Nat.eq_zero_or_pos n with h0 | h0
  · subst h0
    exact run_convert_bytes_zero w 22 5 Tryd.underlying22 Tryd.underlying5 ad cap 9 Tryd.underlying9
  · obtain ⟨b, off, rfl, hc⟩ := h.at h0
    exact run_convert_bytes_arg w 22 5 Tryd.underlying22 Tryd.underlying5 b off n cap (cl c n) (cl_len c n) (fun i hi => by rw [cl_getD c n i hi]; exact hc i hi) 9 Tryd.underlying9
end Go.Proofs.YtodjfeheagnnpaaDoor
