/- TokenWhole, as its row wants it. -/
import Derived.Test.YtbhjkkbempnjeaaDoorPkUPrem3
import Derived.Test.YtbhjkkbempnjeaaDooruLWho
namespace Go.Proofs.YtbhjkkbempnjeaaDoor
set_option linter.unusedVariables false
open Go.RowKit Go.ChangeShapes
end Go.Proofs.YtbhjkkbempnjeaaDoor
