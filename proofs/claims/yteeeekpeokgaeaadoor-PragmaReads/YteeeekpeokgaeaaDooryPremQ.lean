/- A law of pragma, as its row wants it. -/
import Derived.Test.YteeeekpeokgaeaaDoorPkYKn2
import Derived.Test.YteeeekpeokgaeaaDooryLRe
namespace Go.Proofs.YteeeekpeokgaeaaDoor
set_option linter.unusedVariables false
open Go.RowKit Go.ChangeShapes
end Go.Proofs.YteeeekpeokgaeaaDoor
