/- The scanner's run. -/
import Derived.Test.YtfapgnbnfhpicaaDoorStp
import Derived.Test.YtfapgnbnfhpicaaDoorScp
namespace Go.Proofs.YtfapgnbnfhpicaaDoor
set_option maxRecDepth 20000
set_option linter.unusedVariables false
open Go.ChangeShapes Go.WideShapes Go.ChangeAt Go.RowKit

end Go.Proofs.YtfapgnbnfhpicaaDoor
