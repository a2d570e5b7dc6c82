/- The scanner's run. -/
import Derived.Test.YtfapgnbnfhpicaaGreatDoorStp
import Derived.Test.YtfapgnbnfhpicaaGreatDoorScp
namespace Go.Proofs.YtfapgnbnfhpicaaGreatDoor
set_option maxRecDepth 20000
set_option linter.unusedVariables false
open Go.ChangeShapes Go.WideShapes Go.ChangeAt Go.RowKit

end Go.Proofs.YtfapgnbnfhpicaaGreatDoor
