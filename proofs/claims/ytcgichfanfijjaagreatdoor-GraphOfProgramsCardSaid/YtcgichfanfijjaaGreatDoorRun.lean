/- The scanner's run. -/
import Derived.Test.YtcgichfanfijjaaGreatDoorStp
import Derived.Test.YtcgichfanfijjaaGreatDoorScp
namespace Go.Proofs.YtcgichfanfijjaaGreatDoor
set_option maxRecDepth 20000
set_option linter.unusedVariables false
open Go.ChangeShapes Go.WideShapes Go.ChangeAt Go.RowKit

end Go.Proofs.YtcgichfanfijjaaGreatDoor
