/- The scanner's run. -/
import Derived.Test.YtmbelhdkaepohaaGreatDoorStp
import Derived.Test.YtmbelhdkaepohaaGreatDoorScp
namespace Go.Proofs.YtmbelhdkaepohaaGreatDoor
set_option maxRecDepth 20000
set_option linter.unusedVariables false
open Go.ChangeShapes Go.WideShapes Go.ChangeAt Go.RowKit

end Go.Proofs.YtmbelhdkaepohaaGreatDoor
