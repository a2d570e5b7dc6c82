/- The package's Members, Count and Subset. -/
import Derived.Test.YtmbelhdkaepohaaDEq
namespace Go.Proofs.Ytmbelhdkaepohaa
set_option maxRecDepth 20000
open Go.ChangeShapes Go.WideShapes Go.ChangeAt Go.RowKit

end Go.Proofs.Ytmbelhdkaepohaa
