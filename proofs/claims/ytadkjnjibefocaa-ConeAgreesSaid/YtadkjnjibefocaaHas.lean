/- The reference's Has returns whether a bit is in a valid set; Same whether two sets have the same width and the same words. -/
import Derived.Test.YtadkjnjibefocaaValid
import Derived.Deep.QuietTactic
import Derived.BigQuiet
namespace Go.Proofs.Ytadkjnjibefocaa
open Go.ChangeShapes Go.WideShapes Go.ChangeAt Go.RowKit

end Go.Proofs.Ytadkjnjibefocaa
