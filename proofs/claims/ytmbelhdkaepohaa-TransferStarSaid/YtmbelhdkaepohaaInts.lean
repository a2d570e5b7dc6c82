/- The reference's Ints returns whether two lists of numbers are equal. -/
import Derived.Test.YtmbelhdkaepohaaMembers
namespace Go.Proofs.Ytmbelhdkaepohaa
open Go.ChangeShapes Go.WideShapes Go.ChangeAt Go.RowKit

end Go.Proofs.Ytmbelhdkaepohaa
