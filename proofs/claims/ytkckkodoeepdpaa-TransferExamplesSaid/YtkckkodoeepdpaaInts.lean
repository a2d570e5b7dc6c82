/- The reference's Ints returns whether two lists of numbers are equal. -/
import Derived.Test.YtkckkodoeepdpaaMembers
namespace Go.Proofs.Ytkckkodoeepdpaa
open Go.ChangeShapes Go.WideShapes Go.ChangeAt Go.RowKit

end Go.Proofs.Ytkckkodoeepdpaa
