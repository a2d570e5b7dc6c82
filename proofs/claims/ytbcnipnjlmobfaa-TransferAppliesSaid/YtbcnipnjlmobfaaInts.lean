/- The reference's Ints returns whether two lists of numbers are equal. -/
import Derived.Test.YtbcnipnjlmobfaaMembers
namespace Go.Proofs.Ytbcnipnjlmobfaa
open Go.ChangeShapes Go.WideShapes Go.ChangeAt Go.RowKit

end Go.Proofs.Ytbcnipnjlmobfaa
