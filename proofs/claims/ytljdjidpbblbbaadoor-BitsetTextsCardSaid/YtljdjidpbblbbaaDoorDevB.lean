/- The contracts of the set package's functions together, but for Text and Parse. -/
import Derived.Test.YtljdjidpbblbbaaDoorText
import Derived.Test.YtljdjidpbblbbaaDoorCombines
import Derived.Test.YtljdjidpbblbbaaDoorDWout
namespace Go.Proofs.YtljdjidpbblbbaaDoor
end Go.Proofs.YtljdjidpbblbbaaDoor
