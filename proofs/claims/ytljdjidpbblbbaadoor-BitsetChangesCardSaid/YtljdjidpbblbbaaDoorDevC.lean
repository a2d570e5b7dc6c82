/- The contracts of the set package's functions together with sane. -/
import Derived.Test.YtljdjidpbblbbaaDoorSane
namespace Go.Proofs.YtljdjidpbblbbaaDoor
end Go.Proofs.YtljdjidpbblbbaaDoor
