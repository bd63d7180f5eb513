/- A region that draws its order, in a round of a range over a function: walked as one outside of it; loads of cells that stay are taken first. -/
import Derived.RangeFuncCalls
import Derived.RangeFuncNested
import Derived.RegionTactic
import Derived.OrdersIn
import Derived.Deep.RegionHeld
import Derived.Test.YtgjcbfdhpbkhoaaGreatDoorMg43
namespace Go.Proofs.YtgjcbfdhpbkhoaaGreatDoor.ARegion
open Go.RowKit
end Go.Proofs.YtgjcbfdhpbkhoaaGreatDoor.ARegion
