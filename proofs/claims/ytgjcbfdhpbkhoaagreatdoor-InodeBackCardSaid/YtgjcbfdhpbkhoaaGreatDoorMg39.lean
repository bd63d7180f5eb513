/- slices.Sorted(maps.Keys(m)): the numbers at which something stands, rising, in new memory. -/
import Derived.Test.YtgjcbfdhpbkhoaaGreatDoorMg30
import Derived.Test.YtgjcbfdhpbkhoaaGreatDoorMg38
namespace Go.Proofs.YtgjcbfdhpbkhoaaGreatDoor.EKeys
open Go.RowKit Go.Maps Go.Sort Go.Shelf WMem Map Ext
end Go.Proofs.YtgjcbfdhpbkhoaaGreatDoor.EKeys
