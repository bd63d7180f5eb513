/- slices.Sorted(maps.Keys(m)): the numbers at which something stands, rising, in new memory. -/
import Derived.Test.YtgkindoidmglnaaGreatDoorMg26
import Derived.Test.YtgkindoidmglnaaGreatDoorMg34
namespace Go.Proofs.YtgkindoidmglnaaGreatDoor.EKeys
open Go.RowKit Go.Maps Go.Sort Go.Shelf WMem Map Ext

end Go.Proofs.YtgkindoidmglnaaGreatDoor.EKeys
