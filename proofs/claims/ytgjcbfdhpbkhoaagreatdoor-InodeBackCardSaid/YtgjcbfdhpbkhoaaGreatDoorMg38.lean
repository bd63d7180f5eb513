/- The library's maps.Keys, slices.Sorted and slices.Sort at rows of ints: the shelf's contracts laid at this program's numbers. -/
import Derived.Shelf.SlIterI.Nil
import Derived.Shelf.SortM.Plain
import Derived.Shelf.SortM.SortNone
import Derived.Ground.GgzProg
import Derived.Ground.SlgmProg
import Derived.Test.YtgjcbfdhpbkhoaaGreatDoorProg
namespace Go.Proofs
open Go.Shelf
end Go.Proofs
