/- buddiesOf, Orders. -/
import Derived.Test.YtgjcbfdhpbkhoaaGreatDoorMg4
import Derived.Laws.Rows
import Derived.Laws.CopyOwn
import Derived.KernelRfl
namespace Go.Proofs.YtgjcbfdhpbkhoaaGreatDoor.TBud
open Go.RowKit WMem WPlain TPlain TBits TSet TWalk TOrd TCut
end Go.Proofs.YtgjcbfdhpbkhoaaGreatDoor.TBud
