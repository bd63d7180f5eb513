/- Lists of numbers, each in its width: the program's inner calls total, pack and unpack. -/
import Derived.Test.YtlpipnpcgancmaaDoorProg
import Derived.Test.YtlpipnpcgancmaaDoorWPlain
import Derived.Test.YtlpipnpcgancmaaDoorWMem
import Derived.Test.YtlpipnpcgancmaaDoorWGive
import Derived.Test.YtlpipnpcgancmaaDoorWGet
import Derived.Test.YtlpipnpcgancmaaDoorWPut
import Derived.Test.YtlpipnpcgancmaaDoorWHelp
import Derived.WalkKit
import Derived.WalkSpells
import Derived.WalkLawsBesides
namespace Go.Proofs.YtlpipnpcgancmaaDoor.WList
open Go.RowKit WMem WPlain WGive WGet WPut WAppend WHelp

end Go.Proofs.YtlpipnpcgancmaaDoor.WList
