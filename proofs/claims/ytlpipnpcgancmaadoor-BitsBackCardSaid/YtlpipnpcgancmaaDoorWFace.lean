/- The faces Get and Put: what is given up within is caught and answered. -/
import Derived.Test.YtlpipnpcgancmaaDoorProg
import Derived.Test.YtlpipnpcgancmaaDoorWPlain
import Derived.Test.YtlpipnpcgancmaaDoorWMem
import Derived.Test.YtlpipnpcgancmaaDoorWGive
import Derived.Test.YtlpipnpcgancmaaDoorWGet
import Derived.Test.YtlpipnpcgancmaaDoorWPut
import Derived.WalkKit
import Derived.WalkSpells
import Derived.WalkLawsBesides
import Derived.Defers
import Derived.Recover
import Derived.Handy
namespace Go.Proofs.YtlpipnpcgancmaaDoor.WFace
open Go.RowKit WMem WPlain WGive WGet WPut

theorem mf (fn : Fn) (first cap : Array Value) (w : World) : (Instr.makeFunc fn first cap).run Tryd.prog w = .ok (.func fn first cap) w := rfl

/-- the end of a face that has one cell of its own for its error: what is below that cell stays -/
theorem face_row {w w1 w' : World} {g : Nat} {l : List UInt8} {rest : List Value} {o : Obj} (hR : Row w1 g l rest) (hG : (w.alloc o).grownBy w1 (some g)) (hg : g < w.heap.size) (hb : Below w.heap.size w1 w') :
    Row w' g l rest ∧ w.grownBy w' (some g) :=
  ⟨hR.keep hb hg, ⟨hb.os.trans hG.os, hb.tape.trans hG.tape, hb.output.trans hG.output, Nat.le_trans (by simp) (Nat.le_trans hG.size hb.size),
    fun k hk hne => (hb.block k hk).trans ((hG.block k (by simp; omega) hne).trans (Below.heap_alloc w o k hk))⟩⟩

end Go.Proofs.YtlpipnpcgancmaaDoor.WFace
