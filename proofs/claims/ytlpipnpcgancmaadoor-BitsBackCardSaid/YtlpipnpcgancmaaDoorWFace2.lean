/- The faces Pack and Unpack: what is given up within is caught and answered. -/
import Derived.Test.YtlpipnpcgancmaaDoorWUnpack
import Derived.Test.YtlpipnpcgancmaaDoorWFace
namespace Go.Proofs.YtlpipnpcgancmaaDoor.WFace2
open Go.RowKit WMem WPlain WGive WGet WPut WAppend WHelp WList WPack WUnpack WFace

theorem alloc_sl {w : World} {B : Nat} {A : Option Addr} {xs : List Value} (h : Sl w B A xs) (hB : B ≤ w.heap.size) (o : Obj) : Sl (w.alloc o) B A xs := h.keep fun q hq => World.cell?_alloc_lt w o q (by omega)

/-- a face that answers a row of its own: the row lies behind the face's own cell -/
theorem face_end {w w1 w' : World} {T : TypeId} {xs : List Value} {o : Obj} {v : Value} (hR : RowV w1 (w.alloc o).heap.size T xs) (hb : Below (w.alloc o).heap.size (w.alloc o) w1) (hs : (w.alloc o).heap.size < w1.heap.size)
    (hg : (w1.setCell ⟨w.heap.size, 0, none⟩ v).grownBy w' (some w.heap.size)) : RowV w' (w.heap.size + 1) T xs ∧ Below w.heap.size w w' := by
  have e : (w.alloc o).heap.size = w.heap.size + 1 := by simp
  rw [e] at hR hb hs
  have g1 : w1.grownBy w' (some w.heap.size) := grown_trans (grown_setp (p := ⟨w.heap.size, 0, none⟩) (grown_refl w1 _) v) hg
  refine ⟨hR.grown g1 (by simp), ?_⟩
  exact ((Below.refl _ _).alloc (Nat.le_refl _) o).trans ((hb.mono (by omega)).trans (grown_below g1 (Nat.le_refl _) (by omega)))

/-- a face that gives up: nothing of what was there has turned -/
theorem gave_up {w w' : World} {o : Obj} (hg : (w.alloc o).grownBy w' (some w.heap.size)) : Below w.heap.size w w' :=
  ((Below.refl _ _).alloc (Nat.le_refl _) _).trans (grown_below hg (Nat.le_refl _) (by simp))

/-- what stands in the test of the size, both ways -/
theorem size_no (t : Nat) (size : Int) (h : ¬ ((t : Int) ≤ size ∧ size ≤ 4096)) : (decide ((t : Int) ≤ size) = true ∧ decide (size ≤ 4096) = false) ∨ decide ((t : Int) ≤ size) = false := by
  by_cases h1 : (t : Int) ≤ size
  · exact .inl ⟨by simpa using h1, by simp; omega⟩
  · exact .inr (by simpa using h1)

end Go.Proofs.YtlpipnpcgancmaaDoor.WFace2
