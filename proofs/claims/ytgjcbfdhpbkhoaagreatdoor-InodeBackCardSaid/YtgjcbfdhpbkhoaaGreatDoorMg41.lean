/- slices.Backward at rows of functions: the row is told from its end on. -/
import Derived.Test.YtgjcbfdhpbkhoaaGreatDoorMg30
import Derived.RangeFuncNested
import Derived.RangeFuncBound
import Derived.RangeFuncCalls
import Derived.RangeFuncLeaves
import Derived.Shelf.Abstract
import Derived.Shelf.RegionOpen
import Derived.WalkKit
import Derived.OwnWalkIn
import Derived.TacticsInMore
import Derived.LoopNIn
import Derived.LoopIn
import Derived.RegionIn
import Derived.Deep.AppendLies
namespace Go.Proofs.YtgjcbfdhpbkhoaaGreatDoor.EIter
open Go.RowKit Go.Shelf WMem
attribute [local go_sem] Oper.semAt_some
def CKeep (S : Nat → Prop) (A B : World) : Prop := ∀ k o, S k → A.heap[k]? = some o → o.isCells = true → B.heap[k]? = some o
theorem CKeep.refl (S : Nat → Prop) (A : World) : CKeep S A A := fun _ _ _ h _ => h
theorem CKeep.trans {S : Nat → Prop} {A B C : World} (h : CKeep S A B) (k : CKeep S B C) : CKeep S A C := fun i o hi ho hc => k i o hi (h i o hi ho hc) hc
theorem CKeep.turn {S : Nat → Prop} (W : World) (l : Nat) (o o' : Obj) (h : W.heap[l]? = some o) (hc : o.isCells = false) : CKeep S W (W.putObj l o') := fun k q _ hq hqc => by
  by_cases e : k = l
  · subst e
    rw [h] at hq
    injection hq with hq
    subst hq
    rw [hc] at hqc
    cases hqc
  · exact (World.putObj_heap_other e).trans hq
theorem CKeep.cell {S : Nat → Prop} {A B : World} (h : CKeep S A B) {k : Nat} (hk : S k) {cs : Array Value} {t : TypeId} {fz : Nat × Nat} (ho : A.heap[k]? = some (.cells cs t fz)) : B.heap[k]? = some (.cells cs t fz) := h k _ hk ho rfl
def two (a b : Nat) (k : Nat) : Prop := k = a ∨ k = b
theorem range_len (k : Nat) : (List.range k).length = k := List.length_range
def idx (vs : List Value) (x : Nat) : Int := ((vs.length - 1 - x : Nat) : Int)
def el (vs : List Value) (x : Nat) : Value := vs.getD (vs.length - 1 - x) .nilFunc
end Go.Proofs.YtgjcbfdhpbkhoaaGreatDoor.EIter
