/- What a call may turn: only blocks of a set, and new ones. Words for calls that write into structures of their own. Nothing of the program. -/
import Derived.Test.YtphfidenjihgeaaWMem
namespace Go.Proofs.Ytphfidenjihgeaa.Ext
open Go.RowKit WMem

/-- of the blocks that were there only those of S may have turned -/
structure Ext (S : Nat → Prop) (a w : World) : Prop where
  os : w.os = a.os
  tape : w.tape = a.tape
  output : w.output = a.output
  size : a.heap.size ≤ w.heap.size
  block : ∀ k, k < a.heap.size → ¬ S k → w.heap[k]? = a.heap[k]?

/-- S' holds no block that was there, but those of S -/
def In (S' S : Nat → Prop) (a : World) : Prop := ∀ k, S' k → S k ∨ a.heap.size ≤ k
/-- all blocks of S are there -/
def There (S : Nat → Prop) (a : World) : Prop := ∀ k, S k → k < a.heap.size
/-- no block is in both -/
def Far (S S' : Nat → Prop) : Prop := ∀ k, S k → S' k → False

section
variable {S S' S'' : Nat → Prop} {a b w : World}
theorem In.refl (S : Nat → Prop) (a : World) : In S S a := fun _ h => .inl h
theorem In.trans (h : In S' S a) (h' : In S'' S' b) (hs : a.heap.size ≤ b.heap.size) : In S'' S a := fun k hk => by
  rcases h' k hk with h1 | h1
  · exact h k h1
  · exact .inr (by omega)
theorem Ext.refl (S : Nat → Prop) (a : World) : Ext S a a := ⟨rfl, rfl, rfl, Nat.le_refl _, fun _ _ _ => rfl⟩
theorem Ext.trans (h : Ext S a b) (h' : Ext S' b w) (hi : In S' S a) : Ext S a w :=
  ⟨h'.os.trans h.os, h'.tape.trans h.tape, h'.output.trans h.output, Nat.le_trans h.size h'.size, fun k hk hn =>
    (h'.block k (Nat.lt_of_lt_of_le hk h.size) (fun hs => by
      rcases hi k hs with h1 | h1
      · exact hn h1
      · omega)).trans (h.block k hk hn)⟩
theorem Ext.more (h : Ext S a w) (hs : ∀ k, k < a.heap.size → S k → S' k) : Ext S' a w := ⟨h.os, h.tape, h.output, h.size, fun k hk hn => h.block k hk fun h1 => hn (hs k hk h1)⟩
theorem Ext.of_below (h : Below a.heap.size a w) (S : Nat → Prop) : Ext S a w := ⟨h.os, h.tape, h.output, h.size, fun k hk _ => h.block k hk⟩
theorem Ext.below {B : Nat} (h : Ext S a w) (hB : B ≤ a.heap.size) (hs : ∀ k, S k → B ≤ k) : Below B a w := ⟨h.os, h.tape, h.output, h.size, fun k hk => h.block k (by omega) fun h1 => by have := hs k h1; omega⟩
theorem Ext.of_grown {row : Option Nat} (h : a.grownBy w row) (hs : ∀ k, row = some k → k < a.heap.size → S k) : Ext S a w :=
  ⟨h.os, h.tape, h.output, h.size, fun k hk hn => h.block k hk fun e => hn (hs k e.symm hk)⟩
theorem Ext.alloc (h : Ext S a w) (o : Obj) : Ext S a (w.alloc o) :=
  ⟨h.os, h.tape, h.output, Nat.le_trans h.size (by simp), fun k hk hn => (Below.heap_alloc w o k (Nat.lt_of_lt_of_le hk h.size)).trans (h.block k hk hn)⟩
theorem Ext.drew (h : Ext S a w) : Ext S a w.drew := ⟨h.os, h.tape, h.output, h.size, h.block⟩
theorem Ext.drewN (h : Ext S a w) (n : Nat) : Ext S a (w.drewN n) := ⟨h.os, h.tape, h.output, h.size, h.block⟩
theorem Ext.setCell (h : Ext S a w) {p : Addr} (hp : S p.block ∨ a.heap.size ≤ p.block) (u : Value) : Ext S a (w.setCell p u) :=
  ⟨h.os, h.tape, h.output, by simpa [World.setCell] using h.size, fun k hk hn => (Below.heap_setCell w p u k (by
    rintro rfl
    rcases hp with hp | hp
    · exact hn hp
    · omega)).trans (h.block k hk hn)⟩
theorem There.up (h : There S a) (hs : a.heap.size ≤ b.heap.size) : There S b := fun k hk => Nat.lt_of_lt_of_le (h k hk) hs
/-- what lies elsewhere stays apart -/
theorem Far.step (h : Far S S') (hi : In S'' S a) (ht : There S' a) : Far S'' S' := fun k h1 h2 => by
  rcases hi k h1 with h3 | h3
  · exact h k h3 h2
  · have := ht k h2; omega
theorem Far.symm (h : Far S S') : Far S' S := fun k h1 h2 => h k h2 h1
theorem Ext.keeps (h : Ext S a w) (hf : Far S S') (ht : There S' a) : ∀ k, S' k → w.heap[k]? = a.heap[k]? := fun k hk => h.block k (ht k hk) fun h1 => hf k h1 hk
end
end Go.Proofs.Ytphfidenjihgeaa.Ext
