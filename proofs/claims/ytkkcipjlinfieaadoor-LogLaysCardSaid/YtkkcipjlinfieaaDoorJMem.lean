/- Words for memory: a slice that reads as entries; a record as a value; a box of the call's own. Nothing of the program but its name. -/
import Derived.Test.YtkkcipjlinfieaaDoorWMem
import Derived.Test.YtkkcipjlinfieaaDoorJPlain
namespace Go.Proofs.YtkkcipjlinfieaaDoor.JMem
open Go.RowKit WMem WPlain JPlain

theorem below_box {w : World} (o : Obj) : Below w.heap.size w (w.alloc o) := (Below.refl _ _).alloc (Nat.le_refl _) _
theorem below_box_to {w w' : World} {o : Obj} (h : Below (w.alloc o).heap.size (w.alloc o) w') : Below w.heap.size w w' := (below_box o).trans (h.mono (by simp))
/-- a box of the call's own, and all behind it -/
structure Boxed (a w : World) (vs : List Value) : Prop where
  below : Below a.heap.size a w
  lt : a.heap.size < w.heap.size
  cell : ∀ i v, vs[i]? = some v → w.cell? ⟨a.heap.size, i, none⟩ = some v
section
variable {a w w' : World} {vs : List Value}
theorem Boxed.start (w : World) (vs : List Value) (T : TypeId) : Boxed w (w.alloc (.cells vs.toArray T)) vs :=
  ⟨below_box _, by simp, fun i v h => by
    rw [row_cell (row_new w (.cells vs.toArray T)), List.getElem?_toArray]; exact h⟩
theorem Boxed.go (h : Boxed a w vs) (hb : Below w.heap.size w w') : Boxed a w' vs :=
  ⟨h.below.trans (hb.mono (by have := h.lt; omega)), by have := h.lt; have := hb.size; omega, fun i v hv => (hb.cell (p := ⟨a.heap.size, i, none⟩) h.lt).trans (h.cell i v hv)⟩
theorem Boxed.drewN (h : Boxed a w vs) (n : Nat) : Boxed a (w.drewN n) vs := h.go (below_drewN (Below.refl _ _) n)
theorem Boxed.alloc (h : Boxed a w vs) (o : Obj) : Boxed a (w.alloc o) vs := h.go (below_box o)
theorem Boxed.two {v0 v1 : Value} (h : Boxed a w [v0, v1]) : w.cell? ⟨a.heap.size, 0, none⟩ = some v0 ∧ w.cell? ⟨a.heap.size, 1, none⟩ = some v1 :=
  ⟨h.cell 0 _ rfl, h.cell 1 _ rfl⟩
theorem Boxed.five {v0 v1 v2 v3 v4 : Value} (h : Boxed a w [v0, v1, v2, v3, v4]) : w.cell? ⟨a.heap.size, 0, none⟩ = some v0 ∧ w.cell? ⟨a.heap.size, 1, none⟩ = some v1 ∧ w.cell? ⟨a.heap.size, 2, none⟩ = some v2 ∧ w.cell? ⟨a.heap.size, 3, none⟩ = some v3 ∧ w.cell? ⟨a.heap.size, 4, none⟩ = some v4 :=
  ⟨h.cell 0 _ rfl, h.cell 1 _ rfl, h.cell 2 _ rfl, h.cell 3 _ rfl, h.cell 4 _ rfl⟩
end

theorem addr_field (a : Addr) (n j : Nat) (hj : j ≠ 0) : (⟨(a.add n).block, (a.add n).off + j, none⟩ : Addr) = a.add (n + j) := by
  rw [← addr_add_add a n j]
  generalize a.add n = x
  unfold Addr.add
  rw [if_neg hj]
/-- the slice that begins at A reads as entries; it lies below block B -/
def Ents (w : World) (B : Nat) (A : Option Addr) (l : List Ent) : Prop :=
  ∀ (i : Nat) (hi : i < l.length), ∃ a, A = some a ∧ a.block < B ∧ w.cell? (a.add (i * 2)) = some (.int .i64 l[i].blk) ∧ w.cell? (a.add (i * 2 + 1)) = some (.bool l[i].esc)
section
variable {w w' : World} {B B' : Nat} {A : Option Addr} {l : List Ent}
theorem Ents.nil (w : World) (B : Nat) (A : Option Addr) : Ents w B A [] := fun i hi => by cases hi
theorem Ents.keep (h : Ents w B A l) (hk : ∀ p : Addr, p.block < B → w'.cell? p = w.cell? p) : Ents w' B A l := fun i hi => by
  obtain ⟨a, hA, hab, h1, h2⟩ := h i hi
  have hk' : ∀ n, w'.cell? (a.add n) = w.cell? (a.add n) := fun n => hk _ (by rw [addr_add_block]; omega)
  exact ⟨a, hA, hab, (hk' _).trans h1, (hk' _).trans h2⟩
theorem Ents.below (h : Ents w B A l) (hb : Below B' w w') (hB : B ≤ B') : Ents w' B A l := h.keep fun _ hp => hb.cell (by omega)
theorem Ents.up (h : Ents w B A l) (hB : B ≤ B') : Ents w B' A l := fun i hi => by
  obtain ⟨a, hA, hab, h1⟩ := h i hi
  exact ⟨a, hA, by omega, h1⟩
theorem Ents.drewN (h : Ents w B A l) (n : Nat) : Ents (w.drewN n) B A l := h
theorem Ents.alloc (h : Ents w B A l) (hB : B ≤ w.heap.size) (o : Obj) : Ents (w.alloc o) B A l := h.below (below_box o) hB
/-- one of them, as the walk spells it -/
theorem Ents.at_ (h : Ents w B A l) {k : Nat} (hk : k < l.length) : ∃ a, A = some a ∧ a.block < B ∧ w.cell? (a.add (k * 2)) = some (.int .i64 l[k].blk) ∧
    w.cell? ⟨(a.add (k * 2)).block, (a.add (k * 2)).off + 1, none⟩ = some (.bool l[k].esc) := by
  obtain ⟨a, hA, hab, h1, h2⟩ := h k hk
  exact ⟨a, hA, hab, h1, (congrArg w.cell? (addr_field a (k * 2) 1 (by decide))).trans h2⟩
end
/-- a record as a value: its entries' slice lies elsewhere -/
def recV (r : Rec) (A : Option Addr) (c : Nat) : Value := .agg #[.int .i64 r.kind, .int .i64 r.seq, .slice A r.ents.length c, .int .u32 (r.sum : Int), .int .i64 r.start]
end Go.Proofs.YtkkcipjlinfieaaDoor.JMem
