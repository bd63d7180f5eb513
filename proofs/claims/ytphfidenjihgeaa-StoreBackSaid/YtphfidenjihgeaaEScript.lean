/- A script of operations in memory. -/
import Derived.Test.YtphfidenjihgeaaEAny
namespace Go.Proofs.Ytphfidenjihgeaa.EScript
open Go.RowKit WMem Ext Map

/-- what is done to a store -/
structure OpV where
  what : Int
  block : Int
  fill : Int
instance : Inhabited OpV := ⟨⟨0, 0, 0⟩⟩

def OpsIn (w : World) (B : Nat) (A : Option Addr) (ops : List OpV) : Prop :=
  ∀ (i : Nat) (hi : i < ops.length), ∃ a, A = some a ∧ a.block < B ∧ w.cell? (a.add (i * 3)) = some (.int .i64 ops[i].what) ∧ w.cell? (a.add (i * 3 + 1)) = some (.int .i64 ops[i].block) ∧ w.cell? (a.add (i * 3 + 2)) = some (.int .i64 ops[i].fill) ∧ Fits ops[i].block
theorem OpsIn.below {w w' : World} {B B' : Nat} {A : Option Addr} {ops : List OpV} (h : OpsIn w B A ops) (hb : Below B' w w') (hB : B ≤ B') : OpsIn w' B A ops := fun i hi => by
  obtain ⟨a, hA, hab, h1, h2, h3, h4⟩ := h i hi
  have hk : ∀ n, w'.cell? (a.add n) = w.cell? (a.add n) := fun n => hb.cell (by rw [addr_add_block]; omega)
  exact ⟨a, hA, hab, (hk _).trans h1, (hk _).trans h2, (hk _).trans h3, h4⟩
theorem addr_field (a : Addr) (n j : Nat) (hj : j ≠ 0) : (⟨(a.add n).block, (a.add n).off + j, none⟩ : Addr) = a.add (n + j) := by
  rw [← addr_add_add a n j]
  generalize a.add n = x
  unfold Addr.add
  rw [if_neg hj]
/-- the three cells of an operation -/
structure OpAt (w : World) (a : Addr) (k : Nat) (o : OpV) : Prop where
  c0 : w.cell? (a.add (k * 3)) = some (.int .i64 o.what)
  c1 : w.cell? ⟨(a.add (k * 3)).block, (a.add (k * 3)).off + 1, none⟩ = some (.int .i64 o.block)
  c2 : w.cell? ⟨(a.add (k * 3)).block, (a.add (k * 3)).off + 2, none⟩ = some (.int .i64 o.fill)
theorem op_at {w wr : World} {B : Nat} {A : Option Addr} {ops : List OpV} (hA : OpsIn w B A ops) (hb : Below B w wr) {k : Nat} (hk : k < ops.length) : ∃ a, A = some a ∧ a.block < B ∧ OpAt wr a k ops[k] ∧ Fits ops[k].block := by
  obtain ⟨a, hA, hab, h0, h1, h2, h4⟩ := hA k hk
  have hk' : ∀ n, wr.cell? (a.add n) = w.cell? (a.add n) := fun n => hb.cell (by rw [addr_add_block]; exact hab)
  exact ⟨a, hA, hab, ⟨(hk' _).trans h0, (congrArg wr.cell? (addr_field a (k * 3) 1 (by decide))).trans ((hk' _).trans h1), (congrArg wr.cell? (addr_field a (k * 3) 2 (by decide))).trans ((hk' _).trans h2)⟩, h4⟩
theorem OpAt.drew {w : World} {a : Addr} {k : Nat} {o : OpV} (h : OpAt w a k o) : OpAt w.drew a k o := ⟨h.c0, h.c1, h.c2⟩
theorem OpAt.below {w w' : World} {a : Addr} {k : Nat} {o : OpV} {B : Nat} (h : OpAt w a k o) (hb : Below B w w') (ha : a.block < B) : OpAt w' a k o := by
  have hk : ∀ (p : Addr), p.block = a.block → w'.cell? p = w.cell? p := fun p hp => hb.cell (by rw [hp]; exact ha)
  have hk2 : ∀ j, w'.cell? ⟨(a.add (k * 3)).block, (a.add (k * 3)).off + j, none⟩ = w.cell? ⟨(a.add (k * 3)).block, (a.add (k * 3)).off + j, none⟩ := fun j => hk ⟨(a.add (k * 3)).block, (a.add (k * 3)).off + j, none⟩ (addr_add_block a (k * 3))
  exact ⟨(hk _ (addr_add_block _ _)).trans h.c0, (hk2 1).trans h.c1, (hk2 2).trans h.c2⟩
end Go.Proofs.Ytphfidenjihgeaa.EScript
