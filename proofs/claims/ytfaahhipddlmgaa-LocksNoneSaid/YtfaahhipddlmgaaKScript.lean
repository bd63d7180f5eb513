/- A script of operations in memory. -/
import Derived.Test.YtfaahhipddlmgaaKLaw
namespace Go.Proofs.Ytfaahhipddlmgaa.KScript
open Go.RowKit WMem Ext KMap KPlain

/-- what is done to a table -/
structure OpV where
  what : Int
  th : Int
  key : Int
  al : Bool
instance : Inhabited OpV := ⟨⟨0, 0, 0, false⟩⟩

def OpsIn (w : World) (B : Nat) (A : Option Addr) (ops : List OpV) : Prop :=
  ∀ (i : Nat) (hi : i < ops.length), ∃ a, A = some a ∧ a.block < B ∧ w.cell? (a.add (i * 4)) = some (.int .i64 ops[i].what) ∧ w.cell? (a.add (i * 4 + 1)) = some (.int .i64 ops[i].th) ∧ w.cell? (a.add (i * 4 + 2)) = some (.int .i64 ops[i].key) ∧
    w.cell? (a.add (i * 4 + 3)) = some (.bool ops[i].al) ∧ Fits ops[i].key
theorem OpsIn.below {w w' : World} {B B' : Nat} {A : Option Addr} {ops : List OpV} (h : OpsIn w B A ops) (hb : Below B' w w') (hB : B ≤ B') : OpsIn w' B A ops := fun i hi => by
  obtain ⟨a, hA, hab, h1, h2, h3, h4, h5⟩ := h i hi
  have hk : ∀ n, w'.cell? (a.add n) = w.cell? (a.add n) := fun n => hb.cell (by rw [addr_add_block]; omega)
  exact ⟨a, hA, hab, (hk _).trans h1, (hk _).trans h2, (hk _).trans h3, (hk _).trans h4, h5⟩
theorem addr_field (a : Addr) (n j : Nat) (hj : j ≠ 0) : (⟨(a.add n).block, (a.add n).off + j, none⟩ : Addr) = a.add (n + j) := by
  rw [← addr_add_add a n j]
  generalize a.add n = x
  unfold Addr.add
  rw [if_neg hj]
end Go.Proofs.Ytfaahhipddlmgaa.KScript
