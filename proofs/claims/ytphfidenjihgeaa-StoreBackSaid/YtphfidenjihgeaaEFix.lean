/- Blocks that no call turns. -/
import Derived.Test.YtphfidenjihgeaaEAny
namespace Go.Proofs.Ytphfidenjihgeaa.EFix
open Go.RowKit WMem WPlain WAppend Ext Map DPlain DMem Mk DBase EPlain EMem EFace EAny

/-- the blocks of S are as they were in w0, and neither the store's nor the disk's -/
structure Fix (S : Nat → Prop) (w0 w : World) (ρ : Ro) (D : Nat → Prop) : Prop where
  same : ∀ q, S q → w.heap[q]? = w0.heap[q]?
  far : ∀ q, S q → ¬ All ρ D q ∧ q < w.heap.size
section
variable {S : Nat → Prop} {w0 w w' : World} {ρ ρ' : Ro} {D D' : Nat → Prop} {b db : Nat} {s s' : Sto}
theorem Fix.refl (h : ∀ q, S q → ¬ All ρ D q ∧ q < w.heap.size) : Fix S w w ρ D := ⟨fun _ _ => rfl, h⟩
theorem Fix.goes (h : Fix S w0 w ρ D) (g : Goes w w' ρ D ρ' D' b db s') : Fix S w0 w' ρ' D' :=
  ⟨fun q hq => (g.ext.block q (h.far q hq).2 (h.far q hq).1).trans (h.same q hq), fun q hq => ⟨fun h1 => by
    rcases g.new q h1 with h2 | h2
    · exact (h.far q hq).1 h2
    · have := (h.far q hq).2; omega, Nat.lt_of_lt_of_le (h.far q hq).2 g.ext.size⟩⟩
theorem Fix.below (h : Fix S w0 w ρ D) (hb : Below w.heap.size w w') : Fix S w0 w' ρ D :=
  ⟨fun q hq => (hb.block q (h.far q hq).2).trans (h.same q hq), fun q hq => ⟨(h.far q hq).1, Nat.lt_of_lt_of_le (h.far q hq).2 hb.size⟩⟩
theorem Fix.drewN (h : Fix S w0 w ρ D) (n : Nat) : Fix S w0 (w.drewN n) ρ D := h.below (below_drewN (Below.refl _ _) n)
/-- another store, of new blocks -/
theorem Fix.made (h : Fix S w0 w ρ D) (hm : ∀ k, Mine ρ' k → w.heap.size ≤ k) (hb : Below w.heap.size w w') : Fix S w0 w' ρ' D :=
  ⟨(h.below hb).same, fun q hq => ⟨fun h1 => by
    rcases h1 with h1 | h1
    · have := hm q h1; have := (h.far q hq).2; omega
    · exact (h.far q hq).1 (.inr h1), ((h.below hb).far q hq).2⟩⟩
/-- more blocks -/
theorem Fix.also {S2 : Nat → Prop} (h : Fix S w0 w ρ D) (h2 : ∀ q, S2 q → ¬ All ρ D q ∧ q < w.heap.size) : Fix (fun q => S q ∨ S2 q) w w ρ D :=
  Fix.refl fun q hq => by
    rcases hq with hq | hq
    · exact h.far q hq
    · exact h2 q hq
theorem Fix.less {S2 : Nat → Prop} (h : Fix S w0 w ρ D) (hs : ∀ q, S2 q → S q) : Fix S2 w0 w ρ D := ⟨fun q hq => h.same q (hs q hq), fun q hq => h.far q (hs q hq)⟩
theorem Fix.blk {v : Value} {l : Bk} (h : Fix S w0 w ρ D) (hv : IsBlk w0 S v l) : IsBlk w S v l := hv.keep (fun k _ hk _ => h.same k hk)
theorem Fix.cell (h : Fix S w0 w ρ D) (p : Addr) (hp : S p.block) : w.cell? p = w0.cell? p := World.cell?_of_block (h.same _ hp)
end
end Go.Proofs.Ytphfidenjihgeaa.EFix
