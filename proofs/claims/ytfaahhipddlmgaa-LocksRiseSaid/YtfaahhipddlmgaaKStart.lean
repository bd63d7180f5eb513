/- LocksRise's beginning: an empty table, and walkers that have asked for nothing. -/
import Derived.Test.YtfaahhipddlmgaaKMake
namespace Go.Proofs.Ytfaahhipddlmgaa.KStart
open Go.RowKit WMem Ext WAppend KMap KPlain KMem KAsk KLeave KLaw KScript KArgs KBits KWPlain KWMem KRMem KGoes KMake

theorem Team.base {a a0 w : World} {T : Nat → Prop} {v : Value} {p : Nat → Nat} {W : Nat → Wk} {m : Nat} (h : Team a w T v p W m) (hs : a0.heap.size ≤ a.heap.size) : Team a0 w T v p W m := by
  refine ⟨own_base h.row hs, h.rowT, fun i hi => ?_, h.apart, h.there, fun q hq => Nat.le_trans hs (h.new q hq)⟩
  obtain ⟨⟨K, c, h1, h2, h3⟩, h4⟩ := h.body i hi
  exact ⟨⟨K, c, h1, own_base h2 hs, h3⟩, h4⟩
/-- the crew at the start: the table came first, the walkers after it -/
theorem crew_start {w w1 w2 w3 : World} {S : Nat → Prop} {b m : Nat} {v : Value} {p : Nat → Nat} {W : Nat → Wk} (h1 : Below w.heap.size w w1) (o : OwnT w1 w2 S b (fun _ => []) 0)
    (t : Team w2 w3 (Since w2 w3) v p W m) (h3 : Below w2.heap.size w2 w3) : Crew w w3 S (Since w2 w3) b (fun _ => []) 0 v p W m := by
  have o' := (o.base h1).go h3
  refine ⟨o', Team.base t (Nat.le_trans h1.size o.below.size), fun q h4 h5 => ?_⟩
  have := o.tab.there q h4
  have := h5.1
  omega
theorem inv_start {W : Nat → Wk} {m : Nat} (hk : Keys W m) (hm : m ≤ 8) (hn : ∀ i, i < m → (W i).n = 0 ∧ (W i).done = false) : Inv (fun _ => []) W m :=
  ⟨fun _ => List.nodup_nil, hk, hm, fun i hi => by rw [(hn i hi).1]; exact Nat.zero_le _, fun k t h => (by cases h), fun i hi _ j hj => by rw [(hn i hi).1] at hj; omega⟩
theorem free_end {R : Rw} {W : Nat → Wk} {m : Nat} (h : Inv R W m) (h0 : live W m = 0) : KLeave.Empty R := fun k _ => h.free (live_zero h0) k
/-- the place that a number picks among so many -/
theorem pick_lt (z : Int) {n : Nat} (hn : 0 < n) : ∃ q : Nat, z % (n : Int) = (q : Int) ∧ q < n := by
  have h1 := Int.emod_nonneg z (show (n : Int) ≠ 0 by omega)
  have h2 := Int.emod_lt_of_pos z (show (0 : Int) < (n : Int) by omega)
  exact ⟨(z % (n : Int)).toNat, by omega, by omega⟩
end Go.Proofs.Ytfaahhipddlmgaa.KStart
