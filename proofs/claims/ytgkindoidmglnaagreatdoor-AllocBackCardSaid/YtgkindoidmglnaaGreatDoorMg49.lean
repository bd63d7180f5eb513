/- A region that draws its order, in a round of a range over a function: walked as one outside of it; loads of cells that stay are taken first. -/
import Derived.RangeFuncCalls
import Derived.RangeFuncNested
import Derived.RegionTactic
import Derived.OrdersIn
import Derived.Deep.RegionHeld
import Derived.Test.YtgkindoidmglnaaGreatDoorMg39
namespace Go.Proofs.YtgkindoidmglnaaGreatDoor.ARegion
open Go.RowKit

/-- no deferred call, and no row of the outside -/
def plainOp (o : Oper) : Bool := match o.op with | .defer _ => false | _ => true
theorem upon_in {lo n : Nat} {P : Program} {o : Oper} {a : Act} {K : Act → World → Prop} {Q : Exit → Act → World → Prop} {r : Result Next} (h : o.upon P a K Q r) : o.uponIn (Fence.wide.inRound lo) n P a K Q r := by
  have hnd : (Fence.wide.inRound lo).depth.isSome = true → 1 ≤ n := fun hd => by simp [Fence.wide] at hd
  cases r with
  | ok x w' =>
    cases x with
    | enter f args => exact ⟨hnd, CallsIn.inRound lo (callsIn_wide.2 h)⟩
    | row row args => exact ⟨hnd, fun c cs _ => (h c cs).imp fun v hv => hv.imp fun w' hw => ⟨hw.1, stepsIn_wide.2 hw.2⟩⟩
    | round l f tmps assign body => exact h.elim
    | _ => exact h
  | halt x w' => cases x <;> exact h
theorem wp_in {lo n : Nat} {P : Program} {o : Oper} {a : Act} {w : World} {K : Act → World → Prop} {Q : Exit → Act → World → Prop} (hd : plainOp o = true) (h : o.wp P a w K Q) : o.wpIn (Fence.wide.inRound lo) n P a w K Q := by
  refine ⟨fun _ _ => trivial, ?_⟩
  rw [Oper.semAt_eq _ _ _ (fun c e => by simp [plainOp, e] at hd)]
  exact upon_in h
theorem any_in {lo n : Nat} {P : Program} {md : Region.Mode} {ops : Array Oper} {Q : Exit → Act → World → Prop} (hd : ∀ (i : Nat) (o : Oper), ops[i]? = some o → plainOp o = true) (hl : ¬ LetsOut Q) :
    ∀ (fuel : Nat) (listed : Array Bool) (a : Act) (w : World), wpAny P md ops Q fuel listed a w → wpAnyIn (Fence.wide.inRound lo) n P md ops Q fuel listed a w := by
  intro fuel
  induction fuel with
  | zero => exact fun _ _ _ h => h
  | succ fuel ih =>
    intro listed a w h
    refine ⟨h.1, fun i hi => ?_⟩
    have h2 := h.2 i hi
    unfold wpOp at h2
    unfold wpOpIn
    cases ho : ops[i]? with
    | none =>
      simp only [ho] at h2 ⊢
      exact ih _ _ _ h2
    | some o =>
      simp only [ho] at h2 ⊢
      by_cases hw : Region.wanted o (yielded ops a.tmps) = true
      · rw [if_pos hw] at h2 ⊢
        rcases h2 with h2 | ⟨_, h2⟩
        · exact Oper.wpIn_mono (ih _) (wp_in (hd i o ho) h2)
        · exact absurd h2 hl
      · rw [if_neg hw] at h2 ⊢
        exact ⟨fun _ _ => trivial, ih _ _ _ h2⟩
theorem region_in {lo n : Nat} {P : Program} {ops : Array Oper} {Q : Exit → Act → World → Prop} {id : Nat} {a : Act} {w : World} (hm : P.follows .mixedOrders = true) (hd : ops.toList.all plainOp = true) (hl : ¬ LetsOut Q)
    (h : wpAny P .any ops Q ops.size (Array.replicate ops.size false) a w.drew) : (Code.region id ops true).wpIn (Fence.wide.inRound lo) n P Q a w :=
  wpIn_region_any hm (any_in (fun i o ho => List.all_eq_true.1 hd o (by rw [← Array.getElem?_toList] at ho; exact List.mem_of_getElem? ho)) hl _ _ _ _ h)
theorem region_in_held {lo n : Nat} {P : Program} {ops : Array Oper} {Q : Exit → Act → World → Prop} {S : World → Prop} {id : Nat} {a : Act} {w : World} (hm : P.follows .mixedOrders = true) (hd : ops.toList.all plainOp = true) (hl : ¬ LetsOut Q) (hS : S w.drew)
    (h : S w.drew → wpAnyH P .any ops Q S ops.size (Array.replicate ops.size false) a w.drew) : (Code.region id ops true).wpIn (Fence.wide.inRound lo) n P Q a w :=
  region_in hm hd hl (wpAny_of_held _ _ _ _ (h hS))
end Go.Proofs.YtgkindoidmglnaaGreatDoor.ARegion
