/- told: of a commit, of a head. -/
import Derived.Test.YtkkcipjlinfieaaDoorJTold
namespace Go.Proofs.YtkkcipjlinfieaaDoor.JTold2
open Go.RowKit Go.Shelf WMem WPlain SNums JPlain JMem JChunk JBody JTold

attribute [local go_sem] Oper.semAt_some

set_option maxRecDepth 100000 in
set_option maxHeartbeats 4000000 in
theorem told_2 (seq : Int) (x : UInt64) (hx : x.toNat < 4294967296) (B : Nat) (A : Option Addr) (c : Nat) (w : World) (hB : B ≤ w.heap.size) (hA : Sl w B A ([x].map u64v)) :
    Calls Tryd.prog 50 #[.int .i64 2, .int .i64 seq, .slice A 1 c] w fun e w' => ∃ A' c', e = .returned (recV ⟨2, seq, [], x.toNat, 0⟩ A' c') ∧ Ents w' w'.heap.size A' [] ∧ (∀ a, A' = some a → w.heap.size ≤ a.block) ∧ Below w.heap.size w w' := by
  obtain ⟨a, rfl, hab, cx'⟩ := hA.u64 (k := 0) (by simp)
  have cx : w.cell? (a.add 0) = some (.int .u64 (x.toNat : Int)) := cx'
  clear cx'
  have cx0 : ∀ o1 o2, ((w.alloc o1).alloc o2).cell? a = some (.int .u64 (x.toNat : Int)) := fun o1 o2 => by
    have e : a.add 0 = a := by unfold Addr.add; simp
    rw [e] at cx
    exact ((World.cell?_alloc_lt _ _ _ (by simp; omega)).trans (World.cell?_alloc_lt w _ _ (by omega))).trans cx
  clear cx hA
  generalize x.toNat = y at *
  have s0 : IntKind.u32.wrap (y : Int) = (y : Int) := by rw [IntKind.wrap_u32]; omega
  go_enter Tryd.func50, Tryd.ntmps50
  go_wp2
  refine bodyPost_ret (v := .agg #[.int .i64 2, .int .i64 seq, .slice none 0 0, .int .u32 (y : Int), .int .i64 0]) ?_ rfl ?_
  · simp [results, Tryd.results50, go_sem]
  · exact ⟨none, 0, rfl, Ents.nil _ _ _, fun a ha => (by cases ha), (below_box _).alloc (by simp) _⟩
set_option maxRecDepth 100000 in
set_option maxHeartbeats 4000000 in
theorem told_4 (seq : Int) (x : UInt64) (hx : x.toNat < 4294967296) (B : Nat) (A : Option Addr) (c : Nat) (w : World) (hB : B ≤ w.heap.size) (hA : Sl w B A ([x].map u64v)) :
    Calls Tryd.prog 50 #[.int .i64 4, .int .i64 seq, .slice A 1 c] w fun e w' => ∃ A' c', e = .returned (recV ⟨4, seq, [], 0, (x.toNat : Nat)⟩ A' c') ∧ Ents w' w'.heap.size A' [] ∧ (∀ a, A' = some a → w.heap.size ≤ a.block) ∧ Below w.heap.size w w' := by
  obtain ⟨a, rfl, hab, cx'⟩ := hA.u64 (k := 0) (by simp)
  have cx : w.cell? (a.add 0) = some (.int .u64 (x.toNat : Int)) := cx'
  clear cx'
  have cx0 : ∀ o1 o2, ((w.alloc o1).alloc o2).cell? a = some (.int .u64 (x.toNat : Int)) := fun o1 o2 => by
    have e : a.add 0 = a := by unfold Addr.add; simp
    rw [e] at cx
    exact ((World.cell?_alloc_lt _ _ _ (by simp; omega)).trans (World.cell?_alloc_lt w _ _ (by omega))).trans cx
  clear cx hA
  generalize x.toNat = y at *
  have s0 : IntKind.i64.wrap (y : Int) = (y : Int) := IntWalk.i64_in _ (by omega)
  go_enter Tryd.func50, Tryd.ntmps50
  go_wp2
  refine bodyPost_ret (v := .agg #[.int .i64 4, .int .i64 seq, .slice none 0 0, .int .u32 0, .int .i64 (y : Int)]) ?_ rfl ?_
  · simp [results, Tryd.results50, go_sem]
  · exact ⟨none, 0, rfl, Ents.nil _ _ _, fun a ha => (by cases ha), (below_box _).alloc (by simp) _⟩
end Go.Proofs.YtkkcipjlinfieaaDoor.JTold2
