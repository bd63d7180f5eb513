/- slices.Chunk: a row of numbers, told three by three. -/
import Derived.Test.YtgjcbfdhpbkhoaaGreatDoorMg17
import Derived.RangeFuncNested
import Derived.RangeFuncBound
import Derived.RangeFuncCalls
import Derived.RangeFuncLeaves
import Derived.Shelf.Abstract
import Derived.Shelf.RegionOpen
import Derived.WalkKit
import Derived.OwnWalkIn
import Derived.TacticsInMore
import Derived.LoopNIn
import Derived.LoopIn
import Derived.RegionIn
import Derived.Deep.AppendLies
namespace Go.Proofs.YtgjcbfdhpbkhoaaGreatDoor.QChunk
open Go.RowKit Go.Shelf WMem QMem
attribute [local go_sem] Oper.semAt_some
def CKeep (S : Nat → Prop) (A B : World) : Prop := ∀ k o, S k → A.heap[k]? = some o → o.isCells = true → B.heap[k]? = some o
theorem CKeep.refl (S : Nat → Prop) (A : World) : CKeep S A A := fun _ _ _ h _ => h
theorem CKeep.trans {S : Nat → Prop} {A B C : World} (h : CKeep S A B) (k : CKeep S B C) : CKeep S A C := fun i o hi ho hc => k i o hi (h i o hi ho hc) hc
theorem CKeep.turn {S : Nat → Prop} (W : World) (l : Nat) (o o' : Obj) (h : W.heap[l]? = some o) (hc : o.isCells = false) : CKeep S W (W.putObj l o') := fun k q _ hq hqc => by
  by_cases e : k = l
  · subst e
    rw [h] at hq
    injection hq with hq
    subst hq
    rw [hc] at hqc
    cases hqc
  · exact (World.putObj_heap_other e).trans hq
theorem CKeep.below {S : Nat → Prop} {B : Nat} {a w : World} (h : Below B a w) (hS : ∀ k, S k → k < B) : CKeep S a w := fun k _ hk ho _ => (h.block k (hS k hk)).trans ho
theorem CKeep.alloc {S : Nat → Prop} (W : World) (o : Obj) : CKeep S W (W.alloc o) := fun _ _ _ hq _ => row_alloc hq o
theorem CKeep.cell {S : Nat → Prop} {A B : World} (h : CKeep S A B) {k : Nat} (hk : S k) {cs : Array Value} {t : TypeId} {fz : Nat × Nat} (ho : A.heap[k]? = some (.cells cs t fz)) : B.heap[k]? = some (.cells cs t fz) := h k _ hk ho rfl
def chunk (g N i : Nat) : Array Value := #[.slice (some ⟨g, 3 * min i (N - 1), none⟩) 3 3]
def two (a b : Nat) (k : Nat) : Prop := k = a ∨ k = b
theorem range_len (k : Nat) : (List.range k).length = k := List.length_range
set_option maxRecDepth 100000 in
set_option maxHeartbeats 2000000 in
theorem chunk1_in (n : Nat) (hn : 1 ≤ n) (lo Bs Bn g N : Nat) (hN : N ≤ 1000000) (J Jx : List Nat → World → Prop)
    (hY : ∀ pre x W, J pre W → pre.length < N → YieldAt Fence.wide (n - 1) Tryz.prog lo (chunk g N x) W fun e W' =>
      (e = .returned (.bool true) ∧ J (pre ++ [x]) W' ∧ CKeep (two Bs Bn) W W') ∨ (e = .returned (.bool false) ∧ Jx (pre ++ [x]) W'))
    (W : World) (hJ : AbidesFrom W.heap.size J) (hBs : W.heap[Bs]? = some (.cells #[.slice (some ⟨g, 0, none⟩) ((3 * N : Nat) : Nat) (3 * N)] 48 (0, 0))) (hBn : W.heap[Bn]? = some (.cells #[.int .i64 3] 3 (0, 0))) (h0 : J [] W) :
    CallsIn Fence.wide n Tryz.prog 158 #[.func (.yield lo) #[] #[], .pointer (some ⟨Bs, 0, none⟩), .pointer (some ⟨Bn, 0, none⟩)] W fun e W' => (∃ v, e = .returned v) ∧
      ((∃ ys, ys = List.range N ∧ J ys W') ∨ (∃ pre, (∃ k, k ≤ N ∧ pre = List.range k) ∧ Jx pre W')) := by
  refine callsIn_of_wp Tryz.func158 rfl trivial ?_ rfl
  simp only [Tryz.ntmps158, List.size_toArray, List.length_cons, List.length_nil, Nat.reduceAdd, Nat.reduceSub, Array.replicate_succ, Array.replicate_zero, List.push_toArray, List.append_toArray, List.nil_append, List.cons_append]
  gi_wp2
  gi_loopw [4] (fun i wr => ∃ k : Nat, k ≤ N ∧ i = .int .i64 ((3 * k : Nat) : Int) ∧ J (List.range k) wr ∧ CKeep (two Bs Bn) W wr)
    (fun i _ => 3 * N - (intOf i).toNat)
  case atStart => exact ⟨0, Nat.zero_le _, rfl, h0, CKeep.refl _ _⟩
  case round =>
    obtain ⟨k, hk, rfl, hJ0, hnx⟩ := hrel
    have hs := hnx.cell (.inl rfl) hBs
    have hn := hnx.cell (.inr rfl) hBn
    have c0 : wr.cell? ⟨Bs, 0, none⟩ = some (.slice (some ⟨g, 0, none⟩) ((3 * N : Nat) : Nat) (3 * N)) := (row_cell hs 0).trans rfl
    have c1 : wr.cell? ⟨Bn, 0, none⟩ = some (.int .i64 3) := (row_cell hn 0).trans rfl
    clear hs hn
    by_cases hlt : k < N
    · gi_wp2
      gi_region
      have HK : Hid (∀ v, v = chunk g N k → YieldAt Fence.wide (n - 1) Tryz.prog lo v wr.drew fun e W' =>
          (e = .returned (.bool true) ∧ J (List.range (k + 1)) W' ∧ CKeep (two Bs Bn) W W') ∨ (e = .returned (.bool false) ∧ Jx (List.range (k + 1)) W')) := by
        rintro v rfl
        rw [List.range_succ]
        have h1 := hY (List.range k) k wr.drew (hJ _ _ _ none hJ0 ⟨rfl, rfl, rfl, Nat.le_refl _, fun _ _ _ => rfl⟩ (fun r h => by cases h)) (by rw [range_len]; exact hlt)
        refine h1.mono fun e W' h => ?_
        rcases h with ⟨h2, h3, h4⟩ | h2
        · exact .inl ⟨h2, h3, hnx.trans (fun i o hi ho hc => h4 i o hi ho hc)⟩
        · exact .inr h2
      have HBn := Lib.hid hBn
      clear hY hJ h0 hJ0 hBs hBn hnx
      obtain ⟨fn, tmps, assign, body, hy, hR⟩ := HK.out #[.slice (some ⟨g, 3 * k, none⟩) 3 3] (by unfold chunk; rw [Nat.min_eq_left (by omega)])
      gi_wp2
      refine hR.mono ?_
      rintro e W3 (⟨rfl, hJ3, hk3⟩ | ⟨rfl, hJx3⟩)
      · have HK3 := Lib.hid hk3
        have c1 : W3.cell? ⟨Bn, 0, none⟩ = some (.int .i64 3) := (row_cell (hk3.cell (.inr rfl) HBn.out) 0).trans rfl
        clear hk3
        gi_wp2
        go_roundw
        case rel => exact ⟨k + 1, by omega, by go_num, hJ3, HK3.out⟩
        case measure => simp [intOf]; omega
      · gi_wp2
        refine bodyPost_ret (results_none rfl _ _ _) rfl ?_
        exact ⟨⟨_, rfl⟩, .inr ⟨_, ⟨k + 1, by omega, rfl⟩, hJx3⟩⟩
    · obtain rfl : k = N := by omega
      gi_wp2
      go_end0
      exact ⟨⟨_, rfl⟩, .inl ⟨_, rfl, hJ0⟩⟩
theorem chunk_stops (n : Nat) (hn : 1 ≤ n) (Bs Bn g N : Nat) (hN : N ≤ 1000000) (w : World) (hBs : w.heap[Bs]? = some (.cells #[.slice (some ⟨g, 0, none⟩) (3 * N) (3 * N)] 48 (0, 0))) (hBn : w.heap[Bn]? = some (.cells #[.int .i64 3] 3 (0, 0))) :
    SeqStopsK Fence.wide n Tryz.prog 158 #[.pointer (some ⟨Bs, 0, none⟩), .pointer (some ⟨Bn, 0, none⟩)] (chunk g N) (CKeep (two Bs Bn)) (fun ys => ys = List.range N) (fun pre => ∃ k, k ≤ N ∧ pre = List.range k) N w :=
  fun lo J Jx W hW hJ _ hY h0 => chunk1_in n hn lo Bs Bn g N hN J Jx hY W hJ (row_below hBs hW (row_lt hBs)) (row_below hBn hW (row_lt hBn)) h0
set_option maxHeartbeats 1000000 in
theorem chunk_in (n : Nat) (A : Option Addr) (m c : Nat) (w : World) :
    CallsIn Fence.wide n Tryz.prog 151 #[.slice A m c, .int .i64 3] w fun e w' => e = .returned (.func (.func 158) #[] #[.pointer (some ⟨w.heap.size, 0, none⟩), .pointer (some ⟨w.heap.size + 1, 0, none⟩)]) ∧
      w' = (w.alloc (.cells #[.slice A m c] 48)).alloc (.cells #[.int .i64 3] 3) := by
  refine callsIn_of_wp Tryz.func151 rfl trivial ?_ rfl
  simp only [Tryz.ntmps151, List.size_toArray, List.length_cons, List.length_nil, Nat.reduceAdd, Nat.reduceSub, Array.replicate_succ, Array.replicate_zero, List.push_toArray, List.append_toArray, List.nil_append, List.cons_append]
  gi_wp2
  go_ret
  exact ⟨rfl, rfl⟩
theorem groupWidths_is (w : World) : Calls Tryz.prog 152 #[] w fun e w' => e = .returned (.slice (some ⟨w.heap.size, 0, none⟩) 3 3) ∧ w' = w.alloc (.cells #[.int .i64 4, .int .i64 4, .int .i64 4] 3) := by
  go_enter Tryz.func152, Tryz.ntmps152
  go_wp2
  go_ret
  exact ⟨rfl, rfl⟩
end Go.Proofs.YtgjcbfdhpbkhoaaGreatDoor.QChunk
