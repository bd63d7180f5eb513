/- slices.Backward at rows of functions: the row is told from its end on. -/
import Derived.Test.YtgkindoidmglnaaGreatDoorMg26
import Derived.RangeFuncNested
import Derived.RangeFuncBound
import Derived.RangeFuncCalls
import Derived.RangeFuncLeaves
import Derived.Shelf.Abstract
import Derived.Shelf.RegionOpen
import Derived.WalkKit
import Derived.OwnWalkIn
import Derived.TacticsInMore
import Derived.LoopNIn
import Derived.LoopIn
import Derived.RegionIn
import Derived.Deep.AppendLies
namespace Go.Proofs.YtgkindoidmglnaaGreatDoor.EIter
open Go.RowKit Go.Shelf WMem

attribute [local go_sem] Oper.semAt_some

/-- these blocks of cells lie as they lay -/
def CKeep (S : Nat → Prop) (A B : World) : Prop := ∀ k o, S k → A.heap[k]? = some o → o.isCells = true → B.heap[k]? = some o
theorem CKeep.refl (S : Nat → Prop) (A : World) : CKeep S A A := fun _ _ _ h _ => h
theorem CKeep.trans {S : Nat → Prop} {A B C : World} (h : CKeep S A B) (k : CKeep S B C) : CKeep S A C := fun i o hi ho hc => k i o hi (h i o hi ho hc) hc
theorem CKeep.turn {S : Nat → Prop} (W : World) (l : Nat) (o o' : Obj) (h : W.heap[l]? = some o) (hc : o.isCells = false) : CKeep S W (W.putObj l o') := fun k q _ hq hqc => by
  by_cases e : k = l
  · subst e
    rw [h] at hq
    injection hq with hq
    subst hq
    rw [hc] at hqc
    cases hqc
  · exact (World.putObj_heap_other e).trans hq
theorem CKeep.cell {S : Nat → Prop} {A B : World} (h : CKeep S A B) {k : Nat} (hk : S k) {cs : Array Value} {t : TypeId} {fz : Nat × Nat} (ho : A.heap[k]? = some (.cells cs t fz)) : B.heap[k]? = some (.cells cs t fz) := h k _ hk ho rfl
def two (a b : Nat) (k : Nat) : Prop := k = a ∨ k = b
theorem range_len (k : Nat) : (List.range k).length = k := List.length_range
/-- which element is told when: the last comes first -/
def idx (vs : List Value) (x : Nat) : Int := ((vs.length - 1 - x : Nat) : Int)
def el (vs : List Value) (x : Nat) : Value := vs.getD (vs.length - 1 - x) .nilFunc
def back (vs : List Value) (x : Nat) : Array Value := #[.int .i64 (idx vs x), el vs x]
/-- where the row's elements lie -/
def RowAt (w : World) (A : Option Addr) (gU : Nat) (vs : List Value) : Prop := vs = [] ∨ ∃ o cs T, A = some ⟨gU, o, none⟩ ∧ w.heap[gU]? = some (.cells cs T (0, 0)) ∧ ∀ i, i < vs.length → cs[o + i]? = vs[i]?

set_option maxRecDepth 100000 in
set_option maxHeartbeats 2000000 in
theorem back1_in (n : Nat) (hn : 1 ≤ n) (lo Bx gU c L : Nat) (A : Option Addr) (vs : List Value) (hL : vs.length = L) (hLm : L ≤ 1073741824) (hone : ∀ v ∈ vs, ∃ f cs, v = .func (.func f) #[] cs) (J Jx : List Nat → World → Prop)
    (hY : ∀ pre x W, J pre W → pre.length < L → YieldAt Fence.wide (n - 1) Tryz.prog lo (back vs x) W fun e W' =>
      (e = .returned (.bool true) ∧ J (pre ++ [x]) W' ∧ CKeep (two Bx gU) W W') ∨ (e = .returned (.bool false) ∧ Jx (pre ++ [x]) W'))
    (W : World) (_hJ : AbidesFrom W.heap.size J) (hBx : W.heap[Bx]? = some (.cells #[.slice A L c] 71 (0, 0))) (hR : RowAt W A gU vs) (h0 : J [] W) :
    CallsIn Fence.wide n Tryz.prog 126 #[.func (.yield lo) #[] #[], .pointer (some ⟨Bx, 0, none⟩)] W fun e W' => (∃ v, e = .returned v) ∧
      ((∃ ys, ys = List.range L ∧ J ys W') ∨ (∃ pre, (∃ k, k ≤ L ∧ pre = List.range k) ∧ Jx pre W')) := by
  have x0 : W.cell? ⟨Bx, 0, none⟩ = some (.slice A L c) := (row_cell hBx 0).trans rfl
  refine callsIn_of_wp Tryz.func126 rfl trivial ?_ rfl
  simp only [Tryz.ntmps126, List.size_toArray, List.length_cons, List.length_nil, Nat.reduceAdd, Nat.reduceSub, Array.replicate_succ, Array.replicate_zero, List.push_toArray, List.append_toArray, List.nil_append, List.cons_append]
  gi_wp2
  gi_loopw [3] (fun i wr => ∃ k : Nat, k ≤ L ∧ i = .int .i64 ((L : Int) - 1 - (k : Int)) ∧ J (List.range k) wr ∧ CKeep (two Bx gU) W wr)
    (fun i _ => (RowKit.intOf i + 1).toNat)
  case atStart => exact ⟨0, Nat.zero_le _, by simp, h0, CKeep.refl _ _⟩
  case round =>
    obtain ⟨k, hk, rfl, hJ0, hnx⟩ := hrel
    have hs := hnx.cell (.inl rfl) hBx
    have c0 : wr.cell? ⟨Bx, 0, none⟩ = some (.slice A L c) := (row_cell hs 0).trans rfl
    clear hs
    by_cases hlt : k < L
    · obtain ⟨j, hj⟩ : ∃ j : Nat, (L : Int) - 1 - (k : Int) = (j : Int) := ⟨L - 1 - k, by omega⟩
      have hjL : j < L := by omega
      have hjk : vs.length - 1 - k = j := by omega
      rw [hj]
      rcases hR with rfl | ⟨o, cs, T, rfl, hU, hcs⟩
      · simp at hL; omega
      have hU' := hnx.cell (.inr rfl) hU
      obtain ⟨f, caps, hf⟩ := hone vs[j] (List.getElem_mem (by omega))
      have c1 : wr.cell? ⟨gU, o + j, none⟩ = some (.func (.func f) #[] caps) := by
        rw [row_cell hU', hcs j (by omega), List.getElem?_eq_getElem (by omega), hf]
      have hbk : back vs k = #[.int .i64 (j : Int), .func (.func f) #[] caps] := by
        unfold back idx el
        rw [hjk, List.getD_eq_getElem?_getD, List.getElem?_eq_getElem (by omega), hf]
        rfl
      have HK : Hid (∀ v, v = back vs k → YieldAt Fence.wide (n - 1) Tryz.prog lo v wr fun e W' =>
          (e = .returned (.bool true) ∧ J (List.range (k + 1)) W' ∧ CKeep (two Bx gU) W W') ∨ (e = .returned (.bool false) ∧ Jx (List.range (k + 1)) W')) := by
        rintro v rfl
        rw [List.range_succ]
        have h1 := hY (List.range k) k wr hJ0 (by rw [range_len]; exact hlt)
        refine h1.mono fun e W' h => ?_
        rcases h with ⟨h2, h3, h4⟩ | h2
        · exact .inl ⟨h2, h3, hnx.trans h4⟩
        · exact .inr h2
      rw [hbk] at HK
      have HJE := Lib.hid hj
      clear hY h0 hJ0 hnx hU' hcs hU hone hL hbk hjk hf hBx x0 hj
      obtain ⟨fn, tmps, assign, body, hy, hR⟩ := HK.out #[.int .i64 (j : Int), .func (.func f) #[] caps] rfl
      gi_wp2
      refine hR.mono ?_
      rintro e W3 (⟨rfl, hJ3, hk3⟩ | ⟨rfl, hJx3⟩)
      · have HK3 := Lib.hid hk3
        clear hk3
        gi_wp2
        go_roundw
        case rel => exact ⟨k + 1, by omega, by have := HJE.out; rw [show (L : Int) - 1 - ((k + 1 : Nat) : Int) = (j : Int) - 1 by omega], hJ3, HK3.out⟩
        case measure => have := HJE.out; simp [RowKit.intOf]
      · gi_wp2
        refine bodyPost_ret (results_none rfl _ _ _) rfl ?_
        exact ⟨⟨_, rfl⟩, .inr ⟨_, ⟨k + 1, by omega, rfl⟩, hJx3⟩⟩
    · obtain rfl : k = L := by omega
      have hd : (k : Int) - 1 - (k : Int) = -1 := by omega
      rw [hd]
      clear hd
      gi_wp2
      go_end0
      exact ⟨⟨_, rfl⟩, .inl ⟨_, rfl, hJ0⟩⟩

theorem back_stops (n : Nat) (hn : 1 ≤ n) (Bx gU c L : Nat) (A : Option Addr) (vs : List Value) (hL : vs.length = L) (hLm : L ≤ 1073741824) (hone : ∀ v ∈ vs, ∃ f cs, v = .func (.func f) #[] cs) (w : World) (hBx : w.heap[Bx]? = some (.cells #[.slice A L c] 71 (0, 0))) (hR : RowAt w A gU vs) :
    SeqStopsK Fence.wide n Tryz.prog 126 #[.pointer (some ⟨Bx, 0, none⟩)] (back vs) (CKeep (two Bx gU)) (fun ys => ys = List.range L) (fun pre => ∃ k, k ≤ L ∧ pre = List.range k) L w :=
  fun lo J Jx W hW hJ _ hY h0 => by
  refine back1_in n hn lo Bx gU c L A vs hL hLm hone J Jx hY W hJ (row_below hBx hW (row_lt hBx)) ?_ h0
  rcases hR with h | ⟨o, cs, T, h1, h2, h3⟩
  · exact .inl h
  · exact .inr ⟨o, cs, T, h1, row_below h2 hW (row_lt h2), h3⟩
set_option maxHeartbeats 1000000 in
theorem back_in (n : Nat) (A : Option Addr) (m c : Nat) (w : World) :
    CallsIn Fence.wide n Tryz.prog 100 #[.slice A m c] w fun e w' => e = .returned (.func (.func 126) #[] #[.pointer (some ⟨w.heap.size, 0, none⟩)]) ∧
      w' = w.alloc (.cells #[.slice A m c] 71) := by
  refine callsIn_of_wp Tryz.func100 rfl trivial ?_ rfl
  simp only [Tryz.ntmps100, List.size_toArray, List.length_cons, List.length_nil, Nat.reduceAdd, Nat.reduceSub, Array.replicate_succ, Array.replicate_zero, List.push_toArray, List.append_toArray, List.nil_append, List.cons_append]
  gi_wp2
  go_ret
  exact ⟨rfl, rfl⟩
end Go.Proofs.YtgkindoidmglnaaGreatDoor.EIter
