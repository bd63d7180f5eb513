/- The iterator over a key's row: what it tells, one claim after the other. -/
import Derived.Test.YtfaahhipddlmgaaKMem
import Derived.RangeFuncNested
import Derived.RangeFuncBound
import Derived.RangeFuncCalls
import Derived.RangeFuncLeaves
import Derived.Shelf.Abstract
import Derived.Shelf.RegionOpen
import Derived.WalkKit
import Derived.OwnWalkIn
import Derived.TacticsInMore
import Derived.LoopNIn
import Derived.LoopIn
import Derived.RegionIn
import Derived.Deep.AppendLies
namespace Go.Proofs.Ytfaahhipddlmgaa.KSeq
open Go.RowKit Go.Shelf WMem Ext KMap KPlain KMem

attribute [local go_sem] Oper.semAt_some

/-- a claim as it is told -/
def told (l : List Cl) (i : Nat) : Value := .agg #[.int .i64 (at_ l i).1, .bool (at_ l i).2, .bool (holdsAt l i)]
def args (l : List Cl) (i : Nat) : Array Value := #[.int .i64 (i : Int), told l i]
theorem addr_at (g j : Nat) : (⟨g, 0, none⟩ : Addr).add j = ⟨g, j, none⟩ := by unfold Addr.add; split <;> simp_all
theorem range_len (k : Nat) : (List.range k).length = k := List.length_range

set_option maxRecDepth 100000 in
set_option maxHeartbeats 2000000 in
/-- the walk over a row that is there -/
theorem row1_in (n : Nat) (hn : 1 ≤ n) (lo Bt Bk n₀ b mb g cap : Nat) (key : Int) (l : List Cl) (hreach : l.length * 16 ≤ 140737488351232) (hb : g < n₀) (J Jx : List Nat → World → Prop)
    (hY : ∀ pre x W, J pre W → pre.length < l.length → YieldAt Fence.wide (n - 1) Try.prog lo (args l x) W fun e W' =>
      (e = .returned (.bool true) ∧ J (pre ++ [x]) W' ∧ Below n₀ W W') ∨ (e = .returned (.bool false) ∧ Jx (pre ++ [x]) W'))
    (W : World) (hn₀ : n₀ ≤ W.heap.size) (hJ : AbidesFrom W.heap.size J) (hBt : W.cell? ⟨Bt, 0, none⟩ = some (.pointer (some ⟨b, 0, none⟩))) (hBk : W.cell? ⟨Bk, 0, none⟩ = some (.int .i64 key)) (hB : W.cell? ⟨b, 0, none⟩ = some (.map (some mb)))
    (hl : (Instr.lookup 56 (.map (some mb)) (.int .i64 key) false).run Try.prog W.drew = .ok (.slice (some ⟨g, 0, none⟩) l.length cap) W.drew)
    (hc : ∀ i, i < l.length → W.cell? ⟨g, i * 2, none⟩ = some (.int .i64 (at_ l i).1) ∧ W.cell? ⟨g, i * 2 + 1, none⟩ = some (.bool (at_ l i).2)) (h0 : J [] W) :
    CallsIn Fence.wide n Try.prog 28 #[.func (.yield lo) #[] #[], .pointer (some ⟨Bt, 0, none⟩), .pointer (some ⟨Bk, 0, none⟩)] W fun e W' => (∃ v, e = .returned v) ∧
      ((∃ ys, ys = List.range l.length ∧ J ys W') ∨ (∃ pre, (∃ k, k ≤ l.length ∧ pre = List.range k) ∧ Jx pre W')) := by
  have HL := Lib.hid hl
  clear hl
  refine callsIn_of_wp Try.func28 rfl trivial ?_ rfl
  simp only [Try.ntmps28, List.size_toArray, List.length_cons, List.length_nil, Nat.reduceAdd, Nat.reduceSub, Array.replicate_succ, Array.replicate_zero, List.push_toArray, List.append_toArray, List.nil_append, List.cons_append]
  gi_wp2
  have hl := HL.out
  gi_region
  gi_wp2
  gi_loopw [4, 16] (fun sh i wr => ∃ k : Nat, k ≤ l.length ∧ sh = .bool (sharedTo l k) ∧ i = .int .i64 k ∧ J (List.range k) wr ∧ Below n₀ W wr)
    (fun _ i _ => l.length - (intOf i).toNat)
  case atStart => exact ⟨0, Nat.zero_le _, rfl, rfl, hJ _ _ _ none h0 ⟨rfl, rfl, rfl, Nat.le_refl _, fun _ _ _ => rfl⟩ (fun r h => by cases h), ⟨rfl, rfl, rfl, Nat.le_refl _, fun _ _ => rfl⟩⟩
  case round =>
    obtain ⟨k, hk, rfl, rfl, hJ0, hnx⟩ := hrel
    by_cases hlt : k < l.length
    · obtain ⟨e0, e1⟩ := hc k hlt
      have c0 : wr.cell? ⟨g, k * 2, none⟩ = some (.int .i64 (at_ l k).1) := (hnx.cell (p := ⟨g, k * 2, none⟩) hb).trans e0
      have c1 : wr.cell? ⟨g, k * 2 + 1, none⟩ = some (.bool (at_ l k).2) := (hnx.cell (p := ⟨g, k * 2 + 1, none⟩) hb).trans e1
      have hsz : n₀ ≤ wr.heap.size := Nat.le_trans hn₀ hnx.size
      have HK : Hid (∀ v, v = args l k → YieldAt Fence.wide (n - 1) Try.prog lo v (wr.alloc (.cells #[.int .i64 (at_ l k).1, .bool (at_ l k).2] 63)) fun e W' =>
          (e = .returned (.bool true) ∧ J (List.range (k + 1)) W' ∧ Below n₀ W W') ∨ (e = .returned (.bool false) ∧ Jx (List.range (k + 1)) W')) := by
        rintro v rfl
        rw [List.range_succ]
        have h1 := hY (List.range k) k (wr.alloc (.cells #[.int .i64 (at_ l k).1, .bool (at_ l k).2] 63)) (hJ _ _ _ none hJ0 (World.grownBy_alloc wr _ none) (fun r h => by cases h)) (by rw [range_len]; exact hlt)
        refine h1.mono fun e W' h => ?_
        rcases h with ⟨h2, h3, h4⟩ | h2
        · exact .inl ⟨h2, h3, (hnx.alloc hsz _).trans h4⟩
        · exact .inr h2
      clear hY hJ h0 hJ0 hc
      by_cases hz : k = 0
      · subst hz
        rw [Nat.zero_mul] at c0
        rw [Nat.zero_mul, Nat.zero_add] at c1
        clear e0 e1
        cases hs : sharedTo l 0
        · obtain ⟨fn, tmps, assign, body, hy, hR⟩ := HK.out #[.int .i64 0, .agg #[.int .i64 (at_ l 0).1, .bool (at_ l 0).2, .bool true]] (by simp [args, told, holdsAt, shared_succ l 0 hlt, hs])
          gi_wp2
          refine hR.mono ?_
          rintro e W3 (⟨rfl, hJ3, hk3⟩ | ⟨rfl, hJx3⟩)
          · gi_wp2
            go_roundw
            case rel => exact ⟨0 + 1, by omega, by simp [shared_succ l 0 hlt, hs], by simp, hJ3, hk3⟩
            case measure => simp [intOf]; omega
          · gi_wp2
            refine bodyPost_ret (results_none rfl _ _ _) rfl ?_
            exact ⟨⟨_, rfl⟩, .inr ⟨_, ⟨0 + 1, by omega, rfl⟩, hJx3⟩⟩
        · obtain ⟨fn, tmps, assign, body, hy, hR⟩ := HK.out #[.int .i64 0, .agg #[.int .i64 (at_ l 0).1, .bool (at_ l 0).2, .bool true]] (by simp [args, told, holdsAt, shared_succ l 0 hlt, hs])
          gi_wp2
          refine hR.mono ?_
          rintro e W3 (⟨rfl, hJ3, hk3⟩ | ⟨rfl, hJx3⟩)
          · gi_wp2
            go_roundw
            case rel => exact ⟨0 + 1, by omega, by simp [shared_succ l 0 hlt, hs], by simp, hJ3, hk3⟩
            case measure => simp [intOf]; omega
          · gi_wp2
            refine bodyPost_ret (results_none rfl _ _ _) rfl ?_
            exact ⟨⟨_, rfl⟩, .inr ⟨_, ⟨0 + 1, by omega, rfl⟩, hJx3⟩⟩
      · have hz' : ((k : Int) == 0) = false := by rw [beq_eq_false_iff_ne]; omega
        clear e0 e1
        cases hs : sharedTo l k
        · obtain ⟨fn, tmps, assign, body, hy, hR⟩ := HK.out #[.int .i64 (k : Int), .agg #[.int .i64 (at_ l k).1, .bool (at_ l k).2, .bool false]] (by simp [args, told, holdsAt, shared_succ l k hlt, hs, hz])
          gi_wp2
          refine hR.mono ?_
          rintro e W3 (⟨rfl, hJ3, hk3⟩ | ⟨rfl, hJx3⟩)
          · gi_wp2
            go_roundw
            case rel => exact ⟨k + 1, by omega, by simp [shared_succ l k hlt, hs], by simp, hJ3, hk3⟩
            case measure => simp [intOf]; omega
          · gi_wp2
            refine bodyPost_ret (results_none rfl _ _ _) rfl ?_
            exact ⟨⟨_, rfl⟩, .inr ⟨_, ⟨k + 1, by omega, rfl⟩, hJx3⟩⟩
        · obtain ⟨fn, tmps, assign, body, hy, hR⟩ := HK.out #[.int .i64 (k : Int), .agg #[.int .i64 (at_ l k).1, .bool (at_ l k).2, .bool (!(at_ l k).2)]] (by simp [args, told, holdsAt, shared_succ l k hlt, hs, hz])
          gi_wp2
          refine hR.mono ?_
          rintro e W3 (⟨rfl, hJ3, hk3⟩ | ⟨rfl, hJx3⟩)
          · gi_wp2
            go_roundw
            case rel => exact ⟨k + 1, by omega, by simp [shared_succ l k hlt, hs], by simp, hJ3, hk3⟩
            case measure => simp [intOf]; omega
          · gi_wp2
            refine bodyPost_ret (results_none rfl _ _ _) rfl ?_
            exact ⟨⟨_, rfl⟩, .inr ⟨_, ⟨k + 1, by omega, rfl⟩, hJx3⟩⟩
    · obtain rfl : k = l.length := by omega
      gi_wp2
      go_end0
      exact ⟨⟨_, rfl⟩, .inl ⟨_, rfl, hJ0⟩⟩

set_option maxRecDepth 100000 in
set_option maxHeartbeats 1000000 in
/-- no table -/
theorem row0_in (n : Nat) (lo Bt Bk : Nat) (J : List Nat → World → Prop) (W : World) (hBt : W.cell? ⟨Bt, 0, none⟩ = some (.pointer none)) (h0 : J [] W) :
    CallsIn Fence.wide n Try.prog 28 #[.func (.yield lo) #[] #[], .pointer (some ⟨Bt, 0, none⟩), .pointer (some ⟨Bk, 0, none⟩)] W fun e W' => (∃ v, e = .returned v) ∧ J [] W' := by
  refine callsIn_of_wp Try.func28 rfl trivial ?_ rfl
  simp only [Try.ntmps28, List.size_toArray, List.length_cons, List.length_nil, Nat.reduceAdd, Nat.reduceSub, Array.replicate_succ, Array.replicate_zero, List.push_toArray, List.append_toArray, List.nil_append, List.cons_append]
  gi_wp2
  refine bodyPost_ret (results_none rfl _ _ _) rfl ?_
  exact ⟨⟨_, rfl⟩, h0⟩

set_option maxRecDepth 100000 in
set_option maxHeartbeats 1000000 in
/-- no claims at the key -/
theorem row2_in (n : Nat) (lo Bt Bk b mb : Nat) (key : Int) (J : List Nat → World → Prop) (W : World) (hJ : AbidesFrom W.heap.size J) (hBt : W.cell? ⟨Bt, 0, none⟩ = some (.pointer (some ⟨b, 0, none⟩))) (hBk : W.cell? ⟨Bk, 0, none⟩ = some (.int .i64 key)) (hB : W.cell? ⟨b, 0, none⟩ = some (.map (some mb)))
    (hl : (Instr.lookup 56 (.map (some mb)) (.int .i64 key) false).run Try.prog W.drew = .ok (.slice none 0 0) W.drew) (h0 : J [] W) :
    CallsIn Fence.wide n Try.prog 28 #[.func (.yield lo) #[] #[], .pointer (some ⟨Bt, 0, none⟩), .pointer (some ⟨Bk, 0, none⟩)] W fun e W' => (∃ v, e = .returned v) ∧ J [] W' := by
  have HL := Lib.hid hl
  clear hl
  refine callsIn_of_wp Try.func28 rfl trivial ?_ rfl
  simp only [Try.ntmps28, List.size_toArray, List.length_cons, List.length_nil, Nat.reduceAdd, Nat.reduceSub, Array.replicate_succ, Array.replicate_zero, List.push_toArray, List.append_toArray, List.nil_append, List.cons_append]
  gi_wp2
  have hl := HL.out
  gi_region
  gi_wp2
  gi_loopw [16] (fun i wr => i = .int .i64 0 ∧ J [] wr) (fun _ _ => 0)
  case atStart => exact ⟨rfl, hJ _ _ _ none h0 ⟨rfl, rfl, rfl, Nat.le_refl _, fun _ _ _ => rfl⟩ (fun r h => by cases h)⟩
  case round =>
    obtain ⟨rfl, hJs⟩ := hrel
    gi_wp2
    go_end0
    exact ⟨⟨_, rfl⟩, hJs⟩

/-- where a row's claims come from: no table, or one -/
def Src (w : World) (tv : Option Addr) (key : Int) (l : List Cl) : Prop :=
  (tv = none ∧ l = []) ∨ ∃ S b R n, tv = some ⟨b, 0, none⟩ ∧ Tab w S b R n ∧ R key = l ∧ Fits key ∧ n ≤ 1073741824

/-- the iterator tells all claims of the row, in order; or the first of them -/
theorem row_stops (n : Nat) (hn : 1 ≤ n) (Bt Bk : Nat) (tv : Option Addr) (key : Int) (l : List Cl) (w0 w : World) (h0w : Below w0.heap.size w0 w) (hs : Src w0 tv key l) (hBt : Bt < w.heap.size) (hBk : Bk < w.heap.size)
    (ct : w.cell? ⟨Bt, 0, none⟩ = some (.pointer tv)) (ck : w.cell? ⟨Bk, 0, none⟩ = some (.int .i64 key)) :
    SeqStopsK Fence.wide n Try.prog 28 #[.pointer (some ⟨Bt, 0, none⟩), .pointer (some ⟨Bk, 0, none⟩)] (args l) (Below w0.heap.size) (fun ys => ys = List.range l.length) (fun pre => ∃ k, k ≤ l.length ∧ pre = List.range k) l.length w :=
  fun lo J Jx W hW hJ _ hY h0 => by
  have ct' := (hW.cell (p := ⟨Bt, 0, none⟩) hBt).trans ct
  have ck' := (hW.cell (p := ⟨Bk, 0, none⟩) hBk).trans ck
  have hWW : Below w0.heap.size w0 W := below_up h0w hW h0w.size
  rcases hs with ⟨rfl, rfl⟩ | ⟨S, b, R, nn, rfl, ht, rfl, hf, hnn⟩
  · exact (row0_in n lo Bt Bk J W ct' h0).mono fun e W' ⟨he, hj⟩ => ⟨he, .inl ⟨_, rfl, hj⟩⟩
  · obtain ⟨m, mb, f, hx⟩ := ht.below hWW
    have c0 : W.cell? ⟨b, 0, none⟩ = some (.map (some mb)) := by rw [row_cell hx.block]; rfl
    have hl := (hx.map.drewN 1).look hf
    have hr := hx.rows key hf
    cases hv : f key with
    | none =>
      rw [hv] at hr hl
      have hr : R key = [] := hr
      rw [hr]
      exact (row2_in n lo Bt Bk b mb key J W hJ ct' ck' c0 hl h0).mono fun e W' ⟨he, hj⟩ => ⟨he, .inl ⟨_, rfl, hj⟩⟩
    | some v =>
      rw [hv] at hr hl
      obtain ⟨hne, ho, hS⟩ := hr
      obtain ⟨g, cap, rfl, -, hg⟩ := ho.form (List.length_pos_iff.2 hne)
      have hlt := hx.there
      refine row1_in n hn lo Bt Bk w0.heap.size b mb g cap key (R key) (by have := hx.long key hf; omega) (ht.there g (hS g rfl)) J Jx hY W hWW.size hJ ct' ck' c0 hl (fun i hi => ?_) h0
      obtain ⟨e1, e2⟩ := cells_get (R key) i hi
      have hz := ho.cells (g := g) rfl
      have k1 := hz _ _ e1
      have k2 := hz _ _ e2
      rw [addr_at] at k1 k2
      exact ⟨k1, k2⟩
end Go.Proofs.Ytfaahhipddlmgaa.KSeq
