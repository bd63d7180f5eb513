/- buddiesOf, Orders. -/
import Derived.Test.YtgkindoidmglnaaGreatDoorMg4
import Derived.Laws.Rows
import Derived.Laws.CopyOwn
import Derived.KernelRfl
namespace Go.Proofs.YtgkindoidmglnaaGreatDoor.TBud
open Go.RowKit WMem WPlain TPlain TBits TSet TWalk TOrd TCut

abbrev zeros22 : Array Value := #[.int .i64 0, .int .i64 0, .int .i64 0, .int .i64 0, .int .i64 0, .int .i64 0, .int .i64 0, .int .i64 0, .int .i64 0, .int .i64 0, .int .i64 0, .int .i64 0, .int .i64 0, .int .i64 0, .int .i64 0, .int .i64 0, .int .i64 0, .int .i64 0, .int .i64 0, .int .i64 0, .int .i64 0, .int .i64 0]
/-- what both cells of the function's own hold -/
structure Two (w wr : World) (xs : List Value) : Prop where
  res : RowV wr w.heap.size 168 zeros22.toList
  own : RowV wr (w.heap.size + 1) 168 xs
  below : Below w.heap.size w wr
theorem Two.start (w : World) : Two w ((w.alloc (.cells zeros22 168)).alloc (.cells zeros22 168)) zeros22.toList :=
  ⟨heap_alloc2_old w _ _, heap_alloc2_new w _ _, ((Below.refl _ _).alloc (Nat.le_refl _) _).alloc (by simp) _⟩
theorem Two.go {w wr w' : World} {xs ys : List Value} (h : Two w wr xs) (hR : RowV w' (w.heap.size + 1) 168 ys) (hg : wr.grownBy w' (some (w.heap.size + 1))) : Two w w' ys :=
  ⟨h.res.grown hg (by simp), hR, h.below.grown hg (by have := h.own.lt; omega) (by intro k hk; injection hk with hk; omega)⟩
noncomputable def descB : TypeDesc := (Tryz.prog.underlying 168).getD (.array 0 0)
theorem underB : Tryz.prog.underlying 168 = some descB := by kernel_rfl
theorem kindB : (match descB with | .struct _ | .array _ _ => true | _ => false) = true := by kernel_rfl
theorem infoB (F : Nat → Bool) (p : Nat) : (Tryz.prog.info? 168).map (·.size) = some (bcells F p).toArray.size := by
  rw [List.size_toArray, bcells_len]
  kernel_rfl
theorem oneB (F : Nat → Bool) (p : Nat) : (bcells F p).toArray.all (·.oneCell') = true := by
  rw [Array.all_eq_true_iff_forall_mem]
  intro v hv
  simp [bcells, vals] at hv
  rcases hv with ⟨k, _, rfl⟩ | ⟨k, _, rfl⟩ <;> rfl
set_option maxHeartbeats 400000 in
set_option maxRecDepth 100000 in
theorem buddiesOf_any (l : List UInt8) (len : Nat) (hlen : l.length = len) (B : Nat) (A : Option Addr) (c : Nat) (w : World) (hB : B ≤ w.heap.size) (hl : len ≤ 140737488355328) (hA : Sl w B A (l.map u8v)) :
    Calls Tryz.prog 105 #[.slice A len c] w fun e w' => e = .returned (.agg (bcells (fr l) 2016).toArray) ∧ Below w.heap.size w w' := by
  have HL := Lib.hid hlen
  have HA := Lib.hid hA
  have HB := Lib.hid hB
  clear hlen hA hB
  have HT := Lib.hid (Two.start w)
  go_enter Tryz.func105, Tryz.ntmps105
  go_wp2
  go_loopw [4, 6] (fun v i wr => ∃ k r : Nat, k ≤ 2016 ∧ r ≤ k ∧ i = .int .i64 k ∧ v = .int .i64 r ∧ Cut (fr l) r ∧ (∀ j, r ≤ j → j < k → fr l j = true) ∧ Two w wr (bcells (fr l) r)) (fun _ i _ => 2016 - (intOf i).toNat)
  case atStart => exact ⟨0, 0, by omega, Nat.le_refl _, rfl, rfl, cut_zero, fun j h1 h2 => by omega, HT.out⟩
  case round =>
    obtain ⟨k, r, hk, hr, rfl, rfl, hc, hf, ht⟩ := hrel
    have HC := Lib.hid hc
    have HF := Lib.hid hf
    have HW := Lib.hid ht
    clear hc hf ht HT
    have HS : Hid (Sl wr B A (l.map u8v)) := Lib.hid (HA.out.below_le HW.out.below HB.out)
    by_cases hlt : k < 2016
    · cases hq : fr l k with
      | true =>
        have HQ := Lib.hid hq
        clear hq
        go_wp2_with (go_at_call 90; refine (isSet_at l len HL.out B A c k _ rfl true HQ.out _ (by omega) hl HS.out).mono ?_; rintro e w' ⟨rfl, rfl⟩)
        go_roundw
        case rel =>
          refine ⟨k + 1, r, by omega, by omega, by go_num, rfl, HC.out, fun j h1 h2 => ?_, HW.out⟩
          by_cases e : j = k
          · subst e; exact HQ.out
          · exact HF.out j h1 (by omega)
        case measure => simp [intOf]; omega
      | false =>
        have HQ := Lib.hid hq
        clear hq
        go_wp2_with (first
          | (go_at_call 90; refine (isSet_at l len HL.out B A c k _ rfl false HQ.out _ (by omega) hl HS.out).mono ?_; rintro e w' ⟨rfl, rfl⟩)
          | (go_at_call 127; refine (cut_any (fr l) r k (w.heap.size + 1) _ hr (by omega) HC.out HF.out HQ.out HW.out.own).mono ?_; rintro e w' ⟨rfl, hR, hG, hc⟩
             have HW2 : Hid (Two w w' (bcells (fr l) (k + 1))) := Lib.hid (by rw [cells_skip HQ.out]; exact HW.out.go hR hG)
             clear hR hG hc))
        go_roundw
        case rel => exact ⟨k + 1, k + 1, by omega, by omega, by go_num, by go_num, cut_next HQ.out, fun j h1 h2 => by omega, HW2.out⟩
        case measure => simp [intOf]; omega
    · obtain rfl : k = 2016 := by omega
      have HX := Lib.hid (infoB (fr l) 2016)
      go_wp2_with (first
        | (go_at_call 127; refine (cut_any (fr l) r 2016 (w.heap.size + 1) _ hr (by omega) HC.out HF.out (fr_big (Nat.le_refl _)) HW.out.own).mono ?_; rintro e w' ⟨rfl, hR, hG, hc⟩
           have HW2 := Lib.hid (HW.out.go hR hG)
           clear hR hG hc)
        | (refine wpList_load_row rfl 168 (.tmp 3) rfl (w.heap.size + 1) rfl 168 (bcells (fr l) 2016).toArray (0, 0) _ HW2.out.own underB kindB HX.out ?_)
        | (refine wpList_store_row rfl 168 (.tmp 2) (.tmp 20) rfl w.heap.size (bcells (fr l) 2016).toArray rfl rfl 168 zeros22 HW2.out.res HX.out (by simp [bcells_len]) (oneB _ _) ?_))
      refine bodyPost_ret (v := .agg (bcells (fr l) 2016).toArray) ?_ rfl ⟨rfl, ?_⟩
      · exact results_cell_row rfl _ _ w.heap.size 168 _ (0, 0) _ rfl (setRow_heap _ _ _ _ _ _ HW2.out.res) underB kindB HX.out
      · exact below_setRow HW2.out.below (Nat.le_refl _) _
theorem field0 (w : World) (x0 x1 x2 x3 x4 x5 x6 x7 x8 x9 x10 x11 x12 x13 x14 x15 x16 x17 x18 x19 x20 x21 : Value) : (Instr.field 168 (.agg #[x0, x1, x2, x3, x4, x5, x6, x7, x8, x9, x10, x11, x12, x13, x14, x15, x16, x17, x18, x19, x20, x21]) 0).run Tryz.prog w = .ok (.agg #[x0, x1, x2, x3, x4, x5, x6, x7, x8, x9, x10]) w := by kernel_rfl
theorem field0_b (F : Nat → Bool) (p : Nat) (w : World) : (Instr.field 168 (.agg (bcells F p).toArray) 0).run Tryz.prog w = .ok (arr fun k => cnt F k p) w :=
  field0 w _ _ _ _ _ _ _ _ _ _ _ _ _ _ _ _ _ _ _ _ _ _
theorem underA : Tryz.prog.underlying 166 = some (.array 11 3) := by kernel_rfl
theorem infoA : (Tryz.prog.info? 166).map (·.size) = some 11 := by kernel_rfl
abbrev arrC (f : Nat → Nat) : Array Value := #[.int .i64 (f 0 : Nat), .int .i64 (f 1 : Nat), .int .i64 (f 2 : Nat), .int .i64 (f 3 : Nat), .int .i64 (f 4 : Nat), .int .i64 (f 5 : Nat), .int .i64 (f 6 : Nat), .int .i64 (f 7 : Nat), .int .i64 (f 8 : Nat), .int .i64 (f 9 : Nat), .int .i64 (f 10 : Nat)]
theorem infoA' (f : Nat → Nat) : (Tryz.prog.info? 166).map (·.size) = some (arrC f).size := infoA
theorem oneA (f : Nat → Nat) : (arrC f).all (·.oneCell') = true := by simp [arrC, Value.oneCell']
abbrev zeros11 : Array Value := #[.int .i64 0, .int .i64 0, .int .i64 0, .int .i64 0, .int .i64 0, .int .i64 0, .int .i64 0, .int .i64 0, .int .i64 0, .int .i64 0, .int .i64 0]
end Go.Proofs.YtgkindoidmglnaaGreatDoor.TBud
