/- A store that was never made: a nil pointer, and a struct with nothing in it. -/
import Derived.Test.YtphfidenjihgeaaEAwake
import Derived.Shelf.SlIterI.Nil
import Derived.LoopN
import Derived.Deep.RegionHeld3
import Derived.Laws.IdiomRangeMap
namespace Go.Proofs.Ytphfidenjihgeaa.ENone
open DPlain hiding OpV
open Go.RowKit Go.Maps Go.Sort Go.Shelf WMem WPlain WAppend Ext Map DMem EPlain EMem EKeys EFace EWrites ECommit

set_option maxRecDepth 100000 in
set_option maxHeartbeats 1000000 in
theorem Sorted_nil (g : Nat) (w : World) (hg : w.heap[g]? = some (.cells #[.map none] 25 (0, 0))) :
    Calls Try.prog 40 #[.func (.func 61) #[] #[.pointer (some ⟨g, 0, none⟩)]] w fun e w' => ∃ A c, e = .returned (.slice A 0 c) ∧ Below w.heap.size w w' := by
  have hseq : SeqGives Fence.wide 2 Try.prog 61 #[.pointer (some ⟨g, 0, none⟩)] encZ (fun ss : List Int => ss = []) 0 w :=
    AnyZI.keys_gives_nil (ρ := Try.keysA_ren) { Try.keysA with } Fence.wide _ trivial rfl g w (row_lt hg) ((row_cell hg 0).trans rfl)
  have cS := AnyZI.sorted_in Try.sortedA Fence.wide 5 trivial trivial trivial trivial rfl (by omega) (sorts _) (enters_of Try.func60 (by kernel_rfl) rfl) 61 #[.pointer (some ⟨g, 0, none⟩)] trivial (enters_of Try.func61 (by kernel_rfl) rfl) _ _ (by unfold maxLen; omega) (by omega) _ hseq
  change CallsIn _ _ Try.prog 40 _ _ _ at cS
  refine (callsIn_wide.1 cS).mono ?_
  rintro e w' ⟨v, ss, rfl, hS, hrow, hnil, hb⟩
  subst hS
  obtain ⟨A, c, rfl, -, -⟩ := own_cell1 (S := fun _ => True) ⟨own_base hrow (fun _ _ => Nat.zero_le _), fun _ _ => trivial⟩
  exact ⟨A, c, rfl, hb⟩
theorem clear_nil (T ty : TypeId) {K E : TypeId} (hT : Try.prog.underlying T = some (.map K E)) (w : World) : (Builtin.clear_ #[T] ty #[.map none]).run Try.prog w = .ok (.tuple #[]) w := by
  simp [Builtin.clear_, run_underlying hT]

theorem look_nilH (k : Int) (w : World) : (Instr.lookup 29 (.map none) (.int .i64 k) true).run Try.prog w = .ok (.tuple #[.agg #[], .bool false]) w := by kernel_rfl
theorem look_nil (k : Int) (w : World) : (Instr.lookup 25 (.map none) (.int .i64 k) true).run Try.prog w = .ok (.tuple #[.slice none 0 0, .bool false]) w := by kernel_rfl
/-- the nine cells of a struct with nothing in it -/
structure Zero (w : World) (b : Nat) : Prop where
  row : w.heap[b]? = some (.cells #[.pointer none, .map none, .map none, .slice none 0 0, .int .i64 0, .map none, .slice none 0 0, .int .i64 0, .int .i64 0] 32 (0, 0))
theorem Zero.below {w w' : World} {b : Nat} (h : Zero w b) (hb : Below w.heap.size w w') : Zero w' b := ⟨(hb.block b (row_lt h.row)).trans h.row⟩
section
variable {w : World} {b : Nat} (h : Zero w b)
include h
theorem blocks_zero : Calls Try.prog 22 #[.pointer (some ⟨b, 0, none⟩)] w fun e w' => e = .returned (.int .i64 0) ∧ w = w' := SBlocks_zero b w ((row_cell h.row 0).trans rfl)
set_option maxRecDepth 100000 in
theorem mark_zero : Calls Try.prog 18 #[.pointer (some ⟨b, 0, none⟩)] w fun e w' => e = .returned (.int .i64 0) ∧ w = w' := by
  have c6 := (row_cell h.row 6).trans rfl
  go_enter Try.func18, Try.ntmps18
  go_wp2
  go_ret
  exact ⟨rfl, rfl⟩
set_option maxRecDepth 100000 in
theorem counts_zero : Calls Try.prog 11 #[.pointer (some ⟨b, 0, none⟩)] w fun e w' => e = .returned (.tuple #[.int .i64 0, .int .i64 0]) ∧ Below w.heap.size w w' := by
  have c7 := (row_cell h.row 7).trans rfl
  have c8 := (row_cell h.row 8).trans rfl
  clear h
  go_enter Try.func11, Try.ntmps11
  go_wp2
  go_quiet (fail)
  go_wp2
  go_ret2
  exact ⟨rfl, below_drewN (Below.refl _ _) _⟩
set_option maxRecDepth 100000 in
theorem release_zero : Calls Try.prog 9 #[.pointer (some ⟨b, 0, none⟩)] w fun e w' => e = .returned (.tuple #[]) ∧ w = w' := by
  have c5 := (row_cell h.row 5).trans rfl
  have hcl := fun (ty : TypeId) (w : World) => clear_nil 29 ty underH w
  clear h
  go_enter Try.func9, Try.ntmps9
  go_wp2
  go_end0
  exact ⟨rfl, rfl⟩
set_option maxRecDepth 100000 in
theorem held_zero (n : Int) : Calls Try.prog 17 #[.pointer (some ⟨b, 0, none⟩), .int .i64 n] w fun e w' => e = .returned (.bool false) ∧ Below w.heap.size w w' := by
  have c5 := (row_cell h.row 5).trans rfl
  have hl := look_nilH n
  clear h
  go_enter Try.func17, Try.ntmps17
  go_wp2
  go_ret
  exact ⟨rfl, (Below.refl _ _).alloc (Nat.le_refl _) _⟩
set_option maxRecDepth 100000 in
theorem home_zero (n : Int) : Calls Try.prog 16 #[.pointer (some ⟨b, 0, none⟩), .int .i64 n] w fun e w' => e = .returned (.int .i64 22) ∧ Below w.heap.size w w' := by
  have c2 := (row_cell h.row 2).trans rfl
  have hl := look_nil n
  clear h
  go_enter Try.func16, Try.ntmps16
  go_wp2
  go_ret
  exact ⟨rfl, Below.refl _ _⟩
set_option maxRecDepth 100000 in
theorem changed_zero : Calls Try.prog 19 #[.pointer (some ⟨b, 0, none⟩)] w fun e w' => ∃ A c, e = .returned (.slice A 0 c) ∧ Below w.heap.size w w' := by
  have c1 := (row_cell h.row 1).trans rfl
  clear h
  go_enter Try.func19, Try.ntmps19
  go_wp2_with fail
  refine (Keys_any none w).mono ?_
  rintro e w1 ⟨rfl, rfl⟩
  go_wp2_with fail
  refine (Sorted_nil w.heap.size _ (row_new _ _)).mono ?_
  rintro e w2 ⟨A, c, rfl, hb⟩
  have HB : Hid (Below w.heap.size w w2) := Lib.hid (((Below.refl _ _).alloc (Nat.le_refl _) _).trans (hb.mono (by simp)))
  clear hb
  go_wp2
  go_ret
  exact ⟨_, _, rfl, HB.out⟩
end
set_option maxRecDepth 100000 in
set_option maxHeartbeats 1000000 in
theorem writes_nil (w : World) : Calls Try.prog 42 #[.map none] w fun e w' => e = .returned (.slice none 0 0) ∧ Below w.heap.size w w' := by
  go_enter Try.func42, Try.ntmps42
  go_wp2_with fail
  refine (Keys_any none w).mono ?_
  rintro e w1 ⟨rfl, rfl⟩
  go_wp2_with fail
  refine (Sorted_nil w.heap.size _ (row_new _ _)).mono ?_
  rintro e w2 ⟨A, c, rfl, hb⟩
  have HB : Hid (Below w.heap.size w w2) := Lib.hid (((Below.refl _ _).alloc (Nat.le_refl _) _).trans (hb.mono (by simp)))
  clear hb
  go_wp2
  refine wp_loop_rounds 1 ?_
  rw [rounds_succ]
  go_wp2
  go_ret
  exact ⟨rfl, HB.out⟩
set_option maxRecDepth 100000 in
set_option maxHeartbeats 1000000 in
theorem copy_nil (w : World) : Calls Try.prog 43 #[.map none, .map none] w fun e w' => e = .returned (.tuple #[]) ∧ Below w.heap.size w w' := by
  have hrg := run_range_nilMap (P := Try.prog) w 25 3 34 under
  have hnx : ∀ ty, (Instr.next (.pointer (some ⟨w.heap.size, 0, none⟩)) false ty).run Try.prog (w.alloc (.mapIter none 0 #[] 0)) = _ := fun ty => run_next_nilMap _ ty 0 0 #[]
  go_enter Try.func43, Try.ntmps43
  go_wp2
  refine wp_loop_rounds 1 ?_
  rw [rounds_succ]
  go_wp2
  go_end0
  exact ⟨rfl, (Below.refl _ _).alloc (Nat.le_refl _) _⟩
section
variable {w : World} {b : Nat} (h : Zero w b)
include h
set_option maxRecDepth 100000 in
theorem waiting_zero : Calls Try.prog 21 #[.pointer (some ⟨b, 0, none⟩)] w fun e w' => e = .returned (.slice none 0 0) ∧ Below w.heap.size w w' := by
  have c2 := (row_cell h.row 2).trans rfl
  clear h
  go_enter Try.func21, Try.ntmps21
  go_wp2_with fail
  refine (writes_nil w).mono ?_
  rintro e w1 ⟨rfl, hb⟩
  have HB := Lib.hid hb
  clear hb
  go_wp2
  go_ret
  exact ⟨rfl, HB.out⟩
set_option maxRecDepth 100000 in
set_option maxHeartbeats 1000000 in
theorem commit_zero : Calls Try.prog 20 #[.pointer (some ⟨b, 0, none⟩)] w fun e w' => e = .returned (.slice none 0 0) ∧ Zero w' b ∧ Ext (fun q => q = b) w w' := by
  have c1 := (row_cell h.row 1).trans rfl
  have HZ := Lib.hid h
  have hcl := fun (ty : TypeId) (w : World) => clear_nil 25 ty under w
  clear h
  go_enter Try.func20, Try.ntmps20
  go_wp2_with fail
  refine (writes_nil w).mono ?_
  rintro e w1 ⟨rfl, hb⟩
  have HZ1 := Lib.hid (HZ.out.below hb)
  have HB := Lib.hid hb
  have d1 : w1.drew.cell? ⟨b, 1, none⟩ = _ := (row_cell HZ1.out.row 1).trans rfl
  have d2 : w1.drew.cell? ⟨b, 2, none⟩ = _ := (row_cell HZ1.out.row 2).trans rfl
  clear hb c1
  go_wp2_with fail
  go_region_held3 (fun w' => w'.cell? ⟨b, 1, none⟩ = some (.map none) ∧ w'.cell? ⟨b, 2, none⟩ = some (.map none)) (go_keep)
    ((first
      | (go_at_call 43; refine (copy_nil _).mono ?_; rintro e w2 ⟨rfl, hb2⟩
         have HZ2 := Lib.hid ((HZ1.out.below (below_drewN (Below.refl _ _) 1)).below hb2)
         have HB2 := Lib.hid (HB.out.trans ((below_drewN (Below.refl _ _) 1).trans (hb2.mono (Nat.le_refl _)) |>.mono HB.out.size))
         have e1 := (row_cell HZ2.out.row 1).trans rfl
         have e2 := (row_cell HZ2.out.row 2).trans rfl
         have e6 := (row_cell HZ2.out.row 6).trans rfl
         have f6 := row_free HZ2.out.row 6
         clear hb2)))
  all_goals
    go_wp2_with fail
    go_ret
    refine ⟨rfl, ⟨?_⟩, Ext.setCell (S := fun q => q = b) (Ext.of_below HB2.out _) (.inl rfl) _⟩
    rw [row_set HZ2.out.row 6 _]
    rfl
end
end Go.Proofs.Ytphfidenjihgeaa.ENone
