/- DiskNone walked: a disk that was never made has nothing and keeps nothing. -/
import Derived.Test.YtkemakemolohdaaLReads
import Derived.Deep.RegionHeld3
import Derived.Deep.DeepCutAuto
import Derived.Laws.IdiomRangeMap
namespace Go.Proofs.Ytkemakemolohdaa.LNone
open Go.RowKit WMem WPlain WAppend Ext Map DPlain DMem Mk DBase DRead DPend DWrite DFlush DPending DCopy RNew RRead RWrite RFlush DLaw LStep LStepP LAlike LAwake LMade LReads

theorem Copy_nil (w : World) : Calls Try.prog 12 #[.pointer none] w fun e w' => e = .returned (.pointer none) ∧ w = w' := by
  go_enter Try.func12, Try.ntmps12
  go_wp2
  go_ret
  exact ⟨rfl, rfl⟩
set_option maxHeartbeats 800000 in
/-- copyMap of no map -/
theorem copyMap_nil (w : World) : Calls Try.prog 27 #[.map none, .func (.func 28) #[] #[]] w fun e w' => e = .returned (.map (some w.heap.size)) ∧ Below w.heap.size w w' := by
  have hmm := fun (k : Int) (w : World) => run_makeMap_hint (P := Try.prog) 42 3 35 .i64 k (by kernel_rfl) w
  have hlen := fun (W : World) (ty : TypeId) => Maps.len_nil (P := Try.prog) (w := W) (t := 42) under ty
  have hrg := run_range_nilMap (P := Try.prog) (w.alloc (.map #[] 0)) 42 3 35 under
  have hnx : ∀ ty, (Instr.next (.pointer (some ⟨(w.alloc (.map #[] 0)).heap.size, 0, none⟩)) false ty).run Try.prog ((w.alloc (.map #[] 0)).alloc (.mapIter none 0 #[] 0)) = _ := fun ty => run_next_nilMap _ ty 0 0 #[]
  have e1 : (w.alloc (.map #[] 0)).heap.size = w.heap.size + 1 := by simp
  rw [e1] at hrg hnx
  go_enter Try.func27, Try.ntmps27
  go_wp2
  refine wp_loop_rounds 1 ?_
  rw [rounds_succ]
  go_wp2
  go_ret
  exact ⟨rfl, ((Below.refl _ _).alloc (Nat.le_refl _) _).alloc (by simp) _⟩

set_option maxHeartbeats 3200000 in
set_option maxRecDepth 100000 in
/-- Copy of a disk that New has not made -/
theorem Copy_zero (z : Nat) (w : World) (hz : w.heap[z]? = some (.cells #[.int .i64 0, .int .i64 0, .map none, .slice none 0 0, .map none] 45 (0, 0))) :
    Calls Try.prog 12 #[.pointer (some ⟨z, 0, none⟩)] w fun e w' => ∃ g, e = .returned (.pointer (some ⟨g, 0, none⟩)) ∧ w'.cell? ⟨g, 0, none⟩ = some (.int .i64 0) ∧ Below w.heap.size w w' := by
  have hmm := @run_makeMap Try.prog
  have HZ := Lib.hid hz
  have lz := row_lt hz
  have c0 : w.cell? ⟨z, 0, none⟩ = some (.int .i64 0) := (row_cell hz 0).trans rfl
  have c1 : w.cell? ⟨z, 1, none⟩ = some (.int .i64 0) := (row_cell hz 1).trans rfl
  have c2 : w.cell? ⟨z, 2, none⟩ = some (.map none) := (row_cell hz 2).trans rfl
  clear hz
  go_enter Try.func12, Try.ntmps12
  go_upto_region 3 with fail
  go_cut [3] (fun s3 wx => ∃ g, s3 = .pointer (some ⟨g, 0, none⟩) ∧ wx.cell? ⟨g, 0, none⟩ = some (.int .i64 0) ∧ w.heap.size ≤ g ∧ g < wx.heap.size ∧ Below w.heap.size w wx)
  case first =>
    go_region_held3 (fun w' => w'.cell? ⟨z, 0, none⟩ = some (.int .i64 0) ∧ w'.cell? ⟨z, 1, none⟩ = some (.int .i64 0) ∧ w'.cell? ⟨z, 2, none⟩ = some (.map none)) (go_keep)
      ((go_at_call 27; refine (copyMap_nil _).mono ?_; rintro e w1 ⟨rfl, hb1⟩
        have hbw : Below w.heap.size w w1 := by
          first
            | exact (below_drew (w := w) hb1)
            | exact (((Below.refl w.heap.size w).alloc (Nat.le_refl _) (.map #[] 0)).trans (below_drew (hb1.mono (by show w.heap.size ≤ (w.alloc _).heap.size; simp))))
        have k0 : w1.cell? ⟨z, 0, none⟩ = some (.int .i64 0) := (hbw.cell (p := ⟨z, 0, none⟩) lz).trans c0
        have k1 : w1.cell? ⟨z, 1, none⟩ = some (.int .i64 0) := (hbw.cell (p := ⟨z, 1, none⟩) lz).trans c1
        have k2 : w1.cell? ⟨z, 2, none⟩ = some (.map none) := (hbw.cell (p := ⟨z, 2, none⟩) lz).trans c2
        have HBW := Lib.hid hbw
        have hsw := hbw.size
        clear hb1 hbw))
    all_goals
      go_wp2_with fail
      go_meet
      first
        | exact ⟨w1.heap.size + 1, rfl, (row_cell (by have h5 := row_new (w1.alloc (.map #[] 0)) (.cells #[.int .i64 0, .int .i64 0, .map (some w.heap.size), .slice none 0 0, .map (some w1.heap.size)] 45); rw [World.size_alloc] at h5; exact h5) 0).trans rfl, by omega, by simp, (HBW.out.alloc hsw _).alloc (by simp; omega) _⟩
        | exact ⟨w1.heap.size, rfl, (row_cell (row_new w1 _) 0).trans rfl, hsw, by simp, HBW.out.alloc hsw _⟩
  case rest =>
    obtain ⟨g, rfl, hc, hg, hgl, hb⟩ := hcut
    have hzc : wc.cell? ⟨z, 3, none⟩ = some (.slice none 0 0) := (hb.cell (p := ⟨z, 3, none⟩) lz).trans ((row_cell HZ.out 3).trans rfl)
    have HC := Lib.hid hc
    have HB := Lib.hid hb
    have hsz := hb.size
    clear hc hb c0 c1 c2 hmm
    go_wp2_with fail
    refine (Pending_zero z wc hzc).mono ?_
    rintro e w2 ⟨gl, rfl, hb2⟩
    have HB2 := Lib.hid hb2
    clear hb2 hzc
    go_wp2
    refine wp_loop_rounds 1 ?_
    rw [rounds_succ]
    go_wp2
    go_ret
    exact ⟨g, rfl, (HB2.out.cell (p := ⟨g, 0, none⟩) hgl).trans HC.out, HB.out.trans (HB2.out.mono hsz)⟩

/-- a structure that New has not made -/
def zeroCells : Array Value := #[.int .i64 0, .int .i64 0, .map none, .slice none 0 0, .map none]

set_option maxHeartbeats 8000000 in
set_option maxRecDepth 100000 in
theorem nothing (n : Int) (keep : List Bool) (A : Option Addr) (c : Nat) (w : World) :
    Calls Try.prog 4 #[.int .i64 n, .slice A keep.length c] w fun e w' => e = .returned (.bool true) ∧ Below w.heap.size w w' := by
  generalize keep.length = kl
  go_enter Try.func4, Try.ntmps4
  go_wp2_with fail
  refine (awake_any w).mono ?_
  rintro e w1 ⟨rfl, hb1⟩
  have hs1 := hb1.size
  have HB1 := Lib.hid hb1
  clear hb1
  go_wp2_with fail
  have hz := row_alloc (row_new w1 (.cells #[.int .i64 0, .int .i64 0, .map .none, .slice .none 0 0, .map .none] 45)) (.cells #[.pointer .none, .pointer (some ⟨w1.heap.size, 0, .none⟩)] 24)
  have hl := row_new (w1.alloc (.cells #[.int .i64 0, .int .i64 0, .map .none, .slice .none 0 0, .map .none] 45)) (.cells #[.pointer .none, .pointer (some ⟨w1.heap.size, 0, .none⟩)] 24)
  have HB2 : Hid (Below w.heap.size w ((w1.alloc (.cells #[.int .i64 0, .int .i64 0, .map .none, .slice .none 0 0, .map .none] 45)).alloc (.cells #[.pointer .none, .pointer (some ⟨w1.heap.size, 0, .none⟩)] 24))) := (HB1.out.alloc hs1 _).alloc (by simp; omega) _
  rw [World.size_alloc] at hl
  have HZ := Lib.hid hz
  have HL := Lib.hid hl
  clear hz hl
  generalize (w1.alloc (.cells #[.int .i64 0, .int .i64 0, .map .none, .slice .none 0 0, .map .none] 45)).alloc (.cells #[.pointer .none, .pointer (some ⟨w1.heap.size, 0, .none⟩)] 24) = w2 at *
  go_loopw [9] (fun i wr => ∃ k : Nat, k ≤ 2 ∧ i = .int .i64 k ∧ Below w2.heap.size w2 wr) (fun i _ => 2 - (intOf i).toNat)
  case atStart => exact ⟨0, by omega, rfl, Below.refl _ _⟩
  case round =>
    obtain ⟨k, hk, rfl, hb⟩ := hrel
    have HB := Lib.hid hb
    have hsr := hb.size
    have hs2 := HB2.out.size
    have hz := row_below HZ.out hb (row_lt HZ.out)
    have hl := row_below HL.out hb (row_lt HL.out)
    have HZR := Lib.hid hz
    clear hb
    have hcase : k = 0 ∨ k = 1 ∨ k = 2 := by omega
    rcases hcase with rfl | rfl | rfl
    · have l0 : wr.cell? ⟨w1.heap.size + 1, 0, .none⟩ = some (.pointer .none) := (row_cell hl 0).trans rfl
      clear hz hl
      go_wp2_with fail
      refine (Flush_none .none wr (Blocks_nil wr)).mono ?_
      rintro e w' ⟨rfl, rfl⟩
      go_wp2_with fail
      refine (Crash_none .none A kl c wr (fun W => Blocks_nil _)).mono ?_
      rintro e w3 ⟨rfl, hb3⟩
      have HB3 : Hid (Below w2.heap.size w2 w3) := HB.out.trans (hb3.mono hsr)
      clear hb3 l0
      go_wp2_with fail
      refine (Read_out .none n w3 (has_none n w3)).mono ?_
      rintro e w' ⟨rfl, rfl⟩
      go_wp2_with fail
      refine (filled_at n w3).mono ?_
      rintro e w4 ⟨g, rfl, _, _, hb4⟩
      have HB4 : Hid (Below w2.heap.size w2 w4) := HB3.out.trans (hb4.mono HB3.out.size)
      clear hb4
      go_wp2_with fail
      refine (Write_out .none n _ w4 (has_none n w4)).mono ?_
      rintro e w' ⟨rfl, rfl⟩
      go_wp2_with fail
      refine (Blocks_nil w4).mono ?_
      rintro e w' ⟨rfl, rfl⟩
      go_wp2_with fail
      refine (Ops_nil w4).mono ?_
      rintro e w' ⟨rfl, rfl⟩
      go_wp2_with fail
      refine (Pending_nil w4).mono ?_
      rintro e w' ⟨rfl, rfl⟩
      go_wp2_with fail
      refine (Copy_nil w4).mono ?_
      rintro e w' ⟨rfl, rfl⟩
      go_wp2_with fail
      refine (Blocks_nil w4).mono ?_
      rintro e w' ⟨rfl, rfl⟩
      go_wp2
      go_roundw
      case rel => exact ⟨1, by omega, by go_num, HB4.out⟩
      case measure => simp [intOf]
    · have l1 : wr.cell? ⟨w1.heap.size + 1, 1, .none⟩ = some (.pointer (some ⟨w1.heap.size, 0, .none⟩)) := (row_cell hl 1).trans rfl
      have z0 : wr.cell? ⟨w1.heap.size, 0, .none⟩ = some (.int .i64 0) := (row_cell hz 0).trans rfl
      have lz : w1.heap.size < wr.heap.size := row_lt hz
      have hca : ∀ W : World, W.heap[w1.heap.size]? = some (.cells #[.int .i64 0, .int .i64 0, .map .none, .slice .none 0 0, .map .none] 45 (0, 0)) → W.cell? ⟨w1.heap.size, 0, .none⟩ = some (.int .i64 0) := fun W hW => (row_cell hW 0).trans rfl
      have HCA := Lib.hid hca
      clear hz hl hca
      go_wp2_with fail
      refine (Flush_none (some ⟨w1.heap.size, 0, .none⟩) wr (Blocks_at _ 0 wr (HCA.out _ HZR.out))).mono ?_
      rintro e w' ⟨rfl, rfl⟩
      go_wp2_with fail
      have hcr : Calls Try.prog 19 #[.pointer (some ⟨w1.heap.size, 0, .none⟩), .slice A kl c] wr fun e w' => e = .returned (.tuple #[]) ∧ Below wr.heap.size wr w' := by
        refine Crash_none_at (some ⟨w1.heap.size, 0, .none⟩) A kl c wr (Blocks_at _ 0 _ (HCA.out _ (row_alloc HZR.out _)))
      refine hcr.mono ?_
      rintro e w3 ⟨rfl, hb3⟩
      have HB3 : Hid (Below w2.heap.size w2 w3) := HB.out.trans (hb3.mono hsr)
      have HZ3 := Lib.hid (row_below HZR.out hb3 lz)
      clear hb3 l1 hcr z0
      go_wp2_with fail
      refine (Read_out _ n w3 (has_out w1.heap.size n 0 w3 (HCA.out _ HZ3.out) (by omega))).mono ?_
      rintro e w' ⟨rfl, rfl⟩
      go_wp2_with fail
      refine (filled_at n w3).mono ?_
      rintro e w4 ⟨g, rfl, _, _, hb4⟩
      have HB4 : Hid (Below w2.heap.size w2 w4) := HB3.out.trans (hb4.mono HB3.out.size)
      have HZ4 := Lib.hid (row_below HZ3.out hb4 (row_lt HZ3.out))
      clear hb4
      go_wp2_with fail
      refine (Write_out _ n _ w4 (has_out w1.heap.size n 0 w4 (HCA.out _ HZ4.out) (by omega))).mono ?_
      rintro e w' ⟨rfl, rfl⟩
      go_wp2_with fail
      refine (Blocks_at _ 0 w4 (HCA.out _ HZ4.out)).mono ?_
      rintro e w' ⟨rfl, rfl⟩
      go_wp2_with fail
      refine (Ops_at _ 0 w4 ((row_cell HZ4.out 1).trans rfl)).mono ?_
      rintro e w' ⟨rfl, rfl⟩
      go_wp2_with fail
      refine (Pending_zero _ w4 ((row_cell HZ4.out 3).trans rfl)).mono ?_
      rintro e w5 ⟨g5, rfl, hb5⟩
      have HB5 : Hid (Below w2.heap.size w2 w5) := HB4.out.trans (hb5.mono HB4.out.size)
      have HZ5 := Lib.hid (row_below HZ4.out hb5 (row_lt HZ4.out))
      clear hb5
      go_wp2_with fail
      refine (Copy_zero _ w5 HZ5.out).mono ?_
      rintro e w6 ⟨g6, rfl, hc6, hb6⟩
      have HB6 : Hid (Below w2.heap.size w2 w6) := HB5.out.trans (hb6.mono HB5.out.size)
      have HC6 := Lib.hid hc6
      clear hc6 hb6
      go_wp2_with fail
      refine (Blocks_at _ 0 w6 HC6.out).mono ?_
      rintro e w' ⟨rfl, rfl⟩
      go_wp2
      go_roundw
      case rel => exact ⟨2, by omega, by go_num, HB6.out⟩
      case measure => simp [intOf]
    · clear hz hl
      go_wp2
      go_ret
      exact ⟨rfl, HB2.out.trans (HB.out.mono hs2)⟩
end Go.Proofs.Ytkemakemolohdaa.LNone
