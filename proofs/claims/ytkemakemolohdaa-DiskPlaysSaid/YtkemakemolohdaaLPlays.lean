/- DiskPlays walked: a script is done to the program's disk and to the document's, and they answer alike at each operation and at the end. -/
import Derived.Test.YtkemakemolohdaaLWhole
import Derived.Test.YtkemakemolohdaaLReads
namespace Go.Proofs.Ytkemakemolohdaa.LPlays
open Go.RowKit WMem WPlain WAppend Ext Map DPlain DMem Mk DBase DRead DPend DWrite DFlush DPending DCopy RNew RRead RWrite RFlush DLaw LStep LStepP LAlike LAwake LMade LWhole RCopy

set_option maxHeartbeats 8000000 in
set_option maxRecDepth 100000 in
theorem plays (blocks : Int) (ops : List OpV) (A : Option Addr) (cap : Nat) (w : World) (hA : OpsIn w w.heap.size A ops) (hl : ops.length ≤ 140737488355328) :
    Calls Try.prog 3 #[.int .i64 blocks, .slice A ops.length cap] w fun e w' => e = .returned (.bool true) ∧ Below w.heap.size w w' := by
  have HA := Lib.hid hA
  clear hA
  by_cases hin : 128 ≤ blocks ∧ blocks ≤ 4096
  · obtain ⟨n, rfl⟩ := Int.eq_ofNat_of_zero_le (show 0 ≤ blocks by omega)
    have h0 : 128 ≤ n := by omega
    have h1 : n ≤ 4096 := by omega
    have hsn : (St.new n).N = 0 := rfl
    have HSN := Lib.hid hsn
    clear hin hsn
    go_enter Try.func3, Try.ntmps3
    go_wp2_with fail
    refine (awake_any w).mono ?_
    rintro e w1 ⟨rfl, hb1⟩
    have hs1 := hb1.size
    have HB1 := Lib.hid hb1
    clear hb1
    go_wp2_with fail
    refine (New_yes n w1 h0 h1).mono ?_
    rintro e w2 ⟨d, rfl, hd, hb2⟩
    have hs2 := hb2.size
    have HD := Lib.hid hd
    have HB2 : Hid (Below w.heap.size w w2) := HB1.out.trans (hb2.mono hs1)
    clear hd hb2
    go_wp2_with fail
    refine (RNew_yes n w2 h0 h1).mono ?_
    rintro e w3 ⟨r, rfl, hr, hb3⟩
    have hs3 := hb3.size
    have HT : Hid (Two w3 w.heap.size (Made w1 w2) (Made w2 w3) d r (St.new n)) := ⟨HD.out.below hb3, hr, fun k h1 h2 => by have := h1.2; have := h2.1; omega, fun k hk => by have := hk.1; omega, fun k hk => by have := hk.1; omega⟩
    have HB3 : Hid (Below w.heap.size w w3) := HB2.out.trans (hb3.mono (by omega))
    clear hr hb3
    go_wp2_with fail
    refine (Copy_ok (Made w1 w2) d (St.new n) w3 HT.out.dev (by rw [HSN.out]; omega)).mono ?_
    rintro e w4 ⟨q0, Sq0, rfl, _, _, hb4⟩
    have HT4 := Lib.hid (HT.out.below hb4)
    have HB4 : Hid (Below w.heap.size w w4) := HB3.out.trans (hb4.mono (by omega))
    clear hb4
    go_wp2
    go_loopw [11] (fun i wr => ∃ (k : Nat) (S R : Nat → Prop), k ≤ ops.length ∧ k ≤ 2000 ∧ i = .int .i64 k ∧ Two wr w.heap.size S R d r (runs (St.new n) ops k) ∧ Below w.heap.size w wr) (fun i _ => ops.length - (intOf i).toNat)
    case atStart => exact ⟨0, _, _, Nat.zero_le _, Nat.zero_le _, rfl, by rw [runs_zero]; exact HT4.out, HB4.out⟩
    case round =>
      obtain ⟨k, S, R, hk, hk5, rfl, ht, hb⟩ := hrel
      have HTr := Lib.hid ht
      have HBr := Lib.hid hb
      have hsr := hb.size
      have hcn : (runs (St.new n) ops k).N ≤ 2000 := by have h1 := runs_count (St.new n) ops k; rw [HSN.out] at h1; omega
      have hcp := ht.dev.count
      have hlen := ht.dev.len
      clear ht hb
      by_cases hlt : k < ops.length ∧ k < 2000
      · obtain ⟨hlt1, hlt2⟩ := hlt
        obtain ⟨a, K, ck, rfl, hab, p0, p1, p2, p3, hK⟩ := HA.out k hlt1
        have PK := Lib.hid (And.intro p0 (And.intro p1 (And.intro p2 (And.intro p3 hK))))
        have hk0 : (0 : Int) ≤ (k : Int) := Int.natCast_nonneg _
        have hk1 : (k : Int) < (ops.length : Int) := by omega
        have hk2 : (k : Int) < 2000 := by omega
        have HRS := Lib.hid (runs_succ (St.new n) ops hlt1)
        clear p0 p1 p2 p3 hK
        generalize ops[k] = o at *
        generalize runs (St.new n) ops k = s at *
        by_cases hh : (k : Int) = (ops.length : Int) / 2
        · have hh1 : ((k : Int) == (ops.length : Int) / 2) = true := by rw [← hh]; exact beq_self_eq_true _
          clear hh
          go_wp2_with fail
          refine (Copy_ok S d s wr HTr.out.dev (by omega)).mono ?_
          rintro e w5 ⟨q, Sq, rfl, hq5, hqn, hb5⟩
          have HT5 := Lib.hid (HTr.out.below hb5)
          have HB5 := Lib.hid hb5
          have hs5 := hb5.size
          have HQ5 := Lib.hid hq5
          have HQN := Lib.hid hqn
          clear hq5 hqn hb5
          go_wp2_with fail
          refine (RCopy_ok R r s w5 HT5.out.doc (by omega)).mono ?_
          rintro e w6 ⟨t, St, rfl, ht6, htn, hb6⟩
          have HB6 : Hid (Below wr.heap.size wr w6) := HB5.out.trans (hb6.mono hs5)
          have HQ6 := Lib.hid (HQ5.out.below hb6)
          have HR6 := Lib.hid ht6
          clear ht6 htn hb6
          go_wp2_with fail
          refine (whole_yes Sq St q t s w6 HQ6.out HR6.out (by omega)).mono ?_
          rintro e w7 ⟨rfl, hb7⟩
          have HB7 : Hid (Below wr.heap.size wr w7) := HB6.out.trans (hb7.mono HB6.out.size)
          have HQ7 := Lib.hid (HQ6.out.below hb7)
          clear hb7
          go_wp2_with fail
          refine (filled_at 1 w7).mono ?_
          rintro e w8 ⟨g, rfl, hg, hRg, hb8⟩
          have HB8 : Hid (Below wr.heap.size wr w8) := HB7.out.trans (hb8.mono HB7.out.size)
          have HQ8 := Lib.hid (HQ7.out.below hb8)
          have HSL := Lib.hid (hRg.sl hRg.lt)
          clear hg hRg hb8
          go_wp2_with fail
          refine (WriteU Sq q 0 s (full (octet 1)) w8.heap.size (some ⟨g, 0, none⟩) 256 256 w8 HQ8.out HSL.out (Nat.le_refl _) (full_len _) (Nat.le_refl _) (by omega)).mono ?_
          rintro e w9 ⟨rfl, S9, hd9, he9, hi9⟩
          have HB9 : Hid (Below wr.heap.size wr w9) := HB8.out.trans (he9.below HB8.out.size HQN.out)
          have HQ9 := Lib.hid hd9
          have HN9 : Hid (∀ x, S9 x → wr.heap.size ≤ x) := in_new hi9 HQN.out HB8.out.size
          have hc9 := wst_count s 0 (full (octet 1))
          clear hd9 he9 hi9
          go_wp2_with fail
          refine (Flush_ok S9 q _ w9 HQ9.out (by omega)).mono ?_
          rintro e wx ⟨rfl, S10, hd10, he10, hi10⟩
          have hbx : Below wr.heap.size wr wx := HB9.out.trans (he10.below HB9.out.size HN9.out)
          have HTX := Lib.hid (HTr.out.below hbx)
          have HBX : Hid (Below w.heap.size w wx) := HBr.out.trans (hbx.mono hsr)
          clear hd10 he10 hi10 hbx
          have hsx := HBX.out.size
          have hkc : ∀ n, wx.cell? (a.add n) = w.cell? (a.add n) := fun n => HBX.out.cell (by rw [addr_add_block]; omega)
          have r0 := (hkc _).trans PK.out.1
          have r1 : wx.cell? ⟨(a.add (k * 4)).block, (a.add (k * 4)).off + 1, none⟩ = _ := (congrArg wx.cell? (addr_field a (k * 4) 1 (by decide))).trans ((hkc _).trans PK.out.2.1)
          have r2 : wx.cell? ⟨(a.add (k * 4)).block, (a.add (k * 4)).off + 2, none⟩ = _ := (congrArg wx.cell? (addr_field a (k * 4) 2 (by decide))).trans ((hkc _).trans PK.out.2.2.1)
          have r3 : wx.cell? ⟨(a.add (k * 4)).block, (a.add (k * 4)).off + 3, none⟩ = _ := (congrArg wx.cell? (addr_field a (k * 4) 3 (by decide))).trans ((hkc _).trans PK.out.2.2.2.1)
          have HK : Hid (Sl wx w.heap.size K (o.keep.map boolv)) := PK.out.2.2.2.2.below_le HBX.out (Nat.le_refl _)
          clear hkc
          go_wp2_with fail
          refine (step_any w.heap.size S R d r s o K ck wx HTX.out HK.out hsx (by omega)).mono ?_
          rintro e w11 ⟨rfl, S', R', ht3, hb3⟩
          have HT3 := Lib.hid ht3
          have HB3x := Lib.hid hb3
          clear ht3 hb3
          go_wp2
          go_roundw
          case rel => exact ⟨k + 1, S', R', by omega, by omega, by go_num, by rw [HRS.out]; exact HT3.out, HBX.out.trans HB3x.out⟩
          case measure => simp [intOf]; omega
        · have hh1 : ((k : Int) == (ops.length : Int) / 2) = false := by rw [beq_eq_false_iff_ne]; exact hh
          clear hh
          have hsx := HBr.out.size
          have hkc : ∀ n, wr.cell? (a.add n) = w.cell? (a.add n) := fun n => HBr.out.cell (by rw [addr_add_block]; omega)
          have r0 := (hkc _).trans PK.out.1
          have r1 : wr.cell? ⟨(a.add (k * 4)).block, (a.add (k * 4)).off + 1, none⟩ = _ := (congrArg wr.cell? (addr_field a (k * 4) 1 (by decide))).trans ((hkc _).trans PK.out.2.1)
          have r2 : wr.cell? ⟨(a.add (k * 4)).block, (a.add (k * 4)).off + 2, none⟩ = _ := (congrArg wr.cell? (addr_field a (k * 4) 2 (by decide))).trans ((hkc _).trans PK.out.2.2.1)
          have r3 : wr.cell? ⟨(a.add (k * 4)).block, (a.add (k * 4)).off + 3, none⟩ = _ := (congrArg wr.cell? (addr_field a (k * 4) 3 (by decide))).trans ((hkc _).trans PK.out.2.2.2.1)
          have HK : Hid (Sl wr w.heap.size K (o.keep.map boolv)) := PK.out.2.2.2.2.below_le HBr.out (Nat.le_refl _)
          clear hkc
          go_wp2_with fail
          refine (step_any w.heap.size S R d r s o K ck wr HTr.out HK.out hsx (by omega)).mono ?_
          rintro e w11 ⟨rfl, S', R', ht3, hb3⟩
          have HT3 := Lib.hid ht3
          have HB3x := Lib.hid hb3
          clear ht3 hb3
          go_wp2
          go_roundw
          case rel => exact ⟨k + 1, S', R', by omega, by omega, by go_num, by rw [HRS.out]; exact HT3.out, HBr.out.trans HB3x.out⟩
          case measure => simp [intOf]; omega
      · by_cases e : k < ops.length
        · have hd1 : decide ((k : Int) < 2000) = false := by simp; omega
          have hk1 : (k : Int) < (ops.length : Int) := by omega
          clear hlt
          go_wp2_with fail
          refine (whole_yes S R d r _ wr HTr.out.dev HTr.out.doc (by omega)).mono ?_
          rintro e w9 ⟨rfl, hb9⟩
          have HB9 : Hid (Below w.heap.size w w9) := HBr.out.trans (hb9.mono hsr)
          clear hb9
          go_wp2
          go_ret
          exact ⟨rfl, HB9.out⟩
        · have hd1 : decide ((k : Int) < (ops.length : Int)) = false := by simp; omega
          clear hlt
          go_wp2_with fail
          refine (whole_yes S R d r _ wr HTr.out.dev HTr.out.doc (by omega)).mono ?_
          rintro e w9 ⟨rfl, hb9⟩
          have HB9 : Hid (Below w.heap.size w w9) := HBr.out.trans (hb9.mono hsr)
          clear hb9
          go_wp2
          go_ret
          exact ⟨rfl, HB9.out⟩
  · have hno : blocks < 128 ∨ 4096 < blocks := by omega
    clear hin
    go_enter Try.func3, Try.ntmps3
    go_wp2_with fail
    refine (awake_any w).mono ?_
    rintro e w1 ⟨rfl, hb1⟩
    have HB1 := Lib.hid hb1
    clear hb1
    go_wp2_with fail
    refine (New_no blocks w1 hno).mono ?_
    rintro e w2 ⟨rfl, rfl⟩
    go_wp2_with fail
    refine (RNew_no blocks w1 hno).mono ?_
    rintro e w2 ⟨rfl, rfl⟩
    go_wp2
    go_ret
    exact ⟨rfl, HB1.out⟩
end Go.Proofs.Ytkemakemolohdaa.LPlays
