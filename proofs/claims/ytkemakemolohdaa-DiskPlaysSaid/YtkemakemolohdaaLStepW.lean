/- One operation of a script: a write, done to both disks. (Written by wip/tools/gen_step.py.) -/
import Derived.Test.YtkemakemolohdaaLStep
namespace Go.Proofs.Ytkemakemolohdaa.LStepW
open Go.RowKit WMem WPlain WAppend Ext Map DPlain DMem Mk DBase DRead DPend DWrite DFlush DPending DCopy RNew RRead RWrite RFlush DLaw LStep

theorem fill_sl {w : World} {g : Nat} {x : Int} (h : Row w g (full (octet x)) []) : Sl w (g + 1) (some ⟨g, 0, none⟩) ((fillOf x).map u8v) := by
  have h1 := h.sl (B := g + 1) (by omega)
  unfold fillOf
  split
  · rw [List.map_take]
    exact h1.take 255
  · exact h1

set_option maxHeartbeats 4000000 in
set_option maxRecDepth 100000 in
theorem step_write_short (B : Nat) (S R : Nat → Prop) (d r : Nat) (s : St) (what blk fill : Int) (K : Option Addr) (m c : Nat) (w : World) (h : Two w B S R d r s) (hq : low7 what < 4) (hB : B ≤ w.heap.size) (hN : s.N ≤ 1073741823) (hf : fill < 0) :
    Calls Try.prog 18 #[.pointer (some ⟨d, 0, none⟩), .pointer (some ⟨r, 0, none⟩), .agg #[.int .i64 what, .int .i64 blk, .int .i64 fill, .slice K m c]] w fun e w' =>
      e = .returned (.bool true) ∧ ∃ S' R', Two w' B S' R' d r (wst s blk (fillOf fill)) ∧ Below B w w' := by
  have hcnt := h.dev.count
  have hand := and7 what
  have hb0 := row_new w (.cells #[.int .i64 what, .int .i64 blk, .int .i64 fill, .slice K m c] 40)
  have HX0 : Hid (Below w.heap.size w (w.alloc (.cells #[.int .i64 what, .int .i64 blk, .int .i64 fill, .slice K m c] 40))) := (Below.refl _ _).alloc (Nat.le_refl _) _
  have hs0 : w.heap.size < (w.alloc (.cells #[.int .i64 what, .int .i64 blk, .int .i64 fill, .slice K m c] 40)).heap.size := by simp
  have hff : decide (fill < 0) = true := by simpa using hf
  have HLN : Hid ((fillOf fill).length = 255) := by show _ = _; unfold fillOf; rw [if_pos hf, List.length_take, full_len]; rfl
  have H := Lib.hid h
  have HX1 := Lib.hid hb0
  clear h hb0
  generalize low7 what = q at *
  generalize hlw : fillOf fill = lw at *
  have HLW := Lib.hid hlw
  clear hlw
  obtain rfl | rfl | rfl | rfl : q = 0 ∨ q = 1 ∨ q = 2 ∨ q = 3 := by omega
  all_goals
    go_enter Try.func18, Try.ntmps18
    go_wp2_with fail
    generalize w.alloc (.cells #[.int .i64 what, .int .i64 blk, .int .i64 fill, .slice K m c] 40) = w0 at *
    refine (filled_at fill w0).mono ?_
    rintro e w1 ⟨g, rfl, hg, hR, hb1⟩
    have hbo := (hb1.block w.heap.size hs0).trans HX1.out
    have j1 : w1.cell? ⟨w.heap.size, 1, none⟩ = some (.int .i64 blk) := (row_cell hbo 1).trans rfl
    have j2 : w1.cell? ⟨w.heap.size, 2, none⟩ = some (.int .i64 fill) := (row_cell hbo 2).trans rfl
    have HBO := Lib.hid hbo
    have hb01 : Below w.heap.size w w1 := HX0.out.trans (hb1.mono (by omega))
    have H1 := Lib.hid (H.out.below hb01)
    have HSL : Hid (Sl w1 (g + 1) (some ⟨g, 0, none⟩) (lw.map u8v)) := by rw [← HLW.out]; exact fill_sl hR
    have hgl : g < w1.heap.size := hR.lt
    have HR := Lib.hid hR
    have HB01 := Lib.hid hb01
    clear hbo hb1 hb01 hR
    go_wp2_with fail
    refine (WriteU S d blk s lw (g + 1) (some ⟨g, 0, none⟩) _ 255 w1 H1.out.dev HSL.out (by omega) HLN.out (by omega) (by omega)).mono ?_
    rintro e w2 ⟨rfl, S2, hd2, he2, hi2⟩
    have hs1 := HB01.out.size
    have gS : ¬ S g := fun hq => by have := H.out.dev.there g hq; omega
    have oS : ¬ S w.heap.size := fun hq => by have := H.out.dev.there _ hq; omega
    have HBO2 := Lib.hid ((he2.block w.heap.size (by omega) oS).trans HBO.out)
    have j3 : w2.cell? ⟨w.heap.size, 1, none⟩ = some (.int .i64 blk) := (row_cell HBO2.out 1).trans rfl
    have HR2 : Hid (Row w2 g (full (octet fill)) []) := (he2.block g hgl gS).trans HR.out
    have HSL2 : Hid (Sl w2 (g + 1) (some ⟨g, 0, none⟩) (lw.map u8v)) := by rw [← HLW.out]; exact fill_sl HR2.out
    have HR1 : Hid (RD w2 R r s) := H1.out.doc.ext he2 H1.out.far
    have hs2 := he2.size
    have HD2 := Lib.hid hd2
    have HE2 := Lib.hid he2
    have HI2 := Lib.hid hi2
    clear hd2 he2 hi2
    go_wp2_with fail
    refine (RWriteU R r blk s lw (g + 1) (some ⟨g, 0, none⟩) _ 255 w2 HR1.out HSL2.out HLN.out (by omega) (by omega) (by omega)).mono ?_
    rintro e w3 ⟨rfl, R3, hd3, he3, hi3⟩
    have gR : ¬ R g := fun hq => by have := H.out.doc.there g hq; omega
    have HR3 : Hid (Row w3 g (full (octet fill)) []) := (he3.block g (by omega) gR).trans HR2.out
    have hs3 := he3.size
    have HFAR : Hid (Far S2 R) := H1.out.far.step HI2.out H1.out.doc.there
    have HFAR3 : Hid (Far S2 R3) := (HFAR.out.symm.step hi3 HD2.out.there).symm
    have HD3 := Lib.hid (HD2.out.ext he3 HFAR.out.symm)
    have HRD3 := Lib.hid hd3
    have HE3 := Lib.hid he3
    have HI3 := Lib.hid hi3
    have HGS : Hid (¬ S2 g) := not_in (w' := w) HI2.out H.out.dev.there (by omega) hgl
    have HGR : Hid (¬ R3 g) := not_in (w' := w) hi3 H.out.doc.there (by omega) (by omega)
    clear hd3 he3 hi3 gS oS gR j1 j2 j3
    have hee : (werr s blk 255 == werr s blk 255) = true := beq_self_eq_true _
    go_wp2_with fail
    go_loopw [10] (fun i wr => ∃ (k : Nat) (l' : List UInt8), k ≤ 256 ∧ i = .int .i64 k ∧ l'.length = 256 ∧ Row wr g l' [] ∧ w3.grownBy wr (some g)) (fun i _ => 256 - (intOf i).toNat)
    case atStart => exact ⟨0, _, Nat.zero_le _, rfl, full_len _, HR3.out, grown_refl _ _⟩
    case round =>
      obtain ⟨k, l', hk, rfl, hll, hRr, hgr⟩ := hrel
      have HRr := Lib.hid hRr
      have HGr := Lib.hid hgr
      have HLL := Lib.hid hll
      clear hRr hgr
      by_cases hlt : k < 255
      · have hcc := HRr.out.cell (i := k) (by omega)
        have hfz := HRr.out.free k
        have hx1 := xor1 (l'[k]'(by omega))
        have hox := byte_lt (l'[k]'(by omega))
        generalize l'[k]'(by omega) = old at hcc hx1 hox
        generalize old ^^^ 1 = new at *
        clear hll
        go_wp2
        go_roundw
        case rel => exact ⟨k + 1, l'.set k new, by omega, by go_num, by rw [List.length_set]; exact HLL.out, HRr.out.set (by rw [HLL.out]; omega) new, grown_set HGr.out _ _⟩
        case measure => simp [intOf]; omega
      · clear hll
        go_wp2
        go_ret
        have hex : Ext (fun q => q = g) w3 wr := Ext.of_grown HGr.out (fun q hq _ => (Option.some.inj hq).symm)
        refine ⟨rfl, S2, R3, ⟨HD3.out.ext hex (fun q h1 h2 => HGS.out (h1 ▸ h2)), HRD3.out.ext hex (fun q h1 h2 => HGR.out (h1 ▸ h2)), HFAR3.out, in_new HI2.out H.out.newS (by omega), in_new HI3.out H.out.newR (by omega)⟩, ?_⟩
        exact (((HB01.out.mono hB).trans (HE2.out.below (by omega) H.out.newS)).trans (HE3.out.below (by omega) H.out.newR)).trans (hex.below (by omega) (fun q hq => by omega))

set_option maxHeartbeats 4000000 in
set_option maxRecDepth 100000 in
theorem step_write_full (B : Nat) (S R : Nat → Prop) (d r : Nat) (s : St) (what blk fill : Int) (K : Option Addr) (m c : Nat) (w : World) (h : Two w B S R d r s) (hq : low7 what < 4) (hB : B ≤ w.heap.size) (hN : s.N ≤ 1073741823) (hf : ¬ fill < 0) :
    Calls Try.prog 18 #[.pointer (some ⟨d, 0, none⟩), .pointer (some ⟨r, 0, none⟩), .agg #[.int .i64 what, .int .i64 blk, .int .i64 fill, .slice K m c]] w fun e w' =>
      e = .returned (.bool true) ∧ ∃ S' R', Two w' B S' R' d r (wst s blk (fillOf fill)) ∧ Below B w w' := by
  have hcnt := h.dev.count
  have hand := and7 what
  have hb0 := row_new w (.cells #[.int .i64 what, .int .i64 blk, .int .i64 fill, .slice K m c] 40)
  have HX0 : Hid (Below w.heap.size w (w.alloc (.cells #[.int .i64 what, .int .i64 blk, .int .i64 fill, .slice K m c] 40))) := (Below.refl _ _).alloc (Nat.le_refl _) _
  have hs0 : w.heap.size < (w.alloc (.cells #[.int .i64 what, .int .i64 blk, .int .i64 fill, .slice K m c] 40)).heap.size := by simp
  have hff : decide (fill < 0) = false := by simpa using hf
  have HLN : Hid ((fillOf fill).length = 256) := by show _ = _; unfold fillOf; rw [if_neg hf, full_len]
  have H := Lib.hid h
  have HX1 := Lib.hid hb0
  clear h hb0
  generalize low7 what = q at *
  generalize hlw : fillOf fill = lw at *
  have HLW := Lib.hid hlw
  clear hlw
  obtain rfl | rfl | rfl | rfl : q = 0 ∨ q = 1 ∨ q = 2 ∨ q = 3 := by omega
  all_goals
    go_enter Try.func18, Try.ntmps18
    go_wp2_with fail
    generalize w.alloc (.cells #[.int .i64 what, .int .i64 blk, .int .i64 fill, .slice K m c] 40) = w0 at *
    refine (filled_at fill w0).mono ?_
    rintro e w1 ⟨g, rfl, hg, hR, hb1⟩
    have hbo := (hb1.block w.heap.size hs0).trans HX1.out
    have j1 : w1.cell? ⟨w.heap.size, 1, none⟩ = some (.int .i64 blk) := (row_cell hbo 1).trans rfl
    have j2 : w1.cell? ⟨w.heap.size, 2, none⟩ = some (.int .i64 fill) := (row_cell hbo 2).trans rfl
    have HBO := Lib.hid hbo
    have hb01 : Below w.heap.size w w1 := HX0.out.trans (hb1.mono (by omega))
    have H1 := Lib.hid (H.out.below hb01)
    have HSL : Hid (Sl w1 (g + 1) (some ⟨g, 0, none⟩) (lw.map u8v)) := by rw [← HLW.out]; exact fill_sl hR
    have hgl : g < w1.heap.size := hR.lt
    have HR := Lib.hid hR
    have HB01 := Lib.hid hb01
    clear hbo hb1 hb01 hR
    go_wp2_with fail
    refine (WriteU S d blk s lw (g + 1) (some ⟨g, 0, none⟩) _ 256 w1 H1.out.dev HSL.out (by omega) HLN.out (by omega) (by omega)).mono ?_
    rintro e w2 ⟨rfl, S2, hd2, he2, hi2⟩
    have hs1 := HB01.out.size
    have gS : ¬ S g := fun hq => by have := H.out.dev.there g hq; omega
    have oS : ¬ S w.heap.size := fun hq => by have := H.out.dev.there _ hq; omega
    have HBO2 := Lib.hid ((he2.block w.heap.size (by omega) oS).trans HBO.out)
    have j3 : w2.cell? ⟨w.heap.size, 1, none⟩ = some (.int .i64 blk) := (row_cell HBO2.out 1).trans rfl
    have HR2 : Hid (Row w2 g (full (octet fill)) []) := (he2.block g hgl gS).trans HR.out
    have HSL2 : Hid (Sl w2 (g + 1) (some ⟨g, 0, none⟩) (lw.map u8v)) := by rw [← HLW.out]; exact fill_sl HR2.out
    have HR1 : Hid (RD w2 R r s) := H1.out.doc.ext he2 H1.out.far
    have hs2 := he2.size
    have HD2 := Lib.hid hd2
    have HE2 := Lib.hid he2
    have HI2 := Lib.hid hi2
    clear hd2 he2 hi2
    go_wp2_with fail
    refine (RWriteU R r blk s lw (g + 1) (some ⟨g, 0, none⟩) _ 256 w2 HR1.out HSL2.out HLN.out (by omega) (by omega) (by omega)).mono ?_
    rintro e w3 ⟨rfl, R3, hd3, he3, hi3⟩
    have gR : ¬ R g := fun hq => by have := H.out.doc.there g hq; omega
    have HR3 : Hid (Row w3 g (full (octet fill)) []) := (he3.block g (by omega) gR).trans HR2.out
    have hs3 := he3.size
    have HFAR : Hid (Far S2 R) := H1.out.far.step HI2.out H1.out.doc.there
    have HFAR3 : Hid (Far S2 R3) := (HFAR.out.symm.step hi3 HD2.out.there).symm
    have HD3 := Lib.hid (HD2.out.ext he3 HFAR.out.symm)
    have HRD3 := Lib.hid hd3
    have HE3 := Lib.hid he3
    have HI3 := Lib.hid hi3
    have HGS : Hid (¬ S2 g) := not_in (w' := w) HI2.out H.out.dev.there (by omega) hgl
    have HGR : Hid (¬ R3 g) := not_in (w' := w) hi3 H.out.doc.there (by omega) (by omega)
    clear hd3 he3 hi3 gS oS gR j1 j2 j3
    have hee : (werr s blk 256 == werr s blk 256) = true := beq_self_eq_true _
    go_wp2_with fail
    go_loopw [10] (fun i wr => ∃ (k : Nat) (l' : List UInt8), k ≤ 256 ∧ i = .int .i64 k ∧ l'.length = 256 ∧ Row wr g l' [] ∧ w3.grownBy wr (some g)) (fun i _ => 256 - (intOf i).toNat)
    case atStart => exact ⟨0, _, Nat.zero_le _, rfl, full_len _, HR3.out, grown_refl _ _⟩
    case round =>
      obtain ⟨k, l', hk, rfl, hll, hRr, hgr⟩ := hrel
      have HRr := Lib.hid hRr
      have HGr := Lib.hid hgr
      have HLL := Lib.hid hll
      clear hRr hgr
      by_cases hlt : k < 256
      · have hcc := HRr.out.cell (i := k) (by omega)
        have hfz := HRr.out.free k
        have hx1 := xor1 (l'[k]'(by omega))
        have hox := byte_lt (l'[k]'(by omega))
        generalize l'[k]'(by omega) = old at hcc hx1 hox
        generalize old ^^^ 1 = new at *
        clear hll
        go_wp2
        go_roundw
        case rel => exact ⟨k + 1, l'.set k new, by omega, by go_num, by rw [List.length_set]; exact HLL.out, HRr.out.set (by rw [HLL.out]; omega) new, grown_set HGr.out _ _⟩
        case measure => simp [intOf]; omega
      · clear hll
        go_wp2
        go_ret
        have hex : Ext (fun q => q = g) w3 wr := Ext.of_grown HGr.out (fun q hq _ => (Option.some.inj hq).symm)
        refine ⟨rfl, S2, R3, ⟨HD3.out.ext hex (fun q h1 h2 => HGS.out (h1 ▸ h2)), HRD3.out.ext hex (fun q h1 h2 => HGR.out (h1 ▸ h2)), HFAR3.out, in_new HI2.out H.out.newS (by omega), in_new HI3.out H.out.newR (by omega)⟩, ?_⟩
        exact (((HB01.out.mono hB).trans (HE2.out.below (by omega) H.out.newS)).trans (HE3.out.below (by omega) H.out.newR)).trans (hex.below (by omega) (fun q hq => by omega))
end Go.Proofs.Ytkemakemolohdaa.LStepW
