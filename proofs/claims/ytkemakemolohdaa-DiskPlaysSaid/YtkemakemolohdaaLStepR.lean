/- One operation of a script: a read, a flush, a crash, a look at what is pending, done to both disks. -/
import Derived.Test.YtkemakemolohdaaLStepW
namespace Go.Proofs.Ytkemakemolohdaa.LStepR
open Go.RowKit WMem WPlain WAppend Ext Map DPlain DMem Mk DBase DRead DPend DWrite DFlush DPending DCopy RNew RRead RWrite RFlush DLaw LStep

set_option maxHeartbeats 4000000 in
set_option maxRecDepth 100000 in
theorem step_flush (B : Nat) (S R : Nat → Prop) (d r : Nat) (s : St) (what blk fill : Int) (K : Option Addr) (m c : Nat) (w : World) (h : Two w B S R d r s) (hq : low7 what = 5) (hB : B ≤ w.heap.size) (hN : s.N ≤ 1073741823) :
    Calls Try.prog 18 #[.pointer (some ⟨d, 0, none⟩), .pointer (some ⟨r, 0, none⟩), .agg #[.int .i64 what, .int .i64 blk, .int .i64 fill, .slice K m c]] w fun e w' =>
      e = .returned (.bool true) ∧ ∃ S' R', Two w' B S' R' d r s.flush ∧ Below B w w' := by
  have hcnt := h.dev.count
  have hand := and7 what
  have HX0 : Hid (Below w.heap.size w (w.alloc (.cells #[.int .i64 what, .int .i64 blk, .int .i64 fill, .slice K m c] 40))) := (Below.refl _ _).alloc (Nat.le_refl _) _
  have hs0 : w.heap.size < (w.alloc (.cells #[.int .i64 what, .int .i64 blk, .int .i64 fill, .slice K m c] 40)).heap.size := by simp
  have H := Lib.hid (h.below HX0.out)
  clear h
  generalize low7 what = q at *
  subst hq
  go_enter Try.func18, Try.ntmps18
  go_wp2_with fail
  generalize w.alloc (.cells #[.int .i64 what, .int .i64 blk, .int .i64 fill, .slice K m c] 40) = w0 at *
  refine (Flush_ok S d s w0 H.out.dev (by omega)).mono ?_
  rintro e w1 ⟨rfl, S1, hd1, he1, hi1⟩
  have hs1 := he1.size
  have HD1 := Lib.hid hd1
  have HE1 := Lib.hid he1
  have HI1 := Lib.hid hi1
  clear hd1 he1 hi1
  go_wp2_with fail
  refine (RFlush_ok R r s w1 (H.out.doc.ext HE1.out H.out.far) (by omega) (by omega)).mono ?_
  rintro e w2 ⟨rfl, R2, hd2, he2, hi2⟩
  have HFAR : Hid (Far S1 R) := H.out.far.step HI1.out H.out.doc.there
  have HFAR2 : Hid (Far S1 R2) := (HFAR.out.symm.step hi2 HD1.out.there).symm
  have HD2 := Lib.hid hd2
  have HE2 := Lib.hid he2
  have HI2 := Lib.hid hi2
  clear hd2 he2 hi2
  go_wp2
  go_ret
  exact ⟨rfl, S1, R2, ⟨HD1.out.ext HE2.out HFAR.out.symm, HD2.out, HFAR2.out, in_new HI1.out H.out.newS (by omega), in_new HI2.out H.out.newR (by omega)⟩, ((HX0.out.mono hB).trans (HE1.out.below (by omega) H.out.newS)).trans (HE2.out.below (by omega) H.out.newR)⟩

set_option maxHeartbeats 4000000 in
set_option maxRecDepth 100000 in
theorem step_crash (B : Nat) (S R : Nat → Prop) (d r : Nat) (s : St) (what blk fill : Int) (keep : List Bool) (K : Option Addr) (c : Nat) (w : World) (h : Two w B S R d r s) (hK : Sl w B K (keep.map boolv)) (hq : low7 what = 6) (hB : B ≤ w.heap.size) (hN : s.N ≤ 1073741823) :
    Calls Try.prog 18 #[.pointer (some ⟨d, 0, none⟩), .pointer (some ⟨r, 0, none⟩), .agg #[.int .i64 what, .int .i64 blk, .int .i64 fill, .slice K keep.length c]] w fun e w' =>
      e = .returned (.bool true) ∧ ∃ S' R', Two w' B S' R' d r (s.crash keep) ∧ Below B w w' := by
  have hcnt := h.dev.count
  have hand := and7 what
  have hb0 := row_new w (.cells #[.int .i64 what, .int .i64 blk, .int .i64 fill, .slice K keep.length c] 40)
  have HX0 : Hid (Below w.heap.size w (w.alloc (.cells #[.int .i64 what, .int .i64 blk, .int .i64 fill, .slice K keep.length c] 40))) := (Below.refl _ _).alloc (Nat.le_refl _) _
  have hs0 : w.heap.size < (w.alloc (.cells #[.int .i64 what, .int .i64 blk, .int .i64 fill, .slice K keep.length c] 40)).heap.size := by simp
  have oS : ¬ S w.heap.size := fun hq => by have := h.dev.there _ hq; omega
  have H := Lib.hid (h.below HX0.out)
  have HK := Lib.hid (hK.below_le HX0.out hB)
  have HBO := Lib.hid hb0
  clear h hK hb0
  generalize low7 what = q at *
  subst hq
  go_enter Try.func18, Try.ntmps18
  go_wp2_with fail
  generalize w.alloc (.cells #[.int .i64 what, .int .i64 blk, .int .i64 fill, .slice K keep.length c] 40) = w0 at *
  refine (Crash_ok S d s keep B K c w0 H.out.dev HK.out (by omega) (by omega)).mono ?_
  rintro e w1 ⟨rfl, S1, hd1, he1, hi1⟩
  have hs1 := he1.size
  have HBO1 := Lib.hid ((he1.block w.heap.size (by omega) oS).trans HBO.out)
  have j3 : w1.cell? ⟨w.heap.size, 3, none⟩ = some (.slice K keep.length c) := (row_cell HBO1.out 3).trans rfl
  have HK1 : Hid (Sl w1 B K (keep.map boolv)) := HK.out.below (he1.below (by omega) H.out.newS)
  have HD1 := Lib.hid hd1
  have HE1 := Lib.hid he1
  have HI1 := Lib.hid hi1
  clear hd1 he1 hi1 oS
  go_wp2_with fail
  refine (RCrash_ok R r s keep B K c w1 (H.out.doc.ext HE1.out H.out.far) HK1.out H.out.newR (by omega) (by omega)).mono ?_
  rintro e w2 ⟨rfl, R2, hd2, he2, hi2⟩
  have HFAR : Hid (Far S1 R) := H.out.far.step HI1.out H.out.doc.there
  have HFAR2 : Hid (Far S1 R2) := (HFAR.out.symm.step hi2 HD1.out.there).symm
  have HD2 := Lib.hid hd2
  have HE2 := Lib.hid he2
  have HI2 := Lib.hid hi2
  clear hd2 he2 hi2
  go_wp2
  go_ret
  exact ⟨rfl, S1, R2, ⟨HD1.out.ext HE2.out HFAR.out.symm, HD2.out, HFAR2.out, in_new HI1.out H.out.newS (by omega), in_new HI2.out H.out.newR (by omega)⟩, ((HX0.out.mono hB).trans (HE1.out.below (by omega) H.out.newS)).trans (HE2.out.below (by omega) H.out.newR)⟩

set_option maxHeartbeats 4000000 in
set_option maxRecDepth 100000 in
theorem step_read_no (B : Nat) (S R : Nat → Prop) (d r : Nat) (s : St) (what blk fill : Int) (K : Option Addr) (m c : Nat) (w : World) (h : Two w B S R d r s) (hq : low7 what = 4) (hB : B ≤ w.heap.size) (hn : blk < 0 ∨ (s.L.length : Int) ≤ blk) :
    Calls Try.prog 18 #[.pointer (some ⟨d, 0, none⟩), .pointer (some ⟨r, 0, none⟩), .agg #[.int .i64 what, .int .i64 blk, .int .i64 fill, .slice K m c]] w fun e w' =>
      e = .returned (.bool true) ∧ Two w' B S R d r s ∧ Below B w w' := by
  have hand := and7 what
  have HX0 : Hid (Below w.heap.size w (w.alloc (.cells #[.int .i64 what, .int .i64 blk, .int .i64 fill, .slice K m c] 40))) := (Below.refl _ _).alloc (Nat.le_refl _) _
  have H := Lib.hid (h.below HX0.out)
  have HNN := Lib.hid hn
  have hb0 := row_new w (.cells #[.int .i64 what, .int .i64 blk, .int .i64 fill, .slice K m c] 40)
  have j1 : (w.alloc (.cells #[.int .i64 what, .int .i64 blk, .int .i64 fill, .slice K m c] 40)).cell? ⟨w.heap.size, 1, none⟩ = some (.int .i64 blk) := (row_cell hb0 1).trans rfl
  clear h hn hb0
  generalize low7 what = q at *
  subst hq
  go_enter Try.func18, Try.ntmps18
  go_wp2_with fail
  generalize w.alloc (.cells #[.int .i64 what, .int .i64 blk, .int .i64 fill, .slice K m c] 40) = w0 at *
  refine (Read_no S d blk s w0 H.out.dev HNN.out).mono ?_
  rintro e w1 ⟨rfl, rfl⟩
  go_wp2_with fail
  refine (RRead_no R r blk s w0 H.out.doc HNN.out).mono ?_
  rintro e w1 ⟨rfl, rfl⟩
  go_wp2_with fail
  refine (Same_nil w0).mono ?_
  rintro e w1 ⟨rfl, n, rfl⟩
  go_wp2
  refine wp_loop_rounds 1 ?_
  rw [rounds_succ]
  go_wp2
  go_ret
  exact ⟨rfl, H.out.below (below_drewN (Below.refl _ _) n), below_drewN (HX0.out.mono hB) n⟩

set_option maxHeartbeats 4000000 in
set_option maxRecDepth 100000 in
theorem step_read_yes (B : Nat) (S R : Nat → Prop) (d r : Nat) (s : St) (what fill : Int) (blk : Nat) (K : Option Addr) (m c : Nat) (w : World) (h : Two w B S R d r s) (hq : low7 what = 4) (hB : B ≤ w.heap.size) (hn : blk < s.L.length) (hN : s.N ≤ 1073741823) :
    Calls Try.prog 18 #[.pointer (some ⟨d, 0, none⟩), .pointer (some ⟨r, 0, none⟩), .agg #[.int .i64 what, .int .i64 blk, .int .i64 fill, .slice K m c]] w fun e w' =>
      e = .returned (.bool true) ∧ Two w' B S R d r s ∧ Below B w w' := by
  have hcnt := h.dev.count
  have hand := and7 what
  have HX0 : Hid (Below w.heap.size w (w.alloc (.cells #[.int .i64 what, .int .i64 blk, .int .i64 fill, .slice K m c] 40))) := (Below.refl _ _).alloc (Nat.le_refl _) _
  have hs0 : w.heap.size < (w.alloc (.cells #[.int .i64 what, .int .i64 blk, .int .i64 fill, .slice K m c] 40)).heap.size := by simp
  have H := Lib.hid (h.below HX0.out)
  have hrl := h.dev.wf.read hn
  have hb0 := row_new w (.cells #[.int .i64 what, .int .i64 blk, .int .i64 fill, .slice K m c] 40)
  have HBO := Lib.hid hb0
  have j1 : (w.alloc (.cells #[.int .i64 what, .int .i64 blk, .int .i64 fill, .slice K m c] 40)).cell? ⟨w.heap.size, 1, none⟩ = some (.int .i64 blk) := (row_cell hb0 1).trans rfl
  have HRL := Lib.hid hrl
  clear h hb0 hrl
  generalize low7 what = q at *
  subst hq
  go_enter Try.func18, Try.ntmps18
  go_wp2_with fail
  generalize w.alloc (.cells #[.int .i64 what, .int .i64 blk, .int .i64 fill, .slice K m c] 40) = w0 at *
  refine (Read_yes S d blk s w0 H.out.dev hn).mono ?_
  rintro e w1 ⟨g, rfl, hg, hR, hb1⟩
  have hs1 := hb1.size
  have j2 : w1.cell? ⟨w.heap.size, 1, none⟩ = some (.int .i64 blk) := (row_cell ((hb1.block w.heap.size hs0).trans HBO.out) 1).trans rfl
  have H1 := Lib.hid (H.out.below hb1)
  have HR := Lib.hid hR
  have hgl := hR.lt
  have HB1 : Hid (Below w.heap.size w w1) := HX0.out.trans (hb1.mono (by omega))
  clear hR hb1
  go_wp2_with fail
  refine (RRead_yes R r blk s w1 H1.out.doc hn (by omega)).mono ?_
  rintro e w2 ⟨v, rfl, hv, hb2⟩
  obtain ⟨gv, cv, rv, rfl, _⟩ := id hv
  have hs2 := hb2.size
  have HR2 : Hid (Row w2 g (s.readAt blk) []) := HR.out.keep hb2 hgl
  have HV := Lib.hid hv
  have H2 := Lib.hid (H1.out.below hb2)
  have HB2 : Hid (Below w.heap.size w w2) := HB1.out.trans (hb2.mono (by omega))
  clear hv hb2
  go_wp2_with fail
  refine (Same_blk (s.readAt blk) (fun _ => True) _ _ _ w2 ⟨g, 256, [], rfl, trivial, HRL.out, Nat.le_refl _, HR2.out⟩ HV.out).mono ?_
  rintro e w3 ⟨rfl, n, rfl⟩
  have HR3 : Hid (Row (w2.drewN n) g (s.readAt blk) []) := HR2.out.drewN n
  have H3 := Lib.hid (H2.out.below (below_drewN (Below.refl _ _) n))
  have HB3 := Lib.hid (below_drewN HB2.out n)
  have hsz : (w2.drewN n).heap.size = w2.heap.size := rfl
  have hgn : g < (w2.drewN n).heap.size := HR3.out.lt
  have HGS : Hid (¬ S g) := fun hq => by have := H.out.dev.there g hq; omega
  have HGR : Hid (¬ R g) := fun hq => by have := H.out.doc.there g hq; omega
  generalize w2.drewN n = w3 at *
  clear hsz
  go_wp2
  go_loopw [16] (fun i wr => ∃ (k : Nat) (l' : List UInt8), k ≤ 256 ∧ i = .int .i64 k ∧ l'.length = 256 ∧ Row wr g l' [] ∧ w3.grownBy wr (some g)) (fun i _ => 256 - (intOf i).toNat)
  case atStart => exact ⟨0, _, Nat.zero_le _, rfl, HRL.out, HR3.out, grown_refl _ _⟩
  case round =>
    obtain ⟨k, l', hk, rfl, hll, hRr, hgr⟩ := hrel
    have HRr := Lib.hid hRr
    have HGr := Lib.hid hgr
    have HLL := Lib.hid hll
    clear hRr hgr
    by_cases hlt : k < 256
    · have hcc := HRr.out.cell (i := k) (by omega)
      have hfz := HRr.out.free k
      have hx1 := xor1 (l'[k]'(by omega))
      have hox := byte_lt (l'[k]'(by omega))
      generalize l'[k]'(by omega) = old at hcc hx1 hox
      generalize old ^^^ 1 = new at *
      clear hll
      go_wp2
      go_roundw
      case rel => exact ⟨k + 1, l'.set k new, by omega, by go_num, by rw [List.length_set]; exact HLL.out, HRr.out.set (by rw [HLL.out]; omega) new, grown_set HGr.out _ _⟩
      case measure => simp [intOf]; omega
    · clear hll
      go_wp2
      go_ret
      have hex : Ext (fun q => q = g) w3 wr := Ext.of_grown HGr.out (fun q hq _ => (Option.some.inj hq).symm)
      exact ⟨rfl, ⟨H3.out.dev.ext hex (fun q h1 h2 => HGS.out (h1 ▸ h2)), H3.out.doc.ext hex (fun q h1 h2 => HGR.out (h1 ▸ h2)), H3.out.far, H3.out.newS, H3.out.newR⟩, (HB3.out.mono hB).trans (hex.below (by have := HB3.out.size; omega) (fun q hq => by omega))⟩
end Go.Proofs.Ytkemakemolohdaa.LStepR
