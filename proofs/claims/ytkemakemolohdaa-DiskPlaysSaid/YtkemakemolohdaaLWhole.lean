/- whole: a disk of the program and one of the document that are the same answer alike. -/
import Derived.Test.YtkemakemolohdaaLReads
import Derived.Test.YtkemakemolohdaaRCopy
import Derived.Deep.RegionHeld3
namespace Go.Proofs.Ytkemakemolohdaa.LWhole
open Go.RowKit WMem WPlain WAppend Ext Map DPlain DMem Mk DBase DRead DPend DWrite DFlush DPending DCopy RNew RRead RWrite RFlush DLaw LStep LStepP LAlike LAwake LMade

set_option maxHeartbeats 3200000 in
set_option maxRecDepth 100000 in
theorem whole_yes (S R : Nat → Prop) (d r : Nat) (s : St) (w : World) (hd : DD w S d s) (hr : RD w R r s) (hN : s.N ≤ 1073741824) :
    Calls Try.prog 14 #[.pointer (some ⟨d, 0, none⟩), .pointer (some ⟨r, 0, none⟩)] w fun e w' => e = .returned (.bool true) ∧ Below w.heap.size w w' := by
  have hbig := hd.len
  have hcnt := hd.count
  have HD := Lib.hid hd
  have HR := Lib.hid hr
  obtain ⟨Lv, Pv, xs, ys, hx⟩ := hr
  obtain ⟨AL, capL, rfl, hcapL, _⟩ := L_at hx.rowL hx.eachL
  obtain ⟨AP, capP, rfl, hcapP, hPat⟩ := P_at hx.rowP hx.eachP
  have CL := Lib.hid hx.cL
  have CP := Lib.hid hx.cP
  have CN := Lib.hid hx.cN
  have HPA := Lib.hid hPat
  have lr := row_lt hx.block
  have TH := Lib.hid hx.there
  clear hd hx hPat
  go_enter Try.func14, Try.ntmps14
  go_wp2
  go_loopw [5] (fun i wr => ∃ k : Nat, k ≤ s.L.length ∧ i = .int .i64 k ∧ Below w.heap.size w wr) (fun i _ => s.L.length - (intOf i).toNat)
  case atStart => exact ⟨0, Nat.zero_le _, rfl, Below.refl _ _⟩
  case round =>
    obtain ⟨k, hk, rfl, hbe⟩ := hrel
    have HBE := Lib.hid hbe
    have hsz := hbe.size
    have c0 : wr.cell? ⟨r, 0, none⟩ = _ := (hbe.cell (p := ⟨r, 0, none⟩) lr).trans CL.out
    clear hbe
    by_cases hlt : k < s.L.length
    · go_wp2_with fail
      refine (Read_yes S d k s wr (HD.out.below HBE.out) hlt).mono ?_
      rintro e w1 ⟨g1, rfl, hg1, hR1, hb1⟩
      have hs1 := hb1.size
      have HB1 : Hid (Below w.heap.size w w1) := HBE.out.trans (hb1.mono hsz)
      have HR1 := Lib.hid hR1
      have hgl := hR1.lt
      clear hg1 hR1 hb1 c0
      go_wp2_with fail
      refine (RRead_yes R r k s w1 (HR.out.below HB1.out) hlt (by omega)).mono ?_
      rintro e w2 ⟨v, rfl, hv, hb2⟩
      have hs2 := hb2.size
      have HB2 : Hid (Below w.heap.size w w2) := HB1.out.trans (hb2.mono (by omega))
      have HV := Lib.hid hv
      have HR12 := Lib.hid (HR1.out.keep hb2 hgl)
      clear hv hb2
      go_wp2_with fail
      refine (Same_blk (s.readAt k) (fun _ => True) (Made w1 w2) _ _ w2 ⟨g1, 256, [], rfl, trivial, HD.out.wf.read hlt, Nat.le_refl _, HR12.out⟩ HV.out).mono ?_
      rintro e w3 ⟨rfl, n, rfl⟩
      go_wp2
      go_roundw
      case rel => exact ⟨k + 1, by omega, by go_num, below_drewN HB2.out n⟩
      case measure => simp [intOf]; omega
    · obtain rfl : k = s.L.length := by omega
      have c1 : wr.cell? ⟨r, 1, none⟩ = _ := (HBE.out.cell (p := ⟨r, 1, none⟩) lr).trans CP.out
      have c2 : wr.cell? ⟨r, 2, none⟩ = _ := (HBE.out.cell (p := ⟨r, 2, none⟩) lr).trans CN.out
      have HDD : Hid (DD wr.drew S d s) := (HD.out.below HBE.out).drewN 1
      have HC := Lib.hid (And.intro c0 (And.intro c1 c2))
      have hlr : r < wr.heap.size := by omega
      go_wp2_with fail
      go_region_held3 (fun w' => w'.cell? ⟨r, 0, none⟩ = some (.slice AL s.L.length capL) ∧ w'.cell? ⟨r, 1, none⟩ = some (.slice AP s.P.length capP) ∧ w'.cell? ⟨r, 2, none⟩ = some (.int .i64 s.N)) (first | exact HC.out | exact HC1.out | go_keep)
        ((first
          | (go_at_call 21; refine (Blocks_at d _ _ HDD.out.c0).mono ?_; rintro e w' ⟨rfl, rfl⟩)
          | (go_at_call 22; refine (Ops_at d _ _ HDD.out.c1).mono ?_; rintro e w' ⟨rfl, rfl⟩)
          | (go_at_call 23; refine (Pending_ok S d s _ HDD.out hN).mono ?_; rintro e w1 ⟨g, xs1, rfl, hg, hRV, hPO, hb1⟩
             have HC1 : Hid (w1.cell? ⟨r, 0, none⟩ = some (.slice AL s.L.length capL) ∧ w1.cell? ⟨r, 1, none⟩ = some (.slice AP s.P.length capP) ∧ w1.cell? ⟨r, 2, none⟩ = some (.int .i64 s.N)) :=
               ⟨(hb1.cell (p := ⟨r, 0, none⟩) hlr).trans c0, (hb1.cell (p := ⟨r, 1, none⟩) hlr).trans c1, (hb1.cell (p := ⟨r, 2, none⟩) hlr).trans c2⟩
             have HBW : Hid (Below w.heap.size w w1) := HBE.out.trans ((⟨hb1.os, hb1.tape, hb1.output, hb1.size, hb1.block⟩ : Below wr.heap.size wr w1).mono hsz)
             have HSW : Hid (Calls Try.prog 32 #[.slice (some ⟨g, 0, none⟩) s.P.length s.P.length, .slice AP s.P.length capP] w1 fun e w' => e = .returned (.bool true) ∧ ∃ n, w' = w1.drewN n) :=
               SameWrites_yes (Made wr.drew w1) R s.P (some ⟨g, 0, none⟩) AP _ _ w1 (by omega)
                 (fun i hi => by
                   obtain ⟨u, h1, h2, h3⟩ := hPO.2 i hi
                   have hl : i * 2 + 1 < xs1.length := by rw [hPO.1]; omega
                   refine ⟨g, u, rfl, ?_, ?_, ?_, h3⟩
                   · exact ⟨hg, hRV.lt⟩
                   · rw [hRV.cell (by omega)]
                     rw [List.getElem?_eq_getElem (by omega)] at h1
                     exact h1
                   · rw [hRV.cell hl]
                     rw [List.getElem?_eq_getElem hl] at h2
                     exact h2)
                 (fun i hi => by
                   obtain ⟨gP, u, h0, h1, h2, h3, h4⟩ := HPA.out i hi
                   have hgP := TH.out gP h1
                   exact ⟨gP, u, h0, h1, (HBW.out.cell (p := ⟨gP, i * 2, none⟩) hgP).trans h2, (HBW.out.cell (p := ⟨gP, i * 2 + 1, none⟩) hgP).trans h3, h4.keep (fun j o hj _ => HBW.out.block j (TH.out j hj))⟩)
             clear hg hRV hPO hb1)
          | (go_at_call 32; refine HSW.out.mono ?_; rintro e w2 ⟨rfl, n, rfl⟩)))
      all_goals
        go_wp2
        go_ret
        exact ⟨rfl, below_drewN HBW.out n⟩
end Go.Proofs.Ytkemakemolohdaa.LWhole
