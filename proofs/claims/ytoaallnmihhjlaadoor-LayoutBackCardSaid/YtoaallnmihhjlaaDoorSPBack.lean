/- Proved: called with any super, any groups and any number of a bit, the statement LayoutBack answers true, and its arguments read behind the call as before. Conditions: the row's own (each slice takes at most 2^47 - 4096 bytes; the package variable fourSteps starts as the program's text lays it, which the card ties). -/
import Derived.Test.YtoaallnmihhjlaaDoorQDoor
import Derived.Test.YtoaallnmihhjlaaDoorBPlain
import Derived.Test.YtoaallnmihhjlaaDoorGFace
import Derived.StillTailTactics
namespace Go.Proofs.YtoaallnmihhjlaaDoor.BLaw
open Go.RowKit WMem WPlain WFace2 WWide WAny WCrc WSeal GPlain GWithin GGeo GFace SNums SPlain SEqual SPack QPlain QMem QPack QUnp BPlain

/-- a byte with one bit turned is another byte -/
theorem flip (x : UInt8) (m : Nat) (hm : m < 8) : ∃ z : UInt8, bits BinOp.xor IntKind.u8 (x.toNat : Int) (IntKind.u8.wrap (2 ^ m)) = (z.toNat : Int) ∧ z ≠ x := by
  have hp : (2 ^ m : Nat) < 256 ∧ 0 < (2 ^ m : Nat) := by
    refine ⟨?_, Nat.two_pow_pos m⟩
    have : 2 ^ m ≤ 2 ^ 7 := Nat.pow_le_pow_right (by decide) (by omega)
    omega
  have e1 : IntKind.u8.wrap (2 ^ m) = ((2 ^ m : Nat) : Int) := by
    have e : ((2 : Int) ^ m) = ((2 ^ m : Nat) : Int) := by simp
    rw [IntKind.wrap_u8', e]
    omega
  refine ⟨x ^^^ UInt8.ofNat (2 ^ m), ?_, ?_⟩
  · rw [e1, u8_xor_nat _ _ (byte_lt x) hp.1, UInt8.toNat_xor]
    congr 2
    simp
    omega
  · intro h
    have h2 := congrArg UInt8.toNat h
    rw [UInt8.toNat_xor] at h2
    have h3 : (UInt8.ofNat (2 ^ m)).toNat = 2 ^ m := by simp; omega
    rw [h3] at h2
    have h4 : x.toNat ^^^ 2 ^ m = x.toNat ^^^ 0 := by simpa using h2
    have h5 := congrArg (x.toNat ^^^ ·) h4
    simp only [← Nat.xor_assoc, Nat.xor_self, Nat.zero_xor] at h5
    omega

theorem low11 (x : Int) : ∃ y : Nat, y < 2048 ∧ bits BinOp.and IntKind.i64 x 2047 = (y : Int) := by
  refine ⟨(BitVec.ofInt 64 x &&& BitVec.ofInt 64 2047).toNat, ?_, ?_⟩
  · rw [BitVec.toNat_and]
    exact Nat.lt_of_le_of_lt Nat.and_le_right (by decide)
  · have h : (BitVec.ofInt 64 x &&& BitVec.ofInt 64 2047).toNat < 2048 := by
      rw [BitVec.toNat_and]
      exact Nat.lt_of_le_of_lt Nat.and_le_right (by decide)
    show IntKind.i64.wrap ((BitVec.ofInt 64 x &&& BitVec.ofInt 64 2047).toNat : Int) = _
    rw [IntKind.wrap_i64]
    omega
theorem Unpack_at (len : Nat) (l : List UInt8) (hl : l.length = len) (B : Nat) (A : Option Addr) (c : Nat) (w : World) (hc : len ≤ c) (hB : B ≤ w.heap.size) (hA : Sl w B A (l.map u8v)) (hT : Tab w) :
    Calls Tryd.prog 10 #[.slice A len c] w fun e w' => e = .returned (unpV l) ∧ Below w.heap.size w w' := by
  subst hl
  exact Unpack_c l B A c w hc hB hA hT
theorem UnpackGroups_at (len : Nat) (n : Int) (b : List UInt8) (hl : b.length = len) (B : Nat) (A : Option Addr) (c : Nat) (hc : len ≤ c) (w : World) (hB : B ≤ w.heap.size) (hA : Sl w B A (b.map u8v)) (hT : Tab w) :
    Calls Tryd.prog 15 #[.slice A len c, .int .i64 n] w (UnpG b n w) := by
  subst hl
  exact UnpackGroups_any n b B A c hc w hB hA hT
set_option maxHeartbeats 2000000 in
set_option maxRecDepth 20000 in
theorem back_no (b p n j fb fi oo mo : Int) (cl : Bool) (l : List Grp) (B : Nat) (A : Option Addr) (c : Nat) (bit : Int) (w : World) (hB : B ≤ w.heap.size) (hL : Grps w B A l) (hT : Tab w) (hl : l.length ≤ 140737488355328) (h : supMay b p n j fb fi oo mo = false) :
    Calls Tryd.prog 5 #[.agg #[.int .i64 b, .int .i64 p, .int .i64 n, .int .i64 j, .int .i64 fb, .int .i64 fi, .int .i64 oo, .int .i64 mo, .bool cl], .slice A l.length c, .int .i64 bit] w fun e w' => e = .returned (.bool true) ∧ Below w.heap.size w w' := by
  have HX := Lib.hid (Boxed.start w [.int .i64 b, .int .i64 p, .int .i64 n, .int .i64 j, .int .i64 fb, .int .i64 fi, .int .i64 oo, .int .i64 mo, .bool cl] 25)
  have HL := Lib.hid hL
  have HT := Lib.hid hT
  have htl := Tab.lt hT
  have H := Lib.hid h
  clear hL hT h
  go_enter Tryd.func5, Tryd.ntmps5
  go_wp2_with fail
  refine (awake_any _).mono ?_
  rintro e w1 ⟨rfl, hb1⟩
  have HY1 := Lib.hid (HX.out.go hb1)
  have HT1 := Lib.hid (Tab.below HT.out HY1.out.below htl)
  have hs1 := HY1.out.lt
  obtain ⟨c0, c1, c2, c3, c4, c5, c6, c7, c8⟩ := Boxed.nine HY1.out
  clear hb1
  go_wp2_with fail
  refine (PackSuper_no b p n j fb fi oo mo cl _ H.out).mono ?_
  rintro e w2 ⟨rfl, hb2⟩
  have HY2 := Lib.hid (HY1.out.go hb2)
  have HB2 := Lib.hid HY2.out.below
  have HL2 := Lib.hid (HL.out.below HB2.out hB)
  have HT2 := Lib.hid (Tab.below HT.out HB2.out htl)
  have hs2 := HB2.out.size
  clear hb2 c0 c1 c2 c3 c4 c5 c6 c7 c8
  cases hm : grpMay l with
  | false =>
    go_wp2_with fail
    refine (PackGroups_any l B A c w2 (by omega) HL2.out HT2.out).mono ?_
    rintro e wa ⟨_, hno, hba⟩
    obtain rfl := hno hm
    have HBA := Lib.hid (below_up HB2.out hba hs2)
    clear hno hba
    go_wp2
    go_ret
    exact ⟨rfl, HBA.out⟩
  | true =>
    have HGT := Lib.hid (grp_there l hm)
    have HGL := Lib.hid (grpBytes_len l (by have := (grpMay_iff.1 hm).1; omega))
    go_wp2_with fail
    refine (PackGroups_any l B A c w2 (by omega) HL2.out HT2.out).mono ?_
    rintro e wa ⟨hyes, _, hba⟩
    obtain ⟨ga, rfl, hga, hRa⟩ := hyes hm
    have HBA := Lib.hid (below_up HB2.out hba hs2)
    have HLA := Lib.hid (HL.out.below HBA.out hB)
    have HTA := Lib.hid (Tab.below HT.out HBA.out htl)
    have HRA := Lib.hid (hRa.sl hRa.lt)
    have hsa := HBA.out.size
    clear hyes hba hRa hga
    go_wp2_with fail
    refine (UnpackGroups_at 256 (l.length : Int) (grpBytes l) HGL.out wa.heap.size _ 256 (Nat.le_refl _) wa (Nat.le_refl _) HRA.out HTA.out).mono ?_
    rintro e wb ⟨Ab, cb, rfl, hGb, _, hbb⟩
    have HBB := Lib.hid (below_up HBA.out hbb hsa)
    rw [HGT.out.1] at hGb
    rw [HGT.out.1, HGT.out.2]
    have HGB := Lib.hid hGb
    have HLB := Lib.hid (HL.out.below HBB.out hB)
    clear hbb hGb
    go_wp2_with fail
    refine (sameGroups_yes l _ _ A Ab c cb _ hl HLB.out HGB.out).mono ?_
    rintro e w' ⟨rfl, nd, rfl⟩
    go_wp2
    go_ret
    exact ⟨rfl, below_drewN HBB.out nd⟩
set_option maxHeartbeats 4000000 in
set_option maxRecDepth 20000 in
theorem back_yes (b p n j fb fi oo mo : Int) (cl : Bool) (l : List Grp) (B : Nat) (A : Option Addr) (c : Nat) (bit : Int) (w : World) (hB : B ≤ w.heap.size) (hL : Grps w B A l) (hT : Tab w) (hl : l.length ≤ 140737488355328) (h : supMay b p n j fb fi oo mo = true) :
    Calls Tryd.prog 5 #[.agg #[.int .i64 b, .int .i64 p, .int .i64 n, .int .i64 j, .int .i64 fb, .int .i64 fi, .int .i64 oo, .int .i64 mo, .bool cl], .slice A l.length c, .int .i64 bit] w fun e w' => e = .returned (.bool true) ∧ Below w.heap.size w w' := by
  have HX := Lib.hid (Boxed.start w [.int .i64 b, .int .i64 p, .int .i64 n, .int .i64 j, .int .i64 fb, .int .i64 fi, .int .i64 oo, .int .i64 mo, .bool cl] 25)
  have HL := Lib.hid hL
  have HT := Lib.hid hT
  have htl := Tab.lt hT
  have H := Lib.hid h
  have HUV := Lib.hid (sup_there cl h).2
  have HTU := Lib.hid (fun i y => sup_turned (b := b) (p := p) (n := n) (j := j) (fb := fb) (fi := fi) (oo := oo) (mo := mo) cl i y)
  have HLL := Lib.hid (supBytes_len b p n j fb fi oo mo cl)
  clear hL hT h
  go_enter Tryd.func5, Tryd.ntmps5
  go_wp2_with fail
  refine (awake_any _).mono ?_
  rintro e w1 ⟨rfl, hb1⟩
  have HY1 := Lib.hid (HX.out.go hb1)
  have HT1 := Lib.hid (Tab.below HT.out HY1.out.below htl)
  have hs1 := HY1.out.lt
  obtain ⟨c0, c1, c2, c3, c4, c5, c6, c7, c8⟩ := Boxed.nine HY1.out
  clear hb1
  go_wp2_with fail
  refine (PackSuper_yes b p n j fb fi oo mo cl _ H.out HT1.out).mono ?_
  rintro e w2 ⟨g, rfl, hg, hR2, hb2⟩
  have HY2 := Lib.hid (HY1.out.go hb2)
  generalize supBytes b p n j fb fi oo mo cl = L at *
  have HR2 := Lib.hid hR2
  have hgl := hR2.lt
  have HT2 := Lib.hid (Tab.below HT.out HY2.out.below htl)
  have hs2 := HY2.out.below.size
  have HG := Lib.hid (show w.heap.size < g by omega)
  clear hb2 hR2 hg c0 c1 c2 c3 c4 c5 c6 c7 c8
  go_wp2_with fail
  refine (Unpack_at 256 L HLL.out w2.heap.size _ 256 w2 (Nat.le_refl _) (Nat.le_refl _) (HR2.out.sl hgl) HT2.out).mono ?_
  rintro e w3 ⟨rfl, hb3⟩
  rw [HUV.out]
  have HY3 := Lib.hid ((HY2.out.go hb3).alloc (.cells #[.int .i64 b, .int .i64 p, .int .i64 n, .int .i64 j, .int .i64 fb, .int .i64 fi, .int .i64 oo, .int .i64 mo, .bool cl] 25))
  have HK3 := Lib.hid (Boxed.start w3 [.int .i64 b, .int .i64 p, .int .i64 n, .int .i64 j, .int .i64 fb, .int .i64 fi, .int .i64 oo, .int .i64 mo, .bool cl] 25)
  have HR3 := Lib.hid ((HR2.out.keep hb3 hgl).alloc (.cells #[.int .i64 b, .int .i64 p, .int .i64 n, .int .i64 j, .int .i64 fb, .int .i64 fi, .int .i64 oo, .int .i64 mo, .bool cl] 25))
  have hg3 : g < w3.heap.size := Nat.lt_of_lt_of_le hgl hb3.size
  obtain ⟨c0, c1, c2, c3, c4, c5, c6, c7, c8⟩ := Boxed.nine HY3.out
  obtain ⟨k0, k1, k2, k3, k4, k5, k6, k7, k8⟩ := Boxed.nine HK3.out
  obtain ⟨y, hy, hye⟩ := low11 bit
  obtain ⟨q, hq, hqe⟩ : ∃ q : Nat, q < 256 ∧ (y : Int) / 8 = (q : Int) := ⟨y / 8, by omega, by omega⟩
  obtain ⟨m, hm8, hme⟩ : ∃ m : Nat, m < 8 ∧ (y : Int) % 8 = (m : Int) := ⟨y % 8, by omega, by omega⟩
  have hmt : (y : Int).tmod 8 = (m : Int) := by rw [Int.tmod_eq_emod_of_nonneg (by omega)]; exact hme
  have hri : q < L.length := by have := HLL.out; omega
  have hc := HR3.out.cell hri
  have hf := HR3.out.free q
  have hox := byte_lt L[q]
  generalize hold : L[q] = old at hc hox
  have HOLD := Lib.hid hold
  clear hold
  obtain ⟨z, hz, hzn⟩ := flip old m hm8
  have HZN := Lib.hid hzn
  clear hzn
  have hwq : IntKind.i64.wrap (q : Int) = (q : Int) := by rw [IntKind.wrap_i64]; omega
  have hqI : (q : Int) < 256 := by omega
  have hwm : IntKind.i64.wrap (m : Int) = (m : Int) := by rw [IntKind.wrap_i64]; omega
  clear hb3
  go_wp2_with fail
  have HB3 := Lib.hid HY3.out.below
  clear c0 c1 c2 c3 c4 c5 c6 c7 c8 k0 k1 k2 k3 k4 k5 k6 k7 k8 HK3 HY1 HY2 HX
  generalize w3.alloc (.cells #[.int .i64 b, .int .i64 p, .int .i64 n, .int .i64 j, .int .i64 fb, .int .i64 fi, .int .i64 oo, .int .i64 mo, .bool cl] 25) = w4 at *
  go_still_tail 13, (by kernel_rfl)
  change wpList _ _ _ _ _ w4.drew
  have hRs := HR3.out.set hri z
  have HRS := Lib.hid hRs
  have HTU2 := Lib.hid (unpV_no (HTU.out q z hri (by rw [HOLD.out]; exact HZN.out)))
  have HLS : Hid ((L.set q z).length = 256) := Lib.hid ((List.length_set ..).trans HLL.out)
  have HB4 := Lib.hid ((HB3.out.setCell (p := ⟨g, q, none⟩) (Nat.le_of_lt HG.out) (.int .u8 z.toNat)).drew)
  have HT4 := Lib.hid (Tab.below HT.out HB4.out htl)
  have hs4 : g < (w4.setCell ⟨g, q, none⟩ (.int .u8 z.toNat)).drew.heap.size := hRs.lt
  clear hRs
  go_wp2_with fail
  refine (Unpack_at 256 (L.set q z) HLS.out (w4.setCell ⟨g, q, none⟩ (.int .u8 z.toNat)).drew.heap.size _ 256 _ (Nat.le_refl _) (Nat.le_refl _) ((show Row (w4.setCell ⟨g, q, none⟩ (.int .u8 z.toNat)).drew g _ [] from HRS.out).sl hs4) HT4.out).mono ?_
  rintro e w5 ⟨rfl, hb5⟩
  rw [HTU2.out]
  unfold SUnp.NoSup
  have HB6 := Lib.hid ((below_up HB4.out hb5 HB4.out.size).alloc (below_up HB4.out hb5 HB4.out.size).size (.cells #[.int .i64 0, .int .i64 0, .int .i64 0, .int .i64 0, .int .i64 0, .int .i64 0, .int .i64 0, .int .i64 0, .bool false] 25))
  have HL6 := Lib.hid (HL.out.below HB6.out hB)
  have HT6 := Lib.hid (Tab.below HT.out HB6.out htl)
  have hs6 := HB6.out.size
  clear hb5 hc hf hs4 hg3
  go_wp2_with fail
  generalize w5.alloc (.cells #[.int .i64 0, .int .i64 0, .int .i64 0, .int .i64 0, .int .i64 0, .int .i64 0, .int .i64 0, .int .i64 0, .bool false] 25) = w6 at *
  cases hm : grpMay l with
  | false =>
    go_wp2_with fail
    refine (PackGroups_any l B A c w6 (by omega) HL6.out HT6.out).mono ?_
    rintro e wa ⟨_, hno, hba⟩
    obtain rfl := hno hm
    have HBA := Lib.hid (below_up HB6.out hba hs6)
    clear hno hba
    go_wp2
    go_ret
    exact ⟨rfl, HBA.out⟩
  | true =>
    have HGT := Lib.hid (grp_there l hm)
    have HGL := Lib.hid (grpBytes_len l (by have := (grpMay_iff.1 hm).1; omega))
    go_wp2_with fail
    refine (PackGroups_any l B A c w6 (by omega) HL6.out HT6.out).mono ?_
    rintro e wa ⟨hyes, _, hba⟩
    obtain ⟨ga, rfl, hga, hRa⟩ := hyes hm
    have HBA := Lib.hid (below_up HB6.out hba hs6)
    have HLA := Lib.hid (HL.out.below HBA.out hB)
    have HTA := Lib.hid (Tab.below HT.out HBA.out htl)
    have HRA := Lib.hid (hRa.sl hRa.lt)
    have hsa := HBA.out.size
    clear hyes hba hRa hga
    go_wp2_with fail
    refine (UnpackGroups_at 256 (l.length : Int) (grpBytes l) HGL.out wa.heap.size _ 256 (Nat.le_refl _) wa (Nat.le_refl _) HRA.out HTA.out).mono ?_
    rintro e wb ⟨Ab, cb, rfl, hGb, _, hbb⟩
    have HBB := Lib.hid (below_up HBA.out hbb hsa)
    rw [HGT.out.1] at hGb
    rw [HGT.out.1, HGT.out.2]
    have HGB := Lib.hid hGb
    have HLB := Lib.hid (HL.out.below HBB.out hB)
    clear hbb hGb
    go_wp2_with fail
    refine (sameGroups_yes l _ _ A Ab c cb _ hl HLB.out HGB.out).mono ?_
    rintro e w' ⟨rfl, nd, rfl⟩
    go_wp2
    go_ret
    exact ⟨rfl, below_drewN HBB.out nd⟩
theorem back (b p n j fb fi oo mo : Int) (cl : Bool) (l : List Grp) (B : Nat) (A : Option Addr) (c : Nat) (bit : Int) (w : World) (hB : B ≤ w.heap.size) (hL : Grps w B A l) (hl : l.length ≤ 140737488355328) (hT : Tab w) :
    Calls Tryd.prog 5 #[.agg #[.int .i64 b, .int .i64 p, .int .i64 n, .int .i64 j, .int .i64 fb, .int .i64 fi, .int .i64 oo, .int .i64 mo, .bool cl], .slice A l.length c, .int .i64 bit] w fun e w' => e = .returned (.bool true) ∧ Below w.heap.size w w' := by
  cases h : supMay b p n j fb fi oo mo with
  | true => exact back_yes b p n j fb fi oo mo cl l B A c bit w hB hL hT hl h
  | false => exact back_no b p n j fb fi oo mo cl l B A c bit w hB hL hT hl h
end Go.Proofs.YtoaallnmihhjlaaDoor.BLaw
namespace Go.Proofs.YtoaallnmihhjlaaDoor.SPBack
open Go.ChangeShapes Go.WideShapes Go.ChangeAt Go.RowKit WMem WPlain WCrc RowEnd Args Door SDoor QDoor

set_option maxRecDepth 100000 in
theorem contract (H : Type) (enc : TypeId × Value → H) (W : World) (base : Nat) (args : Array Value) (ds gs : List (DataW H)) (before : List MemPlace)
    (hval : ∀ (j : Nat) t v, Tryd.f5.params[j]? = some t → args[j]? = some v → Value.okWide Tryd.prog W .any base t v)
    (hW : DataW.Whole enc Tryd.prog Tryd.f5.params.toList Rows.layoutBackSpec.vars false W args.toList ds gs before)
    (hsz : (DataW.weightsEach Tryd.prog (Tryd.f5.params.toList ++ []) (ds ++ gs)).all (· ≤ reachBytes) = true) (hL : laidMetH Tryd.prog laid1 W) :
    Calls Tryd.prog 5 args W fun e W' => ∃ v, e = .returned v ∧ Rows.layoutBackSpec.post enc Tryd.prog Tryd.f5 false true false false W args v W' := by
  have hW' := hW
  obtain ⟨p, q, hA0, hV, hbe, hfz, hnd⟩ := hW
  have hA : DataW.TrodAll enc Tryd.prog W 0 (fun _ => true) true Tryd.f5.params.toList args.toList ds p := hA0
  have hA1 := hA
  obtain ⟨rfl, rfl⟩ := trodVars_none hV
  rw [List.append_nil] at hbe hsz
  rw [Tryd.params5] at hA hval hsz
  obtain ⟨v0, vs0, d0, ds0, p0, q0, hargs, rfl, rfl, h0, r0⟩ := trodAll_cons hA
  obtain ⟨v1, vs1, d1, ds1, p1, q1, rfl, rfl, rfl, h1, r1⟩ := trodAll_cons r0
  obtain ⟨v2, vs2, d2, ds2, p2, q2, rfl, rfl, rfl, h2, r2⟩ := trodAll_cons r1
  obtain ⟨rfl, rfl, rfl⟩ := trodAll_nil r2
  obtain rfl : args = #[v0, v1, v2] := by cases args; simp_all
  obtain ⟨sb0, sp0, sn0, sj0, sfb0, sfi0, soo0, smo0, scl0, rfl⟩ := sup_of (hval 0 25 v0 rfl rfl) h0
  obtain ⟨x2, rfl, rfl, rfl, w2⟩ := open_int i64t (hval 2 3 v2 rfl rfl) h2
  have b2 := bounds_i64 w2
  obtain ⟨A1, l1, c1, rfl, s1, z1⟩ := arg_grps (hval 1 35 v1 rfl rfl) h1 hsz (j := 1) rfl rfl
  refine (BLaw.back sb0 sp0 sn0 sj0 sfb0 sfi0 soo0 smo0 scl0 l1 _ A1 c1 x2 W (Nat.le_refl _) s1 z1 (tab_of hL)).mono fun e W' ⟨he, hb⟩ => ?_
  subst he
  refine ⟨_, rfl, law_post laidOut (by kernel_rfl) rfl boolt rfl rfl rfl rfl hW' hA1 (fun x hx => hW'.lt x (by rw [hbe]; exact hx)) hb⟩

abbrev start : Array Value := #[.agg #[.int .i64 0, .int .i64 0, .int .i64 0, .int .i64 0, .int .i64 0, .int .i64 0, .int .i64 0, .int .i64 0, .bool false], .slice none 0 0, .int .i64 0]
theorem laid_met (os : Os) : laidMet Tryd.prog laid1 ((laidWorld os).forCall (fun _ _ => 0) ⟨#[], start, []⟩).memory :=
  laidMet_of_run' 8 (by kernel_rfl) (by kernel_rfl)
theorem reads (os : Os) {H : Type} (enc : TypeId × Value → H) : ∃ places, DataW.whole enc Tryd.prog ((laidWorld os).forCall (fun _ _ => 0) ⟨#[], start, []⟩).memory Tryd.f5.params.toList Rows.layoutBackSpec.vars false start.toList 8 = some ([.agg [.agg [.lit (.int .i64 0), .lit (.int .i64 0), .lit (.int .i64 0), .lit (.int .i64 0)], .lit (.int .i64 0), .lit (.int .i64 0), .lit (.int .i64 0), .lit (.int .i64 0), .lit (.bool false)], .nil, .lit (.int .i64 0)], [], places) :=
  ⟨[], by kernel_rfl⟩

set_option maxRecDepth 100000 in
theorem lifted (os : Os) (started : os.Started) (H : Type) (enc : TypeId × Value → H) (F : Stop.Interp) :
    ReturnsInHanded {} Tryd.checked os 5 .any ((OpenSpec.ofChange Rows.layoutBackSpec).preRow enc Tryd.prog Tryd.f5 Rows.layoutBackRow.domain false Rows.layoutBackRow.laid) (((OpenSpec.ofChange Rows.layoutBackSpec).at F).post enc Tryd.prog Tryd.f5 false true false false) := by
  obtain ⟨places, hx⟩ := reads os enc
  refine returnsInHanded_of_row (C := Tryd.checked) (s := (OpenSpec.ofChange Rows.layoutBackSpec)) own started (by kernel_rfl) Tryd.func5
    (witness_row_at (enc := enc) (C := Tryd.checked) false (laidWorld os) start rfl (by kernel_rfl) (by kernel_rfl) (by kernel_rfl)
      (OpenSpec.preRow_of_cond 8 hx (by kernel_rfl) (fun k hk => by cases hk) (by kernel_rfl) (laid_met os))) ?_
  intro W base args ds gs before hval hW _ _ hsz hL _ _
  exact contract H enc W base args ds gs before hval hW hsz hL

theorem said : Rows.LayoutBackSaid :=
  OpenClaim.holds_of_cond 5 Tryd.f5 rfl rfl rfl rfl rfl rfl rfl ⟨rfl, rfl, rfl, rfl, rfl⟩ rfl rfl rfl rfl rfl (by kernel_rfl) Tryd.func5 (by kernel_rfl)
    (of_decide_eq_true (by kernel_rfl)) (by unfold Func.isWrapper; first | (rw [if_pos (by decide +kernel)]; kernel_rfl) | (rw [if_neg (by decide +kernel)]; exact ⟨rfl, rfl⟩))
    (fun os started H enc _ F => by rw [OpenClaim.pre_eq_preRow]; exact lifted os started H enc F)

theorem plain (f : FuncId) (fn : Func) (hf : Tryd.pinned.checked.prog.funcNamed "hayrick/hayricklaw04.LayoutBack" = some f) (hfn : Tryd.pinned.checked.prog.funcs[f]? = some fn) :
    true = Tryd.pinned.checked.prog.looks [] ∧ ∀ (j : Nat) t, fn.params[j]? = some t → Tryd.pinned.checked.prog.wantsStandIn t = false := by
  obtain rfl : f = 5 := Option.some.inj ((show Tryd.prog.funcNamed "hayrick/hayricklaw04.LayoutBack" = some 5 by kernel_rfl).symm.trans hf) |>.symm
  obtain rfl : fn = Tryd.f5 := (Option.some.inj (Tryd.func5.symm.trans hfn)).symm
  refine ⟨by kernel_rfl, fun j t ht => ?_⟩
  have hall : (Tryd.f5.params.toList.all fun u => !Tryd.prog.wantsStandIn u) = true := by kernel_rfl
  have := List.all_eq_true.1 hall t (Array.mem_toList_iff.2 (Array.mem_of_getElem? ht))
  exact (show Tryd.prog.wantsStandIn t = false by simpa using this)

theorem card : Rows.LayoutBackCardSaid :=
  Claim7.holds_tied_plain_at .later [] _ _ _ _ said (fun _ h => by cases h) (by kernel_rfl) (fun _ h => by cases h) layoutBack_row_tie rfl ⟨rfl, rfl⟩ (by kernel_rfl) rfl plain (by kernel_rfl)
#print axioms card
end Go.Proofs.YtoaallnmihhjlaaDoor.SPBack
