/- The law LogBack. -/
import Derived.Test.YtgegmoejhnjhjaaDoorJAwake
import Derived.Test.YtgegmoejhnjhjaaDoorJFull
import Derived.Test.YtgegmoejhnjhjaaDoorJTheirs
import Derived.Test.YtgegmoejhnjhjaaDoorJRSame
import Derived.Test.YtgegmoejhnjhjaaDoorJTurnM
import Derived.StillTailTactics
namespace Go.Proofs.YtgegmoejhnjhjaaDoor.JLBack
open Go.RowKit WMem WPlain WHelp WFace2 WWide WAny WCrc WSeal SNums SEqual JPlain JMem JBody JPack JPackFace JRead JUnpack JFull JBackM JAwake JMine JTheirs JRSame JLOnly JTurnM

theorem low11 (x : Int) : ∃ y : Nat, y < 2048 ∧ bits BinOp.and IntKind.i64 x 2047 = (y : Int) := by
  refine ⟨(BitVec.ofInt 64 x &&& BitVec.ofInt 64 2047).toNat, ?_, ?_⟩
  · rw [BitVec.toNat_and]
    exact Nat.lt_of_le_of_lt Nat.and_le_right (by decide)
  · have h : (BitVec.ofInt 64 x &&& BitVec.ofInt 64 2047).toNat < 2048 := by
      rw [BitVec.toNat_and]
      exact Nat.lt_of_le_of_lt Nat.and_le_right (by decide)
    show IntKind.i64.wrap ((BitVec.ofInt 64 x &&& BitVec.ofInt 64 2047).toNat : Int) = _
    rw [IntKind.wrap_i64]
    omega
theorem flip_is (x : UInt8) (m : Nat) (hm : m < 8) : bits BinOp.xor IntKind.u8 (x.toNat : Int) (IntKind.u8.wrap (2 ^ m)) = ((x ^^^ UInt8.ofNat (2 ^ m)).toNat : Int) := by
  have hp : (2 ^ m : Nat) < 256 ∧ 0 < (2 ^ m : Nat) := by
    refine ⟨?_, Nat.two_pow_pos m⟩
    have : 2 ^ m ≤ 2 ^ 7 := Nat.pow_le_pow_right (by decide) (by omega)
    omega
  have e1 : IntKind.u8.wrap (2 ^ m) = ((2 ^ m : Nat) : Int) := by
    have e : ((2 : Int) ^ m) = ((2 ^ m : Nat) : Int) := by simp
    rw [IntKind.wrap_u8', e]
    omega
  rw [e1, u8_xor_nat _ _ (byte_lt x) hp.1, flip_nat x m hm]
/-- two boxes, cell by cell -/
theorem ten {a b w : World} {u0 u1 u2 u3 u4 v0 v1 v2 v3 v4 : Value} (h : JMem.Boxed a w [u0, u1, u2, u3, u4]) (k : JMem.Boxed b w [v0, v1, v2, v3, v4]) :
    w.cell? ⟨a.heap.size, 0, none⟩ = some u0 ∧ w.cell? ⟨a.heap.size, 1, none⟩ = some u1 ∧ w.cell? ⟨a.heap.size, 2, none⟩ = some u2 ∧ w.cell? ⟨a.heap.size, 3, none⟩ = some u3 ∧ w.cell? ⟨a.heap.size, 4, none⟩ = some u4 ∧
      w.cell? ⟨b.heap.size, 0, none⟩ = some v0 ∧ w.cell? ⟨b.heap.size, 1, none⟩ = some v1 ∧ w.cell? ⟨b.heap.size, 2, none⟩ = some v2 ∧ w.cell? ⟨b.heap.size, 3, none⟩ = some v3 ∧ w.cell? ⟨b.heap.size, 4, none⟩ = some v4 := by
  obtain ⟨h0, h1, h2, h3, h4⟩ := h.five
  obtain ⟨k0, k1, k2, k3, k4⟩ := k.five
  exact ⟨h0, h1, h2, h3, h4, k0, k1, k2, k3, k4⟩
theorem recV_eq (r : Rec) (A : Option Addr) (n c : Nat) (hn : r.ents.length = n) : recV r A c = .agg #[.int .i64 r.kind, .int .i64 r.seq, .slice A n c, .int .u32 (r.sum : Int), .int .i64 r.start] := by subst hn; rfl
set_option maxRecDepth 100000 in
set_option maxHeartbeats 8000000 in
theorem back_no (r : Rec) (hm : recMay r = false) (bit : Int) (hl : r.ents.length ≤ 8796093022207) (hs : r.sum < 4294967296) (B : Nat) (A : Option Addr) (c : Nat) (w : World) (hB : B ≤ w.heap.size) (hA : Ents w B A r.ents) (hT : Tab w) :
    Calls Tryd.prog 6 #[recV r A c, .int .i64 bit] w fun e w' => e = .returned (.bool true) ∧ Below w.heap.size w w' := by
  obtain ⟨n, hn⟩ : ∃ n, r.ents.length = n := ⟨_, rfl⟩
  have HREC := Lib.hid (fun A c => recV_eq r A n c hn)
  have HX0 := Lib.hid (JMem.Boxed.start w [.int .i64 r.kind, .int .i64 r.seq, .slice A n c, .int .u32 (r.sum : Int), .int .i64 r.start] 25)
  have HAW := Lib.hid (awake_any (w.alloc (.cells #[.int .i64 r.kind, .int .i64 r.seq, .slice A n c, .int .u32 (r.sum : Int), .int .i64 r.start] 25)) (Tab.below hT (below_box _) (Tab.lt hT)))
  have HMI := Lib.hid (fun w A c (hA : Ents w B A r.ents) (hB : B ≤ w.heap.size) => mine_any r B A c w hB hA hl)
  have HPA := Lib.hid (fun w A c (hA : Ents w w.heap.size A r.ents) (hT : Tab w) => Pack_any r hs w.heap.size A c w (Nat.le_refl _) hA (by omega) hT)
  have HM := Lib.hid hm
  have HA := Lib.hid hA
  have HT := Lib.hid hT
  have htl := Tab.lt hT
  clear hA hT hm
  rw [HREC.out] at *
  simp only [HREC.out] at HMI HPA
  go_enter Tryd.func6, Tryd.ntmps6
  go_wp2_with fail
  refine HAW.out.mono ?_
  rintro e w1 ⟨rfl, hb1⟩
  have HX1 := Lib.hid (HX0.out.go hb1)
  obtain ⟨d0, d1, d2, d3, d4⟩ := HX1.out.five
  have hs1 := HX1.out.lt
  clear hb1
  go_wp2_with fail
  refine (HMI.out w1 A c (HA.out.below HX1.out.below hB) (by omega)).mono ?_
  rintro e w2 ⟨A2, c2, rfl, hE2, _, hb2⟩
  have HX2 := Lib.hid (HX1.out.go hb2)
  have HE2 := Lib.hid hE2
  clear hb2 hE2
  go_wp2_with fail
  refine (HPA.out w2 A2 c2 HE2.out (Tab.below HT.out HX2.out.below htl)).mono ?_
  rintro e w3 ⟨_, hno, hb3⟩
  obtain rfl := hno HM.out
  have HX3 := Lib.hid (HX2.out.go hb3)
  clear hno hb3
  go_wp2
  go_ret
  exact ⟨rfl, HX3.out.below⟩
set_option maxRecDepth 100000 in
set_option maxHeartbeats 8000000 in
theorem back_yes (r : Rec) (hm : recMay r = true) (bit : Int) (hl : r.ents.length ≤ 8796093022207) (hs : r.sum < 4294967296) (B : Nat) (A : Option Addr) (c : Nat) (w : World) (hB : B ≤ w.heap.size) (hA : Ents w B A r.ents) (hT : Tab w) :
    Calls Tryd.prog 6 #[recV r A c, .int .i64 bit] w fun e w' => e = .returned (.bool true) ∧ Below w.heap.size w w' := by
  obtain ⟨n, hn⟩ : ∃ n, r.ents.length = n := ⟨_, rfl⟩
  have HREC := Lib.hid (fun A c => recV_eq r A n c hn)
  have HX0 := Lib.hid (JMem.Boxed.start w [.int .i64 r.kind, .int .i64 r.seq, .slice A n c, .int .u32 (r.sum : Int), .int .i64 r.start] 25)
  have HAW := Lib.hid (awake_any (w.alloc (.cells #[.int .i64 r.kind, .int .i64 r.seq, .slice A n c, .int .u32 (r.sum : Int), .int .i64 r.start] 25)) (Tab.below hT (below_box _) (Tab.lt hT)))
  have HMI := Lib.hid (fun w A c (hA : Ents w B A r.ents) (hB : B ≤ w.heap.size) => mine_any r B A c w hB hA hl)
  have HPA := Lib.hid (fun w A c (hA : Ents w w.heap.size A r.ents) (hT : Tab w) => Pack_any r hs w.heap.size A c w (Nat.le_refl _) hA (by omega) hT)
  have HTH := Lib.hid (fun w B A c (hA : Ents w B A r.ents) (hB : B ≤ w.heap.size) => theirs_any r B A c w hB hA hl)
  have HSA := Lib.hid (fun w B B' A A' c c' (hA : Ents w B A r.ents) (hB : B ≤ w.heap.size) (hA' : Ents w B' A' r.ents) (hB' : B' ≤ w.heap.size) => refSame_yes r B B' A A' c c' w hB hB' hA hA' (by omega))
  have HL := Lib.hid (recBytes_len (recMay_iff.1 hm).2.1)
  have HUB := Lib.hid (unp_back r hm hs)
  have HIS := Lib.hid (back_is r hm hs)
  have HM := Lib.hid hm
  have HA := Lib.hid hA
  have HT := Lib.hid hT
  have htl := Tab.lt hT
  clear hA hT hm
  simp only [HREC.out] at HMI HPA HTH HSA ⊢
  go_enter Tryd.func6, Tryd.ntmps6
  go_wp2_with fail
  refine HAW.out.mono ?_
  rintro e w1 ⟨rfl, hb1⟩
  have HX1 := Lib.hid (HX0.out.go hb1)
  obtain ⟨d0, d1, d2, d3, d4⟩ := HX1.out.five
  have hs1 := HX1.out.lt
  clear hb1
  go_wp2_with fail
  refine (HMI.out w1 A c (HA.out.below HX1.out.below hB) (by omega)).mono ?_
  rintro e w2 ⟨A2, c2, rfl, hE2, _, hb2⟩
  have HX2 := Lib.hid (HX1.out.go hb2)
  have HE2 := Lib.hid hE2
  clear hb2 hE2
  go_wp2_with fail
  refine (HPA.out w2 A2 c2 HE2.out (Tab.below HT.out HX2.out.below htl)).mono ?_
  rintro e w3 ⟨hyes, _, hb3⟩
  obtain ⟨g, rfl, hg, hR⟩ := hyes HM.out
  have HX3 := Lib.hid (HX2.out.go hb3)
  have HR3 := Lib.hid hR
  have hs2 := HX2.out.lt
  have hgl := hR.lt
  clear hyes hb3 hR
  go_wp2_with fail
  refine (Unpack_full 256 (recBytes r) HL.out w3.heap.size (some ⟨g, 0, none⟩) 256 (Nat.le_refl _) w3 (Nat.le_refl _) (HR3.out.sl hgl) (Tab.below HT.out HX3.out.below htl)).mono ?_
  rintro e w4 ⟨A4, c4, rfl, hE4, _, hb4⟩
  rw [HUB.out.1, HUB.out.2, HREC.out]
  rw [HUB.out.1] at hE4
  have HX4 := Lib.hid ((HX3.out.go hb4).alloc (.cells #[.int .i64 r.kind, .int .i64 r.seq, .slice A4 n c4, .int .u32 (r.sum : Int), .int .i64 r.start] 33))
  have HY4 := Lib.hid (JMem.Boxed.start w4 [.int .i64 r.kind, .int .i64 r.seq, .slice A4 n c4, .int .u32 (r.sum : Int), .int .i64 r.start] 33)
  have HE4 := Lib.hid (hE4.alloc (Nat.le_refl _) (.cells #[.int .i64 r.kind, .int .i64 r.seq, .slice A4 n c4, .int .u32 (r.sum : Int), .int .i64 r.start] 33))
  have HR4 := Lib.hid ((HR3.out.keep hb4 hgl).alloc (.cells #[.int .i64 r.kind, .int .i64 r.seq, .slice A4 n c4, .int .u32 (r.sum : Int), .int .i64 r.start] 33))
  clear hb4 hE4 d0 d1 d2 d3 d4
  go_wp2_with fail
  have HBB4 := Lib.hid HX4.out.below
  have HA4 := Lib.hid (HA.out.below HBB4.out hB)
  have hs4 : w4.heap.size + 1 = (w4.alloc (.cells #[.int .i64 r.kind, .int .i64 r.seq, .slice A4 n c4, .int .u32 (r.sum : Int), .int .i64 r.start] 33)).heap.size := by simp
  have hsB := HBB4.out.size
  have hgw := HR4.out.lt
  generalize (w4.alloc (.cells #[.int .i64 r.kind, .int .i64 r.seq, .slice A4 n c4, .int .u32 (r.sum : Int), .int .i64 r.start] 33)) = W4 at *
  have hten := ten (HX4.out.drewN 1) (HY4.out.drewN 1)
  go_region_held3 (fun w' => w'.cell? ⟨w.heap.size, 0, none⟩ = some (.int .i64 r.kind) ∧ w'.cell? ⟨w.heap.size, 1, none⟩ = some (.int .i64 r.seq) ∧ w'.cell? ⟨w.heap.size, 2, none⟩ = some (.slice A n c) ∧ w'.cell? ⟨w.heap.size, 3, none⟩ = some (.int .u32 (r.sum : Int)) ∧ w'.cell? ⟨w.heap.size, 4, none⟩ = some (.int .i64 r.start) ∧ w'.cell? ⟨w4.heap.size, 0, none⟩ = some (.int .i64 r.kind) ∧ w'.cell? ⟨w4.heap.size, 1, none⟩ = some (.int .i64 r.seq) ∧ w'.cell? ⟨w4.heap.size, 2, none⟩ = some (.slice A4 n c4) ∧ w'.cell? ⟨w4.heap.size, 3, none⟩ = some (.int .u32 (r.sum : Int)) ∧ w'.cell? ⟨w4.heap.size, 4, none⟩ = some (.int .i64 r.start)) (first | exact ten HX5.out HY5.out | exact ten (HX4.out.drewN 1) (HY4.out.drewN 1) | go_keep)
    ((first
      | (go_at_call 18; refine (HTH.out W4.drew w4.heap.size A4 c4 (show Ents W4.drew w4.heap.size A4 r.ents from HE4.out) (show w4.heap.size ≤ W4.heap.size by omega)).mono ?_; rintro e w5 ⟨A5, c5, rfl, hE5, _, hb5⟩
         have HX5 := Lib.hid ((HX4.out.drewN 1).go hb5)
         have HY5 := Lib.hid ((HY4.out.drewN 1).go hb5)
         have HE5 := Lib.hid hE5
         have HR5 := Lib.hid ((HR4.out.drewN 1).keep hb5 hgw)
         clear hb5 hE5)
      | (go_at_call 17; refine (HSA.out w5 _ B A5 A c5 c HE5.out (Nat.le_refl _) (HA.out.below HX5.out.below hB) (by have := HX5.out.below.size; omega)).mono ?_; rintro e w6 ⟨rfl, hb6⟩
         have HX5 := Lib.hid (HX5.out.go hb6)
         have HY5 := Lib.hid (HY5.out.go hb6)
         have HR5 := Lib.hid (HR5.out.keep hb6 HR5.out.lt)
         clear hb6)))
  obtain ⟨y, hy, hye⟩ := low11 bit
  obtain ⟨q, hq, hqe⟩ : ∃ q : Nat, q < 256 ∧ (y : Int) / 8 = (q : Int) := ⟨y / 8, by omega, by omega⟩
  obtain ⟨m, hm8, hme⟩ : ∃ m : Nat, m < 8 ∧ (y : Int) % 8 = (m : Int) := ⟨y % 8, by omega, by omega⟩
  have hmt : (y : Int).tmod 8 = (m : Int) := by rw [Int.tmod_eq_emod_of_nonneg (by omega)]; exact hme
  have HB6 := Lib.hid HX5.out.below
  have hri : q < (recBytes r).length := by have := HL.out; omega
  have HTN := Lib.hid (unp_no (rec_turned (recBytes r) HIS.out q m hq hri hm8))
  generalize recBytes r = L at *
  have hc := HR5.out.cell hri
  have hf := HR5.out.free q
  have hz := flip_is L[q] m hm8
  have hox := byte_lt L[q]
  generalize hold : L[q] = old at *
  clear hold
  generalize hzz : old ^^^ UInt8.ofNat (2 ^ m) = z at *
  clear hzz
  have hwq : IntKind.i64.wrap (q : Int) = (q : Int) := by rw [IntKind.wrap_i64]; omega
  have hqI : (q : Int) < 256 := by omega
  have hwm : IntKind.i64.wrap (m : Int) = (m : Int) := by rw [IntKind.wrap_i64]; omega
  have hwg : w.heap.size ≤ g := by omega
  have HRS := Lib.hid (HR5.out.set hri z)
  have HLS : Hid ((L.set q z).length = 256) := Lib.hid ((List.length_set ..).trans HL.out)
  clear hten HX5 HY5 HE5 HE4 HX4 HY4 HR4 HX0 HX1 HX2 HX3 HR3 HA4 hs4
  go_wp2_with fail
  go_still_tail 13, (by kernel_rfl)
  change wpList _ _ _ _ _ w6.drew
  have HB7 := Lib.hid ((HB6.out.setCell (p := ⟨g, q, none⟩) hwg (.int .u8 z.toNat)).drew)
  have HT7 := Lib.hid (Tab.below HT.out HB7.out htl)
  have hs7 : g < (w6.setCell ⟨g, q, none⟩ (.int .u8 z.toNat)).drew.heap.size := HRS.out.lt
  go_wp2_with fail
  refine (Unpack_full 256 (L.set q z) HLS.out (w6.setCell ⟨g, q, none⟩ (.int .u8 z.toNat)).drew.heap.size (some ⟨g, 0, none⟩) 256 (Nat.le_refl _) _ (Nat.le_refl _) ((show Row (w6.setCell ⟨g, q, none⟩ (.int .u8 z.toNat)).drew g _ [] from HRS.out).sl hs7) HT7.out).mono ?_
  rintro e w8 ⟨A8, c8, rfl, _, _, hb8⟩
  rw [HTN.out.1, HTN.out.2]
  unfold recV nul
  have HB8 := Lib.hid ((below_up HB7.out hb8 HB7.out.size).alloc (below_up HB7.out hb8 HB7.out.size).size (.cells #[.int .i64 0, .int .i64 0, .slice A8 0 c8, .int .u32 0, .int .i64 0] 33))
  clear hb8
  go_wp2
  go_ret
  exact ⟨rfl, HB8.out⟩
theorem back (r : Rec) (bit : Int) (hl : r.ents.length ≤ 8796093022207) (hs : r.sum < 4294967296) (B : Nat) (A : Option Addr) (c : Nat) (w : World) (hB : B ≤ w.heap.size) (hA : Ents w B A r.ents) (hT : Tab w) :
    Calls Tryd.prog 6 #[recV r A c, .int .i64 bit] w fun e w' => e = .returned (.bool true) ∧ Below w.heap.size w w' := by
  cases hm : recMay r with
  | false => exact back_no r hm bit hl hs B A c w hB hA hT
  | true => exact back_yes r hm bit hl hs B A c w hB hA hT
end Go.Proofs.YtgegmoejhnjhjaaDoor.JLBack
