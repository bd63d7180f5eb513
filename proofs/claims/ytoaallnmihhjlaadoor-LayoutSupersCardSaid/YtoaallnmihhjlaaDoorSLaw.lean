/- The law LayoutSupers. -/
import Derived.Test.YtoaallnmihhjlaaDoorSBoth
namespace Go.Proofs.YtoaallnmihhjlaaDoor.SLaw
open Go.RowKit WMem WPlain WFace2 WWide WAny WCrc WSeal GPlain GWithin GGeo GFace SNums SPlain SBoth SPack SRPack SEqual

set_option maxHeartbeats 2000000 in
set_option maxRecDepth 20000 in
theorem supers_no (b p n j fb fi oo mo : Int) (cl : Bool) (l : List UInt8) (B : Nat) (A : Option Addr) (c : Nat) (hc : l.length ≤ c) (w : World) (hB : B ≤ w.heap.size) (hA : Sl w B A (l.map u8v)) (hT : Tab w) (h : supMay b p n j fb fi oo mo = false) :
    Calls Tryd.prog 3 #[.agg #[.int .i64 b, .int .i64 p, .int .i64 n, .int .i64 j, .int .i64 fb, .int .i64 fi, .int .i64 oo, .int .i64 mo, .bool cl], .slice A l.length c] w fun e w' => e = .returned (.bool true) ∧ Below w.heap.size w w' := by
  have HX := Lib.hid (Boxed.start w [.int .i64 b, .int .i64 p, .int .i64 n, .int .i64 j, .int .i64 fb, .int .i64 fi, .int .i64 oo, .int .i64 mo, .bool cl] 25)
  have HA := Lib.hid hA
  have HT := Lib.hid hT
  have htl := Tab.lt hT
  have H := Lib.hid h
  have HUV : Hid (unpV l = .tuple #[.agg #[.int .i64 (us l 6), .int .i64 (us l 10), .int .i64 (us l 14), .int .i64 (us l 18), .int .i64 (us l 22), .int .i64 (us l 26), .int .i64 (us l 30), .int .i64 (us l 34), .bool (uc l)], .int .i64 (ue l)]) := Lib.hid rfl
  clear hA hT h
  go_enter Tryd.func3, Tryd.ntmps3
  go_wp2_with fail
  refine (awake_any _).mono ?_
  rintro e w1 ⟨rfl, hb1⟩
  have HY1 := Lib.hid (HX.out.go hb1)
  obtain ⟨c0, c1, c2, c3, c4, c5, c6, c7, c8⟩ := SRPack.Boxed.nine HY1.out
  clear hb1
  go_wp2_with fail
  refine (PackSuper_no b p n j fb fi oo mo cl _ H.out).mono ?_
  rintro e w2 ⟨rfl, hb2⟩
  have HY2 := Lib.hid (HY1.out.go hb2)
  clear hb2
  obtain ⟨c0, c1, c2, c3, c4, c5, c6, c7, c8⟩ := SRPack.Boxed.nine HY2.out
  go_wp2_with fail
  refine (refPackSuper_no b p n j fb fi oo mo cl _ H.out).mono ?_
  rintro e w3 ⟨rfl, hb3⟩
  have HY3 := Lib.hid (HY2.out.go hb3)
  clear hb3
  have hz3 := HY3.out.below.size
  have HA3 := Lib.hid (HA.out.below_le HY3.out.below hB)
  have HT3 := Lib.hid (Tab.below HT.out HY3.out.below htl)
  clear c0 c1 c2 c3 c4 c5 c6 c7 c8
  go_wp2_with fail
  refine (Unpack_c l B A c w3 hc (by omega) HA3.out HT3.out).mono ?_
  rintro e w4 ⟨rfl, hb4⟩
  rw [HUV.out]
  have HY4 := Lib.hid (HY3.out.go hb4)
  have HB4 := Lib.hid hb4
  have hz4 := hb4.size
  clear hb4
  have HA4 := Lib.hid (HA.out.below_le HY4.out.below hB)
  go_wp2_with fail
  refine (refUnpack_c l B A c _ (by simp; omega) (alloc_sl HA4.out (by omega) _)).mono ?_
  rintro e w5 ⟨rfl, hb5⟩
  rw [HUV.out]
  have HY5 := Lib.hid ((HY4.out.alloc _).go hb5)
  have HK := Lib.hid ((Boxed.start w4 [.int .i64 (us l 6), .int .i64 (us l 10), .int .i64 (us l 14), .int .i64 (us l 18), .int .i64 (us l 22), .int .i64 (us l 26), .int .i64 (us l 30), .int .i64 (us l 34), .bool (uc l)] 25).go hb5)
  have hz5 := hb5.size
  simp at hz5
  have HB5 := Lib.hid hb5
  clear hb5
  go_wp2_with fail
  refine (Same_any 0 0 [] [] rfl rfl 0 0 none none 0 0 _ (Sl.nil _ _ _) (Sl.nil _ _ _) (by decide) true rfl).mono ?_
  rintro e w' ⟨rfl, nd, rfl⟩
  obtain ⟨k0, k1, k2, k3, k4, k5, k6, k7, k8⟩ := SRPack.Boxed.nine ((HK.out.alloc (.cells #[.int .i64 (us l 6), .int .i64 (us l 10), .int .i64 (us l 14), .int .i64 (us l 18), .int .i64 (us l 22), .int .i64 (us l 26), .int .i64 (us l 30), .int .i64 (us l 34), .bool (uc l)] 25)).drewN nd)
  obtain ⟨m0, m1, m2, m3, m4, m5, m6, m7, m8⟩ := SRPack.Boxed.nine ((Boxed.start w5 [.int .i64 (us l 6), .int .i64 (us l 10), .int .i64 (us l 14), .int .i64 (us l 18), .int .i64 (us l 22), .int .i64 (us l 26), .int .i64 (us l 30), .int .i64 (us l 34), .bool (uc l)] 25).drewN nd)
  go_wp2_with fail
  go_ret
  exact ⟨rfl, ((HY5.out.alloc _).drewN nd).below⟩

set_option maxHeartbeats 2000000 in
set_option maxRecDepth 20000 in
theorem supers_yes (b p n j fb fi oo mo : Int) (cl : Bool) (l : List UInt8) (B : Nat) (A : Option Addr) (c : Nat) (hc : l.length ≤ c) (w : World) (hB : B ≤ w.heap.size) (hA : Sl w B A (l.map u8v)) (hT : Tab w) (h : supMay b p n j fb fi oo mo = true) :
    Calls Tryd.prog 3 #[.agg #[.int .i64 b, .int .i64 p, .int .i64 n, .int .i64 j, .int .i64 fb, .int .i64 fi, .int .i64 oo, .int .i64 mo, .bool cl], .slice A l.length c] w fun e w' => e = .returned (.bool true) ∧ Below w.heap.size w w' := by
  have HX := Lib.hid (Boxed.start w [.int .i64 b, .int .i64 p, .int .i64 n, .int .i64 j, .int .i64 fb, .int .i64 fi, .int .i64 oo, .int .i64 mo, .bool cl] 25)
  have HA := Lib.hid hA
  have HT := Lib.hid hT
  have htl := Tab.lt hT
  have H := Lib.hid h
  have HUV : Hid (unpV l = .tuple #[.agg #[.int .i64 (us l 6), .int .i64 (us l 10), .int .i64 (us l 14), .int .i64 (us l 18), .int .i64 (us l 22), .int .i64 (us l 26), .int .i64 (us l 30), .int .i64 (us l 34), .bool (uc l)], .int .i64 (ue l)]) := Lib.hid rfl
  clear hA hT h
  go_enter Tryd.func3, Tryd.ntmps3
  go_wp2_with fail
  refine (awake_any _).mono ?_
  rintro e w1 ⟨rfl, hb1⟩
  have HY1 := Lib.hid (HX.out.go hb1)
  obtain ⟨c0, c1, c2, c3, c4, c5, c6, c7, c8⟩ := SRPack.Boxed.nine HY1.out
  clear hb1
  go_wp2_with fail
  have HT1 := Lib.hid (Tab.below HT.out HY1.out.below htl)
  refine (PackSuper_yes b p n j fb fi oo mo cl _ H.out HT1.out).mono ?_
  rintro e w2 ⟨g2, rfl, hg2, hR2, hb2⟩
  have HY2 := Lib.hid (HY1.out.go hb2)
  have HR2 := Lib.hid hR2
  have hgl := hR2.lt
  clear hb2 hR2 hg2
  obtain ⟨c0, c1, c2, c3, c4, c5, c6, c7, c8⟩ := SRPack.Boxed.nine HY2.out
  go_wp2_with fail
  refine (refPackSuper_yes b p n j fb fi oo mo cl _ H.out).mono ?_
  rintro e w3 ⟨v3, rfl, hO3, hb3⟩
  obtain ⟨A3, cp3, rfl, hs3⟩ := SRUnp.own256 hO3 (supBytes_len b p n j fb fi oo mo cl)
  have HY3 := Lib.hid (HY2.out.go hb3)
  have hz23 := hb3.size
  have HR3 := Lib.hid ((HR2.out.sl hgl).below hb3)
  have HS3 := Lib.hid hs3
  clear hb3 hO3 hs3
  have hz3 := HY3.out.below.size
  have HA3 := Lib.hid (HA.out.below_le HY3.out.below hB)
  have HT3 := Lib.hid (Tab.below HT.out HY3.out.below htl)
  clear c0 c1 c2 c3 c4 c5 c6 c7 c8
  go_wp2_with fail
  refine (Unpack_c l B A c w3 hc (by omega) HA3.out HT3.out).mono ?_
  rintro e w4 ⟨rfl, hb4⟩
  rw [HUV.out]
  have HY4 := Lib.hid (HY3.out.go hb4)
  have HB4 := Lib.hid hb4
  have hz4 := hb4.size
  clear hb4
  have HA4 := Lib.hid (HA.out.below_le HY4.out.below hB)
  go_wp2_with fail
  refine (refUnpack_c l B A c _ (by simp; omega) (alloc_sl HA4.out (by omega) _)).mono ?_
  rintro e w5 ⟨rfl, hb5⟩
  rw [HUV.out]
  have HY5 := Lib.hid ((HY4.out.alloc _).go hb5)
  have HK := Lib.hid ((Boxed.start w4 [.int .i64 (us l 6), .int .i64 (us l 10), .int .i64 (us l 14), .int .i64 (us l 18), .int .i64 (us l 22), .int .i64 (us l 26), .int .i64 (us l 30), .int .i64 (us l 34), .bool (uc l)] 25).go hb5)
  have hz5 := hb5.size
  simp at hz5
  have HB5 := Lib.hid hb5
  clear hb5
  go_wp2_with fail
  have S5 := Lib.hid ((alloc_sl (HR3.out.below_le HB4.out hz23) (by omega) _).below_le HB5.out (by simp; omega))
  have T5 := Lib.hid ((alloc_sl (HS3.out.below_le HB4.out (Nat.le_refl _)) (by omega) _).below_le HB5.out (by simp; omega))
  refine (Same_any 256 256 _ _ (supBytes_len b p n j fb fi oo mo cl) (supBytes_len b p n j fb fi oo mo cl) w2.heap.size w3.heap.size _ A3 256 cp3 _ (alloc_sl S5.out (by omega) _) (alloc_sl T5.out (by omega) _) (by decide) true (beq_self_eq_true _)).mono ?_
  rintro e w' ⟨rfl, nd, rfl⟩
  obtain ⟨k0, k1, k2, k3, k4, k5, k6, k7, k8⟩ := SRPack.Boxed.nine ((HK.out.alloc (.cells #[.int .i64 (us l 6), .int .i64 (us l 10), .int .i64 (us l 14), .int .i64 (us l 18), .int .i64 (us l 22), .int .i64 (us l 26), .int .i64 (us l 30), .int .i64 (us l 34), .bool (uc l)] 25)).drewN nd)
  obtain ⟨m0, m1, m2, m3, m4, m5, m6, m7, m8⟩ := SRPack.Boxed.nine ((Boxed.start w5 [.int .i64 (us l 6), .int .i64 (us l 10), .int .i64 (us l 14), .int .i64 (us l 18), .int .i64 (us l 22), .int .i64 (us l 26), .int .i64 (us l 30), .int .i64 (us l 34), .bool (uc l)] 25).drewN nd)
  go_wp2_with fail
  go_ret
  exact ⟨rfl, ((HY5.out.alloc _).drewN nd).below⟩

theorem supers (b p n j fb fi oo mo : Int) (cl : Bool) (l : List UInt8) (B : Nat) (A : Option Addr) (c : Nat) (hc : l.length ≤ c) (w : World) (hB : B ≤ w.heap.size) (hA : Sl w B A (l.map u8v)) (hT : Tab w) :
    Calls Tryd.prog 3 #[.agg #[.int .i64 b, .int .i64 p, .int .i64 n, .int .i64 j, .int .i64 fb, .int .i64 fi, .int .i64 oo, .int .i64 mo, .bool cl], .slice A l.length c] w fun e w' => e = .returned (.bool true) ∧ Below w.heap.size w w' := by
  cases h : supMay b p n j fb fi oo mo with
  | true => exact supers_yes b p n j fb fi oo mo cl l B A c hc w hB hA hT h
  | false => exact supers_no b p n j fb fi oo mo cl l B A c hc w hB hA hT h
end Go.Proofs.YtoaallnmihhjlaaDoor.SLaw
