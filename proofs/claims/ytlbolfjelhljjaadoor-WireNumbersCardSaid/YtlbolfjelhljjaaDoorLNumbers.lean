/- The law WireNumbers, walked: numbers are read and written as the document says, at any place and width. -/
import Derived.Test.YtlbolfjelhljjaaDoorWAwake
import Derived.Test.YtlbolfjelhljjaaDoorWAny
namespace Go.Proofs.YtlbolfjelhljjaaDoor.LNumbers
open Go.RowKit WMem WPlain WGive WGet WPut WAppend WHelp WFace WFace2 WCrc WPack WSeal WRef WAny WAwake

set_option maxHeartbeats 1000000 in
theorem numbers (l : List UInt8) (B : Nat) (A : Option Addr) (c : Nat) (p n : Int) (x : Nat) (w : World) (hx : x < 18446744073709551616) (hl : l.length ≤ 140737488351232) (hA : Sl w B A (l.map u8v)) (hB : B ≤ w.heap.size) (hT : Tab w) :
    Calls Tryd.prog 4 #[.slice A l.length c, .int .i64 p, .int .i64 n, .int .u64 x] w fun e w' => e = .returned (.bool true) ∧ Below w.heap.size w w' := by
  have h0 := Tab.lt hT
  have HT := Lib.hid hT
  have HA := Lib.hid hA
  clear hT hA
  go_enter Tryd.func4, Tryd.ntmps4
  go_wp2_with fail
  refine (awake_any w HT.out).mono ?_
  rintro e w1 ⟨rfl, hb1⟩
  have s1 := hb1.size
  have HB1 := Lib.hid hb1
  clear hb1
  go_wp2_with fail
  refine (lent_any l B A c w1 (HA.out.below_le HB1.out hB) (by omega) hl).mono ?_
  rintro e w2 ⟨g, cap, rest, rfl, hg, hcap, hR, hb2⟩
  have s2 := hb2.size
  have HR2 := Lib.hid hR
  have HB2 : Hid (Below w.heap.size w w2) := HB1.out.trans (hb2.mono s1)
  have hgl := hR.lt
  clear hR hb2 HB1
  go_wp2_with fail
  refine (Copied_any l B A c w2 (HA.out.below_le HB2.out hB) hl).mono ?_
  rintro e w3 ⟨v, rfl, ho, hb3⟩
  have s3 := hb3.size
  have HO3 := Lib.hid (Own.of_row ho)
  have HR3 := Lib.hid (HR2.out.keep hb3 hgl)
  have HB3 : Hid (Below w.heap.size w w3) := HB2.out.trans (hb3.mono (by omega))
  clear ho hb3 HR2 HB2
  go_wp2_with fail
  refine (Get_any l (g + 1) _ cap p n w3 (by omega) (HR3.out.sl (by omega)) (by omega)).mono ?_
  rintro e w4 ⟨rfl, hb4⟩
  have s4 := hb4.size
  have HO4 := Lib.hid (HO3.out.keep hb4)
  have HR4 := Lib.hid (HR3.out.keep hb4 (by omega))
  have HB4 : Hid (Below w.heap.size w w4) := HB3.out.trans (hb4.mono (by omega))
  clear hb4 HO3 HR3 HB3
  go_wp2_with fail
  refine (refGet_any l B A c p n w4 (by omega) (HA.out.below_le HB4.out hB)).mono ?_
  rintro e w5 ⟨rfl, rfl⟩
  go_wp2_with fail
  refine (Put_any l cap p n w4 _ g x (by omega) HR4.out).mono ?_
  rintro e w5 ⟨rfl, hR5, hG5⟩
  have s5 := hG5.size
  have HO5 := Lib.hid (HO4.out.grown hG5 (fun k hk => by injection hk; omega))
  have HR5 := Lib.hid hR5
  have HB5 : Hid (Below w.heap.size w w5) := HB4.out.trans (grown_below hG5 (by omega) (by omega))
  clear hR5 hG5 HO4 HR4 HB4
  go_wp2_with fail
  refine (refPut_any l p n w5 _ v x hx (by omega) HO5.out).mono ?_
  rintro e w6 ⟨rfl, hO6, hG6⟩
  have hbl := HO5.out.block
  have s6 := hG6.size
  have HO6 := Lib.hid hO6
  have HR6 := Lib.hid (HR5.out.grown hG6 (fun e => by have := hbl g e.symm; omega))
  have HB6 : Hid (Below w.heap.size w w6) := HB5.out.grown hG6 (by omega) (fun k hk => by have := hbl k hk; omega)
  clear hO6 hG6 hbl HO5 HR5 HB5
  obtain ⟨A2, c2, hv, hS2, _⟩ := HO6.out.sl
  have HS2 := Lib.hid hS2
  have hll := Lib.hid (putL_len l p n x)
  rw [hv]
  clear hS2 hv HO6
  go_wp2_with fail
  refine (Same_at _ _ (putL l p n x) hll.out rfl (g + 1) _ _ A2 cap c2 _ (HR6.out.sl (by omega)) HS2.out (by omega)).mono ?_
  rintro e w7 ⟨rfl, k, rfl⟩
  go_wp2_with fail
  refine (marked_at _ (putL l p n x) hll.out g cap rest _ (HR6.out.drewN k) hcap (by omega)).mono ?_
  rintro e w7 ⟨rfl, rfl⟩
  go_wp2
  go_ret
  exact ⟨rfl, below_drewN HB6.out k⟩
end Go.Proofs.YtlbolfjelhljjaaDoor.LNumbers
