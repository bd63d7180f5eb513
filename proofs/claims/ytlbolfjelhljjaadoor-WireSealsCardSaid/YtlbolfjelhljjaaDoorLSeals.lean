/- The law WireSeals, walked: bytes are sealed, and a seal is known, as the document says. -/
import Derived.Test.YtlbolfjelhljjaaDoorWAwake
import Derived.Test.YtlbolfjelhljjaaDoorWRefSeal
namespace Go.Proofs.YtlbolfjelhljjaaDoor.LSeals
open Go.RowKit WMem WPlain WGive WGet WPut WAppend WHelp WFace WFace2 WCrc WPack WSeal WRef WAny WRefSeal WAwake

/-- two contracts with the length written otherwise -/
theorem Sealed_at (n : Nat) (l : List UInt8) (h : l.length = n) (B : Nat) (A : Option Addr) (c seed : Nat) (w : World) (hs : seed < 4294967296) (hl : n ≤ 140737488355328) (hc : n ≤ c) (hA : Sl w B A (l.map u8v)) (hT : Tab w) :
    Calls Tryd.prog 22 #[.slice A n c, .int .u32 seed] w fun e w' => e = .returned (.bool (sealB l seed)) ∧ ∃ n, w' = w.drewN n := by
  subst h
  exact Sealed_any l B A c seed w hs hl hc hA hT

theorem refSealed_at (n : Nat) (l : List UInt8) (h : l.length = n) (B : Nat) (A : Option Addr) (c seed : Nat) (w : World) (hs : seed < 4294967296) (hl : n ≤ 140737488355328) (hc : n ≤ c) (hA : Sl w B A (l.map u8v)) :
    Calls Tryd.prog 23 #[.slice A n c, .int .u32 seed] w fun e w' => e = .returned (.bool (sealB l seed)) ∧ w = w' := by
  subst h
  exact refSealed_any l B A c seed w hs hl hc hA

set_option maxHeartbeats 1000000 in
theorem seals (l : List UInt8) (B : Nat) (A : Option Addr) (c seed other : Nat) (w : World) (hs : seed < 4294967296) (ho : other < 4294967296) (hl : l.length ≤ 140737488351232) (hA : Sl w B A (l.map u8v)) (hB : B ≤ w.heap.size) (hT : Tab w) :
    Calls Tryd.prog 5 #[.slice A l.length c, .int .u32 seed, .int .u32 other] w fun e w' => e = .returned (.bool true) ∧ Below w.heap.size w w' := by
  have h0 := Tab.lt hT
  have HT := Lib.hid hT
  have HA := Lib.hid hA
  clear hT hA
  go_enter Tryd.func5, Tryd.ntmps5
  go_wp2_with fail
  refine (awake_any w HT.out).mono ?_
  rintro e w1 ⟨rfl, hb1⟩
  have s1 := hb1.size
  have HB1 := Lib.hid hb1
  clear hb1
  go_wp2_with fail
  refine (lent_any l B A c w1 (HA.out.below_le HB1.out hB) (by omega) hl).mono ?_
  rintro e w2 ⟨g, cap, rest, rfl, hg, hcap, hR, hb2⟩
  have s2 := hb2.size
  have HR2 := Lib.hid hR
  have HB2 : Hid (Below w.heap.size w w2) := HB1.out.trans (hb2.mono s1)
  have hgl := hR.lt
  clear hR hb2 HB1
  go_wp2_with fail
  refine (Copied_any l B A c w2 (HA.out.below_le HB2.out hB) hl).mono ?_
  rintro e w3 ⟨v, rfl, hwn, hb3⟩
  have s3 := hb3.size
  have HO3 := Lib.hid (Own.of_row hwn)
  have HR3 := Lib.hid (HR2.out.keep hb3 hgl)
  have HB3 : Hid (Below w.heap.size w w3) := HB2.out.trans (hb3.mono (by omega))
  have HT3 := Lib.hid (Tab.below HT.out HB3.out h0)
  clear hwn hb3 HR2 HB2
  obtain ⟨A1, c1, rfl, hS1, hc1⟩ := HO3.out.sl
  have HS1 := Lib.hid hS1
  clear hS1
  go_wp2_with fail
  refine (Sealed_any l (g + 1) _ cap seed w3 hs (by omega) (by omega) (HR3.out.sl (by omega)) HT3.out).mono ?_
  rintro e w4 ⟨rfl, k1, rfl⟩
  go_wp2_with fail
  refine (refSealed_any l _ A1 c1 seed _ hs (by omega) hc1 (HS1.out.drewN k1)).mono ?_
  rintro e w4 ⟨rfl, rfl⟩
  go_wp2_with fail
  refine (Seal_any l cap _ _ g seed hs (by omega) (by omega) (HR3.out.drewN k1) (Tab.drewN HT3.out k1)).mono ?_
  rintro e w5 ⟨rfl, hR5, hG5⟩
  have s5 := hG5.size
  have hs5 : w3.heap.size ≤ w5.heap.size := by simpa using s5
  have HO5 := Lib.hid ((HO3.out.drewN k1).grown hG5 (fun k hk => by injection hk; omega))
  have HR5 := Lib.hid hR5
  have HB5 : Hid (Below w.heap.size w w5) := (below_drewN HB3.out k1).trans (grown_below hG5 (by omega) (by simp; omega))
  clear s5 hR5 hG5 HO3 HR3 HB3 HT3 HS1
  go_wp2_with fail
  refine (refSeal_any l _ (.slice A1 l.length c1) seed w5 hs (by omega) HO5.out).mono ?_
  rintro e w6 ⟨rfl, hO6, hG6⟩
  have hbl := HO5.out.block
  have s6 := hG6.size
  have HO6 := Lib.hid hO6
  have HR6 := Lib.hid (HR5.out.grown hG6 (fun e => by have := hbl g e.symm; omega))
  have HB6 : Hid (Below w.heap.size w w6) := HB5.out.grown hG6 (by omega) (fun k hk => by have := hbl k hk; omega)
  have HT6 := Lib.hid (Tab.below HT.out HB6.out h0)
  clear hO6 hG6 hbl HO5 HR5 HB5
  obtain ⟨hl2, hS2, hc2⟩ := HO6.out.at_
  have HS2 := Lib.hid hS2
  have hll := Lib.hid (sealL_len l seed)
  clear hS2 hl2 HO6
  go_wp2_with fail
  refine (Same_at _ _ (sealL l seed) hll.out hll.out (g + 1) _ _ A1 cap c1 _ (HR6.out.sl (by omega)) HS2.out (by omega)).mono ?_
  rintro e w7 ⟨rfl, k2, rfl⟩
  go_wp2_with fail
  refine (marked_at _ (sealL l seed) hll.out g cap rest _ (HR6.out.drewN k2) hcap (by omega)).mono ?_
  rintro e w7 ⟨rfl, rfl⟩
  go_wp2_with fail
  refine (Sealed_at _ (sealL l seed) hll.out (g + 1) _ cap other _ ho (by omega) (by omega) ((HR6.out.drewN k2).sl (by omega)) (Tab.drewN HT6.out k2)).mono ?_
  rintro e w8 ⟨rfl, k3, rfl⟩
  go_wp2_with fail
  refine (refSealed_at _ (sealL l seed) hll.out _ A1 c1 other _ ho (by omega) hc2 (HS2.out.drewN (k2 + k3))).mono ?_
  rintro e w8 ⟨rfl, rfl⟩
  go_wp2
  go_ret
  exact ⟨rfl, below_drewN HB6.out (k2 + k3)⟩
end Go.Proofs.YtlbolfjelhljjaaDoor.LSeals
