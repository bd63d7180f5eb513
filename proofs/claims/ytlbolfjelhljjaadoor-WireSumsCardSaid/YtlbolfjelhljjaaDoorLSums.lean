/- The law WireSums, walked: the sum over any bytes, with any seed, is the one that the document's steps make; the bytes and the marks behind them stay. -/
import Derived.Test.YtlbolfjelhljjaaDoorWAwake
import Derived.Test.YtlbolfjelhljjaaDoorWRef
namespace Go.Proofs.YtlbolfjelhljjaaDoor.LSums
open Go.RowKit WMem WPlain WGive WGet WPut WAppend WHelp WFace WFace2 WCrc WPack WSeal WRef WAwake

set_option maxHeartbeats 1000000 in
theorem sums (seed : Nat) (l : List UInt8) (B : Nat) (A : Option Addr) (c : Nat) (w : World) (hs : seed < 4294967296) (hl : l.length ≤ 140737488351232) (hA : Sl w B A (l.map u8v)) (hB : B ≤ w.heap.size) (hT : Tab w) :
    Calls Tryd.prog 3 #[.int .u32 seed, .slice A l.length c] w fun e w' => e = .returned (.bool true) ∧ Below w.heap.size w w' := by
  have h0 := Tab.lt hT
  have HT := Lib.hid hT
  have HA := Lib.hid hA
  clear hT hA
  go_enter Tryd.func3, Tryd.ntmps3
  go_wp2_with fail
  refine (awake_any w HT.out).mono ?_
  rintro e w1 ⟨rfl, hb1⟩
  have s1 := hb1.size
  have HB1 := Lib.hid hb1
  clear hb1
  go_wp2_with fail
  refine (lent_any l B A c w1 (HA.out.below_le HB1.out hB) (by omega) hl).mono ?_
  rintro e w2 ⟨g, cap, rest, rfl, hg, hcap, hR, hb2⟩
  have s2 := hb2.size
  have HR := Lib.hid hR
  have HB2 : Hid (Below w.heap.size w w2) := HB1.out.trans (hb2.mono s1)
  have HT2 := Lib.hid (Tab.below HT.out HB2.out h0)
  have HA2 := Lib.hid (HA.out.below_le HB2.out hB)
  have hgl := hR.lt
  clear hR hb2
  go_wp2_with fail
  refine (wire_crc seed l (g + 1) _ _ w2 hs (by omega) (HR.out.sl (by omega)) HT2.out).mono ?_
  rintro e w3 ⟨rfl, rfl⟩
  go_wp2_with fail
  refine (ref_crc seed l B A c _ hs (by omega) HA2.out).mono ?_
  rintro e w3 ⟨rfl, rfl⟩
  go_wp2_with fail
  refine (Same_yes l (g + 1) B _ A _ c _ (HR.out.sl (by omega)) HA2.out (by omega)).mono ?_
  rintro e w3 ⟨rfl, n, rfl⟩
  go_wp2_with fail
  refine (marked_any l g cap rest _ (HR.out.drewN n) hcap (by omega)).mono ?_
  rintro e w3 ⟨rfl, rfl⟩
  go_wp2
  go_ret
  exact ⟨rfl, below_drewN HB2.out n⟩
end Go.Proofs.YtlbolfjelhljjaaDoor.LSums
