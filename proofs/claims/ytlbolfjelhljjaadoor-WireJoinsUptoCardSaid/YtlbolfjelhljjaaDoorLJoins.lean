/- The law WireJoins, walked: the sum over two rows of bytes, one behind the other, is the sum over the second with the sum over the first as its seed. -/
import Derived.Test.YtlbolfjelhljjaaDoorWAwake
namespace Go.Proofs.YtlbolfjelhljjaaDoor.LJoins
open Go.RowKit WMem WPlain WGive WGet WPut WAppend WHelp WFace WFace2 WCrc WPack WSeal WAwake

set_option maxHeartbeats 1000000 in
theorem joins (seed : Nat) (l r : List UInt8) (B : Nat) (A A' : Option Addr) (c c' : Nat) (w : World) (hs : seed < 4294967296) (hl : l.length ≤ 2097152) (hr : r.length ≤ 2097152) (hA : Sl w B A (l.map u8v)) (hA' : Sl w B A' (r.map u8v)) (hB : B ≤ w.heap.size) (hT : Tab w) :
    Calls Tryd.prog 8 #[.int .u32 seed, .slice A l.length c, .slice A' r.length c'] w fun e w' => e = .returned (.bool true) ∧ Below w.heap.size w w' := by
  have h0 := Tab.lt hT
  have HT := Lib.hid hT
  have HA := Lib.hid hA
  have HA' := Lib.hid hA'
  clear hT hA hA'
  go_enter Tryd.func8, Tryd.ntmps8
  go_wp2_with fail
  refine (awake_any w HT.out).mono ?_
  rintro e w1 ⟨rfl, hb1⟩
  have s1 := hb1.size
  have HB1 := Lib.hid hb1
  clear hb1
  have ho0 : (w1.alloc (.cells #[] 5)).ownsRow w1.heap.size 5 1 (.slice (some ⟨w1.heap.size, 0, none⟩) 0 0) 0 [] := World.ownsRow_made w1 #[] 0 (Nat.le_refl _) (by decide) rfl
  have hA0 : Sl (w1.alloc (.cells #[] 5)) B A (l.map u8v) := (HA.out.below_le HB1.out hB).keep fun q hq => World.cell?_alloc_lt w1 _ q (by omega)
  have hA1 : Sl (w1.alloc (.cells #[] 5)) B A' (r.map u8v) := (HA'.out.below_le HB1.out hB).keep fun q hq => World.cell?_alloc_lt w1 _ q (by omega)
  have HO := Lib.hid ho0
  have HS := Lib.hid hA0
  have HS' := Lib.hid hA1
  clear ho0 hA0 hA1
  go_wp2_with (first
    | (at_builtin; go_loud (refine wl_append rfl (.tmp 10) (.tmp 11) 23 rfl w1.heap.size 5 1 elem8 (.slice (some ⟨w1.heap.size, 0, none⟩) 0 0) 0 [] rfl HO.out B A l.length c (l.map u8v) rfl (by simp) HS.out (one_u8 l) (by omega) (by unfold maxLen; omega) (by simp) ?_); intro v1 w2 h1 h2 h3
       have hs1 : w1.heap.size + 1 ≤ w2.heap.size := by have := h2.size; simpa using this
       have H1 := Lib.hid h1
       have H2 := Lib.hid h2
       have H3 := Lib.hid h3
       have HN : Hid (Sl w2 B A' (r.map u8v)) := HS'.out.grown (g := w1.heap.size) h2 (by omega) (by simp; omega)
       clear h1 h2 h3
       go_wp2_with (at_builtin; go_loud (refine wl_append rfl (.tmp 12) (.tmp 13) 23 rfl w1.heap.size 5 1 elem8 v1 _ _ rfl H1.out B A' r.length c' (r.map u8v) rfl (by simp) HN.out (one_u8 r) (by omega) (by unfold maxLen; omega) (by omega) ?_); intro v2 w3 k1 k2 k3
                    have K1 := Lib.hid k1
                    have K2 := Lib.hid k2
                    have K3 := Lib.hid k3
                    clear k1 k2 k3))
    | fail)
  obtain ⟨A2, c2, rfl, hS2, _⟩ := own_sl K1.out
  have b2 : Below w.heap.size w w2 := (HB1.out.alloc s1 _).trans (grown_below (g := w1.heap.size) H2.out s1 (by simp))
  have s2 := b2.size
  have b3 : Below w.heap.size w w3 := b2.grown K2.out s2 (by
    intro k hk
    rcases H3.out with h | h <;> (rw [h] at hk; simp [Value.ownBlock] at hk; omega))
  have HB3 := Lib.hid b3
  have HT3 := Lib.hid (Tab.below HT.out b3 h0)
  have HA3 := Lib.hid (HA.out.below_le b3 hB)
  have HA3' := Lib.hid (HA'.out.below_le b3 hB)
  have HS2 := Lib.hid hS2
  have hcl := crc_lt seed l
  have HE := Lib.hid (crc_append seed hs l r)
  clear b2 b3 hS2 K1 K2 K3
  refine (wire_crc_len _ seed (l ++ r) (by simp) _ A2 c2 _ hs (by omega) (by simpa using HS2.out) HT3.out).mono ?_
  rintro e w4 ⟨rfl, rfl⟩
  go_wp2_with fail
  refine (wire_crc seed l B A c _ hs (by omega) HA3.out HT3.out).mono ?_
  rintro e w4 ⟨rfl, rfl⟩
  go_wp2_with fail
  refine (wire_crc (crc seed l) r B A' c' _ hcl (by omega) HA3'.out HT3.out).mono ?_
  rintro e w4 ⟨rfl, rfl⟩
  rw [HE.out]
  go_wp2
  go_ret
  exact ⟨rfl, HB3.out⟩
end Go.Proofs.YtlbolfjelhljjaaDoor.LJoins
