/- The law WireOnly, walked: whatever can be unpacked is what would be packed. -/
import Derived.Test.YtlbolfjelhljjaaDoorWAwake
import Derived.Test.YtlbolfjelhljjaaDoorWWide
import Derived.Deep.QuietTactic
import Derived.BigQuiet
namespace Go.Proofs.YtlbolfjelhljjaaDoor.LOnly
open Go.RowKit WMem WPlain WGive WGet WPut WAppend WHelp WList WPack WUnpack WFace WFace2 WCrc WSeal WAwake WWide

set_option maxHeartbeats 1000000 in
theorem only (b : List UInt8) (ws : List Int) (B : Nat) (A A' : Option Addr) (c c' : Nat) (w : World) (hl : b.length ≤ 140737488351232) (hl' : ws.length ≤ 17592186044416) (hA : Sl w B A (b.map u8v)) (hA' : Sl w B A' (ws.map i64v)) (hB : B ≤ w.heap.size) (hT : Tab w) :
    Calls Tryd.prog 10 #[.slice A b.length c, .slice A' ws.length c'] w fun e w' => e = .returned (.bool true) ∧ Below w.heap.size w w' := by
  have h0 := Tab.lt hT
  have HT := Lib.hid hT
  have HA := Lib.hid hA
  have HA' := Lib.hid hA'
  clear hT hA hA'
  go_enter Tryd.func10, Tryd.ntmps10
  go_wp2_with fail
  refine (awake_any w HT.out).mono ?_
  rintro e w1 ⟨rfl, hb1⟩
  have s1 := hb1.size
  have HB1 := Lib.hid hb1
  clear hb1
  by_cases hok : fineI ws ∧ tot (nats ws) = b.length
  · obtain ⟨hf, ht⟩ := hok
    have HF := Lib.hid hf
    have HTT := Lib.hid ht
    clear hf ht
    go_wp2_with fail
    refine (UnpackW_ok b ws B A A' c c' w1 (by omega) HF.out HTT.out (by omega) hl' (HA.out.below_le HB1.out hB) (HA'.out.below_le HB1.out hB)).mono ?_
    rintro e w2 ⟨g, rfl, hg, hR, hb2⟩
    have s2 := hb2.size
    have HR2 := Lib.hid hR
    have HB2 : Hid (Below w.heap.size w w2) := HB1.out.trans (hb2.mono s1)
    clear hR hb2
    by_cases h4 : b.length ≤ 4096
    · have d4 : decide ((4096 : Int) < (b.length : Int)) = false := by simp; omega
      have d5 : decide (4096 < b.length) = false := by simp; omega
      have hul := unp_length (nats ws) b
      rw [nats_len] at hul
      have HUL := Lib.hid hul
      have hpk : packs (unp (nats ws) b) ws (b.length : Int) := ⟨hul, HF.out, by have := HTT.out; omega, by omega⟩
      have HPK := Lib.hid hpk
      have HFI := Lib.hid (fit_unp (nats ws) b (nats_fine ws HF.out) HTT.out.symm)
      have hby : bytesOf_ (unp (nats ws) b) ws (b.length : Int) = b := by
        unfold bytesOf_ WPack.part
        rw [List.take_of_length_le (by omega), List.take_of_length_le (by rw [unp_length]; exact Nat.le_refl _), packed_unp _ _ (nats_fine ws HF.out) HTT.out.symm, HTT.out]
        simp
      have HBY := Lib.hid hby
      clear hul hpk hby
      go_wp2_with fail
      refine (PackW_at ws.length (unp (nats ws) b) HUL.out ws w2.heap.size _ A' ws.length c' w2 b.length (Nat.le_refl _) HPK.out HFI.out (HR2.out.sl HR2.out.lt) ((HA'.out.below_le HB2.out hB).up (by omega))).mono ?_
      rintro e w3 ⟨g2, rfl, hg2, hR3, hb3⟩
      rw [HBY.out] at hR3
      have HR3 := Lib.hid hR3
      have HB3 : Hid (Below w.heap.size w w3) := HB2.out.trans (hb3.mono (by omega))
      have HA3 := Lib.hid (HA.out.below_le HB3.out hB)
      have HS3 := Lib.hid (hR3.sl hR3.lt)
      clear hR3 hb3 HPK HFI HBY HUL
      go_wp2
      go_loopw [10] (fun i wr => ∃ k n : Nat, k ≤ b.length ∧ i = .int .i64 k ∧ wr = w3.drewN n) (fun i _ => b.length - (intOf i).toNat)
      case atStart => exact ⟨0, 0, Nat.zero_le _, rfl, rfl⟩
      case round =>
        obtain ⟨k, n, hk, rfl, rfl⟩ := hrel
        by_cases hlt : k < b.length
        · obtain ⟨a, rfl, _, hc⟩ := HA3.out.u8 hlt
          have hc' := HR3.out.cell hlt
          have hx := byte_lt b[k]
          generalize b[k].toNat = x at hc hc' hx
          go_wp2
          go_quiet (fail)
          go_wp2
          go_roundw
          case rel => exact ⟨k + 1, n + nq, by omega, by go_num, rfl⟩
          case measure => simp [intOf]; omega
        · go_wp2
          go_ret
          exact ⟨rfl, below_drewN HB3.out n⟩
    · have d4 : decide ((4096 : Int) < (b.length : Int)) = true := by simp; omega
      have d5 : decide (4096 < b.length) = true := by simp; omega
      go_wp2
      go_ret
      exact ⟨rfl, HB2.out⟩
  · go_wp2_with fail
    refine (UnpackW_no b ws B A A' c c' w1 (by omega) hok hl' (HA'.out.below_le HB1.out hB)).mono ?_
    rintro e w2 ⟨rfl, hb2⟩
    have HB2 : Hid (Below w.heap.size w w2) := HB1.out.trans (hb2.mono s1)
    clear hb2 hok
    go_wp2
    go_ret
    exact ⟨rfl, HB2.out⟩
end Go.Proofs.YtlbolfjelhljjaaDoor.LOnly
