/- The document's answers for seals. -/
import Derived.Test.YtkkcipjlinfieaaDoorWAny
namespace Go.Proofs.YtkkcipjlinfieaaDoor.WRefSeal
open Go.RowKit WMem WPlain WGive WGet WPut WAppend WHelp WFace WFace2 WCrc WPack WSeal WRef WAny

set_option maxHeartbeats 400000 in
theorem refSeal_any (l : List UInt8) (base : Nat) (v : Value) (seed : Nat) (w : World) (hs : seed < 4294967296) (hl : l.length ≤ 140737488355328) (hO : Own w base v l) :
    Calls Tryd.prog 43 #[v, .int .u32 seed] w fun e w' => e = .returned (.int .i64 (sealE l)) ∧ Own w' base v (sealL l seed) ∧ w.grownBy w' v.ownBlock := by
  have hll := sealL_len l seed
  revert hll
  unfold sealE sealL
  by_cases h : 4 ≤ l.length
  · rw [if_pos h, if_pos h]
    intro hll
    rcases hO with ⟨_, rfl⟩ | ⟨g, c, rest, rfl, hg, hc, hR⟩
    · simp at h
    obtain ⟨p, hp⟩ : ∃ p, l.length = p + 4 := ⟨l.length - 4, by omega⟩
    have hpl : (l.take p).length = p := by simp; omega
    have hpe : l.length - 4 = p := by omega
    have hcl := crc_lt seed (l.take p)
    have HC := Lib.hid (ref_crc seed (l.take p) _ (some ⟨g, 0, none⟩) c w hs (by omega) (by rw [List.map_take]; exact (hR.sl (B := w.heap.size) hR.lt).take p))
    rw [hpl] at HC
    have HP := Lib.hid hp
    have HR := Lib.hid hR
    have HLL := Lib.hid hll
    have d4 : decide ((p : Int) + 4 < 4) = false := by simp; omega
    rw [hpe] at HLL ⊢
    clear hpl hpe hR hll h
    rw [hp] at hc hl ⊢
    clear hp
    go_enter Tryd.func43, Tryd.ntmps43
    go_wp2_with fail
    refine HC.out.mono ?_
    rintro e w' ⟨rfl, rfl⟩
    go_wp2_with fail
    refine (refPut_ok (p + 4) l HP.out rest g c p 4 (crc seed (l.take p)) w (by omega) (by omega) (by omega) hl (by omega) HR.out).mono ?_
    rintro e w1 ⟨rfl, hR1, hG1⟩
    go_wp2
    go_ret
    exact ⟨rfl, .inr ⟨g, c, rest, by rw [HLL.out, HP.out], hg, by rw [HLL.out, HP.out]; exact hc, hR1⟩, hG1⟩
  · rw [if_neg h, if_neg h]
    intro _
    have hO' := Lib.hid hO
    obtain ⟨A, c, rfl, _, _⟩ := hO.sl
    have d4 : decide ((l.length : Int) < 4) = true := by simp; omega
    have d5 : decide (l.length < 4) = true := by simp; omega
    clear hO h
    go_enter Tryd.func43, Tryd.ntmps43
    go_wp2
    go_ret
    exact ⟨rfl, hO'.out, grown_refl _ _⟩

end Go.Proofs.YtkkcipjlinfieaaDoor.WRefSeal
