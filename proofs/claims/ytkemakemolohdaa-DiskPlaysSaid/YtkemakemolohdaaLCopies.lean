/- DiskCopies walked: what is done to a copy does not turn the disk that it is of, nor the other way round. -/
import Derived.Test.YtkemakemolohdaaLLoses
namespace Go.Proofs.Ytkemakemolohdaa.LCopies
open Go.RowKit WMem WPlain WAppend Ext Map DPlain DMem Mk DBase DRead DPend DWrite DFlush DPending DCopy RNew RRead RWrite RFlush DLaw LStep LStepP LAlike LAwake LMade LLoses

section
variable {a w w' : World} {S S' : Nat → Prop} {b b' : Nat} {s s' : St}
theorem own_other (h : Own a w S b s) (ho : Own a w S' b' s') (he : Ext S' w w') (hf : Far S' S) : Own a w' S b s := ⟨h.dd.ext he hf, h.new, ho.below.trans (he.below ho.below.size ho.new)⟩
theorem copied (h : Own a w S b s) (hN : s.N ≤ 1073741824) : Calls Try.prog 12 #[.pointer (some ⟨b, 0, none⟩)] w fun e w' =>
    ∃ g S', e = .returned (.pointer (some ⟨g, 0, none⟩)) ∧ Own a w' S' g s ∧ Below w.heap.size w w' ∧ (∀ q, S' q → w.heap.size ≤ q) := by
  refine (Copy_ok S b s w h.dd hN).mono ?_
  rintro e w' ⟨g, S', rfl, h1, h2, h3⟩
  exact ⟨g, S', rfl, ⟨h1, fun q hq => Nat.le_trans h.below.size (h2 q hq), h.below.trans (h3.mono h.below.size)⟩, h3, h2⟩
theorem far_new (h : DD w S b s) (hn : ∀ q, S' q → w.heap.size ≤ q) : Far S S' := fun q h1 h2 => by have := h.there q h1; have := hn q h2; omega
end

set_option maxHeartbeats 4000000 in
set_option maxRecDepth 100000 in
theorem copies (blocks n fill : Int) (ops : List OpV) (A : Option Addr) (c : Nat) (w : World) (hA : OpsIn w w.heap.size A ops) (hl : ops.length ≤ 140737488355328) :
    Calls Try.prog 8 #[.int .i64 blocks, .slice A ops.length c, .int .i64 n, .int .i64 fill] w fun e w' => e = .returned (.bool true) ∧ Below w.heap.size w w' := by
  have HA := Lib.hid hA
  clear hA
  go_enter Try.func8, Try.ntmps8
  go_wp2_with fail
  refine (awake_any w).mono ?_
  rintro e w1 ⟨rfl, hb1⟩
  have hs1 := hb1.size
  have HB1 := Lib.hid hb1
  clear hb1
  go_wp2_with fail
  refine (made_any blocks ops w.heap.size A c w1 (HA.out.below HB1.out (Nat.le_refl _)) hs1 hl).mono ?_
  rintro e w2 ⟨d, S2, rfl, ho⟩
  have hN := (made_facts (128 + low127 blocks) ops (cut ops.length 500) (cut_le _ _)).1
  have O2 : Hid (Own w w2 S2 d (runs (St.new (128 + low127 blocks)) ops (cut ops.length 500))) := Own.up ho HB1.out
  have HSs := Lib.hid (rfl : runs (St.new (128 + low127 blocks)) ops (cut ops.length 500) = runs (St.new (128 + low127 blocks)) ops (cut ops.length 500))
  clear ho
  generalize hs : runs (St.new (128 + low127 blocks)) ops (cut ops.length 500) = s at O2 hN
  have HS := Lib.hid hs
  clear hs HSs
  have hcnt := O2.out.dd.count
  go_wp2_with fail
  refine (copied O2.out (by omega)).mono ?_
  rintro e w3 ⟨x, Sx, rfl, hx, hb3, hn3⟩
  have X3 := Lib.hid hx
  have O3 := Lib.hid (O2.out.go hb3)
  have FX := Lib.hid (far_new O2.out.dd hn3)
  clear hx hb3 hn3
  go_wp2_with fail
  refine (copied O3.out (by omega)).mono ?_
  rintro e w4 ⟨k, Sk, rfl, hk, hb4, hn4⟩
  have K4 := Lib.hid hk
  have O4 := Lib.hid (O3.out.go hb4)
  have X4 := Lib.hid (X3.out.go hb4)
  have FK := Lib.hid (far_new O3.out.dd hn4)
  have FXK := Lib.hid (far_new X3.out.dd hn4)
  clear hk hb4 hn4
  go_wp2_with fail
  refine (filled_at fill w4).mono ?_
  rintro e w5 ⟨g, rfl, hg, hR, hb5⟩
  have O5 := Lib.hid (O4.out.go hb5)
  have X5 := Lib.hid (X4.out.go hb5)
  have K5 := Lib.hid (K4.out.go hb5)
  have HSL := Lib.hid (hR.sl hR.lt)
  clear hg hR hb5
  go_wp2_with fail
  refine (WriteU Sx x n s (full (octet fill)) w5.heap.size (some ⟨g, 0, none⟩) 256 256 w5 X5.out.dd HSL.out (Nat.le_refl _) (full_len _) (Nat.le_refl _) (by omega)).mono ?_
  rintro e w6 ⟨rfl, Sx6, hd6, he6, hi6⟩
  have X6 := Lib.hid (X5.out.turn hd6 he6 hi6)
  have O6 := Lib.hid (own_other O5.out X5.out he6 FX.out.symm)
  have K6 := Lib.hid (own_other K5.out X5.out he6 FXK.out)
  have FX6 : Hid (Far Sx6 S2) := FX.out.symm.step hi6 O5.out.dd.there
  have FXK6 : Hid (Far Sx6 Sk) := FXK.out.step hi6 K5.out.dd.there
  have hNx := wst_count s n (full (octet fill))
  clear hd6 he6 hi6
  go_wp2_with fail
  refine (Flush_ok Sx6 x _ w6 X6.out.dd (by omega)).mono ?_
  rintro e w7 ⟨rfl, Sx7, hd7, he7, hi7⟩
  have O7 := Lib.hid (own_other O6.out X6.out he7 FX6.out)
  have K7 := Lib.hid (own_other K6.out X6.out he7 FXK6.out)
  clear hd7 he7 hi7
  go_wp2_with fail
  refine (alike_yes S2 Sk d k s s w7 O7.out.dd K7.out.dd rfl (fun _ _ => rfl)).mono ?_
  rintro e w8 ⟨rfl, hb8⟩
  have O8 := Lib.hid (O7.out.go hb8)
  have K8 := Lib.hid (K7.out.go hb8)
  clear hb8
  go_wp2_with fail
  refine (Pending_ok S2 d s w8 O8.out.dd (by omega)).mono ?_
  rintro e w9 ⟨g9, xs9, rfl, _, _, _, hb9⟩
  have O9 := Lib.hid (O8.out.go hb9)
  have K9 := Lib.hid (K8.out.go hb9)
  clear hb9
  go_wp2_with fail
  refine (Pending_ok Sk k s w9 K9.out.dd (by omega)).mono ?_
  rintro e w10 ⟨g10, xs10, rfl, _, _, _, hb10⟩
  have O10 := Lib.hid (O9.out.go hb10)
  have K10 := Lib.hid (K9.out.go hb10)
  clear hb10
  go_wp2_with fail
  refine (Ops_at d s.N w10 O10.out.dd.c1).mono ?_
  rintro e w' ⟨rfl, rfl⟩
  go_wp2_with fail
  refine (Ops_at k s.N w10 K10.out.dd.c1).mono ?_
  rintro e w' ⟨rfl, rfl⟩
  go_wp2_with fail
  refine (Crash_ok S2 d s [] 0 none 0 w10 O10.out.dd (Sl.nil _ _ _) (Nat.zero_le _) (by omega)).mono ?_
  rintro e w11 ⟨rfl, S11, hd11, he11, hi11⟩
  have O11 := Lib.hid (O10.out.turn hd11 he11 hi11)
  have K11 := Lib.hid (own_other K10.out O10.out he11 FK.out)
  have F11 : Hid (Far S11 Sk) := FK.out.step hi11 K10.out.dd.there
  have hN11 : (s.crash []).N ≤ 500 := hN
  clear hd11 he11 hi11
  go_wp2_with fail
  refine (Flush_ok S11 d _ w11 O11.out.dd (by omega)).mono ?_
  rintro e w12 ⟨rfl, S12, hd12, he12, hi12⟩
  have K12 := Lib.hid (own_other K11.out O11.out he12 F11.out)
  clear hd12 he12 hi12
  go_wp2_with fail
  refine (Pending_ok Sk k s w12 K12.out.dd (by omega)).mono ?_
  rintro e w13 ⟨g13, xs13, rfl, _, _, _, hb13⟩
  have K13 := Lib.hid (K12.out.go hb13)
  clear hb13
  go_wp2_with fail
  refine (made_any blocks ops w.heap.size A c w13 (HA.out.below K13.out.below (Nat.le_refl _)) K13.out.below.size hl).mono ?_
  rintro e w14 ⟨d2, S14, rfl, ho14⟩
  rw [HS.out] at ho14
  have O14 : Hid (Own w w14 S14 d2 s) := Own.up ho14 K13.out.below
  clear ho14
  go_wp2_with fail
  refine (Pending_ok S14 d2 s w14 O14.out.dd (by omega)).mono ?_
  rintro e w15 ⟨g15, xs15, rfl, _, _, _, hb15⟩
  have O15 := Lib.hid (O14.out.go hb15)
  clear hb15
  go_wp2
  go_ret
  exact ⟨rfl, O15.out.below⟩
end Go.Proofs.Ytkemakemolohdaa.LCopies
