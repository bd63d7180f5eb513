/- LocksLeft holds: whatever the script. -/
import Derived.Test.YtfaahhipddlmgaaKScript
import Derived.Deep.RegionHeld3
import Derived.Deep.DeepMust
import Derived.Deep.DeepFit
import Derived.Deep.DeepCutAuto
import Derived.StillTailTactics
namespace Go.Proofs.Ytfaahhipddlmgaa.KLLeft
open Go.RowKit WMem Ext KMap KPlain KMem KAsk KLeave KLaw KScript

set_option maxHeartbeats 4000000 in
set_option maxRecDepth 100000 in
theorem left_true (ops : List OpV) (A : Option Addr) (c : Nat) (w : World) (hA : OpsIn w w.heap.size A ops) (_hl : ops.length ≤ 140737488355328) :
    Calls Try.prog 9 #[.slice A ops.length c] w fun e w' => e = .returned (.bool true) ∧ Below w.heap.size w w' := by
  have HA := Lib.hid hA
  clear hA
  go_enter Try.func9, Try.ntmps9
  go_wp2_with fail
  refine (awake_any w).mono ?_
  rintro e w1 ⟨rfl, hb1⟩
  have HB1 := Lib.hid hb1
  clear hb1
  go_wp2_with fail
  refine (New_own w1).mono ?_
  rintro e w2 ⟨b, rfl, S0, o⟩
  have O2 := Lib.hid (o.base HB1.out)
  clear o
  go_wp2_with fail
  go_loopw [5] (fun i wr => ∃ (j : Nat) (S : Nat → Prop) (R : Rw), j ≤ ops.length ∧ j ≤ 300 ∧ i = .int .i64 j ∧ OwnT w wr S b R j ∧ Uniq R ∧ From ops 0 j R) (fun i _ => ops.length - (intOf i).toNat)
  case atStart => exact ⟨0, S0, _, Nat.zero_le _, Nat.zero_le _, rfl, O2.out, fun k => List.nodup_nil, From.start ops⟩
  case round =>
    obtain ⟨j, S, R, hj, hj2, rfl, ho, hu, hf⟩ := hrel
    have O3 := Lib.hid ho
    have HU := Lib.hid hu
    have HF := Lib.hid hf
    have hsr := ho.below.size
    clear ho hu hf
    by_cases hlt : j < ops.length ∧ j < 300
    · obtain ⟨hlt1, hlt2⟩ := hlt
      obtain ⟨a, rfl, hab, hop, hfk⟩ := op_at HA.out O3.out.below hlt1
      have HFA := Lib.hid (HF.out.ask hlt1)
      have HUA := Lib.hid (HU.out.ask ops[j].th ops[j].key ops[j].al)
      have hk0 : (0 : Int) ≤ (j : Int) := Int.natCast_nonneg _
      have hk1 : (j : Int) < (ops.length : Int) := by omega
      have hk2 : (j : Int) < 300 := by omega
      generalize ops[j] = o at *
      have HOP := Lib.hid hop.drew
      obtain ⟨q, hq⟩ : ∃ q, (if askOk R o.th o.key = true then (0 : Int) else 22) = q := ⟨_, rfl⟩
      have HQ := Lib.hid hq
      clear hq
      have O3d := Lib.hid (O3.out.go ((Below.refl _ _).drew))
      have HK := Lib.hid hfk
      have r1 := hop.c1
      have r2 := hop.c2
      have r3 := hop.c3
      clear hop hfk
      go_wp2_with fail
      go_region_held3 (fun w' => w'.cell? ⟨(a.add (j * 4)).block, (a.add (j * 4)).off + 1, none⟩ = some (.int .i64 o.th) ∧ w'.cell? ⟨(a.add (j * 4)).block, (a.add (j * 4)).off + 2, none⟩ = some (.int .i64 o.key) ∧ w'.cell? ⟨(a.add (j * 4)).block, (a.add (j * 4)).off + 3, none⟩ = some (.bool o.al)) (go_keep)
        ((first
          | (go_at_call 12
             refine (O3d.out.ask o.th o.key o.al HK.out (by omega) q HQ.out).mono ?_
             rintro e w6 ⟨rfl, S6, ho6, he6⟩
             have hbb : OpAt w6 a j o := (HOP.out.below (he6.below O3d.out.below.size O3d.out.new) hab)
             have t1 := hbb.c1
             have t2 := hbb.c2
             have t3 := hbb.c3
             have O6 := Lib.hid ho6
             clear ho6 he6 hbb)))
      all_goals
        go_wp2_with fail
        go_roundw
        case rel => exact ⟨j + 1, S6, _, by omega, by omega, by go_num, O6.out, HUA.out, HFA.out⟩
        case measure => simp [intOf]; omega
    · have hmx : j = ops.length ∨ j = 300 := by omega
      have hends : ((ops.length : Int) ≤ (j : Int)) ∨ ((j : Int) < (ops.length : Int) ∧ (300 : Int) ≤ (j : Int)) := by omega
      have HMX := Lib.hid hmx
      clear hlt hmx O2
      rcases hends with hd1 | ⟨hd1, hd2⟩
      all_goals
        go_wp2_with fail
        clear hd1
        try clear hd2
        go_loopw [6] (fun i wr => ∃ (k : Nat) (S : Nat → Prop) (R : Rw), k ≤ ops.length ∧ k ≤ 300 ∧ i = .int .i64 k ∧ OwnT w wr S b R (j + k) ∧ Uniq R ∧ From ops k j R) (fun i _ => ops.length - (intOf i).toNat)
        case atStart => exact ⟨0, S, R, Nat.zero_le _, Nat.zero_le _, rfl, O3.out, HU.out, HF.out⟩
        case round =>
          clear O3 HU HF hsr
          obtain ⟨k, S2, R2, hk, hk2, rfl, ho, hu, hf⟩ := hrel
          have O4 := Lib.hid ho
          have HU4 := Lib.hid hu
          have HF4 := Lib.hid hf
          have hsr := ho.below.size
          clear ho hu hf
          by_cases hlt : k < ops.length ∧ k < 300
          · obtain ⟨hlt1, hlt2⟩ := hlt
            obtain ⟨a, rfl, hab, hop, hfk⟩ := op_at HA.out O4.out.below hlt1
            have HFA := Lib.hid (HF4.out.leave HU4.out hlt1)
            have HUA := Lib.hid (HU4.out.leave ops[k].th ops[k].key)
            have HNO : Hid (holdd (leavd R2 ops[k].th ops[k].key) ops[k].th ops[k].key = false) := holdd_no (fun h => ((leave_has HU4.out _ _ _ _).1 h).2 ⟨rfl, rfl⟩)
            have hk0 : (0 : Int) ≤ (k : Int) := Int.natCast_nonneg _
            have hk1 : (k : Int) < (ops.length : Int) := by omega
            have hk3 : (k : Int) < 300 := by omega
            generalize ops[k] = o at *
            have HOP := Lib.hid hop.drew
            obtain ⟨q, hq⟩ : ∃ q, (if has (R2 o.key) o.th = true then (0 : Int) else 22) = q := ⟨_, rfl⟩
            have HQ := Lib.hid hq
            have HK := Lib.hid hfk
            have O4d := Lib.hid (O4.out.go ((Below.refl _ _).drew))
            have r1 := hop.c1
            have r2 := hop.c2
            clear hop hfk hq
            go_wp2_with fail
            go_region_held3 (fun w' => w'.cell? ⟨(a.add (k * 4)).block, (a.add (k * 4)).off + 1, none⟩ = some (.int .i64 o.th) ∧ w'.cell? ⟨(a.add (k * 4)).block, (a.add (k * 4)).off + 2, none⟩ = some (.int .i64 o.key)) (go_keep)
              ((first
                | (go_at_call 14
                   refine (O4d.out.leave o.th o.key HK.out (by omega) q HQ.out).mono ?_
                   rintro e w6 ⟨rfl, S6, ho6, he6⟩
                   have hbb : OpAt w6 a k o := (HOP.out.below (he6.below O4d.out.below.size O4d.out.new) hab)
                   have t1 := hbb.c1
                   have t2 := hbb.c2
                   have HOP6 := Lib.hid hbb.drew
                   have O6 := Lib.hid ho6
                   have O6d := Lib.hid (ho6.go ((Below.refl _ _).drew))
                   clear ho6 he6 hbb)))
            all_goals
              clear r1 r2
              go_wp2_with fail
              go_region_held3 (fun w' => w'.cell? ⟨(a.add (k * 4)).block, (a.add (k * 4)).off + 1, none⟩ = some (.int .i64 o.th) ∧ w'.cell? ⟨(a.add (k * 4)).block, (a.add (k * 4)).off + 2, none⟩ = some (.int .i64 o.key)) (go_keep)
                ((first
                  | (go_at_call 16
                     refine (O6d.out.holds o.th o.key HK.out (by omega) false HNO.out).mono ?_
                     rintro e w7 ⟨rfl, ho7, hb7⟩
                     have hbb : OpAt w7 a k o := (HOP6.out.below (hb7.mono O6d.out.below.size) hab)
                     have t3 := hbb.c1
                     have t4 := hbb.c2
                     have O7 := Lib.hid ho7
                     clear ho7 hb7 hbb)))
              all_goals
                go_wp2_with fail
                go_roundw
                case rel => exact ⟨k + 1, S6, _, by omega, by omega, by go_num, O7.out, HUA.out, HFA.out⟩
                case measure => simp [intOf]; omega
          · have HE : Hid (Empty R2) := HF4.out.empty (by have := HMX.out; omega)
            have hends : ((ops.length : Int) ≤ (k : Int)) ∨ ((k : Int) < (ops.length : Int) ∧ (300 : Int) ≤ (k : Int)) := by omega
            clear hlt
            rcases hends with hd1 | ⟨hd1, hd2⟩
            all_goals try (exfalso; omega)
            all_goals
              go_wp2_with fail
              refine O4.out.free.mono ?_
              rintro e w' ⟨q, rfl, hq, rfl⟩
              obtain rfl : q = true := hq.2 HE.out
              clear hq
              go_wp2
              go_ret
              exact ⟨rfl, O4.out.below⟩
end Go.Proofs.Ytfaahhipddlmgaa.KLLeft
