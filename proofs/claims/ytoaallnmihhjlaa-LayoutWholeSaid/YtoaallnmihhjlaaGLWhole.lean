/- The law LayoutWhole. -/
import Derived.Test.YtoaallnmihhjlaaGFace
import Derived.Test.YtoaallnmihhjlaaGPlain3
namespace Go.Proofs.Ytoaallnmihhjlaa.GLWhole
open Go.RowKit WMem GPlain GPlain3 GWithin GGeo GGeo2 GRef GRef2 GFace

section
variable (b p n j : Int) (w : World)
set_option maxHeartbeats 1000000 in
set_option maxRecDepth 100000 in
theorem whole_no (hm : mayB b p n j = false) :
    Calls Try.prog 4 #[.agg #[.int .i64 b, .int .i64 p, .int .i64 n, .int .i64 j]] w fun e w' => e = .returned (.bool true) ∧ Below w.heap.size w w' := by
  have HM := Lib.hid hm
  clear hm
  have HX := Lib.hid (Boxed.start w [.int .i64 b, .int .i64 p, .int .i64 n, .int .i64 j] 23)
  go_enter Try.func4, Try.ntmps4
  go_wp2_with (first
    | (go_at_call 6; (with_reducible refine (awake_any _).mono ?_); rintro e w1 ⟨rfl, hb1⟩
       have HY : Hid (Boxed w w1 [.int .i64 b, .int .i64 p, .int .i64 n, .int .i64 j]) := Lib.hid (by refine Boxed.go ?_ hb1; repeat (first | exact HY.out | exact HX.out | exact HY.out.drewN 1 | exact HX.out.drewN 1 | apply Boxed.alloc))
       obtain ⟨c0, c1, c2, c3⟩ := HY.out.four
       clear hb1)
    | (go_at_call 15; (with_reducible refine (Groups_no b p n j _ HM.out).mono ?_); rintro e w1 ⟨rfl, hb1⟩
       have HY : Hid (Boxed w w1 [.int .i64 b, .int .i64 p, .int .i64 n, .int .i64 j]) := Lib.hid (by refine Boxed.go ?_ hb1; repeat (first | exact HY.out | exact HX.out | exact HY.out.drewN 1 | exact HX.out.drewN 1 | apply Boxed.alloc))
       obtain ⟨c0, c1, c2, c3⟩ := HY.out.four
       clear hb1)
    | (go_at_call 13; (with_reducible refine (Check_no b p n j _ HM.out).mono ?_); rintro e w1 ⟨rfl, hb1⟩
       have HY : Hid (Boxed w w1 [.int .i64 b, .int .i64 p, .int .i64 n, .int .i64 j]) := Lib.hid (by refine Boxed.go ?_ hb1; repeat (first | exact HY.out | exact HX.out | exact HY.out.drewN 1 | exact HX.out.drewN 1 | apply Boxed.alloc))
       obtain ⟨c0, c1, c2, c3⟩ := HY.out.four
       clear hb1))
  go_ret
  exact ⟨rfl, HY.out.below⟩
set_option maxHeartbeats 4000000 in
set_option maxRecDepth 100000 in
theorem whole_yes (hm : mayB b p n j = true) :
    Calls Try.prog 4 #[.agg #[.int .i64 b, .int .i64 p, .int .i64 n, .int .i64 j]] w fun e w' => e = .returned (.bool true) ∧ Below w.heap.size w w' := by
  have HM := Lib.hid hm
  have HH := Lib.hid (may_iff.1 hm)
  have hg0 := (may_iff.1 hm).g0
  have hg1 := (may_iff.1 hm).g1
  obtain ⟨g, hg⟩ := Int.eq_ofNat_of_zero_le (show 0 ≤ gN b p by omega)
  have HG := Lib.hid hg
  have HGR : Hid (∀ w, Calls Try.prog 15 #[.agg #[.int .i64 b, .int .i64 p, .int .i64 n, .int .i64 j]] w fun e w' => e = .returned (.int .i64 (g : Int)) ∧ Below w.heap.size w w') := Lib.hid (fun w => by rw [← hg]; exact Groups_yes b p n j w hm)
  rw [hg] at hg0 hg1
  have hg2 : 1 ≤ g := by omega
  have hg3 : g ≤ 14 := by omega
  clear hm hg
  have HX := Lib.hid (Boxed.start w [.int .i64 b, .int .i64 p, .int .i64 n, .int .i64 j] 23)
  go_enter Try.func4, Try.ntmps4
  go_wp2_with (first
    | (go_at_call 6; (with_reducible refine (awake_any _).mono ?_); rintro e w1 ⟨rfl, hb1⟩
       have HY : Hid (Boxed w w1 [.int .i64 b, .int .i64 p, .int .i64 n, .int .i64 j]) := Lib.hid (by refine Boxed.go ?_ hb1; repeat (first | exact HY.out | exact HX.out | exact HY.out.drewN 1 | exact HX.out.drewN 1 | apply Boxed.alloc))
       obtain ⟨c0, c1, c2, c3⟩ := HY.out.four
       clear hb1)
    | (go_at_call 15; (with_reducible refine (HGR.out _).mono ?_); rintro e w1 ⟨rfl, hb1⟩
       have HY : Hid (Boxed w w1 [.int .i64 b, .int .i64 p, .int .i64 n, .int .i64 j]) := Lib.hid (by refine Boxed.go ?_ hb1; repeat (first | exact HY.out | exact HX.out | exact HY.out.drewN 1 | exact HX.out.drewN 1 | apply Boxed.alloc))
       obtain ⟨c0, c1, c2, c3⟩ := HY.out.four
       clear hb1)
    | (go_at_call 13; (with_reducible refine (Check_yes b p n j _ HM.out).mono ?_); rintro e w1 ⟨rfl, hb1⟩
       have HY : Hid (Boxed w w1 [.int .i64 b, .int .i64 p, .int .i64 n, .int .i64 j]) := Lib.hid (by refine Boxed.go ?_ hb1; repeat (first | exact HY.out | exact HX.out | exact HY.out.drewN 1 | exact HX.out.drewN 1 | apply Boxed.alloc))
       obtain ⟨c0, c1, c2, c3⟩ := HY.out.four
       clear hb1))
  go_loopw [5, 6, 7] (fun at_ data i wr => ∃ k : Nat, k ≤ g ∧ i = .int .i64 k ∧ at_ = .int .i64 (atI b p k) ∧ data = .int .i64 (dataK b p n k j) ∧ Hid (Boxed w wr [.int .i64 b, .int .i64 p, .int .i64 n, .int .i64 j])) (fun _ _ i _ => g - (intOf i).toNat)
  case atStart => exact ⟨0, Nat.zero_le _, rfl, rfl, rfl, HY⟩
  case round =>
    obtain ⟨k, hk, rfl, rfl, rfl, HY⟩ := hrel
    by_cases hlt : k < g
    · have hkg : (k : Int) < gN b p := by rw [HG.out]; omega
      have hk0 : (0 : Int) ≤ (k : Int) := by omega
      obtain ⟨a1, a2, a3, a4, a5, a6, a7⟩ := group_in HH.out hk0 hkg
      obtain ⟨b1, b2⟩ := dataK_bd HH.out hk0 (by omega)
      have HHAS : Hid (hasB b p n j (k : Int) = true) := Lib.hid (by unfold hasB; rw [groupsI_yes HM.out]; exact inB_true.2 ⟨hk0, by omega⟩)
      have HAT := Lib.hid (at_eq HH.out hk0 hkg)
      have HAN := Lib.hid (at_next b p (k : Int) hk0)
      have HDN := Lib.hid (dataK_next HH.out hk0 hkg)
      have f1 : ((k : Int) * p != atI b p k) = false := by rw [HAT.out]; simp
      have f2 : decide (endI b p k ≤ (k : Int) * p) = false := by simp; omega
      have f3 : decide (baseI p j k < (k : Int) * p) = false := by simp; omega
      have f5 : (tableI p j k != baseI p j k + 1 + 1) = false := by unfold tableI; simp; omega
      have f6 : decide (dataI p n j k ≤ tableI p j k) = false := by simp; omega
      have f7 : decide (endI b p k ≤ dataI p n j k) = false := by simp; omega
      have a8 : 0 ≤ dataI p n j k := by have : tableI p j k = baseI p j k + 2 := rfl; omega
      have a9 : baseI p j k ≤ 4096 := by have : tableI p j k = baseI p j k + 2 := rfl; omega
      obtain ⟨c0, c1, c2, c3⟩ := HY.out.four
      clear hkg
      go_wp2_with (first
        | (go_at_call 7; (with_reducible refine (Span_yes b p n j _ (k : Int) HHAS.out).mono ?_); rintro e w1 ⟨rfl, hb1⟩
           have HY : Hid (Boxed w w1 [.int .i64 b, .int .i64 p, .int .i64 n, .int .i64 j]) := Lib.hid (by refine Boxed.go ?_ hb1; repeat (first | exact HY.out | exact HX.out | exact HY.out.drewN 1 | exact HX.out.drewN 1 | apply Boxed.alloc))
           obtain ⟨c0, c1, c2, c3⟩ := HY.out.four
           clear hb1)
        | (go_at_call 9; (with_reducible refine (Place_yes b p n j _ (k : Int) HHAS.out).mono ?_); rintro e w1 ⟨rfl, hb1⟩
           have HY : Hid (Boxed w w1 [.int .i64 b, .int .i64 p, .int .i64 n, .int .i64 j]) := Lib.hid (by refine Boxed.go ?_ hb1; repeat (first | exact HY.out | exact HX.out | exact HY.out.drewN 1 | exact HX.out.drewN 1 | apply Boxed.alloc))
           obtain ⟨c0, c1, c2, c3⟩ := HY.out.four
           clear hb1))
      go_roundw
      case rel => exact ⟨k + 1, by omega, by go_num, by rw [show ((k + 1 : Nat) : Int) = (k : Int) + 1 by omega, HAN.out], by rw [show ((k + 1 : Nat) : Int) = (k : Int) + 1 by omega, HDN.out], HY⟩
      case measure => simp [intOf]; omega
    · obtain rfl : k = g := by omega
      have hge : (k : Int) = gN b p := HG.out.symm
      have f0 : (atI b p k != b) = false := by rw [hge, at_end HH.out]; simp
      obtain ⟨X, hX⟩ : ∃ X, 2 + j + gN b p * (2 + n / 2) = X := ⟨_, rfl⟩
      have HFX : Hid (∀ w, Calls Try.prog 17 #[.agg #[.int .i64 b, .int .i64 p, .int .i64 n, .int .i64 j]] w fun e w' => e = .returned (.int .i64 X) ∧ Below w.heap.size w w') := Lib.hid (fun w => by rw [← hX]; exact Fixed_yes b p n j w HM.out)
      have hb0 := HH.out.b0
      have hb1 := HH.out.b1
      have hn0 := HH.out.n0
      have hn1 := HH.out.n1
      have hXb : 0 ≤ X ∧ X ≤ 8192 := by
        obtain ⟨_, _⟩ := parts_bd HH.out (k := gN b p) (by omega) (by omega)
        have := HH.out.j0
        have := HH.out.j1
        omega
      obtain ⟨X0, X1⟩ := hXb
      have f1 : IntKind.i64.wrap (b - X) = b - X := IntWalk.i64_in _ (by omega)
      have f2 : (dataK b p n k j != b - X) = false := by rw [hge, dataK_end HH.out, hX]; simp
      obtain ⟨p0, p1⟩ := prod_bd (g := (k : Int)) (by omega) (by omega) hn0 hn1
      obtain ⟨N, hN⟩ := Int.eq_ofNat_of_zero_le p0
      obtain ⟨c0, c1, c2, c3⟩ := HY.out.four
      clear hge hX hlt
      have HX := HY
      go_wp2
      go_region_held3 (fun w' => w'.cell? ⟨w.heap.size, 0, none⟩ = some (.int .i64 b) ∧ w'.cell? ⟨w.heap.size, 1, none⟩ = some (.int .i64 p) ∧ w'.cell? ⟨w.heap.size, 2, none⟩ = some (.int .i64 n) ∧ w'.cell? ⟨w.heap.size, 3, none⟩ = some (.int .i64 j)) (first | exact HY.out.four | exact HX.out.four | go_keep)
        ((first
          | (go_at_call 17; (with_reducible refine (HFX.out _).mono ?_); rintro e w1 ⟨rfl, hb1⟩
             have HY : Hid (Boxed w w1 [.int .i64 b, .int .i64 p, .int .i64 n, .int .i64 j]) := Lib.hid (by refine Boxed.go ?_ hb1; repeat (first | exact HY.out | exact HX.out | exact HY.out.drewN 1 | exact HX.out.drewN 1 | apply Boxed.alloc))
             clear hb1)))
      obtain ⟨c0, c1, c2, c3⟩ := HY.out.four
      clear f0 f1 f2
      go_wp2
      obtain ⟨wo, hwo⟩ : ∃ wo : World, wo = w1 := ⟨_, rfl⟩
      go_loopw [16, 17] (fun last i wr => ∃ m : Nat, 1 ≤ m ∧ m ≤ N + 1 ∧ i = .int .i64 m ∧ last = .int .i64 (lastI p n j m) ∧ Hid (Boxed w wr [.int .i64 b, .int .i64 p, .int .i64 n, .int .i64 j])) (fun _ i _ => N + 1 - (intOf i).toNat)
      case atStart => exact ⟨1, Nat.le_refl _, by omega, rfl, rfl, HY⟩
      case round =>
        obtain ⟨m, hm1, hm2, rfl, rfl, HY⟩ := hrel
        obtain ⟨c0, c1, c2, c3⟩ := HY.out.four
        by_cases hlt : m ≤ N
        · have hi0 : (1 : Int) ≤ (m : Int) := by omega
          have hi1 : (m : Int) ≤ gN b p * n := by rw [HG.out, hN]; omega
          have HI : Hid (inoB b p n j (m : Int) = true) := Lib.hid (by unfold inoB; rw [groupsI_yes HM.out]; exact inB_true.2 ⟨hi0, hi1⟩)
          obtain ⟨q0, q1⟩ := ino_bd HH.out hi0 hi1
          have HQ : Hid (hasB b p n j (inoGroup n (m : Int)) = true) := Lib.hid (by unfold hasB; rw [groupsI_yes HM.out]; exact inB_true.2 ⟨q0, by omega⟩)
          obtain ⟨i1, i2, i3⟩ := ino_in HH.out hi0 hi1
          obtain ⟨v0, v1, v2, v3⟩ := pos_bd HH.out hi0 hi1
          have hl := last_lt HH.out hi0 hi1
          obtain ⟨l0, l1⟩ := last_bd HH.out hi0 (by omega)
          have HLN := Lib.hid (last_next p n j (m : Int) hi0)
          have s0 : IntKind.i64.wrap ((m : Int) - 1) = (m : Int) - 1 := IntWalk.i64_in _ (by omega)
          have s1 : ((m : Int) - 1).tdiv n = inoGroup n (m : Int) := by rw [Int.tdiv_eq_ediv_of_nonneg (by omega)]; rfl
          have s3 : IntKind.i64.wrap (inoGroup n (m : Int)) = inoGroup n (m : Int) := IntWalk.i64_in _ (by rw [HG.out] at q1; omega)
          have s5 : (n == 0) = false := by simp; omega
          have s7 : ¬ n = 0 := by omega
          have g2 : decide (inoBlock p n j (m : Int) < tableI p j (inoGroup n (m : Int))) = false := by simp; omega
          have g3 : decide (dataI p n j (inoGroup n (m : Int)) ≤ inoBlock p n j (m : Int)) = false := by simp; omega
          have HPOS : Hid (posI p n j (m : Int) = inoBlock p n j (m : Int) * 256 + inoByte n (m : Int)) := Lib.hid rfl
          have hl2 : lastI p n j (m : Int) < inoBlock p n j (m : Int) * 256 + inoByte n (m : Int) := hl
          rcases i3 with i3 | i3
          all_goals
            rw [i3] at hl2 HPOS
            have HI3 := Lib.hid i3
            have HIN : Hid (∀ w, Calls Try.prog 11 #[.agg #[.int .i64 b, .int .i64 p, .int .i64 n, .int .i64 j], .int .i64 (m : Int)] w fun e w' => e = .returned (.tuple #[.int .i64 (inoBlock p n j (m : Int)), .int .i64 (inoByte n (m : Int)), .int .i64 0]) ∧ Below w.heap.size w w') := Lib.hid (fun w => InodeAt_yes b p n j w (m : Int) HI.out)
            rw [i3] at HIN
            clear i3 hl
            have HX := HY
            go_wp2_with (first
              | (go_at_call 11; (with_reducible refine (HIN.out _).mono ?_); rintro e w1 ⟨rfl, hb1⟩
                 have HY : Hid (Boxed w w1 [.int .i64 b, .int .i64 p, .int .i64 n, .int .i64 j]) := Lib.hid (by refine Boxed.go ?_ hb1; repeat (first | exact HY.out | exact HX.out | exact HY.out.drewN 1 | exact HX.out.drewN 1 | apply Boxed.alloc))
                 obtain ⟨c0, c1, c2, c3⟩ := HY.out.four
                 clear hb1))
            go_region_held3 (fun w' => w'.cell? ⟨w.heap.size, 0, none⟩ = some (.int .i64 b) ∧ w'.cell? ⟨w.heap.size, 1, none⟩ = some (.int .i64 p) ∧ w'.cell? ⟨w.heap.size, 2, none⟩ = some (.int .i64 n) ∧ w'.cell? ⟨w.heap.size, 3, none⟩ = some (.int .i64 j)) (first | exact HY.out.four | exact HX.out.four | go_keep)
              ((first
                | (go_at_call 9; (with_reducible refine (Place_yes b p n j _ (inoGroup n (m : Int)) HQ.out).mono ?_); rintro e w1 ⟨rfl, hb1⟩
                   have HY : Hid (Boxed w w1 [.int .i64 b, .int .i64 p, .int .i64 n, .int .i64 j]) := Lib.hid (by refine Boxed.go ?_ hb1; repeat (first | exact HY.out | exact HX.out | exact HY.out.drewN 1 | exact HX.out.drewN 1 | apply Boxed.alloc))
                   clear hb1)))
            clear s0 s1 s3
            go_wp2
            go_roundw
            case rel => exact ⟨m + 1, by omega, by omega, by go_num, by (rw [show ((m + 1 : Nat) : Int) = (m : Int) + 1 by omega, HLN.out, HPOS.out]) <;> go_num, HY⟩
            case measure => simp [intOf]; omega
        · go_wp2
          go_ret
          exact ⟨rfl, HY.out.below⟩
theorem whole :
    Calls Try.prog 4 #[.agg #[.int .i64 b, .int .i64 p, .int .i64 n, .int .i64 j]] w fun e w' => e = .returned (.bool true) ∧ Below w.heap.size w w' := by
  cases hm : mayB b p n j with
  | true => exact whole_yes b p n j w hm
  | false => exact whole_no b p n j w hm
end
end Go.Proofs.Ytoaallnmihhjlaa.GLWhole
