/- The document's answers of a geometry: each by one contract. -/
import Derived.Test.YtoaallnmihhjlaaDoorGRef
namespace Go.Proofs.YtoaallnmihhjlaaDoor.GRef2
open Go.RowKit WMem GPlain GWithin GGeo GRef

section
variable (b p n j : Int) (w : World)
set_option maxHeartbeats 400000 in
theorem refCheck_yes (hm : mayB b p n j = true) :
    Calls Tryd.prog 69 #[.agg #[.int .i64 b, .int .i64 p, .int .i64 n, .int .i64 j]] w fun e w' => e = .returned (.int .i64 0) ∧ Below w.heap.size w w' := by
  have hnum : numsB b p n j = true := by
    simp only [mayB, Bool.and_eq_true] at hm
    exact hm.1.1.1
  obtain ⟨hb0, hb1, hp0, hp1, hn0, hn1, hev, hj0, hj1, hg0, hg1, hlo, hhi, hf, hl⟩ := may_iff.1 hm
  simp only [numsB, Bool.and_eq_true, beq_iff_eq] at hnum
  obtain ⟨⟨⟨⟨h1, h2⟩, h3⟩, h4⟩, h5⟩ := hnum
  have h4' : (n % 2 != 0) = false := by simp [h4]
  have h6 : 3 + n / 2 ≤ b - (gN b p - 1) * p := by
    rcases hl with hl | hl
    · have : (gN b p - 1) * p = 0 := by rw [hl]; simp
      omega
    · omega
  by_cases hc : b < p
  · exact refCheck_kl b p n j w h1 h2 h3 h4' h5 hc hg1 (by omega) h6
  · exact refCheck_kg b p n j w h1 h2 h3 h4' h5 (by omega) hg1 (by omega) h6
set_option maxHeartbeats 400000 in
theorem refCheck_no (hm : mayB b p n j = false) :
    Calls Tryd.prog 69 #[.agg #[.int .i64 b, .int .i64 p, .int .i64 n, .int .i64 j]] w fun e w' => e = .returned (.int .i64 22) ∧ Below w.heap.size w w' := by
  cases h1 : inB 128 4096 b with
  | false => exact refCheck_b b p n j w h1
  | true =>
    cases h2 : inB 32 2016 p with
    | false => exact refCheck_p b p n j w h1 h2
    | true =>
      cases h3 : inB 8 512 n with
      | false => exact refCheck_n b p n j w h1 h2 h3
      | true =>
        cases h4 : (n % 2 != 0) with
        | true => exact refCheck_e b p n j w h1 h2 h3 h4
        | false =>
          cases h5 : inB 96 512 j with
          | false => exact refCheck_j b p n j w h1 h2 h3 h4 h5
          | true =>
            have k1 := inB_true.1 h1
            have k2 := inB_true.1 h2
            have k3 := inB_true.1 h3
            have k5 := inB_true.1 h5
            have k4 : n % 2 = 0 := by simpa using h4
            obtain ⟨c1, c2, c3, _⟩ := gN_of (b := b) (p := p) (by omega) (by omega)
            have hno : ¬ May b p n j := fun h => by rw [may_iff.2 h] at hm; cases hm
            have hno' : gN b p ≤ 14 → 5 + j + n / 2 ≤ b → 5 + j + n / 2 ≤ p → b - (gN b p - 1) * p < 3 + n / 2 := by
              intro g1 f1 f2
              by_cases hl : b - (gN b p - 1) * p < 3 + n / 2
              · exact hl
              · exact absurd ⟨k1.1, k1.2, k2.1, k2.2, k3.1, k3.2, k4, k5.1, k5.2, c1, g1, c2, c3, by omega, .inr (by omega)⟩ hno
            by_cases hg : 14 < gN b p
            · by_cases hc : b < p
              · exact refCheck_gl b p n j w h1 h2 h3 h4 h5 hc hg
              · exact refCheck_gg b p n j w h1 h2 h3 h4 h5 (by omega) hg
            · by_cases hc : b < p
              · by_cases hf : b < 5 + j + n / 2
                · exact refCheck_fl b p n j w h1 h2 h3 h4 h5 hc (by omega) hf
                · exact refCheck_ll b p n j w h1 h2 h3 h4 h5 hc (by omega) (by omega) (hno' (by omega) (by omega) (by omega))
              · by_cases hf : p < 5 + j + n / 2
                · exact refCheck_fg b p n j w h1 h2 h3 h4 h5 (by omega) (by omega) hf
                · exact refCheck_lg b p n j w h1 h2 h3 h4 h5 (by omega) (by omega) (by omega) (hno' (by omega) (by omega) (by omega))
set_option maxHeartbeats 400000 in
theorem refGroups_yes (hm : mayB b p n j = true) :
    Calls Tryd.prog 51 #[.agg #[.int .i64 b, .int .i64 p, .int .i64 n, .int .i64 j]] w fun e w' => e = .returned (.int .i64 (gN b p)) ∧ Below w.heap.size w w' := by
  obtain ⟨hb0, hb1, hp0, hp1, hn0, hn1, hev, hj0, hj1, hg0, hg1, hlo, hhi, hf, hl⟩ := may_iff.1 hm
  clear hl hf hlo hhi hev
  have hq := Lib.hid hm
  clear hm
  have HX := Lib.hid (Boxed.start w [.int .i64 b, .int .i64 p, .int .i64 n, .int .i64 j] 23)
  go_enter Tryd.func51, Tryd.ntmps51
  go_wp2_with (first
    | (go_at_call 69; refine (refCheck_yes b p n j _ hq.out).mono ?_; rintro e w1 ⟨rfl, hb1⟩
       have HY : Hid (Boxed w w1 [.int .i64 b, .int .i64 p, .int .i64 n, .int .i64 j]) := Lib.hid (by refine Boxed.go ?_ hb1; repeat (first | exact HY.out | exact HX.out | exact HY.out.drewN 1 | exact HX.out.drewN 1 | apply Boxed.alloc))
       obtain ⟨c0, c1, c2, c3⟩ := HY.out.four
       clear hb1)
    | (go_at_call 70; refine (refgroups_any b p n j _ hb0 hb1 hp0 hp1).mono ?_; rintro e w1 ⟨rfl, hb1⟩
       have HY : Hid (Boxed w w1 [.int .i64 b, .int .i64 p, .int .i64 n, .int .i64 j]) := Lib.hid (by refine Boxed.go ?_ hb1; repeat (first | exact HY.out | exact HX.out | exact HY.out.drewN 1 | exact HX.out.drewN 1 | apply Boxed.alloc))
       obtain ⟨c0, c1, c2, c3⟩ := HY.out.four
       clear hb1))
  go_ret
  exact ⟨rfl, HY.out.below⟩
set_option maxHeartbeats 400000 in
theorem refGroups_no (hm : mayB b p n j = false) :
    Calls Tryd.prog 51 #[.agg #[.int .i64 b, .int .i64 p, .int .i64 n, .int .i64 j]] w fun e w' => e = .returned (.int .i64 0) ∧ Below w.heap.size w w' := by
  have hq := Lib.hid hm
  clear hm
  have HX := Lib.hid (Boxed.start w [.int .i64 b, .int .i64 p, .int .i64 n, .int .i64 j] 23)
  go_enter Tryd.func51, Tryd.ntmps51
  go_wp2_with (first
    | (go_at_call 69; refine (refCheck_no b p n j _ hq.out).mono ?_; rintro e w1 ⟨rfl, hb1⟩
       have HY : Hid (Boxed w w1 [.int .i64 b, .int .i64 p, .int .i64 n, .int .i64 j]) := Lib.hid (by refine Boxed.go ?_ hb1; repeat (first | exact HY.out | exact HX.out | exact HY.out.drewN 1 | exact HX.out.drewN 1 | apply Boxed.alloc))
       obtain ⟨c0, c1, c2, c3⟩ := HY.out.four
       clear hb1))
  go_ret
  exact ⟨rfl, HY.out.below⟩
set_option maxHeartbeats 400000 in
theorem refGroups_any  :
    Calls Tryd.prog 51 #[.agg #[.int .i64 b, .int .i64 p, .int .i64 n, .int .i64 j]] w fun e w' => e = .returned (.int .i64 (groupsI b p n j)) ∧ Below w.heap.size w w' := by
  cases hm : mayB b p n j with
  | true => rw [groupsI_yes hm]; exact refGroups_yes b p n j w hm
  | false => rw [groupsI_no hm]; exact refGroups_no b p n j w hm
set_option maxHeartbeats 400000 in
theorem refFixed_no (hm : mayB b p n j = false) :
    Calls Tryd.prog 52 #[.agg #[.int .i64 b, .int .i64 p, .int .i64 n, .int .i64 j]] w fun e w' => e = .returned (.int .i64 0) ∧ Below w.heap.size w w' := by
  have hq := Lib.hid hm
  clear hm
  have HX := Lib.hid (Boxed.start w [.int .i64 b, .int .i64 p, .int .i64 n, .int .i64 j] 23)
  go_enter Tryd.func52, Tryd.ntmps52
  go_wp2_with (first
    | (go_at_call 51; refine (refGroups_no b p n j _ hq.out).mono ?_; rintro e w1 ⟨rfl, hb1⟩
       have HY : Hid (Boxed w w1 [.int .i64 b, .int .i64 p, .int .i64 n, .int .i64 j]) := Lib.hid (by refine Boxed.go ?_ hb1; repeat (first | exact HY.out | exact HX.out | exact HY.out.drewN 1 | exact HX.out.drewN 1 | apply Boxed.alloc))
       obtain ⟨c0, c1, c2, c3⟩ := HY.out.four
       clear hb1))
  go_ret
  exact ⟨rfl, HY.out.below⟩
set_option maxHeartbeats 400000 in
theorem refFixed_yes (hm : mayB b p n j = true) :
    Calls Tryd.prog 52 #[.agg #[.int .i64 b, .int .i64 p, .int .i64 n, .int .i64 j]] w fun e w' => e = .returned (.int .i64 (2 + j + gN b p * (2 + n / 2))) ∧ Below w.heap.size w w' := by
  obtain ⟨hb0, hb1, hp0, hp1, hn0, hn1, hev, hj0, hj1, hg0, hg1, hlo, hhi, hf, hl⟩ := may_iff.1 hm
  clear hl hf hlo hhi hev
  have hq := Lib.hid hm
  clear hm
  obtain ⟨t0, t1⟩ := prod2_bd (by omega) hg1 hn0 hn1
  have d0 : (gN b p == 0) = false := by simp; omega
  have HX := Lib.hid (Boxed.start w [.int .i64 b, .int .i64 p, .int .i64 n, .int .i64 j] 23)
  go_enter Tryd.func52, Tryd.ntmps52
  go_wp2_with (first
    | (go_at_call 51; refine (refGroups_yes b p n j _ hq.out).mono ?_; rintro e w1 ⟨rfl, hb1⟩
       have HY : Hid (Boxed w w1 [.int .i64 b, .int .i64 p, .int .i64 n, .int .i64 j]) := Lib.hid (by refine Boxed.go ?_ hb1; repeat (first | exact HY.out | exact HX.out | exact HY.out.drewN 1 | exact HX.out.drewN 1 | apply Boxed.alloc))
       obtain ⟨c0, c1, c2, c3⟩ := HY.out.four
       clear hb1))
  go_ret
  exact ⟨rfl, HY.out.below⟩
set_option maxHeartbeats 400000 in
theorem refFixed_any  :
    Calls Tryd.prog 52 #[.agg #[.int .i64 b, .int .i64 p, .int .i64 n, .int .i64 j]] w fun e w' => e = .returned (.int .i64 (fixedI b p n j)) ∧ Below w.heap.size w w' := by
  cases hm : mayB b p n j with
  | true => rw [fixedI_yes hm]; exact refFixed_yes b p n j w hm
  | false => rw [fixedI_no hm]; exact refFixed_no b p n j w hm
end
end Go.Proofs.YtoaallnmihhjlaaDoor.GRef2
