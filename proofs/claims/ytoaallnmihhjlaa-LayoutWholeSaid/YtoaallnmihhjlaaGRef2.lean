/- The document's answers of a geometry: each by one contract. -/
import Derived.Test.YtoaallnmihhjlaaGRef
namespace Go.Proofs.Ytoaallnmihhjlaa.GRef2
open Go.RowKit WMem GPlain GWithin GGeo GRef

section
variable (b p n j : Int) (w : World)
set_option maxHeartbeats 400000 in
theorem refCheck_yes (hm : mayB b p n j = true) :
    Calls Try.prog 14 #[.agg #[.int .i64 b, .int .i64 p, .int .i64 n, .int .i64 j]] w fun e w' => e = .returned (.int .i64 0) ∧ Below w.heap.size w w' := by
  have hnum : numsB b p n j = true := by
    simp only [mayB, Bool.and_eq_true] at hm
    exact hm.1.1.1
  obtain ⟨hb0, hb1, hp0, hp1, hn0, hn1, hev, hj0, hj1, hg0, hg1, hlo, hhi, hf, hl⟩ := may_iff.1 hm
  simp only [numsB, Bool.and_eq_true, beq_iff_eq] at hnum
  obtain ⟨⟨⟨⟨h1, h2⟩, h3⟩, h4⟩, h5⟩ := hnum
  have h4' : (n % 2 != 0) = false := by simp [h4]
  have h6 : 3 + n / 2 ≤ b - (gN b p - 1) * p := by
    rcases hl with hl | hl
    · have : (gN b p - 1) * p = 0 := by rw [hl]; simp
      omega
    · omega
  by_cases hc : b < p
  · exact refCheck_kl b p n j w h1 h2 h3 h4' h5 hc hg1 (by omega) h6
  · exact refCheck_kg b p n j w h1 h2 h3 h4' h5 (by omega) hg1 (by omega) h6
set_option maxHeartbeats 400000 in
theorem refCheck_no (hm : mayB b p n j = false) :
    Calls Try.prog 14 #[.agg #[.int .i64 b, .int .i64 p, .int .i64 n, .int .i64 j]] w fun e w' => e = .returned (.int .i64 22) ∧ Below w.heap.size w w' := by
  cases h1 : inB 128 4096 b with
  | false => exact refCheck_b b p n j w h1
  | true =>
    cases h2 : inB 32 2016 p with
    | false => exact refCheck_p b p n j w h1 h2
    | true =>
      cases h3 : inB 8 512 n with
      | false => exact refCheck_n b p n j w h1 h2 h3
      | true =>
        cases h4 : (n % 2 != 0) with
        | true => exact refCheck_e b p n j w h1 h2 h3 h4
        | false =>
          cases h5 : inB 96 512 j with
          | false => exact refCheck_j b p n j w h1 h2 h3 h4 h5
          | true =>
            have k1 := inB_true.1 h1
            have k2 := inB_true.1 h2
            have k3 := inB_true.1 h3
            have k5 := inB_true.1 h5
            have k4 : n % 2 = 0 := by simpa using h4
            obtain ⟨c1, c2, c3, _⟩ := gN_of (b := b) (p := p) (by omega) (by omega)
            have hno : ¬ May b p n j := fun h => by rw [may_iff.2 h] at hm; cases hm
            have hno' : gN b p ≤ 14 → 5 + j + n / 2 ≤ b → 5 + j + n / 2 ≤ p → b - (gN b p - 1) * p < 3 + n / 2 := by
              intro g1 f1 f2
              by_cases hl : b - (gN b p - 1) * p < 3 + n / 2
              · exact hl
              · exact absurd ⟨k1.1, k1.2, k2.1, k2.2, k3.1, k3.2, k4, k5.1, k5.2, c1, g1, c2, c3, by omega, .inr (by omega)⟩ hno
            by_cases hg : 14 < gN b p
            · by_cases hc : b < p
              · exact refCheck_gl b p n j w h1 h2 h3 h4 h5 hc hg
              · exact refCheck_gg b p n j w h1 h2 h3 h4 h5 (by omega) hg
            · by_cases hc : b < p
              · by_cases hf : b < 5 + j + n / 2
                · exact refCheck_fl b p n j w h1 h2 h3 h4 h5 hc (by omega) hf
                · exact refCheck_ll b p n j w h1 h2 h3 h4 h5 hc (by omega) (by omega) (hno' (by omega) (by omega) (by omega))
              · by_cases hf : p < 5 + j + n / 2
                · exact refCheck_fg b p n j w h1 h2 h3 h4 h5 (by omega) (by omega) hf
                · exact refCheck_lg b p n j w h1 h2 h3 h4 h5 (by omega) (by omega) (by omega) (hno' (by omega) (by omega) (by omega))
set_option maxHeartbeats 400000 in
theorem refGroups_yes (hm : mayB b p n j = true) :
    Calls Try.prog 16 #[.agg #[.int .i64 b, .int .i64 p, .int .i64 n, .int .i64 j]] w fun e w' => e = .returned (.int .i64 (gN b p)) ∧ Below w.heap.size w w' := by
  obtain ⟨hb0, hb1, hp0, hp1, hn0, hn1, hev, hj0, hj1, hg0, hg1, hlo, hhi, hf, hl⟩ := may_iff.1 hm
  clear hl hf hlo hhi hev
  have hq := Lib.hid hm
  clear hm
  have HX := Lib.hid (Boxed.start w [.int .i64 b, .int .i64 p, .int .i64 n, .int .i64 j] 23)
  go_enter Try.func16, Try.ntmps16
  go_wp2_with (first
    | (go_at_call 14; refine (refCheck_yes b p n j _ hq.out).mono ?_; rintro e w1 ⟨rfl, hb1⟩
       have HY : Hid (Boxed w w1 [.int .i64 b, .int .i64 p, .int .i64 n, .int .i64 j]) := Lib.hid (by refine Boxed.go ?_ hb1; repeat (first | exact HY.out | exact HX.out | exact HY.out.drewN 1 | exact HX.out.drewN 1 | apply Boxed.alloc))
       obtain ⟨c0, c1, c2, c3⟩ := HY.out.four
       clear hb1)
    | (go_at_call 28; refine (refgroups_any b p n j _ hb0 hb1 hp0 hp1).mono ?_; rintro e w1 ⟨rfl, hb1⟩
       have HY : Hid (Boxed w w1 [.int .i64 b, .int .i64 p, .int .i64 n, .int .i64 j]) := Lib.hid (by refine Boxed.go ?_ hb1; repeat (first | exact HY.out | exact HX.out | exact HY.out.drewN 1 | exact HX.out.drewN 1 | apply Boxed.alloc))
       obtain ⟨c0, c1, c2, c3⟩ := HY.out.four
       clear hb1))
  go_ret
  exact ⟨rfl, HY.out.below⟩
set_option maxHeartbeats 400000 in
theorem refGroups_no (hm : mayB b p n j = false) :
    Calls Try.prog 16 #[.agg #[.int .i64 b, .int .i64 p, .int .i64 n, .int .i64 j]] w fun e w' => e = .returned (.int .i64 0) ∧ Below w.heap.size w w' := by
  have hq := Lib.hid hm
  clear hm
  have HX := Lib.hid (Boxed.start w [.int .i64 b, .int .i64 p, .int .i64 n, .int .i64 j] 23)
  go_enter Try.func16, Try.ntmps16
  go_wp2_with (first
    | (go_at_call 14; refine (refCheck_no b p n j _ hq.out).mono ?_; rintro e w1 ⟨rfl, hb1⟩
       have HY : Hid (Boxed w w1 [.int .i64 b, .int .i64 p, .int .i64 n, .int .i64 j]) := Lib.hid (by refine Boxed.go ?_ hb1; repeat (first | exact HY.out | exact HX.out | exact HY.out.drewN 1 | exact HX.out.drewN 1 | apply Boxed.alloc))
       obtain ⟨c0, c1, c2, c3⟩ := HY.out.four
       clear hb1))
  go_ret
  exact ⟨rfl, HY.out.below⟩
set_option maxHeartbeats 400000 in
theorem refGroups_any  :
    Calls Try.prog 16 #[.agg #[.int .i64 b, .int .i64 p, .int .i64 n, .int .i64 j]] w fun e w' => e = .returned (.int .i64 (groupsI b p n j)) ∧ Below w.heap.size w w' := by
  cases hm : mayB b p n j with
  | true => rw [groupsI_yes hm]; exact refGroups_yes b p n j w hm
  | false => rw [groupsI_no hm]; exact refGroups_no b p n j w hm
set_option maxHeartbeats 400000 in
theorem refSpan_neg (k : Int) (hk : k < 0) :
    Calls Try.prog 8 #[.agg #[.int .i64 b, .int .i64 p, .int .i64 n, .int .i64 j], .int .i64 k] w fun e w' => e = .returned (.tuple #[.int .i64 0, .int .i64 0, .int .i64 22]) ∧ Below w.heap.size w w' := by
  have HX := Lib.hid (Boxed.start w [.int .i64 b, .int .i64 p, .int .i64 n, .int .i64 j] 23)
  go_enter Try.func8, Try.ntmps8
  go_wp2_with (first
    | (go_at_call 16; refine (refGroups_any b p n j _).mono ?_; rintro e w1 ⟨rfl, hb1⟩
       have HY : Hid (Boxed w w1 [.int .i64 b, .int .i64 p, .int .i64 n, .int .i64 j]) := Lib.hid (by refine Boxed.go ?_ hb1; repeat (first | exact HY.out | exact HX.out | exact HY.out.drewN 1 | exact HX.out.drewN 1 | apply Boxed.alloc))
       obtain ⟨c0, c1, c2, c3⟩ := HY.out.four
       clear hb1))
  go_ret3
  exact ⟨rfl, HX.out.below⟩
set_option maxHeartbeats 400000 in
theorem refSpan_big (k : Int) (hk0 : 0 ≤ k) (hk : groupsI b p n j ≤ k) :
    Calls Try.prog 8 #[.agg #[.int .i64 b, .int .i64 p, .int .i64 n, .int .i64 j], .int .i64 k] w fun e w' => e = .returned (.tuple #[.int .i64 0, .int .i64 0, .int .i64 22]) ∧ Below w.heap.size w w' := by
  have HX := Lib.hid (Boxed.start w [.int .i64 b, .int .i64 p, .int .i64 n, .int .i64 j] 23)
  go_enter Try.func8, Try.ntmps8
  go_wp2_with (first
    | (go_at_call 16; refine (refGroups_any b p n j _).mono ?_; rintro e w1 ⟨rfl, hb1⟩
       have HY : Hid (Boxed w w1 [.int .i64 b, .int .i64 p, .int .i64 n, .int .i64 j]) := Lib.hid (by refine Boxed.go ?_ hb1; repeat (first | exact HY.out | exact HX.out | exact HY.out.drewN 1 | exact HX.out.drewN 1 | apply Boxed.alloc))
       obtain ⟨c0, c1, c2, c3⟩ := HY.out.four
       clear hb1))
  go_ret3
  exact ⟨rfl, HY.out.below⟩
set_option maxHeartbeats 400000 in
theorem refSpan_no (k : Int) (hh : hasB b p n j k = false) :
    Calls Try.prog 8 #[.agg #[.int .i64 b, .int .i64 p, .int .i64 n, .int .i64 j], .int .i64 k] w fun e w' => e = .returned (.tuple #[.int .i64 0, .int .i64 0, .int .i64 22]) ∧ Below w.heap.size w w' := by
  unfold hasB at hh
  rw [inB_false] at hh
  by_cases hk : k < 0
  · exact refSpan_neg b p n j w k hk
  · exact refSpan_big b p n j w k (by omega) (by omega)
set_option maxHeartbeats 400000 in
theorem refSpan_yes (k : Int) (hh : hasB b p n j k = true) :
    Calls Try.prog 8 #[.agg #[.int .i64 b, .int .i64 p, .int .i64 n, .int .i64 j], .int .i64 k] w fun e w' => e = .returned (.tuple #[.int .i64 (k * p), .int .i64 (endI b p k), .int .i64 0]) ∧ Below w.heap.size w w' := by
  obtain ⟨hm, hk0, hk1, hk2⟩ := has_may hh
  have hk3 : k < groupsI b p n j := by rw [groupsI_yes hm]; exact hk1
  obtain ⟨hb0, hb1, hp0, hp1, hn0, hn1, hev, hj0, hj1, hg0, hg1, hlo, hhi, hf, hl⟩ := may_iff.1 hm
  obtain ⟨m0, m1⟩ := mul_bd hk0 (show k ≤ 200 by omega) (show 0 ≤ p by omega) hp1
  have hkp : (k + 1) * p = k * p + p := by rw [Int.add_mul, Int.one_mul]
  have hE := endI_if b p k
  clear hl hf hlo hhi hev hk1 hg0 hg1 hh hm
  generalize hm : k * p = m at *
  generalize hk' : (k + 1) * p = m' at *
  subst hkp
  generalize endI b p k = q at *
  have HE := Lib.hid hE
  clear hE
  have s0 : IntKind.i64.wrap m = m := IntWalk.i64_in _ (by omega)
  have s1 : IntKind.i64.wrap (k + 1) = k + 1 := IntWalk.i64_in _ (by omega)
  have s2 : IntKind.i64.wrap (m + p) = m + p := IntWalk.i64_in _ (by omega)
  have HX := Lib.hid (Boxed.start w [.int .i64 b, .int .i64 p, .int .i64 n, .int .i64 j] 23)
  go_enter Try.func8, Try.ntmps8
  go_wp2_with (first
    | (go_at_call 16; refine (refGroups_any b p n j _).mono ?_; rintro e w1 ⟨rfl, hb1⟩
       have HY : Hid (Boxed w w1 [.int .i64 b, .int .i64 p, .int .i64 n, .int .i64 j]) := Lib.hid (by refine Boxed.go ?_ hb1; repeat (first | exact HY.out | exact HX.out | exact HY.out.drewN 1 | exact HX.out.drewN 1 | apply Boxed.alloc))
       obtain ⟨c0, c1, c2, c3⟩ := HY.out.four
       clear hb1))
  go_region
  go_wp2
  all_goals
    have HQ := HE.out
    first | rw [if_pos (by omega)] at HQ | rw [if_neg (by omega)] at HQ
    subst HQ
    go_ret3
    exact ⟨rfl, (HY.out.drewN 1).below⟩
set_option maxHeartbeats 400000 in
theorem refPlace_no (k : Int) (hh : hasB b p n j k = false) :
    Calls Try.prog 10 #[.agg #[.int .i64 b, .int .i64 p, .int .i64 n, .int .i64 j], .int .i64 k] w fun e w' => e = .returned (.tuple #[.int .i64 0, .int .i64 0, .int .i64 0, .int .i64 0, .int .i64 22]) ∧ Below w.heap.size w w' := by
  have hq := Lib.hid hh
  clear hh
  have HX := Lib.hid (Boxed.start w [.int .i64 b, .int .i64 p, .int .i64 n, .int .i64 j] 23)
  go_enter Try.func10, Try.ntmps10
  go_wp2_with (first
    | (go_at_call 8; refine (refSpan_no b p n j _ k hq.out).mono ?_; rintro e w1 ⟨rfl, hb1⟩
       have HY : Hid (Boxed w w1 [.int .i64 b, .int .i64 p, .int .i64 n, .int .i64 j]) := Lib.hid (by refine Boxed.go ?_ hb1; repeat (first | exact HY.out | exact HX.out | exact HY.out.drewN 1 | exact HX.out.drewN 1 | apply Boxed.alloc))
       obtain ⟨c0, c1, c2, c3⟩ := HY.out.four
       clear hb1))
  exact bodyPost_ret (v := .tuple #[.int .i64 0, .int .i64 0, .int .i64 0, .int .i64 0, .int .i64 22]) (by simp [results, Try.results10, go_sem]) rfl ⟨rfl, HY.out.below⟩
set_option maxHeartbeats 400000 in
theorem refPlace_0 (hh : hasB b p n j 0 = true) :
    Calls Try.prog 10 #[.agg #[.int .i64 b, .int .i64 p, .int .i64 n, .int .i64 j], .int .i64 0] w fun e w' => e = .returned (.tuple #[.int .i64 (baseI p j 0), .int .i64 (baseI p j 0 + 1), .int .i64 (tableI p j 0), .int .i64 (dataI p n j 0), .int .i64 0]) ∧ Below w.heap.size w w' := by
  obtain ⟨hm, hk0, hk1, hk2⟩ := has_may hh
  obtain ⟨hb0, hb1, hp0, hp1, hn0, hn1, hev, hj0, hj1, hg0, hg1, hlo, hhi, hf, hl⟩ := may_iff.1 hm
  clear hl hf hlo hhi hev hk1 hg0 hg1 hm hk0 hk2
  have hq := Lib.hid hh
  clear hh
  unfold tableI dataI tableI
  rw [base_0]
  have s1 : IntKind.i64.wrap (2 + j + 1) = 2 + j + 1 := IntWalk.i64_in _ (by omega)
  have s2 : IntKind.i64.wrap (2 + j + 2) = 2 + j + 2 := IntWalk.i64_in _ (by omega)
  have s3 : n.tdiv 2 = n / 2 := Int.tdiv_eq_ediv_of_nonneg (by omega)
  have s4 : IntKind.i64.wrap (2 + j + 2 + n / 2) = 2 + j + 2 + n / 2 := IntWalk.i64_in _ (by omega)
  have HX := Lib.hid (Boxed.start w [.int .i64 b, .int .i64 p, .int .i64 n, .int .i64 j] 23)
  go_enter Try.func10, Try.ntmps10
  go_wp2_with (first
    | (go_at_call 8; refine (refSpan_yes b p n j _ 0 hq.out).mono ?_; rintro e w1 ⟨rfl, hb1⟩
       have HY : Hid (Boxed w w1 [.int .i64 b, .int .i64 p, .int .i64 n, .int .i64 j]) := Lib.hid (by refine Boxed.go ?_ hb1; repeat (first | exact HY.out | exact HX.out | exact HY.out.drewN 1 | exact HX.out.drewN 1 | apply Boxed.alloc))
       obtain ⟨c0, c1, c2, c3⟩ := HY.out.four
       clear hb1))
  go_quiet (fail)
  have HY := Lib.hid (HY.out.drewN nq)
  go_wp2
  exact bodyPost_ret (v := .tuple #[.int .i64 (2 + j), .int .i64 ((2 + j) + 1), .int .i64 ((2 + j) + 2), .int .i64 ((2 + j) + 2 + n / 2), .int .i64 0]) (by simp [results, Try.results10, go_sem]) rfl ⟨rfl, HY.out.below⟩
set_option maxHeartbeats 400000 in
theorem refPlace_up (k : Int) (hh : hasB b p n j k = true) (hk : (k == 0) = false) :
    Calls Try.prog 10 #[.agg #[.int .i64 b, .int .i64 p, .int .i64 n, .int .i64 j], .int .i64 k] w fun e w' => e = .returned (.tuple #[.int .i64 (baseI p j k), .int .i64 (baseI p j k + 1), .int .i64 (tableI p j k), .int .i64 (dataI p n j k), .int .i64 0]) ∧ Below w.heap.size w w' := by
  obtain ⟨hm, hk0, hk1, hk2⟩ := has_may hh
  obtain ⟨hb0, hb1, hp0, hp1, hn0, hn1, hev, hj0, hj1, hg0, hg1, hlo, hhi, hf, hl⟩ := may_iff.1 hm
  obtain ⟨m0, m1⟩ := mul_bd hk0 (show k ≤ 200 by omega) (show 0 ≤ p by omega) hp1
  clear hl hf hlo hhi hev hk1 hg0 hg1 hm
  have hq := Lib.hid hh
  clear hh
  have hz : k ≠ 0 := by simpa using hk
  unfold tableI dataI tableI
  rw [base_up _ _ _ hz]
  clear hz
  generalize hm : k * p = m at *
  have s1 : IntKind.i64.wrap (m + 1) = m + 1 := IntWalk.i64_in _ (by omega)
  have s2 : IntKind.i64.wrap (m + 2) = m + 2 := IntWalk.i64_in _ (by omega)
  have s3 : n.tdiv 2 = n / 2 := Int.tdiv_eq_ediv_of_nonneg (by omega)
  have s4 : IntKind.i64.wrap (m + 2 + n / 2) = m + 2 + n / 2 := IntWalk.i64_in _ (by omega)
  have HX := Lib.hid (Boxed.start w [.int .i64 b, .int .i64 p, .int .i64 n, .int .i64 j] 23)
  go_enter Try.func10, Try.ntmps10
  go_wp2_with (first
    | (go_at_call 8; refine (refSpan_yes b p n j _ k hq.out).mono ?_; rintro e w1 ⟨rfl, hb1⟩
       have HY : Hid (Boxed w w1 [.int .i64 b, .int .i64 p, .int .i64 n, .int .i64 j]) := Lib.hid (by refine Boxed.go ?_ hb1; repeat (first | exact HY.out | exact HX.out | exact HY.out.drewN 1 | exact HX.out.drewN 1 | apply Boxed.alloc))
       obtain ⟨c0, c1, c2, c3⟩ := HY.out.four
       clear hb1))
  go_quiet (fail)
  have HY := Lib.hid (HY.out.drewN nq)
  go_wp2
  exact bodyPost_ret (v := .tuple #[.int .i64 m, .int .i64 (m + 1), .int .i64 (m + 2), .int .i64 (m + 2 + n / 2), .int .i64 0]) (by simp [results, Try.results10, go_sem]) rfl ⟨rfl, HY.out.below⟩
set_option maxHeartbeats 400000 in
theorem refPlace_yes (k : Int) (hh : hasB b p n j k = true) :
    Calls Try.prog 10 #[.agg #[.int .i64 b, .int .i64 p, .int .i64 n, .int .i64 j], .int .i64 k] w fun e w' => e = .returned (.tuple #[.int .i64 (baseI p j k), .int .i64 (baseI p j k + 1), .int .i64 (tableI p j k), .int .i64 (dataI p n j k), .int .i64 0]) ∧ Below w.heap.size w w' := by
  by_cases hk : k = 0
  · subst hk; exact refPlace_0 b p n j w hh
  · exact refPlace_up b p n j w k hh (by simpa using hk)
set_option maxHeartbeats 400000 in
theorem refFixed_no (hm : mayB b p n j = false) :
    Calls Try.prog 18 #[.agg #[.int .i64 b, .int .i64 p, .int .i64 n, .int .i64 j]] w fun e w' => e = .returned (.int .i64 0) ∧ Below w.heap.size w w' := by
  have hq := Lib.hid hm
  clear hm
  have HX := Lib.hid (Boxed.start w [.int .i64 b, .int .i64 p, .int .i64 n, .int .i64 j] 23)
  go_enter Try.func18, Try.ntmps18
  go_wp2_with (first
    | (go_at_call 16; refine (refGroups_no b p n j _ hq.out).mono ?_; rintro e w1 ⟨rfl, hb1⟩
       have HY : Hid (Boxed w w1 [.int .i64 b, .int .i64 p, .int .i64 n, .int .i64 j]) := Lib.hid (by refine Boxed.go ?_ hb1; repeat (first | exact HY.out | exact HX.out | exact HY.out.drewN 1 | exact HX.out.drewN 1 | apply Boxed.alloc))
       obtain ⟨c0, c1, c2, c3⟩ := HY.out.four
       clear hb1))
  go_ret
  exact ⟨rfl, HY.out.below⟩
set_option maxHeartbeats 400000 in
theorem refFixed_yes (hm : mayB b p n j = true) :
    Calls Try.prog 18 #[.agg #[.int .i64 b, .int .i64 p, .int .i64 n, .int .i64 j]] w fun e w' => e = .returned (.int .i64 (2 + j + gN b p * (2 + n / 2))) ∧ Below w.heap.size w w' := by
  obtain ⟨hb0, hb1, hp0, hp1, hn0, hn1, hev, hj0, hj1, hg0, hg1, hlo, hhi, hf, hl⟩ := may_iff.1 hm
  clear hl hf hlo hhi hev
  have hq := Lib.hid hm
  clear hm
  obtain ⟨t0, t1⟩ := prod2_bd (by omega) hg1 hn0 hn1
  have d0 : (gN b p == 0) = false := by simp; omega
  have HX := Lib.hid (Boxed.start w [.int .i64 b, .int .i64 p, .int .i64 n, .int .i64 j] 23)
  go_enter Try.func18, Try.ntmps18
  go_wp2_with (first
    | (go_at_call 16; refine (refGroups_yes b p n j _ hq.out).mono ?_; rintro e w1 ⟨rfl, hb1⟩
       have HY : Hid (Boxed w w1 [.int .i64 b, .int .i64 p, .int .i64 n, .int .i64 j]) := Lib.hid (by refine Boxed.go ?_ hb1; repeat (first | exact HY.out | exact HX.out | exact HY.out.drewN 1 | exact HX.out.drewN 1 | apply Boxed.alloc))
       obtain ⟨c0, c1, c2, c3⟩ := HY.out.four
       clear hb1))
  go_ret
  exact ⟨rfl, HY.out.below⟩
set_option maxHeartbeats 400000 in
theorem refFixed_any  :
    Calls Try.prog 18 #[.agg #[.int .i64 b, .int .i64 p, .int .i64 n, .int .i64 j]] w fun e w' => e = .returned (.int .i64 (fixedI b p n j)) ∧ Below w.heap.size w w' := by
  cases hm : mayB b p n j with
  | true => rw [fixedI_yes hm]; exact refFixed_yes b p n j w hm
  | false => rw [fixedI_no hm]; exact refFixed_no b p n j w hm
set_option maxHeartbeats 400000 in
theorem refInodeAt_neg (i : Int) (hi : i < 1) :
    Calls Try.prog 12 #[.agg #[.int .i64 b, .int .i64 p, .int .i64 n, .int .i64 j], .int .i64 i] w fun e w' => e = .returned (.tuple #[.int .i64 0, .int .i64 0, .int .i64 22]) ∧ Below w.heap.size w w' := by
  have d0 : decide (i < 1) = true := by simpa using hi
  have HX := Lib.hid (Boxed.start w [.int .i64 b, .int .i64 p, .int .i64 n, .int .i64 j] 23)
  go_enter Try.func12, Try.ntmps12
  go_wp2
  go_quiet (fail)
  have HX := Lib.hid (HX.out.drewN nq)
  go_wp2
  go_ret3
  exact ⟨rfl, HX.out.below⟩
set_option maxHeartbeats 400000 in
theorem refInodeAt_big (i : Int) (hi : 1 ≤ i) (hb : groupsI b p n j * n < i) :
    Calls Try.prog 12 #[.agg #[.int .i64 b, .int .i64 p, .int .i64 n, .int .i64 j], .int .i64 i] w fun e w' => e = .returned (.tuple #[.int .i64 0, .int .i64 0, .int .i64 22]) ∧ Below w.heap.size w w' := by
  have d0 : decide (i < 1) = false := by simpa using hi
  have d1 : decide (groupsI b p n j * n < i) = true := by simpa using hb
  obtain ⟨t0, t1⟩ := inos_bd b p n j
  have s1 : IntKind.i64.wrap (groupsI b p n j * n) = groupsI b p n j * n := IntWalk.i64_in _ (by omega)
  have HX := Lib.hid (Boxed.start w [.int .i64 b, .int .i64 p, .int .i64 n, .int .i64 j] 23)
  go_enter Try.func12, Try.ntmps12
  go_wp2
  go_region_held3 (fun w' => w'.cell? ⟨w.heap.size, 0, none⟩ = some (.int .i64 b) ∧ w'.cell? ⟨w.heap.size, 1, none⟩ = some (.int .i64 p) ∧ w'.cell? ⟨w.heap.size, 2, none⟩ = some (.int .i64 n) ∧ w'.cell? ⟨w.heap.size, 3, none⟩ = some (.int .i64 j)) (first | exact HY.out.four | exact HX.out.four | go_keep)
    ((first
      | (go_at_call 16; refine (refGroups_any b p n j _).mono ?_; rintro e w1 ⟨rfl, hb1⟩
         have HY : Hid (Boxed w w1 [.int .i64 b, .int .i64 p, .int .i64 n, .int .i64 j]) := Lib.hid (by refine Boxed.go ?_ hb1; repeat (first | exact HY.out | exact HX.out | exact HY.out.drewN 1 | exact HX.out.drewN 1 | apply Boxed.alloc))
         clear hb1)))
  all_goals
    go_wp2
    go_ret3
    exact ⟨rfl, HY.out.below⟩
set_option maxHeartbeats 400000 in
theorem refInodeAt_no (i : Int) (hh : inoB b p n j i = false) :
    Calls Try.prog 12 #[.agg #[.int .i64 b, .int .i64 p, .int .i64 n, .int .i64 j], .int .i64 i] w fun e w' => e = .returned (.tuple #[.int .i64 0, .int .i64 0, .int .i64 22]) ∧ Below w.heap.size w w' := by
  unfold inoB at hh
  rw [inB_false] at hh
  by_cases hi : i < 1
  · exact refInodeAt_neg b p n j w i hi
  · exact refInodeAt_big b p n j w i (by omega) (by omega)
set_option maxHeartbeats 400000 in
theorem refInodeAt_yes (i : Int) (hh : inoB b p n j i = true) :
    Calls Try.prog 12 #[.agg #[.int .i64 b, .int .i64 p, .int .i64 n, .int .i64 j], .int .i64 i] w fun e w' => e = .returned (.tuple #[.int .i64 (inoBlock p n j i), .int .i64 (inoByte n i), .int .i64 0]) ∧ Below w.heap.size w w' := by
  obtain ⟨hm, hi0, hi1⟩ := ino_may hh
  obtain ⟨hb0, hb1, hp0, hp1, hn0, hn1, hev, hj0, hj1, hg0, hg1, hlo, hhi, hf, hl⟩ := may_iff.1 hm
  obtain ⟨t0, t1⟩ := prod_bd (g := gN b p) (by omega) hg1 hn0 hn1
  obtain ⟨q0, q1⟩ := inoGroup_bd (g := gN b p) hn0 hi0 hi1
  obtain ⟨r0, r1⟩ := inoPlace_bd i hn0
  have q2 : inoGroup n i ≤ 200 := by omega
  have q3 : hasB b p n j (inoGroup n i) = true := by
    unfold hasB
    rw [groupsI_yes hm]
    exact inB_true.2 ⟨q0, by omega⟩
  obtain ⟨b0, b1⟩ := table_bd p j (inoGroup n i) hp0 hp1 hj0 hj1 q0 q2
  have eG : (i - 1) / n = inoGroup n i := rfl
  have eP : (i - 1) % n = inoPlace n i := rfl
  have s0 : IntKind.i64.wrap (i - 1) = i - 1 := IntWalk.i64_in _ (by omega)
  have s1 : (i - 1).tdiv n = inoGroup n i := by rw [Int.tdiv_eq_ediv_of_nonneg (by omega)]; rfl
  have s3 : IntKind.i64.wrap (inoGroup n i) = inoGroup n i := IntWalk.i64_in _ (by omega)
  have s5 : (n == 0) = false := by simp; omega
  have s7 : ¬ n = 0 := by omega
  have s6 : IntKind.i64.wrap (gN b p * n) = gN b p * n := IntWalk.i64_in _ (by omega)
  have d0 : decide (i < 1) = false := by simpa using hi0
  have d1 : decide (gN b p * n < i) = false := by simpa using hi1
  have hq3 := Lib.hid q3
  have hq := Lib.hid hm
  unfold inoBlock inoByte
  clear hl hf hlo hhi hev hm hh q3
  have HX := Lib.hid (Boxed.start w [.int .i64 b, .int .i64 p, .int .i64 n, .int .i64 j] 23)
  go_enter Try.func12, Try.ntmps12
  go_wp2
  go_region_held3 (fun w' => w'.cell? ⟨w.heap.size, 0, none⟩ = some (.int .i64 b) ∧ w'.cell? ⟨w.heap.size, 1, none⟩ = some (.int .i64 p) ∧ w'.cell? ⟨w.heap.size, 2, none⟩ = some (.int .i64 n) ∧ w'.cell? ⟨w.heap.size, 3, none⟩ = some (.int .i64 j)) (first | exact HY.out.four | exact HX.out.four | go_keep)
    ((first
      | (go_at_call 16; refine (refGroups_yes b p n j _ hq.out).mono ?_; rintro e w1 ⟨rfl, hb1⟩
         have HY : Hid (Boxed w w1 [.int .i64 b, .int .i64 p, .int .i64 n, .int .i64 j]) := Lib.hid (by refine Boxed.go ?_ hb1; repeat (first | exact HY.out | exact HX.out | exact HY.out.drewN 1 | exact HX.out.drewN 1 | apply Boxed.alloc))
         clear hb1)))
  all_goals
    obtain ⟨c0, c1, c2, c3⟩ := HY.out.four
    clear s6
    go_wp2
    go_region_held3 (fun w' => w'.cell? ⟨w.heap.size, 0, none⟩ = some (.int .i64 b) ∧ w'.cell? ⟨w.heap.size, 1, none⟩ = some (.int .i64 p) ∧ w'.cell? ⟨w.heap.size, 2, none⟩ = some (.int .i64 n) ∧ w'.cell? ⟨w.heap.size, 3, none⟩ = some (.int .i64 j)) (first | exact HY.out.four | exact HX.out.four | go_keep)
      ((first
        | (go_at_call 10; refine (refPlace_yes b p n j _ (inoGroup n i) hq3.out).mono ?_; rintro e w1 ⟨rfl, hb1⟩
           have HY : Hid (Boxed w w1 [.int .i64 b, .int .i64 p, .int .i64 n, .int .i64 j]) := Lib.hid (by refine Boxed.go ?_ hb1; repeat (first | exact HY.out | exact HX.out | exact HY.out.drewN 1 | exact HX.out.drewN 1 | apply Boxed.alloc))
           clear hb1)))
    all_goals
      clear s0 s1 s3
      go_wp2
      go_ret3
      exact ⟨rfl, HY.out.below⟩
end
end Go.Proofs.Ytoaallnmihhjlaa.GRef2
