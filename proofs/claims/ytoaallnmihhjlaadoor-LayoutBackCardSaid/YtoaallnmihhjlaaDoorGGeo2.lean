/- layout's faces of a geometry. -/
import Derived.Test.YtoaallnmihhjlaaDoorGGeo
namespace Go.Proofs.YtoaallnmihhjlaaDoor.GGeo2
open Go.RowKit WMem GPlain GWithin GGeo

section
variable (b p n j : Int) (w : World)
theorem mayBe_any :
    Calls Tryd.prog 40 #[.agg #[.int .i64 b, .int .i64 p, .int .i64 n, .int .i64 j]] w fun e w' => e = .returned (.bool (mayB b p n j)) ∧ Below w.heap.size w w' := by
  cases h1 : inB 128 4096 b with
  | false => rw [show mayB b p n j = false by simp [mayB, numsB, h1]]; exact mayBe_b b p n j w h1
  | true =>
    cases h2 : inB 32 2016 p with
    | false => rw [show mayB b p n j = false by simp [mayB, numsB, h1, h2]]; exact mayBe_p b p n j w h1 h2
    | true =>
      cases h3 : inB 8 512 n with
      | false => rw [show mayB b p n j = false by simp [mayB, numsB, h1, h2, h3]]; exact mayBe_n b p n j w h1 h2 h3
      | true =>
        cases h4 : (n % 2 == 0) with
        | false => rw [show mayB b p n j = false by simp only [mayB, numsB, h1, h2, h3, h4]; rfl]; exact mayBe_e b p n j w h1 h2 h3 (by simpa using h4)
        | true =>
          cases h5 : inB 96 512 j with
          | false => rw [show mayB b p n j = false by simp only [mayB, numsB, h1, h2, h3, h4, h5]; rfl]; exact mayBe_j b p n j w h1 h2 h3 (by simpa using h4) h5
          | true =>
            have hs : numsB b p n j = true := by simp only [numsB, h1, h2, h3, h4, h5]; rfl
            cases h6 : decide (gN b p ≤ 14) with
            | false => rw [show mayB b p n j = false by simp only [mayB, hs, h6]; rfl]; exact mayBe_g b p n j w h1 h2 h3 h5 (by simpa using h4) h6
            | true =>
              cases h7 : roomB b p n j 0 with
              | false => rw [show mayB b p n j = false by simp only [mayB, hs, h6, h7]; rfl]; exact mayBe_0 b p n j w h1 h2 h3 h5 (by simpa using h4) h6 h7
              | true => rw [show mayB b p n j = roomB b p n j (gN b p - 1) by simp only [mayB, hs, h6, h7]; rfl]; exact mayBe_l b p n j w h1 h2 h3 h5 (by simpa using h4) h6 h7
theorem mayBe_is (q : Bool) (hq : mayB b p n j = q) :
    Calls Tryd.prog 40 #[.agg #[.int .i64 b, .int .i64 p, .int .i64 n, .int .i64 j]] w fun e w' => e = .returned (.bool q) ∧ Below w.heap.size w w' := by
  subst hq
  exact mayBe_any b p n j w
set_option maxHeartbeats 400000 in
theorem Check_yes (hm : mayB b p n j = true) :
    Calls Tryd.prog 18 #[.agg #[.int .i64 b, .int .i64 p, .int .i64 n, .int .i64 j]] w fun e w' => e = .returned (.int .i64 0) ∧ Below w.heap.size w w' := by
  have hq := Lib.hid hm
  clear hm
  have HX := Lib.hid (Boxed.start w [.int .i64 b, .int .i64 p, .int .i64 n, .int .i64 j] 23)
  go_enter Tryd.func18, Tryd.ntmps18
  go_wp2_with (first
    | (go_at_call 40; refine (mayBe_is b p n j _ true hq.out).mono ?_; rintro e w1 ⟨rfl, hb1⟩
       have HY : Hid (Boxed w w1 [.int .i64 b, .int .i64 p, .int .i64 n, .int .i64 j]) := Lib.hid (by refine Boxed.go ?_ hb1; repeat (first | exact HY.out | exact HX.out | exact HY.out.drewN 1 | exact HX.out.drewN 1 | apply Boxed.alloc))
       obtain ⟨c0, c1, c2, c3⟩ := HY.out.four
       clear hb1))
  go_ret
  exact ⟨rfl, HY.out.below⟩
set_option maxHeartbeats 400000 in
theorem Check_no (hm : mayB b p n j = false) :
    Calls Tryd.prog 18 #[.agg #[.int .i64 b, .int .i64 p, .int .i64 n, .int .i64 j]] w fun e w' => e = .returned (.int .i64 22) ∧ Below w.heap.size w w' := by
  have hq := Lib.hid hm
  clear hm
  have HX := Lib.hid (Boxed.start w [.int .i64 b, .int .i64 p, .int .i64 n, .int .i64 j] 23)
  go_enter Tryd.func18, Tryd.ntmps18
  go_wp2_with (first
    | (go_at_call 40; refine (mayBe_is b p n j _ false hq.out).mono ?_; rintro e w1 ⟨rfl, hb1⟩
       have HY : Hid (Boxed w w1 [.int .i64 b, .int .i64 p, .int .i64 n, .int .i64 j]) := Lib.hid (by refine Boxed.go ?_ hb1; repeat (first | exact HY.out | exact HX.out | exact HY.out.drewN 1 | exact HX.out.drewN 1 | apply Boxed.alloc))
       obtain ⟨c0, c1, c2, c3⟩ := HY.out.four
       clear hb1))
  go_ret
  exact ⟨rfl, HY.out.below⟩
set_option maxHeartbeats 400000 in
theorem Groups_yes (hm : mayB b p n j = true) :
    Calls Tryd.prog 22 #[.agg #[.int .i64 b, .int .i64 p, .int .i64 n, .int .i64 j]] w fun e w' => e = .returned (.int .i64 (gN b p)) ∧ Below w.heap.size w w' := by
  obtain ⟨hb0, hb1, hp0, hp1, hn0, hn1, hev, hj0, hj1, hg0, hg1, hlo, hhi, hf, hl⟩ := may_iff.1 hm
  clear hl hf hlo hhi hev
  have hq := Lib.hid hm
  clear hm
  have HX := Lib.hid (Boxed.start w [.int .i64 b, .int .i64 p, .int .i64 n, .int .i64 j] 23)
  go_enter Tryd.func22, Tryd.ntmps22
  go_wp2_with (first
    | (go_at_call 40; refine (mayBe_is b p n j _ true hq.out).mono ?_; rintro e w1 ⟨rfl, hb1⟩
       have HY : Hid (Boxed w w1 [.int .i64 b, .int .i64 p, .int .i64 n, .int .i64 j]) := Lib.hid (by refine Boxed.go ?_ hb1; repeat (first | exact HY.out | exact HX.out | exact HY.out.drewN 1 | exact HX.out.drewN 1 | apply Boxed.alloc))
       obtain ⟨c0, c1, c2, c3⟩ := HY.out.four
       clear hb1)
    | (go_at_call 47; refine (groups_any b p n j _ hb0 hb1 hp0 hp1).mono ?_; rintro e w1 ⟨rfl, hb1⟩
       have HY : Hid (Boxed w w1 [.int .i64 b, .int .i64 p, .int .i64 n, .int .i64 j]) := Lib.hid (by refine Boxed.go ?_ hb1; repeat (first | exact HY.out | exact HX.out | exact HY.out.drewN 1 | exact HX.out.drewN 1 | apply Boxed.alloc))
       obtain ⟨c0, c1, c2, c3⟩ := HY.out.four
       clear hb1))
  go_ret
  exact ⟨rfl, HY.out.below⟩
set_option maxHeartbeats 400000 in
theorem Groups_no (hm : mayB b p n j = false) :
    Calls Tryd.prog 22 #[.agg #[.int .i64 b, .int .i64 p, .int .i64 n, .int .i64 j]] w fun e w' => e = .returned (.int .i64 0) ∧ Below w.heap.size w w' := by
  have hq := Lib.hid hm
  clear hm
  have HX := Lib.hid (Boxed.start w [.int .i64 b, .int .i64 p, .int .i64 n, .int .i64 j] 23)
  go_enter Tryd.func22, Tryd.ntmps22
  go_wp2_with (first
    | (go_at_call 40; refine (mayBe_is b p n j _ false hq.out).mono ?_; rintro e w1 ⟨rfl, hb1⟩
       have HY : Hid (Boxed w w1 [.int .i64 b, .int .i64 p, .int .i64 n, .int .i64 j]) := Lib.hid (by refine Boxed.go ?_ hb1; repeat (first | exact HY.out | exact HX.out | exact HY.out.drewN 1 | exact HX.out.drewN 1 | apply Boxed.alloc))
       obtain ⟨c0, c1, c2, c3⟩ := HY.out.four
       clear hb1))
  go_ret
  exact ⟨rfl, HY.out.below⟩
set_option maxHeartbeats 400000 in
theorem Groups_any  :
    Calls Tryd.prog 22 #[.agg #[.int .i64 b, .int .i64 p, .int .i64 n, .int .i64 j]] w fun e w' => e = .returned (.int .i64 (groupsI b p n j)) ∧ Below w.heap.size w w' := by
  cases hm : mayB b p n j with
  | true => rw [groupsI_yes hm]; exact Groups_yes b p n j w hm
  | false => rw [groupsI_no hm]; exact Groups_no b p n j w hm
set_option maxHeartbeats 400000 in
theorem hasGroup_any (k : Int) :
    Calls Tryd.prog 41 #[.agg #[.int .i64 b, .int .i64 p, .int .i64 n, .int .i64 j], .int .i64 k] w fun e w' => e = .returned (.bool (hasB b p n j k)) ∧ Below w.heap.size w w' := by
  obtain ⟨g0, g1⟩ := groupsI_bd b p n j
  unfold hasB
  have HX := Lib.hid (Boxed.start w [.int .i64 b, .int .i64 p, .int .i64 n, .int .i64 j] 23)
  go_enter Tryd.func41, Tryd.ntmps41
  go_wp2_with (first
    | (go_at_call 22; refine (Groups_any b p n j _).mono ?_; rintro e w1 ⟨rfl, hb1⟩
       have HY : Hid (Boxed w w1 [.int .i64 b, .int .i64 p, .int .i64 n, .int .i64 j]) := Lib.hid (by refine Boxed.go ?_ hb1; repeat (first | exact HY.out | exact HX.out | exact HY.out.drewN 1 | exact HX.out.drewN 1 | apply Boxed.alloc))
       obtain ⟨c0, c1, c2, c3⟩ := HY.out.four
       clear hb1)
    | (go_at_call 35; (with_reducible refine (within_one 0 (groupsI b p n j - 1) k _ _ _ ?_).mono ?_); · simp [go_sem]
       rintro e w' ⟨rfl, rfl⟩))
  go_ret
  exact ⟨rfl, Boxed.below (by repeat (first | exact HY.out | exact HX.out | apply Boxed.alloc))⟩
set_option maxHeartbeats 400000 in
theorem hasGroup_is (k : Int) (q : Bool) (hq : hasB b p n j k = q) :
    Calls Tryd.prog 41 #[.agg #[.int .i64 b, .int .i64 p, .int .i64 n, .int .i64 j], .int .i64 k] w fun e w' => e = .returned (.bool q) ∧ Below w.heap.size w w' := by
  subst hq
  exact hasGroup_any b p n j w k
set_option maxHeartbeats 400000 in
theorem Span_yes (k : Int) (hh : hasB b p n j k = true) :
    Calls Tryd.prog 19 #[.agg #[.int .i64 b, .int .i64 p, .int .i64 n, .int .i64 j], .int .i64 k] w fun e w' => e = .returned (.tuple #[.int .i64 (k * p), .int .i64 (endI b p k), .int .i64 0]) ∧ Below w.heap.size w w' := by
  obtain ⟨hm, hk0, hk1, hk2⟩ := has_may hh
  have hk3 : k ≤ 200 := by omega
  obtain ⟨hb0, hb1, hp0, hp1, hn0, hn1, hev, hj0, hj1, hg0, hg1, hlo, hhi, hf, hl⟩ := may_iff.1 hm
  clear hl hf hlo hhi hev hk2 hk1 hg0 hg1 hm
  have hq := Lib.hid hh
  clear hh
  have HX := Lib.hid (Boxed.start w [.int .i64 b, .int .i64 p, .int .i64 n, .int .i64 j] 23)
  go_enter Tryd.func19, Tryd.ntmps19
  go_wp2_with (first
    | (go_at_call 41; refine (hasGroup_is b p n j _ k true hq.out).mono ?_; rintro e w1 ⟨rfl, hb1⟩
       have HY : Hid (Boxed w w1 [.int .i64 b, .int .i64 p, .int .i64 n, .int .i64 j]) := Lib.hid (by refine Boxed.go ?_ hb1; repeat (first | exact HY.out | exact HX.out | exact HY.out.drewN 1 | exact HX.out.drewN 1 | apply Boxed.alloc))
       obtain ⟨c0, c1, c2, c3⟩ := HY.out.four
       clear hb1)
    | (go_at_call 42; refine (span_any b p n j _ k hb0 hb1 hp0 hp1 hk0 hk3).mono ?_; rintro e w1 ⟨rfl, hb1⟩
       have HY : Hid (Boxed w w1 [.int .i64 b, .int .i64 p, .int .i64 n, .int .i64 j]) := Lib.hid (by refine Boxed.go ?_ hb1; repeat (first | exact HY.out | exact HX.out | exact HY.out.drewN 1 | exact HX.out.drewN 1 | apply Boxed.alloc))
       obtain ⟨c0, c1, c2, c3⟩ := HY.out.four
       clear hb1))
  go_ret3
  exact ⟨rfl, HY.out.below⟩
set_option maxHeartbeats 400000 in
theorem Span_no (k : Int) (hh : hasB b p n j k = false) :
    Calls Tryd.prog 19 #[.agg #[.int .i64 b, .int .i64 p, .int .i64 n, .int .i64 j], .int .i64 k] w fun e w' => e = .returned (.tuple #[.int .i64 0, .int .i64 0, .int .i64 22]) ∧ Below w.heap.size w w' := by
  have hq := Lib.hid hh
  clear hh
  have HX := Lib.hid (Boxed.start w [.int .i64 b, .int .i64 p, .int .i64 n, .int .i64 j] 23)
  go_enter Tryd.func19, Tryd.ntmps19
  go_wp2_with (first
    | (go_at_call 41; refine (hasGroup_is b p n j _ k false hq.out).mono ?_; rintro e w1 ⟨rfl, hb1⟩
       have HY : Hid (Boxed w w1 [.int .i64 b, .int .i64 p, .int .i64 n, .int .i64 j]) := Lib.hid (by refine Boxed.go ?_ hb1; repeat (first | exact HY.out | exact HX.out | exact HY.out.drewN 1 | exact HX.out.drewN 1 | apply Boxed.alloc))
       obtain ⟨c0, c1, c2, c3⟩ := HY.out.four
       clear hb1))
  go_ret3
  exact ⟨rfl, HY.out.below⟩
set_option maxHeartbeats 400000 in
theorem Place_no (k : Int) (hh : hasB b p n j k = false) :
    Calls Tryd.prog 20 #[.agg #[.int .i64 b, .int .i64 p, .int .i64 n, .int .i64 j], .int .i64 k] w fun e w' => e = .returned (.tuple #[.int .i64 0, .int .i64 0, .int .i64 0, .int .i64 0, .int .i64 22]) ∧ Below w.heap.size w w' := by
  have hq := Lib.hid hh
  clear hh
  have HX := Lib.hid (Boxed.start w [.int .i64 b, .int .i64 p, .int .i64 n, .int .i64 j] 23)
  go_enter Tryd.func20, Tryd.ntmps20
  go_wp2_with (first
    | (go_at_call 41; refine (hasGroup_is b p n j _ k false hq.out).mono ?_; rintro e w1 ⟨rfl, hb1⟩
       have HY : Hid (Boxed w w1 [.int .i64 b, .int .i64 p, .int .i64 n, .int .i64 j]) := Lib.hid (by refine Boxed.go ?_ hb1; repeat (first | exact HY.out | exact HX.out | exact HY.out.drewN 1 | exact HX.out.drewN 1 | apply Boxed.alloc))
       obtain ⟨c0, c1, c2, c3⟩ := HY.out.four
       clear hb1))
  exact bodyPost_ret (v := .tuple #[.int .i64 0, .int .i64 0, .int .i64 0, .int .i64 0, .int .i64 22]) (by simp [results, Tryd.results20, go_sem]) rfl ⟨rfl, HY.out.below⟩
set_option maxHeartbeats 400000 in
theorem Place_yes (k : Int) (hh : hasB b p n j k = true) :
    Calls Tryd.prog 20 #[.agg #[.int .i64 b, .int .i64 p, .int .i64 n, .int .i64 j], .int .i64 k] w fun e w' => e = .returned (.tuple #[.int .i64 (baseI p j k), .int .i64 (baseI p j k + 1), .int .i64 (tableI p j k), .int .i64 (dataI p n j k), .int .i64 0]) ∧ Below w.heap.size w w' := by
  obtain ⟨hm, hk0, hk1, hk2⟩ := has_may hh
  have hk3 : k ≤ 200 := by omega
  obtain ⟨hb0, hb1, hp0, hp1, hn0, hn1, hev, hj0, hj1, hg0, hg1, hlo, hhi, hf, hl⟩ := may_iff.1 hm
  clear hl hf hlo hhi hev hk2 hk1 hg0 hg1 hm
  have hq := Lib.hid hh
  clear hh
  obtain ⟨t0, t1⟩ := base_bd p j k hp0 hp1 hj0 hj1 hk0 hk3
  have hs : IntKind.i64.wrap (baseI p j k + 1) = baseI p j k + 1 := IntWalk.i64_in _ (by omega)
  have HX := Lib.hid (Boxed.start w [.int .i64 b, .int .i64 p, .int .i64 n, .int .i64 j] 23)
  go_enter Tryd.func20, Tryd.ntmps20
  go_wp2_with (first
    | (go_at_call 41; refine (hasGroup_is b p n j _ k true hq.out).mono ?_; rintro e w1 ⟨rfl, hb1⟩
       have HY : Hid (Boxed w w1 [.int .i64 b, .int .i64 p, .int .i64 n, .int .i64 j]) := Lib.hid (by refine Boxed.go ?_ hb1; repeat (first | exact HY.out | exact HX.out | exact HY.out.drewN 1 | exact HX.out.drewN 1 | apply Boxed.alloc))
       obtain ⟨c0, c1, c2, c3⟩ := HY.out.four
       clear hb1)
    | (go_at_call 43; refine (base_any b p n j _ k hp0 hp1 hj0 hj1 hk0 hk3).mono ?_; rintro e w1 ⟨rfl, hb1⟩
       have HY : Hid (Boxed w w1 [.int .i64 b, .int .i64 p, .int .i64 n, .int .i64 j]) := Lib.hid (by refine Boxed.go ?_ hb1; repeat (first | exact HY.out | exact HX.out | exact HY.out.drewN 1 | exact HX.out.drewN 1 | apply Boxed.alloc))
       obtain ⟨c0, c1, c2, c3⟩ := HY.out.four
       clear hb1))
  go_region_held3 (fun w' => w'.cell? ⟨w.heap.size, 0, none⟩ = some (.int .i64 b) ∧ w'.cell? ⟨w.heap.size, 1, none⟩ = some (.int .i64 p) ∧ w'.cell? ⟨w.heap.size, 2, none⟩ = some (.int .i64 n) ∧ w'.cell? ⟨w.heap.size, 3, none⟩ = some (.int .i64 j)) (first | exact HY.out.four | exact HX.out.four | go_keep)
    ((first
      | (go_at_call 44; refine (table_any b p n j _ k hp0 hp1 hj0 hj1 hk0 hk3).mono ?_; rintro e w1 ⟨rfl, hb1⟩
         have HY : Hid (Boxed w w1 [.int .i64 b, .int .i64 p, .int .i64 n, .int .i64 j]) := Lib.hid (by refine Boxed.go ?_ hb1; repeat (first | exact HY.out | exact HX.out | exact HY.out.drewN 1 | exact HX.out.drewN 1 | apply Boxed.alloc))
         clear hb1)
      | (go_at_call 45; refine (data_any b p n j _ k hp0 hp1 hj0 hj1 hk0 hk3 hn0 hn1).mono ?_; rintro e w1 ⟨rfl, hb1⟩
         have HY : Hid (Boxed w w1 [.int .i64 b, .int .i64 p, .int .i64 n, .int .i64 j]) := Lib.hid (by refine Boxed.go ?_ hb1; repeat (first | exact HY.out | exact HX.out | exact HY.out.drewN 1 | exact HX.out.drewN 1 | apply Boxed.alloc))
         clear hb1)))
  go_wp2
  exact bodyPost_ret (v := .tuple #[.int .i64 (baseI p j k), .int .i64 (baseI p j k + 1), .int .i64 (tableI p j k), .int .i64 (dataI p n j k), .int .i64 0]) (by simp [results, Tryd.results20, go_sem]) rfl ⟨rfl, HY.out.below⟩
set_option maxHeartbeats 400000 in
theorem Fixed_no (hm : mayB b p n j = false) :
    Calls Tryd.prog 23 #[.agg #[.int .i64 b, .int .i64 p, .int .i64 n, .int .i64 j]] w fun e w' => e = .returned (.int .i64 0) ∧ Below w.heap.size w w' := by
  have hq := Lib.hid hm
  clear hm
  have HX := Lib.hid (Boxed.start w [.int .i64 b, .int .i64 p, .int .i64 n, .int .i64 j] 23)
  go_enter Tryd.func23, Tryd.ntmps23
  go_wp2_with (first
    | (go_at_call 40; refine (mayBe_is b p n j _ false hq.out).mono ?_; rintro e w1 ⟨rfl, hb1⟩
       have HY : Hid (Boxed w w1 [.int .i64 b, .int .i64 p, .int .i64 n, .int .i64 j]) := Lib.hid (by refine Boxed.go ?_ hb1; repeat (first | exact HY.out | exact HX.out | exact HY.out.drewN 1 | exact HX.out.drewN 1 | apply Boxed.alloc))
       obtain ⟨c0, c1, c2, c3⟩ := HY.out.four
       clear hb1))
  go_ret
  exact ⟨rfl, HY.out.below⟩
set_option maxHeartbeats 400000 in
theorem Fixed_yes (hm : mayB b p n j = true) :
    Calls Tryd.prog 23 #[.agg #[.int .i64 b, .int .i64 p, .int .i64 n, .int .i64 j]] w fun e w' => e = .returned (.int .i64 (2 + j + gN b p * (2 + n / 2))) ∧ Below w.heap.size w w' := by
  obtain ⟨hb0, hb1, hp0, hp1, hn0, hn1, hev, hj0, hj1, hg0, hg1, hlo, hhi, hf, hl⟩ := may_iff.1 hm
  clear hl hf hlo hhi hev
  have hq := Lib.hid hm
  clear hm
  obtain ⟨t0, t1⟩ := prod2_bd (by omega) hg1 hn0 hn1
  have s1 : IntKind.i64.wrap (2 + j) = 2 + j := IntWalk.i64_in _ (by omega)
  have s2 : IntKind.i64.wrap (2 + n / 2) = 2 + n / 2 := IntWalk.i64_in _ (by omega)
  have s3 : IntKind.i64.wrap (gN b p * (2 + n / 2)) = gN b p * (2 + n / 2) := IntWalk.i64_in _ (by omega)
  have s4 : IntKind.i64.wrap (2 + j + gN b p * (2 + n / 2)) = 2 + j + gN b p * (2 + n / 2) := IntWalk.i64_in _ (by omega)
  have HX := Lib.hid (Boxed.start w [.int .i64 b, .int .i64 p, .int .i64 n, .int .i64 j] 23)
  go_enter Tryd.func23, Tryd.ntmps23
  go_wp2_with (first
    | (go_at_call 40; refine (mayBe_is b p n j _ true hq.out).mono ?_; rintro e w1 ⟨rfl, hb1⟩
       have HY : Hid (Boxed w w1 [.int .i64 b, .int .i64 p, .int .i64 n, .int .i64 j]) := Lib.hid (by refine Boxed.go ?_ hb1; repeat (first | exact HY.out | exact HX.out | exact HY.out.drewN 1 | exact HX.out.drewN 1 | apply Boxed.alloc))
       obtain ⟨c0, c1, c2, c3⟩ := HY.out.four
       clear hb1))
  go_region_held3 (fun w' => w'.cell? ⟨w.heap.size, 0, none⟩ = some (.int .i64 b) ∧ w'.cell? ⟨w.heap.size, 1, none⟩ = some (.int .i64 p) ∧ w'.cell? ⟨w.heap.size, 2, none⟩ = some (.int .i64 n) ∧ w'.cell? ⟨w.heap.size, 3, none⟩ = some (.int .i64 j)) (first | exact HY.out.four | exact HX.out.four | go_keep)
    ((first
      | (go_at_call 47; refine (groups_any b p n j _ hb0 hb1 hp0 hp1).mono ?_; rintro e w1 ⟨rfl, hb1⟩
         have HY : Hid (Boxed w w1 [.int .i64 b, .int .i64 p, .int .i64 n, .int .i64 j]) := Lib.hid (by refine Boxed.go ?_ hb1; repeat (first | exact HY.out | exact HX.out | exact HY.out.drewN 1 | exact HX.out.drewN 1 | apply Boxed.alloc))
         clear hb1)
      | (go_at_call 48; refine (tableSize_any b p n j _ hn0 hn1).mono ?_; rintro e w1 ⟨rfl, hb1⟩
         have HY : Hid (Boxed w w1 [.int .i64 b, .int .i64 p, .int .i64 n, .int .i64 j]) := Lib.hid (by refine Boxed.go ?_ hb1; repeat (first | exact HY.out | exact HX.out | exact HY.out.drewN 1 | exact HX.out.drewN 1 | apply Boxed.alloc))
         clear hb1)))
  go_wp2
  go_ret
  exact ⟨rfl, HY.out.below⟩
set_option maxHeartbeats 400000 in
theorem Fixed_any  :
    Calls Tryd.prog 23 #[.agg #[.int .i64 b, .int .i64 p, .int .i64 n, .int .i64 j]] w fun e w' => e = .returned (.int .i64 (fixedI b p n j)) ∧ Below w.heap.size w w' := by
  cases hm : mayB b p n j with
  | true => rw [fixedI_yes hm]; exact Fixed_yes b p n j w hm
  | false => rw [fixedI_no hm]; exact Fixed_no b p n j w hm
set_option maxHeartbeats 400000 in
theorem inodes_yes (hm : mayB b p n j = true) :
    Calls Tryd.prog 46 #[.agg #[.int .i64 b, .int .i64 p, .int .i64 n, .int .i64 j]] w fun e w' => e = .returned (.int .i64 (gN b p * n)) ∧ Below w.heap.size w w' := by
  obtain ⟨hb0, hb1, hp0, hp1, hn0, hn1, hev, hj0, hj1, hg0, hg1, hlo, hhi, hf, hl⟩ := may_iff.1 hm
  clear hl hf hlo hhi hev
  have hq := Lib.hid hm
  clear hm
  obtain ⟨t0, t1⟩ := prod_bd (g := gN b p) (by omega) hg1 hn0 hn1
  have s1 : IntKind.i64.wrap (gN b p * n) = gN b p * n := IntWalk.i64_in _ (by omega)
  have HX := Lib.hid (Boxed.start w [.int .i64 b, .int .i64 p, .int .i64 n, .int .i64 j] 23)
  go_enter Tryd.func46, Tryd.ntmps46
  go_wp2
  go_region_held3 (fun w' => w'.cell? ⟨w.heap.size, 0, none⟩ = some (.int .i64 b) ∧ w'.cell? ⟨w.heap.size, 1, none⟩ = some (.int .i64 p) ∧ w'.cell? ⟨w.heap.size, 2, none⟩ = some (.int .i64 n) ∧ w'.cell? ⟨w.heap.size, 3, none⟩ = some (.int .i64 j)) (first | exact HY.out.four | exact HX.out.four | go_keep)
    ((first
      | (go_at_call 22; refine (Groups_yes b p n j _ hq.out).mono ?_; rintro e w1 ⟨rfl, hb1⟩
         have HY : Hid (Boxed w w1 [.int .i64 b, .int .i64 p, .int .i64 n, .int .i64 j]) := Lib.hid (by refine Boxed.go ?_ hb1; repeat (first | exact HY.out | exact HX.out | exact HY.out.drewN 1 | exact HX.out.drewN 1 | apply Boxed.alloc))
         clear hb1)))
  go_wp2
  go_ret
  exact ⟨rfl, HY.out.below⟩
set_option maxHeartbeats 400000 in
theorem inodes_no (hm : mayB b p n j = false) :
    Calls Tryd.prog 46 #[.agg #[.int .i64 b, .int .i64 p, .int .i64 n, .int .i64 j]] w fun e w' => e = .returned (.int .i64 0) ∧ Below w.heap.size w w' := by
  have hq := Lib.hid hm
  clear hm
  have s1 : IntKind.i64.wrap (0 * n) = 0 := by rw [Int.zero_mul]; exact IntWalk.i64_in _ (by omega)
  have HX := Lib.hid (Boxed.start w [.int .i64 b, .int .i64 p, .int .i64 n, .int .i64 j] 23)
  go_enter Tryd.func46, Tryd.ntmps46
  go_wp2
  go_region_held3 (fun w' => w'.cell? ⟨w.heap.size, 0, none⟩ = some (.int .i64 b) ∧ w'.cell? ⟨w.heap.size, 1, none⟩ = some (.int .i64 p) ∧ w'.cell? ⟨w.heap.size, 2, none⟩ = some (.int .i64 n) ∧ w'.cell? ⟨w.heap.size, 3, none⟩ = some (.int .i64 j)) (first | exact HY.out.four | exact HX.out.four | go_keep)
    ((first
      | (go_at_call 22; refine (Groups_no b p n j _ hq.out).mono ?_; rintro e w1 ⟨rfl, hb1⟩
         have HY : Hid (Boxed w w1 [.int .i64 b, .int .i64 p, .int .i64 n, .int .i64 j]) := Lib.hid (by refine Boxed.go ?_ hb1; repeat (first | exact HY.out | exact HX.out | exact HY.out.drewN 1 | exact HX.out.drewN 1 | apply Boxed.alloc))
         clear hb1)))
  go_wp2
  go_ret
  exact ⟨rfl, HY.out.below⟩
set_option maxHeartbeats 400000 in
theorem inodes_any  :
    Calls Tryd.prog 46 #[.agg #[.int .i64 b, .int .i64 p, .int .i64 n, .int .i64 j]] w fun e w' => e = .returned (.int .i64 (groupsI b p n j * n)) ∧ Below w.heap.size w w' := by
  cases hm : mayB b p n j with
  | true => rw [groupsI_yes hm]; exact inodes_yes b p n j w hm
  | false => rw [groupsI_no hm, Int.zero_mul]; exact inodes_no b p n j w hm
set_option maxHeartbeats 400000 in
theorem InodeAt_no (i : Int) (hh : inoB b p n j i = false) :
    Calls Tryd.prog 21 #[.agg #[.int .i64 b, .int .i64 p, .int .i64 n, .int .i64 j], .int .i64 i] w fun e w' => e = .returned (.tuple #[.int .i64 0, .int .i64 0, .int .i64 22]) ∧ Below w.heap.size w w' := by
  unfold inoB at hh
  have HX := Lib.hid (Boxed.start w [.int .i64 b, .int .i64 p, .int .i64 n, .int .i64 j] 23)
  go_enter Tryd.func21, Tryd.ntmps21
  go_wp2_with (first
    | (go_at_call 46; refine (inodes_any b p n j _).mono ?_; rintro e w1 ⟨rfl, hb1⟩
       have HY : Hid (Boxed w w1 [.int .i64 b, .int .i64 p, .int .i64 n, .int .i64 j]) := Lib.hid (by refine Boxed.go ?_ hb1; repeat (first | exact HY.out | exact HX.out | exact HY.out.drewN 1 | exact HX.out.drewN 1 | apply Boxed.alloc))
       obtain ⟨c0, c1, c2, c3⟩ := HY.out.four
       clear hb1)
    | (go_at_call 35; (with_reducible refine (within_one 1 (groupsI b p n j * n) i _ _ _ ?_).mono ?_); · simp [go_sem]
       rintro e w' ⟨rfl, rfl⟩
       have HY := Lib.hid (HY.out.alloc (.cells #[.int .i64 i] 3))
       obtain ⟨c0, c1, c2, c3⟩ := HY.out.four))
  go_ret3
  exact ⟨rfl, HY.out.below⟩
set_option maxHeartbeats 400000 in
theorem InodeAt_yes (i : Int) (hh : inoB b p n j i = true) :
    Calls Tryd.prog 21 #[.agg #[.int .i64 b, .int .i64 p, .int .i64 n, .int .i64 j], .int .i64 i] w fun e w' => e = .returned (.tuple #[.int .i64 (inoBlock p n j i), .int .i64 (inoByte n i), .int .i64 0]) ∧ Below w.heap.size w w' := by
  obtain ⟨hm, hi0, hi1⟩ := ino_may hh
  obtain ⟨hb0, hb1, hp0, hp1, hn0, hn1, hev, hj0, hj1, hg0, hg1, hlo, hhi, hf, hl⟩ := may_iff.1 hm
  obtain ⟨t0, t1⟩ := prod_bd (g := gN b p) (by omega) hg1 hn0 hn1
  obtain ⟨q0, q1⟩ := inoGroup_bd (g := gN b p) hn0 hi0 hi1
  obtain ⟨r0, r1⟩ := inoPlace_bd i hn0
  have q2 : inoGroup n i ≤ 200 := by omega
  obtain ⟨b0, b1⟩ := table_bd p j (inoGroup n i) hp0 hp1 hj0 hj1 q0 q2
  have eG : (i - 1) / n = inoGroup n i := rfl
  have eP : (i - 1) % n = inoPlace n i := rfl
  have s0 : IntKind.i64.wrap (i - 1) = i - 1 := IntWalk.i64_in _ (by omega)
  have s1 : (i - 1).tdiv n = inoGroup n i := by rw [Int.tdiv_eq_ediv_of_nonneg (by omega)]; rfl
  have s2 : (i - 1).tmod n = inoPlace n i := by rw [Int.tmod_eq_emod_of_nonneg (by omega)]; rfl
  have s3 : IntKind.i64.wrap (inoGroup n i) = inoGroup n i := IntWalk.i64_in _ (by omega)
  have s4 : IntKind.i64.wrap (inoPlace n i) = inoPlace n i := IntWalk.i64_in _ (by omega)
  have s5 : (n == 0) = false := by simp; omega
  unfold inoB at hh
  unfold inoBlock inoByte
  clear hl hf hlo hhi hev hm
  have HX := Lib.hid (Boxed.start w [.int .i64 b, .int .i64 p, .int .i64 n, .int .i64 j] 23)
  go_enter Tryd.func21, Tryd.ntmps21
  go_wp2_with (first
    | (go_at_call 46; refine (inodes_any b p n j _).mono ?_; rintro e w1 ⟨rfl, hb1⟩
       have HY : Hid (Boxed w w1 [.int .i64 b, .int .i64 p, .int .i64 n, .int .i64 j]) := Lib.hid (by refine Boxed.go ?_ hb1; repeat (first | exact HY.out | exact HX.out | exact HY.out.drewN 1 | exact HX.out.drewN 1 | apply Boxed.alloc))
       obtain ⟨c0, c1, c2, c3⟩ := HY.out.four
       clear hb1)
    | (go_at_call 35; (with_reducible refine (within_one 1 (groupsI b p n j * n) i _ _ _ ?_).mono ?_); · simp [go_sem]
       rintro e w' ⟨rfl, rfl⟩
       have HY := Lib.hid (HY.out.alloc (.cells #[.int .i64 i] 3))
       obtain ⟨c0, c1, c2, c3⟩ := HY.out.four))
  go_quiet (fail)
  have HY := Lib.hid (HY.out.drewN nq)
  clear s0 s1 s2 s3 s4
  go_wp2_with (first
    | (go_at_call 44; refine (table_any b p n j _ (inoGroup n i) hp0 hp1 hj0 hj1 q0 q2).mono ?_; rintro e w1 ⟨rfl, hb1⟩
       have HY : Hid (Boxed w w1 [.int .i64 b, .int .i64 p, .int .i64 n, .int .i64 j]) := Lib.hid (by refine Boxed.go ?_ hb1; repeat (first | exact HY.out | exact HX.out | exact HY.out.drewN 1 | exact HX.out.drewN 1 | apply Boxed.alloc))
       clear hb1))
  go_ret3
  exact ⟨rfl, HY.out.below⟩
end
end Go.Proofs.YtoaallnmihhjlaaDoor.GGeo2
