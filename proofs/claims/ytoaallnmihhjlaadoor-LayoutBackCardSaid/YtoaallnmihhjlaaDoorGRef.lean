/- The document's answers of a geometry. -/
import Derived.Test.YtoaallnmihhjlaaDoorGGeo
namespace Go.Proofs.YtoaallnmihhjlaaDoor.GRef
open Go.RowKit WMem GPlain GWithin GGeo

set_option maxHeartbeats 400000 in
theorem refwithin_any (x lo hi : Int) (w : World) : Calls Tryd.prog 37 #[.int .i64 x, .int .i64 lo, .int .i64 hi] w fun e w' => e = .returned (.bool (inB lo hi x)) ∧ w = w' := by
  by_cases h1 : lo ≤ x
  · have d1 : decide (lo ≤ x) = true := by simpa using h1
    go_enter Tryd.func37, Tryd.ntmps37
    go_wp2
    go_ret
    exact ⟨by simp [inB, h1], rfl⟩
  · have d1 : decide (lo ≤ x) = false := by simpa using h1
    go_enter Tryd.func37, Tryd.ntmps37
    go_wp2
    go_ret
    exact ⟨by rw [show inB lo hi x = false from inB_false.2 (.inl (by omega))]; rfl, rfl⟩
section
variable (b p n j : Int) (w : World)
set_option maxHeartbeats 400000 in
theorem refgroups_any (hb0 : 128 ≤ b) (hb1 : b ≤ 4096) (hp0 : 32 ≤ p) (hp1 : p ≤ 2016) :
    Calls Tryd.prog 70 #[.agg #[.int .i64 b, .int .i64 p, .int .i64 n, .int .i64 j]] w fun e w' => e = .returned (.int .i64 (gN b p)) ∧ Below w.heap.size w w' := by
  go_enter Tryd.func70, Tryd.ntmps70
  go_wp2
  go_ret
  exact ⟨rfl, below_box _⟩
set_option maxHeartbeats 400000 in
theorem refCheck_b (h : inB 128 4096 b = false) :
    Calls Tryd.prog 69 #[.agg #[.int .i64 b, .int .i64 p, .int .i64 n, .int .i64 j]] w fun e w' => e = .returned (.int .i64 22) ∧ Below w.heap.size w w' := by
  have HX := Lib.hid (Boxed.start w [.int .i64 b, .int .i64 p, .int .i64 n, .int .i64 j] 23)
  go_enter Tryd.func69, Tryd.ntmps69
  go_wp2_with (first
    | (go_at_call 37; refine (refwithin_any _ _ _ _).mono ?_; rintro e w' ⟨rfl, rfl⟩)
    | (go_at_call 70; refine (refgroups_any b p n j _ hb0 hb1 hp0 hp1).mono ?_; rintro e w1 ⟨rfl, hb1⟩
       have HY : Hid (Boxed w w1 [.int .i64 b, .int .i64 p, .int .i64 n, .int .i64 j]) := Lib.hid (by refine Boxed.go ?_ hb1; repeat (first | exact HY.out | exact HX.out | exact HY.out.drewN 1 | exact HX.out.drewN 1 | apply Boxed.alloc))
       obtain ⟨c0, c1, c2, c3⟩ := HY.out.four
       clear hb1))
  go_ret
  exact ⟨rfl, Boxed.below (by repeat (first | exact HY.out | exact HX.out | apply Boxed.alloc))⟩
set_option maxHeartbeats 400000 in
theorem refCheck_p (hb : inB 128 4096 b = true) (h : inB 32 2016 p = false) :
    Calls Tryd.prog 69 #[.agg #[.int .i64 b, .int .i64 p, .int .i64 n, .int .i64 j]] w fun e w' => e = .returned (.int .i64 22) ∧ Below w.heap.size w w' := by
  have HX := Lib.hid (Boxed.start w [.int .i64 b, .int .i64 p, .int .i64 n, .int .i64 j] 23)
  go_enter Tryd.func69, Tryd.ntmps69
  go_wp2_with (first
    | (go_at_call 37; refine (refwithin_any _ _ _ _).mono ?_; rintro e w' ⟨rfl, rfl⟩)
    | (go_at_call 70; refine (refgroups_any b p n j _ hb0 hb1 hp0 hp1).mono ?_; rintro e w1 ⟨rfl, hb1⟩
       have HY : Hid (Boxed w w1 [.int .i64 b, .int .i64 p, .int .i64 n, .int .i64 j]) := Lib.hid (by refine Boxed.go ?_ hb1; repeat (first | exact HY.out | exact HX.out | exact HY.out.drewN 1 | exact HX.out.drewN 1 | apply Boxed.alloc))
       obtain ⟨c0, c1, c2, c3⟩ := HY.out.four
       clear hb1))
  go_ret
  exact ⟨rfl, Boxed.below (by repeat (first | exact HY.out | exact HX.out | apply Boxed.alloc))⟩
set_option maxHeartbeats 400000 in
theorem refCheck_n (hb : inB 128 4096 b = true) (hp : inB 32 2016 p = true) (h : inB 8 512 n = false) :
    Calls Tryd.prog 69 #[.agg #[.int .i64 b, .int .i64 p, .int .i64 n, .int .i64 j]] w fun e w' => e = .returned (.int .i64 22) ∧ Below w.heap.size w w' := by
  have HX := Lib.hid (Boxed.start w [.int .i64 b, .int .i64 p, .int .i64 n, .int .i64 j] 23)
  go_enter Tryd.func69, Tryd.ntmps69
  go_wp2_with (first
    | (go_at_call 37; refine (refwithin_any _ _ _ _).mono ?_; rintro e w' ⟨rfl, rfl⟩)
    | (go_at_call 70; refine (refgroups_any b p n j _ hb0 hb1 hp0 hp1).mono ?_; rintro e w1 ⟨rfl, hb1⟩
       have HY : Hid (Boxed w w1 [.int .i64 b, .int .i64 p, .int .i64 n, .int .i64 j]) := Lib.hid (by refine Boxed.go ?_ hb1; repeat (first | exact HY.out | exact HX.out | exact HY.out.drewN 1 | exact HX.out.drewN 1 | apply Boxed.alloc))
       obtain ⟨c0, c1, c2, c3⟩ := HY.out.four
       clear hb1))
  go_ret
  exact ⟨rfl, Boxed.below (by repeat (first | exact HY.out | exact HX.out | apply Boxed.alloc))⟩
set_option maxHeartbeats 400000 in
theorem refCheck_e (hb : inB 128 4096 b = true) (hp : inB 32 2016 p = true) (hn : inB 8 512 n = true) (he : (n % 2 != 0) = true) :
    Calls Tryd.prog 69 #[.agg #[.int .i64 b, .int .i64 p, .int .i64 n, .int .i64 j]] w fun e w' => e = .returned (.int .i64 22) ∧ Below w.heap.size w w' := by
  obtain ⟨hn0, hn1⟩ := inB_true.1 hn
  have HX := Lib.hid (Boxed.start w [.int .i64 b, .int .i64 p, .int .i64 n, .int .i64 j] 23)
  go_enter Tryd.func69, Tryd.ntmps69
  go_wp2_with (first
    | (go_at_call 37; refine (refwithin_any _ _ _ _).mono ?_; rintro e w' ⟨rfl, rfl⟩)
    | (go_at_call 70; refine (refgroups_any b p n j _ hb0 hb1 hp0 hp1).mono ?_; rintro e w1 ⟨rfl, hb1⟩
       have HY : Hid (Boxed w w1 [.int .i64 b, .int .i64 p, .int .i64 n, .int .i64 j]) := Lib.hid (by refine Boxed.go ?_ hb1; repeat (first | exact HY.out | exact HX.out | exact HY.out.drewN 1 | exact HX.out.drewN 1 | apply Boxed.alloc))
       obtain ⟨c0, c1, c2, c3⟩ := HY.out.four
       clear hb1))
  go_ret
  exact ⟨rfl, Boxed.below (by repeat (first | exact HY.out | exact HX.out | apply Boxed.alloc))⟩
set_option maxHeartbeats 400000 in
theorem refCheck_j (hb : inB 128 4096 b = true) (hp : inB 32 2016 p = true) (hn : inB 8 512 n = true) (he : (n % 2 != 0) = false) (h : inB 96 512 j = false) :
    Calls Tryd.prog 69 #[.agg #[.int .i64 b, .int .i64 p, .int .i64 n, .int .i64 j]] w fun e w' => e = .returned (.int .i64 22) ∧ Below w.heap.size w w' := by
  obtain ⟨hn0, hn1⟩ := inB_true.1 hn
  have HX := Lib.hid (Boxed.start w [.int .i64 b, .int .i64 p, .int .i64 n, .int .i64 j] 23)
  go_enter Tryd.func69, Tryd.ntmps69
  go_wp2_with (first
    | (go_at_call 37; refine (refwithin_any _ _ _ _).mono ?_; rintro e w' ⟨rfl, rfl⟩)
    | (go_at_call 70; refine (refgroups_any b p n j _ hb0 hb1 hp0 hp1).mono ?_; rintro e w1 ⟨rfl, hb1⟩
       have HY : Hid (Boxed w w1 [.int .i64 b, .int .i64 p, .int .i64 n, .int .i64 j]) := Lib.hid (by refine Boxed.go ?_ hb1; repeat (first | exact HY.out | exact HX.out | exact HY.out.drewN 1 | exact HX.out.drewN 1 | apply Boxed.alloc))
       obtain ⟨c0, c1, c2, c3⟩ := HY.out.four
       clear hb1))
  go_ret
  exact ⟨rfl, Boxed.below (by repeat (first | exact HY.out | exact HX.out | apply Boxed.alloc))⟩
set_option maxHeartbeats 400000 in
theorem refCheck_gl (hb : inB 128 4096 b = true) (hp : inB 32 2016 p = true) (hn : inB 8 512 n = true) (he : (n % 2 != 0) = false) (hj : inB 96 512 j = true) (hc : b < p) (h : 14 < gN b p) :
    Calls Tryd.prog 69 #[.agg #[.int .i64 b, .int .i64 p, .int .i64 n, .int .i64 j]] w fun e w' => e = .returned (.int .i64 22) ∧ Below w.heap.size w w' := by
  obtain ⟨hb0, hb1⟩ := inB_true.1 hb
  obtain ⟨hp0, hp1⟩ := inB_true.1 hp
  obtain ⟨hn0, hn1⟩ := inB_true.1 hn
  obtain ⟨hj0, hj1⟩ := inB_true.1 hj
  obtain ⟨g0, g1⟩ := gN_bd hb0 hb1 hp0 hp1
  obtain ⟨u0, u1⟩ := mul_bd (k := gN b p - 1) (by omega) (by omega) (show 0 ≤ p by omega) hp1
  have h1 : 0 ≤ n / 2 := by omega
  have h2 : n / 2 ≤ 256 := by omega
  generalize hm : (gN b p - 1) * p = m at *
  have HX := Lib.hid (Boxed.start w [.int .i64 b, .int .i64 p, .int .i64 n, .int .i64 j] 23)
  go_enter Tryd.func69, Tryd.ntmps69
  go_wp2_with (first
    | (go_at_call 37; refine (refwithin_any _ _ _ _).mono ?_; rintro e w' ⟨rfl, rfl⟩)
    | (go_at_call 70; refine (refgroups_any b p n j _ hb0 hb1 hp0 hp1).mono ?_; rintro e w1 ⟨rfl, hb1⟩
       have HY : Hid (Boxed w w1 [.int .i64 b, .int .i64 p, .int .i64 n, .int .i64 j]) := Lib.hid (by refine Boxed.go ?_ hb1; repeat (first | exact HY.out | exact HX.out | exact HY.out.drewN 1 | exact HX.out.drewN 1 | apply Boxed.alloc))
       obtain ⟨c0, c1, c2, c3⟩ := HY.out.four
       clear hb1))
  go_ret
  exact ⟨rfl, Boxed.below (by repeat (first | exact HY.out | exact HX.out | apply Boxed.alloc))⟩
set_option maxHeartbeats 400000 in
theorem refCheck_fl (hb : inB 128 4096 b = true) (hp : inB 32 2016 p = true) (hn : inB 8 512 n = true) (he : (n % 2 != 0) = false) (hj : inB 96 512 j = true) (hc : b < p) (h : gN b p ≤ 14) (hf : b < 5 + j + n / 2) :
    Calls Tryd.prog 69 #[.agg #[.int .i64 b, .int .i64 p, .int .i64 n, .int .i64 j]] w fun e w' => e = .returned (.int .i64 22) ∧ Below w.heap.size w w' := by
  obtain ⟨hb0, hb1⟩ := inB_true.1 hb
  obtain ⟨hp0, hp1⟩ := inB_true.1 hp
  obtain ⟨hn0, hn1⟩ := inB_true.1 hn
  obtain ⟨hj0, hj1⟩ := inB_true.1 hj
  obtain ⟨g0, g1⟩ := gN_bd hb0 hb1 hp0 hp1
  obtain ⟨u0, u1⟩ := mul_bd (k := gN b p - 1) (by omega) (by omega) (show 0 ≤ p by omega) hp1
  have h1 : 0 ≤ n / 2 := by omega
  have h2 : n / 2 ≤ 256 := by omega
  generalize hm : (gN b p - 1) * p = m at *
  have HX := Lib.hid (Boxed.start w [.int .i64 b, .int .i64 p, .int .i64 n, .int .i64 j] 23)
  go_enter Tryd.func69, Tryd.ntmps69
  go_wp2_with (first
    | (go_at_call 37; refine (refwithin_any _ _ _ _).mono ?_; rintro e w' ⟨rfl, rfl⟩)
    | (go_at_call 70; refine (refgroups_any b p n j _ hb0 hb1 hp0 hp1).mono ?_; rintro e w1 ⟨rfl, hb1⟩
       have HY : Hid (Boxed w w1 [.int .i64 b, .int .i64 p, .int .i64 n, .int .i64 j]) := Lib.hid (by refine Boxed.go ?_ hb1; repeat (first | exact HY.out | exact HX.out | exact HY.out.drewN 1 | exact HX.out.drewN 1 | apply Boxed.alloc))
       obtain ⟨c0, c1, c2, c3⟩ := HY.out.four
       clear hb1))
  go_ret
  exact ⟨rfl, Boxed.below (by repeat (first | exact HY.out | exact HX.out | apply Boxed.alloc))⟩
set_option maxHeartbeats 400000 in
theorem refCheck_ll (hb : inB 128 4096 b = true) (hp : inB 32 2016 p = true) (hn : inB 8 512 n = true) (he : (n % 2 != 0) = false) (hj : inB 96 512 j = true) (hc : b < p) (h : gN b p ≤ 14) (hf : 5 + j + n / 2 ≤ b) (hl : b - (gN b p - 1) * p < 3 + n / 2) :
    Calls Tryd.prog 69 #[.agg #[.int .i64 b, .int .i64 p, .int .i64 n, .int .i64 j]] w fun e w' => e = .returned (.int .i64 22) ∧ Below w.heap.size w w' := by
  obtain ⟨hb0, hb1⟩ := inB_true.1 hb
  obtain ⟨hp0, hp1⟩ := inB_true.1 hp
  obtain ⟨hn0, hn1⟩ := inB_true.1 hn
  obtain ⟨hj0, hj1⟩ := inB_true.1 hj
  obtain ⟨g0, g1⟩ := gN_bd hb0 hb1 hp0 hp1
  obtain ⟨u0, u1⟩ := mul_bd (k := gN b p - 1) (by omega) (by omega) (show 0 ≤ p by omega) hp1
  have h1 : 0 ≤ n / 2 := by omega
  have h2 : n / 2 ≤ 256 := by omega
  generalize hm : (gN b p - 1) * p = m at *
  have HX := Lib.hid (Boxed.start w [.int .i64 b, .int .i64 p, .int .i64 n, .int .i64 j] 23)
  go_enter Tryd.func69, Tryd.ntmps69
  go_wp2_with (first
    | (go_at_call 37; refine (refwithin_any _ _ _ _).mono ?_; rintro e w' ⟨rfl, rfl⟩)
    | (go_at_call 70; refine (refgroups_any b p n j _ hb0 hb1 hp0 hp1).mono ?_; rintro e w1 ⟨rfl, hb1⟩
       have HY : Hid (Boxed w w1 [.int .i64 b, .int .i64 p, .int .i64 n, .int .i64 j]) := Lib.hid (by refine Boxed.go ?_ hb1; repeat (first | exact HY.out | exact HX.out | exact HY.out.drewN 1 | exact HX.out.drewN 1 | apply Boxed.alloc))
       obtain ⟨c0, c1, c2, c3⟩ := HY.out.four
       clear hb1))
  go_ret
  exact ⟨rfl, Boxed.below (by repeat (first | exact HY.out | exact HX.out | apply Boxed.alloc))⟩
set_option maxHeartbeats 400000 in
theorem refCheck_kl (hb : inB 128 4096 b = true) (hp : inB 32 2016 p = true) (hn : inB 8 512 n = true) (he : (n % 2 != 0) = false) (hj : inB 96 512 j = true) (hc : b < p) (h : gN b p ≤ 14) (hf : 5 + j + n / 2 ≤ b) (hl : 3 + n / 2 ≤ b - (gN b p - 1) * p) :
    Calls Tryd.prog 69 #[.agg #[.int .i64 b, .int .i64 p, .int .i64 n, .int .i64 j]] w fun e w' => e = .returned (.int .i64 0) ∧ Below w.heap.size w w' := by
  obtain ⟨hb0, hb1⟩ := inB_true.1 hb
  obtain ⟨hp0, hp1⟩ := inB_true.1 hp
  obtain ⟨hn0, hn1⟩ := inB_true.1 hn
  obtain ⟨hj0, hj1⟩ := inB_true.1 hj
  obtain ⟨g0, g1⟩ := gN_bd hb0 hb1 hp0 hp1
  obtain ⟨u0, u1⟩ := mul_bd (k := gN b p - 1) (by omega) (by omega) (show 0 ≤ p by omega) hp1
  have h1 : 0 ≤ n / 2 := by omega
  have h2 : n / 2 ≤ 256 := by omega
  generalize hm : (gN b p - 1) * p = m at *
  have HX := Lib.hid (Boxed.start w [.int .i64 b, .int .i64 p, .int .i64 n, .int .i64 j] 23)
  go_enter Tryd.func69, Tryd.ntmps69
  go_wp2_with (first
    | (go_at_call 37; refine (refwithin_any _ _ _ _).mono ?_; rintro e w' ⟨rfl, rfl⟩)
    | (go_at_call 70; refine (refgroups_any b p n j _ hb0 hb1 hp0 hp1).mono ?_; rintro e w1 ⟨rfl, hb1⟩
       have HY : Hid (Boxed w w1 [.int .i64 b, .int .i64 p, .int .i64 n, .int .i64 j]) := Lib.hid (by refine Boxed.go ?_ hb1; repeat (first | exact HY.out | exact HX.out | exact HY.out.drewN 1 | exact HX.out.drewN 1 | apply Boxed.alloc))
       obtain ⟨c0, c1, c2, c3⟩ := HY.out.four
       clear hb1))
  go_ret
  exact ⟨rfl, Boxed.below (by repeat (first | exact HY.out | exact HX.out | apply Boxed.alloc))⟩
set_option maxHeartbeats 400000 in
theorem refCheck_gg (hb : inB 128 4096 b = true) (hp : inB 32 2016 p = true) (hn : inB 8 512 n = true) (he : (n % 2 != 0) = false) (hj : inB 96 512 j = true) (hc : p ≤ b) (h : 14 < gN b p) :
    Calls Tryd.prog 69 #[.agg #[.int .i64 b, .int .i64 p, .int .i64 n, .int .i64 j]] w fun e w' => e = .returned (.int .i64 22) ∧ Below w.heap.size w w' := by
  obtain ⟨hb0, hb1⟩ := inB_true.1 hb
  obtain ⟨hp0, hp1⟩ := inB_true.1 hp
  obtain ⟨hn0, hn1⟩ := inB_true.1 hn
  obtain ⟨hj0, hj1⟩ := inB_true.1 hj
  obtain ⟨g0, g1⟩ := gN_bd hb0 hb1 hp0 hp1
  obtain ⟨u0, u1⟩ := mul_bd (k := gN b p - 1) (by omega) (by omega) (show 0 ≤ p by omega) hp1
  have h1 : 0 ≤ n / 2 := by omega
  have h2 : n / 2 ≤ 256 := by omega
  generalize hm : (gN b p - 1) * p = m at *
  have HX := Lib.hid (Boxed.start w [.int .i64 b, .int .i64 p, .int .i64 n, .int .i64 j] 23)
  go_enter Tryd.func69, Tryd.ntmps69
  go_wp2_with (first
    | (go_at_call 37; refine (refwithin_any _ _ _ _).mono ?_; rintro e w' ⟨rfl, rfl⟩)
    | (go_at_call 70; refine (refgroups_any b p n j _ hb0 hb1 hp0 hp1).mono ?_; rintro e w1 ⟨rfl, hb1⟩
       have HY : Hid (Boxed w w1 [.int .i64 b, .int .i64 p, .int .i64 n, .int .i64 j]) := Lib.hid (by refine Boxed.go ?_ hb1; repeat (first | exact HY.out | exact HX.out | exact HY.out.drewN 1 | exact HX.out.drewN 1 | apply Boxed.alloc))
       obtain ⟨c0, c1, c2, c3⟩ := HY.out.four
       clear hb1))
  go_ret
  exact ⟨rfl, Boxed.below (by repeat (first | exact HY.out | exact HX.out | apply Boxed.alloc))⟩
set_option maxHeartbeats 400000 in
theorem refCheck_fg (hb : inB 128 4096 b = true) (hp : inB 32 2016 p = true) (hn : inB 8 512 n = true) (he : (n % 2 != 0) = false) (hj : inB 96 512 j = true) (hc : p ≤ b) (h : gN b p ≤ 14) (hf : p < 5 + j + n / 2) :
    Calls Tryd.prog 69 #[.agg #[.int .i64 b, .int .i64 p, .int .i64 n, .int .i64 j]] w fun e w' => e = .returned (.int .i64 22) ∧ Below w.heap.size w w' := by
  obtain ⟨hb0, hb1⟩ := inB_true.1 hb
  obtain ⟨hp0, hp1⟩ := inB_true.1 hp
  obtain ⟨hn0, hn1⟩ := inB_true.1 hn
  obtain ⟨hj0, hj1⟩ := inB_true.1 hj
  obtain ⟨g0, g1⟩ := gN_bd hb0 hb1 hp0 hp1
  obtain ⟨u0, u1⟩ := mul_bd (k := gN b p - 1) (by omega) (by omega) (show 0 ≤ p by omega) hp1
  have h1 : 0 ≤ n / 2 := by omega
  have h2 : n / 2 ≤ 256 := by omega
  generalize hm : (gN b p - 1) * p = m at *
  have HX := Lib.hid (Boxed.start w [.int .i64 b, .int .i64 p, .int .i64 n, .int .i64 j] 23)
  go_enter Tryd.func69, Tryd.ntmps69
  go_wp2_with (first
    | (go_at_call 37; refine (refwithin_any _ _ _ _).mono ?_; rintro e w' ⟨rfl, rfl⟩)
    | (go_at_call 70; refine (refgroups_any b p n j _ hb0 hb1 hp0 hp1).mono ?_; rintro e w1 ⟨rfl, hb1⟩
       have HY : Hid (Boxed w w1 [.int .i64 b, .int .i64 p, .int .i64 n, .int .i64 j]) := Lib.hid (by refine Boxed.go ?_ hb1; repeat (first | exact HY.out | exact HX.out | exact HY.out.drewN 1 | exact HX.out.drewN 1 | apply Boxed.alloc))
       obtain ⟨c0, c1, c2, c3⟩ := HY.out.four
       clear hb1))
  go_ret
  exact ⟨rfl, Boxed.below (by repeat (first | exact HY.out | exact HX.out | apply Boxed.alloc))⟩
set_option maxHeartbeats 400000 in
theorem refCheck_lg (hb : inB 128 4096 b = true) (hp : inB 32 2016 p = true) (hn : inB 8 512 n = true) (he : (n % 2 != 0) = false) (hj : inB 96 512 j = true) (hc : p ≤ b) (h : gN b p ≤ 14) (hf : 5 + j + n / 2 ≤ p) (hl : b - (gN b p - 1) * p < 3 + n / 2) :
    Calls Tryd.prog 69 #[.agg #[.int .i64 b, .int .i64 p, .int .i64 n, .int .i64 j]] w fun e w' => e = .returned (.int .i64 22) ∧ Below w.heap.size w w' := by
  obtain ⟨hb0, hb1⟩ := inB_true.1 hb
  obtain ⟨hp0, hp1⟩ := inB_true.1 hp
  obtain ⟨hn0, hn1⟩ := inB_true.1 hn
  obtain ⟨hj0, hj1⟩ := inB_true.1 hj
  obtain ⟨g0, g1⟩ := gN_bd hb0 hb1 hp0 hp1
  obtain ⟨u0, u1⟩ := mul_bd (k := gN b p - 1) (by omega) (by omega) (show 0 ≤ p by omega) hp1
  have h1 : 0 ≤ n / 2 := by omega
  have h2 : n / 2 ≤ 256 := by omega
  generalize hm : (gN b p - 1) * p = m at *
  have HX := Lib.hid (Boxed.start w [.int .i64 b, .int .i64 p, .int .i64 n, .int .i64 j] 23)
  go_enter Tryd.func69, Tryd.ntmps69
  go_wp2_with (first
    | (go_at_call 37; refine (refwithin_any _ _ _ _).mono ?_; rintro e w' ⟨rfl, rfl⟩)
    | (go_at_call 70; refine (refgroups_any b p n j _ hb0 hb1 hp0 hp1).mono ?_; rintro e w1 ⟨rfl, hb1⟩
       have HY : Hid (Boxed w w1 [.int .i64 b, .int .i64 p, .int .i64 n, .int .i64 j]) := Lib.hid (by refine Boxed.go ?_ hb1; repeat (first | exact HY.out | exact HX.out | exact HY.out.drewN 1 | exact HX.out.drewN 1 | apply Boxed.alloc))
       obtain ⟨c0, c1, c2, c3⟩ := HY.out.four
       clear hb1))
  go_ret
  exact ⟨rfl, Boxed.below (by repeat (first | exact HY.out | exact HX.out | apply Boxed.alloc))⟩
set_option maxHeartbeats 400000 in
theorem refCheck_kg (hb : inB 128 4096 b = true) (hp : inB 32 2016 p = true) (hn : inB 8 512 n = true) (he : (n % 2 != 0) = false) (hj : inB 96 512 j = true) (hc : p ≤ b) (h : gN b p ≤ 14) (hf : 5 + j + n / 2 ≤ p) (hl : 3 + n / 2 ≤ b - (gN b p - 1) * p) :
    Calls Tryd.prog 69 #[.agg #[.int .i64 b, .int .i64 p, .int .i64 n, .int .i64 j]] w fun e w' => e = .returned (.int .i64 0) ∧ Below w.heap.size w w' := by
  obtain ⟨hb0, hb1⟩ := inB_true.1 hb
  obtain ⟨hp0, hp1⟩ := inB_true.1 hp
  obtain ⟨hn0, hn1⟩ := inB_true.1 hn
  obtain ⟨hj0, hj1⟩ := inB_true.1 hj
  obtain ⟨g0, g1⟩ := gN_bd hb0 hb1 hp0 hp1
  obtain ⟨u0, u1⟩ := mul_bd (k := gN b p - 1) (by omega) (by omega) (show 0 ≤ p by omega) hp1
  have h1 : 0 ≤ n / 2 := by omega
  have h2 : n / 2 ≤ 256 := by omega
  generalize hm : (gN b p - 1) * p = m at *
  have HX := Lib.hid (Boxed.start w [.int .i64 b, .int .i64 p, .int .i64 n, .int .i64 j] 23)
  go_enter Tryd.func69, Tryd.ntmps69
  go_wp2_with (first
    | (go_at_call 37; refine (refwithin_any _ _ _ _).mono ?_; rintro e w' ⟨rfl, rfl⟩)
    | (go_at_call 70; refine (refgroups_any b p n j _ hb0 hb1 hp0 hp1).mono ?_; rintro e w1 ⟨rfl, hb1⟩
       have HY : Hid (Boxed w w1 [.int .i64 b, .int .i64 p, .int .i64 n, .int .i64 j]) := Lib.hid (by refine Boxed.go ?_ hb1; repeat (first | exact HY.out | exact HX.out | exact HY.out.drewN 1 | exact HX.out.drewN 1 | apply Boxed.alloc))
       obtain ⟨c0, c1, c2, c3⟩ := HY.out.four
       clear hb1))
  go_ret
  exact ⟨rfl, Boxed.below (by repeat (first | exact HY.out | exact HX.out | apply Boxed.alloc))⟩
end
end Go.Proofs.YtoaallnmihhjlaaDoor.GRef
