/- The law LayoutMore. -/
import Derived.Test.YtoaallnmihhjlaaGFace
import Derived.Test.YtoaallnmihhjlaaGPlain2
namespace Go.Proofs.Ytoaallnmihhjlaa.GLMore
open Go.RowKit WMem GPlain GPlain2 GWithin GGeo GGeo2 GRef GRef2 GFace

theorem eight {a a' w : World} {v0 v1 v2 v3 u0 u1 u2 u3 : Value} (h : Boxed a w [v0, v1, v2, v3]) (h' : Boxed a' w [u0, u1, u2, u3]) :
    w.cell? ⟨a.heap.size, 0, none⟩ = some v0 ∧ w.cell? ⟨a.heap.size, 1, none⟩ = some v1 ∧ w.cell? ⟨a.heap.size, 2, none⟩ = some v2 ∧ w.cell? ⟨a.heap.size, 3, none⟩ = some v3 ∧
      w.cell? ⟨a'.heap.size, 0, none⟩ = some u0 ∧ w.cell? ⟨a'.heap.size, 1, none⟩ = some u1 ∧ w.cell? ⟨a'.heap.size, 2, none⟩ = some u2 ∧ w.cell? ⟨a'.heap.size, 3, none⟩ = some u3 :=
  ⟨h.four.1, h.four.2.1, h.four.2.2.1, h.four.2.2.2, h'.four⟩
section
variable (b p n j m k : Int) (w : World)
set_option maxHeartbeats 1000000 in
set_option maxRecDepth 100000 in
theorem more_a (b' : Int) (hb' : wrap64 (b + (low1023 m : Int)) = b') (h : (chk b p n j != 0) = true) :
    Calls Try.prog 5 #[.agg #[.int .i64 b, .int .i64 p, .int .i64 n, .int .i64 j], .int .i64 m, .int .i64 k] w fun e w' => e = .returned (.bool true) ∧ Below w.heap.size w w' := by
  have hand := and1023 m
  have HX := Lib.hid (Boxed.start w [.int .i64 b, .int .i64 p, .int .i64 n, .int .i64 j] 23)
  go_enter Try.func5, Try.ntmps5
  go_wp2_with fail
  refine (awake_any _).mono ?_
  rintro e w1 ⟨rfl, hb1⟩
  have HY0 : Hid (Boxed w w1 [.int .i64 b, .int .i64 p, .int .i64 n, .int .i64 j]) := Lib.hid (HX.out.go hb1)
  obtain ⟨c0, c1, c2, c3⟩ := HY0.out.four
  have hlt := HY0.out.lt
  clear hb1 HX
  have HY := Lib.hid (HY0.out.alloc (.cells #[.int .i64 b', .int .i64 p, .int .i64 n, .int .i64 j] 23))
  have HZ := Lib.hid (Boxed.start w1 [.int .i64 b', .int .i64 p, .int .i64 n, .int .i64 j] 23)
  go_wp2_with (first
    | (go_at_call 13; (with_reducible refine (Check_any b p n j _).mono ?_); rintro e w2 ⟨rfl, hb2⟩
       have HY : Hid (Boxed w w2 [.int .i64 b, .int .i64 p, .int .i64 n, .int .i64 j]) := Lib.hid (by first | exact HY.out.go hb2 | exact (HY.out.drewN 1).go hb2)
       have HZ : Hid (Boxed w1 w2 [.int .i64 b', .int .i64 p, .int .i64 n, .int .i64 j]) := Lib.hid (by first | exact HZ.out.go hb2 | exact (HZ.out.drewN 1).go hb2)
       obtain ⟨c0, c1, c2, c3⟩ := HY.out.four
       obtain ⟨d0, d1, d2, d3⟩ := HZ.out.four
       clear hb2)
    | (go_at_call 13; (with_reducible refine (Check_any b' p n j _).mono ?_); rintro e w2 ⟨rfl, hb2⟩
       have HY : Hid (Boxed w w2 [.int .i64 b, .int .i64 p, .int .i64 n, .int .i64 j]) := Lib.hid (by first | exact HY.out.go hb2 | exact (HY.out.drewN 1).go hb2)
       have HZ : Hid (Boxed w1 w2 [.int .i64 b', .int .i64 p, .int .i64 n, .int .i64 j]) := Lib.hid (by first | exact HZ.out.go hb2 | exact (HZ.out.drewN 1).go hb2)
       obtain ⟨c0, c1, c2, c3⟩ := HY.out.four
       obtain ⟨d0, d1, d2, d3⟩ := HZ.out.four
       clear hb2)
    | (go_at_call 9; (with_reducible refine (Place_any b p n j _ k).mono ?_); rintro e w2 ⟨rfl, hb2⟩
       have HY : Hid (Boxed w w2 [.int .i64 b, .int .i64 p, .int .i64 n, .int .i64 j]) := Lib.hid (by first | exact HY.out.go hb2 | exact (HY.out.drewN 1).go hb2)
       have HZ : Hid (Boxed w1 w2 [.int .i64 b', .int .i64 p, .int .i64 n, .int .i64 j]) := Lib.hid (by first | exact HZ.out.go hb2 | exact (HZ.out.drewN 1).go hb2)
       obtain ⟨c0, c1, c2, c3⟩ := HY.out.four
       obtain ⟨d0, d1, d2, d3⟩ := HZ.out.four
       clear hb2)
    | (go_at_call 9; (with_reducible refine (Place_any b' p n j _ k).mono ?_); rintro e w2 ⟨rfl, hb2⟩
       have HY : Hid (Boxed w w2 [.int .i64 b, .int .i64 p, .int .i64 n, .int .i64 j]) := Lib.hid (by first | exact HY.out.go hb2 | exact (HY.out.drewN 1).go hb2)
       have HZ : Hid (Boxed w1 w2 [.int .i64 b', .int .i64 p, .int .i64 n, .int .i64 j]) := Lib.hid (by first | exact HZ.out.go hb2 | exact (HZ.out.drewN 1).go hb2)
       obtain ⟨c0, c1, c2, c3⟩ := HY.out.four
       obtain ⟨d0, d1, d2, d3⟩ := HZ.out.four
       clear hb2))
  go_ret
  exact ⟨rfl, HY.out.below⟩
set_option maxHeartbeats 1000000 in
set_option maxRecDepth 100000 in
theorem more_b (b' : Int) (hb' : wrap64 (b + (low1023 m : Int)) = b') (h : (chk b p n j != 0) = false) (h' : (chk b' p n j != 0) = true) :
    Calls Try.prog 5 #[.agg #[.int .i64 b, .int .i64 p, .int .i64 n, .int .i64 j], .int .i64 m, .int .i64 k] w fun e w' => e = .returned (.bool true) ∧ Below w.heap.size w w' := by
  have hand := and1023 m
  have HX := Lib.hid (Boxed.start w [.int .i64 b, .int .i64 p, .int .i64 n, .int .i64 j] 23)
  go_enter Try.func5, Try.ntmps5
  go_wp2_with fail
  refine (awake_any _).mono ?_
  rintro e w1 ⟨rfl, hb1⟩
  have HY0 : Hid (Boxed w w1 [.int .i64 b, .int .i64 p, .int .i64 n, .int .i64 j]) := Lib.hid (HX.out.go hb1)
  obtain ⟨c0, c1, c2, c3⟩ := HY0.out.four
  have hlt := HY0.out.lt
  clear hb1 HX
  have HY := Lib.hid (HY0.out.alloc (.cells #[.int .i64 b', .int .i64 p, .int .i64 n, .int .i64 j] 23))
  have HZ := Lib.hid (Boxed.start w1 [.int .i64 b', .int .i64 p, .int .i64 n, .int .i64 j] 23)
  go_wp2_with (first
    | (go_at_call 13; (with_reducible refine (Check_any b p n j _).mono ?_); rintro e w2 ⟨rfl, hb2⟩
       have HY : Hid (Boxed w w2 [.int .i64 b, .int .i64 p, .int .i64 n, .int .i64 j]) := Lib.hid (by first | exact HY.out.go hb2 | exact (HY.out.drewN 1).go hb2)
       have HZ : Hid (Boxed w1 w2 [.int .i64 b', .int .i64 p, .int .i64 n, .int .i64 j]) := Lib.hid (by first | exact HZ.out.go hb2 | exact (HZ.out.drewN 1).go hb2)
       obtain ⟨c0, c1, c2, c3⟩ := HY.out.four
       obtain ⟨d0, d1, d2, d3⟩ := HZ.out.four
       clear hb2)
    | (go_at_call 13; (with_reducible refine (Check_any b' p n j _).mono ?_); rintro e w2 ⟨rfl, hb2⟩
       have HY : Hid (Boxed w w2 [.int .i64 b, .int .i64 p, .int .i64 n, .int .i64 j]) := Lib.hid (by first | exact HY.out.go hb2 | exact (HY.out.drewN 1).go hb2)
       have HZ : Hid (Boxed w1 w2 [.int .i64 b', .int .i64 p, .int .i64 n, .int .i64 j]) := Lib.hid (by first | exact HZ.out.go hb2 | exact (HZ.out.drewN 1).go hb2)
       obtain ⟨c0, c1, c2, c3⟩ := HY.out.four
       obtain ⟨d0, d1, d2, d3⟩ := HZ.out.four
       clear hb2)
    | (go_at_call 9; (with_reducible refine (Place_any b p n j _ k).mono ?_); rintro e w2 ⟨rfl, hb2⟩
       have HY : Hid (Boxed w w2 [.int .i64 b, .int .i64 p, .int .i64 n, .int .i64 j]) := Lib.hid (by first | exact HY.out.go hb2 | exact (HY.out.drewN 1).go hb2)
       have HZ : Hid (Boxed w1 w2 [.int .i64 b', .int .i64 p, .int .i64 n, .int .i64 j]) := Lib.hid (by first | exact HZ.out.go hb2 | exact (HZ.out.drewN 1).go hb2)
       obtain ⟨c0, c1, c2, c3⟩ := HY.out.four
       obtain ⟨d0, d1, d2, d3⟩ := HZ.out.four
       clear hb2)
    | (go_at_call 9; (with_reducible refine (Place_any b' p n j _ k).mono ?_); rintro e w2 ⟨rfl, hb2⟩
       have HY : Hid (Boxed w w2 [.int .i64 b, .int .i64 p, .int .i64 n, .int .i64 j]) := Lib.hid (by first | exact HY.out.go hb2 | exact (HY.out.drewN 1).go hb2)
       have HZ : Hid (Boxed w1 w2 [.int .i64 b', .int .i64 p, .int .i64 n, .int .i64 j]) := Lib.hid (by first | exact HZ.out.go hb2 | exact (HZ.out.drewN 1).go hb2)
       obtain ⟨c0, c1, c2, c3⟩ := HY.out.four
       obtain ⟨d0, d1, d2, d3⟩ := HZ.out.four
       clear hb2))
  go_ret
  exact ⟨rfl, HY.out.below⟩
set_option maxHeartbeats 1000000 in
set_option maxRecDepth 100000 in
theorem more_c (b' : Int) (hb' : wrap64 (b + (low1023 m : Int)) = b') (h : (chk b p n j != 0) = false) (h' : (chk b' p n j != 0) = false) (hk : (er b p n j k != 0) = true) :
    Calls Try.prog 5 #[.agg #[.int .i64 b, .int .i64 p, .int .i64 n, .int .i64 j], .int .i64 m, .int .i64 k] w fun e w' => e = .returned (.bool true) ∧ Below w.heap.size w w' := by
  have hand := and1023 m
  have HX := Lib.hid (Boxed.start w [.int .i64 b, .int .i64 p, .int .i64 n, .int .i64 j] 23)
  go_enter Try.func5, Try.ntmps5
  go_wp2_with fail
  refine (awake_any _).mono ?_
  rintro e w1 ⟨rfl, hb1⟩
  have HY0 : Hid (Boxed w w1 [.int .i64 b, .int .i64 p, .int .i64 n, .int .i64 j]) := Lib.hid (HX.out.go hb1)
  obtain ⟨c0, c1, c2, c3⟩ := HY0.out.four
  have hlt := HY0.out.lt
  clear hb1 HX
  have HY := Lib.hid (HY0.out.alloc (.cells #[.int .i64 b', .int .i64 p, .int .i64 n, .int .i64 j] 23))
  have HZ := Lib.hid (Boxed.start w1 [.int .i64 b', .int .i64 p, .int .i64 n, .int .i64 j] 23)
  go_wp2_with (first
    | (go_at_call 13; (with_reducible refine (Check_any b p n j _).mono ?_); rintro e w2 ⟨rfl, hb2⟩
       have HY : Hid (Boxed w w2 [.int .i64 b, .int .i64 p, .int .i64 n, .int .i64 j]) := Lib.hid (by first | exact HY.out.go hb2 | exact (HY.out.drewN 1).go hb2)
       have HZ : Hid (Boxed w1 w2 [.int .i64 b', .int .i64 p, .int .i64 n, .int .i64 j]) := Lib.hid (by first | exact HZ.out.go hb2 | exact (HZ.out.drewN 1).go hb2)
       obtain ⟨c0, c1, c2, c3⟩ := HY.out.four
       obtain ⟨d0, d1, d2, d3⟩ := HZ.out.four
       clear hb2)
    | (go_at_call 13; (with_reducible refine (Check_any b' p n j _).mono ?_); rintro e w2 ⟨rfl, hb2⟩
       have HY : Hid (Boxed w w2 [.int .i64 b, .int .i64 p, .int .i64 n, .int .i64 j]) := Lib.hid (by first | exact HY.out.go hb2 | exact (HY.out.drewN 1).go hb2)
       have HZ : Hid (Boxed w1 w2 [.int .i64 b', .int .i64 p, .int .i64 n, .int .i64 j]) := Lib.hid (by first | exact HZ.out.go hb2 | exact (HZ.out.drewN 1).go hb2)
       obtain ⟨c0, c1, c2, c3⟩ := HY.out.four
       obtain ⟨d0, d1, d2, d3⟩ := HZ.out.four
       clear hb2)
    | (go_at_call 9; (with_reducible refine (Place_any b p n j _ k).mono ?_); rintro e w2 ⟨rfl, hb2⟩
       have HY : Hid (Boxed w w2 [.int .i64 b, .int .i64 p, .int .i64 n, .int .i64 j]) := Lib.hid (by first | exact HY.out.go hb2 | exact (HY.out.drewN 1).go hb2)
       have HZ : Hid (Boxed w1 w2 [.int .i64 b', .int .i64 p, .int .i64 n, .int .i64 j]) := Lib.hid (by first | exact HZ.out.go hb2 | exact (HZ.out.drewN 1).go hb2)
       obtain ⟨c0, c1, c2, c3⟩ := HY.out.four
       obtain ⟨d0, d1, d2, d3⟩ := HZ.out.four
       clear hb2)
    | (go_at_call 9; (with_reducible refine (Place_any b' p n j _ k).mono ?_); rintro e w2 ⟨rfl, hb2⟩
       have HY : Hid (Boxed w w2 [.int .i64 b, .int .i64 p, .int .i64 n, .int .i64 j]) := Lib.hid (by first | exact HY.out.go hb2 | exact (HY.out.drewN 1).go hb2)
       have HZ : Hid (Boxed w1 w2 [.int .i64 b', .int .i64 p, .int .i64 n, .int .i64 j]) := Lib.hid (by first | exact HZ.out.go hb2 | exact (HZ.out.drewN 1).go hb2)
       obtain ⟨c0, c1, c2, c3⟩ := HY.out.four
       obtain ⟨d0, d1, d2, d3⟩ := HZ.out.four
       clear hb2))
  go_ret
  exact ⟨rfl, HY.out.below⟩
set_option maxHeartbeats 1000000 in
set_option maxRecDepth 100000 in
theorem more_d (b' : Int) (hb' : wrap64 (b + (low1023 m : Int)) = b') (h : (chk b p n j != 0) = false) (h' : (chk b' p n j != 0) = false) (hk : (er b p n j k != 0) = false) (e0 : (er b' p n j k == 0) = true) (e1 : (pl0 b p n j k == pl0 b' p n j k) = true) (e2 : (pl1 b p n j k == pl1 b' p n j k) = true) (e3 : (pl2 b p n j k == pl2 b' p n j k) = true) (e4 : (pl3 b p n j k == pl3 b' p n j k) = true) (e5 : decide (groupsI b p n j ≤ groupsI b' p n j) = true) :
    Calls Try.prog 5 #[.agg #[.int .i64 b, .int .i64 p, .int .i64 n, .int .i64 j], .int .i64 m, .int .i64 k] w fun e w' => e = .returned (.bool true) ∧ Below w.heap.size w w' := by
  have hand := and1023 m
  have HX := Lib.hid (Boxed.start w [.int .i64 b, .int .i64 p, .int .i64 n, .int .i64 j] 23)
  go_enter Try.func5, Try.ntmps5
  go_wp2_with fail
  refine (awake_any _).mono ?_
  rintro e w1 ⟨rfl, hb1⟩
  have HY0 : Hid (Boxed w w1 [.int .i64 b, .int .i64 p, .int .i64 n, .int .i64 j]) := Lib.hid (HX.out.go hb1)
  obtain ⟨c0, c1, c2, c3⟩ := HY0.out.four
  have hlt := HY0.out.lt
  clear hb1 HX
  have HY := Lib.hid (HY0.out.alloc (.cells #[.int .i64 b', .int .i64 p, .int .i64 n, .int .i64 j] 23))
  have HZ := Lib.hid (Boxed.start w1 [.int .i64 b', .int .i64 p, .int .i64 n, .int .i64 j] 23)
  go_wp2_with (first
    | (go_at_call 13; (with_reducible refine (Check_any b p n j _).mono ?_); rintro e w2 ⟨rfl, hb2⟩
       have HY : Hid (Boxed w w2 [.int .i64 b, .int .i64 p, .int .i64 n, .int .i64 j]) := Lib.hid (by first | exact HY.out.go hb2 | exact (HY.out.drewN 1).go hb2)
       have HZ : Hid (Boxed w1 w2 [.int .i64 b', .int .i64 p, .int .i64 n, .int .i64 j]) := Lib.hid (by first | exact HZ.out.go hb2 | exact (HZ.out.drewN 1).go hb2)
       obtain ⟨c0, c1, c2, c3⟩ := HY.out.four
       obtain ⟨d0, d1, d2, d3⟩ := HZ.out.four
       clear hb2)
    | (go_at_call 13; (with_reducible refine (Check_any b' p n j _).mono ?_); rintro e w2 ⟨rfl, hb2⟩
       have HY : Hid (Boxed w w2 [.int .i64 b, .int .i64 p, .int .i64 n, .int .i64 j]) := Lib.hid (by first | exact HY.out.go hb2 | exact (HY.out.drewN 1).go hb2)
       have HZ : Hid (Boxed w1 w2 [.int .i64 b', .int .i64 p, .int .i64 n, .int .i64 j]) := Lib.hid (by first | exact HZ.out.go hb2 | exact (HZ.out.drewN 1).go hb2)
       obtain ⟨c0, c1, c2, c3⟩ := HY.out.four
       obtain ⟨d0, d1, d2, d3⟩ := HZ.out.four
       clear hb2)
    | (go_at_call 9; (with_reducible refine (Place_any b p n j _ k).mono ?_); rintro e w2 ⟨rfl, hb2⟩
       have HY : Hid (Boxed w w2 [.int .i64 b, .int .i64 p, .int .i64 n, .int .i64 j]) := Lib.hid (by first | exact HY.out.go hb2 | exact (HY.out.drewN 1).go hb2)
       have HZ : Hid (Boxed w1 w2 [.int .i64 b', .int .i64 p, .int .i64 n, .int .i64 j]) := Lib.hid (by first | exact HZ.out.go hb2 | exact (HZ.out.drewN 1).go hb2)
       obtain ⟨c0, c1, c2, c3⟩ := HY.out.four
       obtain ⟨d0, d1, d2, d3⟩ := HZ.out.four
       clear hb2)
    | (go_at_call 9; (with_reducible refine (Place_any b' p n j _ k).mono ?_); rintro e w2 ⟨rfl, hb2⟩
       have HY : Hid (Boxed w w2 [.int .i64 b, .int .i64 p, .int .i64 n, .int .i64 j]) := Lib.hid (by first | exact HY.out.go hb2 | exact (HY.out.drewN 1).go hb2)
       have HZ : Hid (Boxed w1 w2 [.int .i64 b', .int .i64 p, .int .i64 n, .int .i64 j]) := Lib.hid (by first | exact HZ.out.go hb2 | exact (HZ.out.drewN 1).go hb2)
       obtain ⟨c0, c1, c2, c3⟩ := HY.out.four
       obtain ⟨d0, d1, d2, d3⟩ := HZ.out.four
       clear hb2))
  go_region_held3 (fun w' => w'.cell? ⟨w.heap.size, 0, none⟩ = some (.int .i64 b) ∧ w'.cell? ⟨w.heap.size, 1, none⟩ = some (.int .i64 p) ∧ w'.cell? ⟨w.heap.size, 2, none⟩ = some (.int .i64 n) ∧ w'.cell? ⟨w.heap.size, 3, none⟩ = some (.int .i64 j) ∧ w'.cell? ⟨w1.heap.size, 0, none⟩ = some (.int .i64 b') ∧ w'.cell? ⟨w1.heap.size, 1, none⟩ = some (.int .i64 p) ∧ w'.cell? ⟨w1.heap.size, 2, none⟩ = some (.int .i64 n) ∧ w'.cell? ⟨w1.heap.size, 3, none⟩ = some (.int .i64 j)) (first | exact eight HY.out HZ.out | go_keep)
    ((first
      | (go_at_call 15; (with_reducible refine (Groups_any b p n j _).mono ?_); rintro e w2 ⟨rfl, hb2⟩
         have HY : Hid (Boxed w w2 [.int .i64 b, .int .i64 p, .int .i64 n, .int .i64 j]) := Lib.hid (by first | exact HY.out.go hb2 | exact (HY.out.drewN 1).go hb2)
         have HZ : Hid (Boxed w1 w2 [.int .i64 b', .int .i64 p, .int .i64 n, .int .i64 j]) := Lib.hid (by first | exact HZ.out.go hb2 | exact (HZ.out.drewN 1).go hb2)
         clear hb2)
      | (go_at_call 15; (with_reducible refine (Groups_any b' p n j _).mono ?_); rintro e w2 ⟨rfl, hb2⟩
         have HY : Hid (Boxed w w2 [.int .i64 b, .int .i64 p, .int .i64 n, .int .i64 j]) := Lib.hid (by first | exact HY.out.go hb2 | exact (HY.out.drewN 1).go hb2)
         have HZ : Hid (Boxed w1 w2 [.int .i64 b', .int .i64 p, .int .i64 n, .int .i64 j]) := Lib.hid (by first | exact HZ.out.go hb2 | exact (HZ.out.drewN 1).go hb2)
         clear hb2)))
  go_wp2
  go_ret
  exact ⟨rfl, HY.out.below⟩
theorem more :
    Calls Try.prog 5 #[.agg #[.int .i64 b, .int .i64 p, .int .i64 n, .int .i64 j], .int .i64 m, .int .i64 k] w fun e w' => e = .returned (.bool true) ∧ Below w.heap.size w w' := by
  obtain ⟨b', hb'⟩ : ∃ x, wrap64 (b + (low1023 m : Int)) = x := ⟨_, rfl⟩
  cases h : (chk b p n j != 0) with
  | true => exact more_a b p n j m k w b' hb' h
  | false =>
    cases h' : (chk b' p n j != 0) with
    | true => exact more_b b p n j m k w b' hb' h h'
    | false =>
      cases hk : (er b p n j k != 0) with
      | true => exact more_c b p n j m k w b' hb' h h' hk
      | false =>
        have m1 := chk_0 h
        have m2 := chk_0 h'
        have m3 := er_0 hk
        have hlow := low1023_lt m
        have hbd := may_iff.1 m1
        have hle : b ≤ b' := by
          rw [← hb', IntWalk.wrap64_in _ ⟨by have := hbd.b0; omega, by have := hbd.b1; omega⟩]
          omega
        obtain ⟨k1, k2⟩ := more_keeps m1 m2 hle m3
        refine more_d b p n j m k w b' hb' h h' hk ?_ ?_ ?_ ?_ ?_ ?_
        · simp [er, k1]
        · simp [pl0, m3, k1]
        · simp [pl1, m3, k1]
        · simp [pl2, m3, k1]
        · simp [pl3, m3, k1, dataI, tableI]
        · simpa using k2
end
end Go.Proofs.Ytoaallnmihhjlaa.GLMore
