/- The law LayoutPlaces. -/
import Derived.Test.YtoaallnmihhjlaaGFace
namespace Go.Proofs.Ytoaallnmihhjlaa.GLPlaces
open Go.RowKit WMem GPlain GWithin GGeo GGeo2 GRef GRef2 GFace

set_option maxHeartbeats 8000000 in
set_option maxRecDepth 100000 in
theorem places (b p n j k i : Int) (w : World) : Calls Try.prog 3 #[.agg #[.int .i64 b, .int .i64 p, .int .i64 n, .int .i64 j], .int .i64 k, .int .i64 i] w fun e w' => e = .returned (.bool true) ∧ Below w.heap.size w w' := by
  have HX := Lib.hid (Boxed.start w [.int .i64 b, .int .i64 p, .int .i64 n, .int .i64 j] 23)
  go_enter Try.func3, Try.ntmps3
  go_wp2_with (first
    | (go_at_call 6; (with_reducible refine (awake_any _).mono ?_); rintro e w1 ⟨rfl, hb1⟩
       have HY : Hid (Boxed w w1 [.int .i64 b, .int .i64 p, .int .i64 n, .int .i64 j]) := Lib.hid (by refine Boxed.go ?_ hb1; repeat (first | exact HY.out | exact HX.out | exact HY.out.drewN 1 | exact HX.out.drewN 1 | apply Boxed.alloc))
       obtain ⟨c0, c1, c2, c3⟩ := HY.out.four
       clear hb1)
    | (go_at_call 7; (with_reducible refine (Span_any b p n j _ k).mono ?_); rintro e w1 ⟨rfl, hb1⟩
       have HY : Hid (Boxed w w1 [.int .i64 b, .int .i64 p, .int .i64 n, .int .i64 j]) := Lib.hid (by refine Boxed.go ?_ hb1; repeat (first | exact HY.out | exact HX.out | exact HY.out.drewN 1 | exact HX.out.drewN 1 | apply Boxed.alloc))
       obtain ⟨c0, c1, c2, c3⟩ := HY.out.four
       clear hb1)
    | (go_at_call 9; (with_reducible refine (Place_any b p n j _ k).mono ?_); rintro e w1 ⟨rfl, hb1⟩
       have HY : Hid (Boxed w w1 [.int .i64 b, .int .i64 p, .int .i64 n, .int .i64 j]) := Lib.hid (by refine Boxed.go ?_ hb1; repeat (first | exact HY.out | exact HX.out | exact HY.out.drewN 1 | exact HX.out.drewN 1 | apply Boxed.alloc))
       obtain ⟨c0, c1, c2, c3⟩ := HY.out.four
       clear hb1)
    | (go_at_call 11; (with_reducible refine (InodeAt_any b p n j _ i).mono ?_); rintro e w1 ⟨rfl, hb1⟩
       have HY : Hid (Boxed w w1 [.int .i64 b, .int .i64 p, .int .i64 n, .int .i64 j]) := Lib.hid (by refine Boxed.go ?_ hb1; repeat (first | exact HY.out | exact HX.out | exact HY.out.drewN 1 | exact HX.out.drewN 1 | apply Boxed.alloc))
       obtain ⟨c0, c1, c2, c3⟩ := HY.out.four
       clear hb1)
    | (go_at_call 13; (with_reducible refine (Check_any b p n j _).mono ?_); rintro e w1 ⟨rfl, hb1⟩
       have HY : Hid (Boxed w w1 [.int .i64 b, .int .i64 p, .int .i64 n, .int .i64 j]) := Lib.hid (by refine Boxed.go ?_ hb1; repeat (first | exact HY.out | exact HX.out | exact HY.out.drewN 1 | exact HX.out.drewN 1 | apply Boxed.alloc))
       obtain ⟨c0, c1, c2, c3⟩ := HY.out.four
       clear hb1)
    | (go_at_call 15; (with_reducible refine (Groups_any b p n j _).mono ?_); rintro e w1 ⟨rfl, hb1⟩
       have HY : Hid (Boxed w w1 [.int .i64 b, .int .i64 p, .int .i64 n, .int .i64 j]) := Lib.hid (by refine Boxed.go ?_ hb1; repeat (first | exact HY.out | exact HX.out | exact HY.out.drewN 1 | exact HX.out.drewN 1 | apply Boxed.alloc))
       obtain ⟨c0, c1, c2, c3⟩ := HY.out.four
       clear hb1)
    | (go_at_call 17; (with_reducible refine (Fixed_any b p n j _).mono ?_); rintro e w1 ⟨rfl, hb1⟩
       have HY : Hid (Boxed w w1 [.int .i64 b, .int .i64 p, .int .i64 n, .int .i64 j]) := Lib.hid (by refine Boxed.go ?_ hb1; repeat (first | exact HY.out | exact HX.out | exact HY.out.drewN 1 | exact HX.out.drewN 1 | apply Boxed.alloc))
       obtain ⟨c0, c1, c2, c3⟩ := HY.out.four
       clear hb1)
    | (go_at_call 8; (with_reducible refine (refSpan_any b p n j _ k).mono ?_); rintro e w1 ⟨rfl, hb1⟩
       have HY : Hid (Boxed w w1 [.int .i64 b, .int .i64 p, .int .i64 n, .int .i64 j]) := Lib.hid (by refine Boxed.go ?_ hb1; repeat (first | exact HY.out | exact HX.out | exact HY.out.drewN 1 | exact HX.out.drewN 1 | apply Boxed.alloc))
       obtain ⟨c0, c1, c2, c3⟩ := HY.out.four
       clear hb1)
    | (go_at_call 10; (with_reducible refine (refPlace_any b p n j _ k).mono ?_); rintro e w1 ⟨rfl, hb1⟩
       have HY : Hid (Boxed w w1 [.int .i64 b, .int .i64 p, .int .i64 n, .int .i64 j]) := Lib.hid (by refine Boxed.go ?_ hb1; repeat (first | exact HY.out | exact HX.out | exact HY.out.drewN 1 | exact HX.out.drewN 1 | apply Boxed.alloc))
       obtain ⟨c0, c1, c2, c3⟩ := HY.out.four
       clear hb1)
    | (go_at_call 12; (with_reducible refine (refInodeAt_any b p n j _ i).mono ?_); rintro e w1 ⟨rfl, hb1⟩
       have HY : Hid (Boxed w w1 [.int .i64 b, .int .i64 p, .int .i64 n, .int .i64 j]) := Lib.hid (by refine Boxed.go ?_ hb1; repeat (first | exact HY.out | exact HX.out | exact HY.out.drewN 1 | exact HX.out.drewN 1 | apply Boxed.alloc))
       obtain ⟨c0, c1, c2, c3⟩ := HY.out.four
       clear hb1)
    | (go_at_call 14; (with_reducible refine (refCheck_any b p n j _).mono ?_); rintro e w1 ⟨rfl, hb1⟩
       have HY : Hid (Boxed w w1 [.int .i64 b, .int .i64 p, .int .i64 n, .int .i64 j]) := Lib.hid (by refine Boxed.go ?_ hb1; repeat (first | exact HY.out | exact HX.out | exact HY.out.drewN 1 | exact HX.out.drewN 1 | apply Boxed.alloc))
       obtain ⟨c0, c1, c2, c3⟩ := HY.out.four
       clear hb1)
    | (go_at_call 16; (with_reducible refine (refGroups_any b p n j _).mono ?_); rintro e w1 ⟨rfl, hb1⟩
       have HY : Hid (Boxed w w1 [.int .i64 b, .int .i64 p, .int .i64 n, .int .i64 j]) := Lib.hid (by refine Boxed.go ?_ hb1; repeat (first | exact HY.out | exact HX.out | exact HY.out.drewN 1 | exact HX.out.drewN 1 | apply Boxed.alloc))
       obtain ⟨c0, c1, c2, c3⟩ := HY.out.four
       clear hb1)
    | (go_at_call 18; (with_reducible refine (refFixed_any b p n j _).mono ?_); rintro e w1 ⟨rfl, hb1⟩
       have HY : Hid (Boxed w w1 [.int .i64 b, .int .i64 p, .int .i64 n, .int .i64 j]) := Lib.hid (by refine Boxed.go ?_ hb1; repeat (first | exact HY.out | exact HX.out | exact HY.out.drewN 1 | exact HX.out.drewN 1 | apply Boxed.alloc))
       obtain ⟨c0, c1, c2, c3⟩ := HY.out.four
       clear hb1))
  simp only [List.append]
  go_region_held3 (fun w' => w'.cell? ⟨w.heap.size, 0, none⟩ = some (.int .i64 b) ∧ w'.cell? ⟨w.heap.size, 1, none⟩ = some (.int .i64 p) ∧ w'.cell? ⟨w.heap.size, 2, none⟩ = some (.int .i64 n) ∧ w'.cell? ⟨w.heap.size, 3, none⟩ = some (.int .i64 j)) (first | exact HY.out.four | exact HX.out.four | go_keep)
    ((first
    | (go_at_call 13; (with_reducible refine (Check_any b p n j _).mono ?_); rintro e w1 ⟨rfl, hb1⟩
       have HY : Hid (Boxed w w1 [.int .i64 b, .int .i64 p, .int .i64 n, .int .i64 j]) := Lib.hid (by refine Boxed.go ?_ hb1; repeat (first | exact HY.out | exact HX.out | exact HY.out.drewN 1 | exact HX.out.drewN 1 | apply Boxed.alloc))
       clear hb1)
    | (go_at_call 15; (with_reducible refine (Groups_any b p n j _).mono ?_); rintro e w1 ⟨rfl, hb1⟩
       have HY : Hid (Boxed w w1 [.int .i64 b, .int .i64 p, .int .i64 n, .int .i64 j]) := Lib.hid (by refine Boxed.go ?_ hb1; repeat (first | exact HY.out | exact HX.out | exact HY.out.drewN 1 | exact HX.out.drewN 1 | apply Boxed.alloc))
       clear hb1)
    | (go_at_call 17; (with_reducible refine (Fixed_any b p n j _).mono ?_); rintro e w1 ⟨rfl, hb1⟩
       have HY : Hid (Boxed w w1 [.int .i64 b, .int .i64 p, .int .i64 n, .int .i64 j]) := Lib.hid (by refine Boxed.go ?_ hb1; repeat (first | exact HY.out | exact HX.out | exact HY.out.drewN 1 | exact HX.out.drewN 1 | apply Boxed.alloc))
       clear hb1)
    | (go_at_call 14; (with_reducible refine (refCheck_any b p n j _).mono ?_); rintro e w1 ⟨rfl, hb1⟩
       have HY : Hid (Boxed w w1 [.int .i64 b, .int .i64 p, .int .i64 n, .int .i64 j]) := Lib.hid (by refine Boxed.go ?_ hb1; repeat (first | exact HY.out | exact HX.out | exact HY.out.drewN 1 | exact HX.out.drewN 1 | apply Boxed.alloc))
       clear hb1)
    | (go_at_call 16; (with_reducible refine (refGroups_any b p n j _).mono ?_); rintro e w1 ⟨rfl, hb1⟩
       have HY : Hid (Boxed w w1 [.int .i64 b, .int .i64 p, .int .i64 n, .int .i64 j]) := Lib.hid (by refine Boxed.go ?_ hb1; repeat (first | exact HY.out | exact HX.out | exact HY.out.drewN 1 | exact HX.out.drewN 1 | apply Boxed.alloc))
       clear hb1)
    | (go_at_call 18; (with_reducible refine (refFixed_any b p n j _).mono ?_); rintro e w1 ⟨rfl, hb1⟩
       have HY : Hid (Boxed w w1 [.int .i64 b, .int .i64 p, .int .i64 n, .int .i64 j]) := Lib.hid (by refine Boxed.go ?_ hb1; repeat (first | exact HY.out | exact HX.out | exact HY.out.drewN 1 | exact HX.out.drewN 1 | apply Boxed.alloc))
       clear hb1)))
  go_wp2
  go_ret
  exact ⟨rfl, HY.out.below⟩
end Go.Proofs.Ytoaallnmihhjlaa.GLPlaces
