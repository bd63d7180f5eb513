/- One contract for each face of a geometry, the program's and the document's; the document's examples. -/
import Derived.Test.YtoaallnmihhjlaaDoorGGeo2
import Derived.Test.YtoaallnmihhjlaaDoorGRef2
namespace Go.Proofs.YtoaallnmihhjlaaDoor.GFace
open Go.RowKit WMem GPlain GWithin GGeo GGeo2 GRef GRef2

section
variable (b p n j : Int) (w : World)
theorem Check_any  :
    Calls Tryd.prog 18 #[.agg #[.int .i64 b, .int .i64 p, .int .i64 n, .int .i64 j]] w fun e w' => e = .returned (.int .i64 (chk b p n j)) ∧ Below w.heap.size w w' := by
  cases h : mayB b p n j with
  | true => simp only [chk, h, if_true]; exact Check_yes b p n j w h
  | false => simp only [chk, h, Bool.false_eq_true, if_false]; exact Check_no b p n j w h
theorem Span_any (k : Int) :
    Calls Tryd.prog 19 #[.agg #[.int .i64 b, .int .i64 p, .int .i64 n, .int .i64 j], .int .i64 k] w fun e w' => e = .returned (.tuple #[.int .i64 (sp0 b p n j k), .int .i64 (sp1 b p n j k), .int .i64 (er b p n j k)]) ∧ Below w.heap.size w w' := by
  cases h : hasB b p n j k with
  | true => simp only [sp0, sp1, er, h, if_true]; exact Span_yes b p n j w k h
  | false => simp only [sp0, sp1, er, h, Bool.false_eq_true, if_false]; exact Span_no b p n j w k h
theorem Place_any (k : Int) :
    Calls Tryd.prog 20 #[.agg #[.int .i64 b, .int .i64 p, .int .i64 n, .int .i64 j], .int .i64 k] w fun e w' => e = .returned (.tuple #[.int .i64 (pl0 b p n j k), .int .i64 (pl1 b p n j k), .int .i64 (pl2 b p n j k), .int .i64 (pl3 b p n j k), .int .i64 (er b p n j k)]) ∧ Below w.heap.size w w' := by
  cases h : hasB b p n j k with
  | true => simp only [pl0, pl1, pl2, pl3, er, h, if_true]; exact Place_yes b p n j w k h
  | false => simp only [pl0, pl1, pl2, pl3, er, h, Bool.false_eq_true, if_false]; exact Place_no b p n j w k h
theorem InodeAt_any (i : Int) :
    Calls Tryd.prog 21 #[.agg #[.int .i64 b, .int .i64 p, .int .i64 n, .int .i64 j], .int .i64 i] w fun e w' => e = .returned (.tuple #[.int .i64 (in0 b p n j i), .int .i64 (in1 b p n j i), .int .i64 (ie b p n j i)]) ∧ Below w.heap.size w w' := by
  cases h : inoB b p n j i with
  | true => simp only [in0, in1, ie, h, if_true]; exact InodeAt_yes b p n j w i h
  | false => simp only [in0, in1, ie, h, Bool.false_eq_true, if_false]; exact InodeAt_no b p n j w i h
theorem refCheck_any  :
    Calls Tryd.prog 69 #[.agg #[.int .i64 b, .int .i64 p, .int .i64 n, .int .i64 j]] w fun e w' => e = .returned (.int .i64 (chk b p n j)) ∧ Below w.heap.size w w' := by
  cases h : mayB b p n j with
  | true => simp only [chk, h, if_true]; exact refCheck_yes b p n j w h
  | false => simp only [chk, h, Bool.false_eq_true, if_false]; exact refCheck_no b p n j w h
end
theorem aw_span (w : World) : Calls Tryd.prog 19 #[.agg #[.int .i64 300, .int .i64 200, .int .i64 16, .int .i64 96], .int .i64 1] w fun e w' => e = .returned (.tuple #[.int .i64 200, .int .i64 300, .int .i64 0]) ∧ Below w.heap.size w w' := by
  have h := Span_any 300 200 16 96 w 1
  rw [show sp0 300 200 16 96 1 = 200 by decide] at h
  rw [show sp1 300 200 16 96 1 = 300 by decide] at h
  rw [show er 300 200 16 96 1 = 0 by decide] at h
  exact h
theorem aw_place (w : World) : Calls Tryd.prog 20 #[.agg #[.int .i64 300, .int .i64 200, .int .i64 16, .int .i64 96], .int .i64 0] w fun e w' => e = .returned (.tuple #[.int .i64 98, .int .i64 99, .int .i64 100, .int .i64 108, .int .i64 0]) ∧ Below w.heap.size w w' := by
  have h := Place_any 300 200 16 96 w 0
  rw [show pl0 300 200 16 96 0 = 98 by decide] at h
  rw [show pl1 300 200 16 96 0 = 99 by decide] at h
  rw [show pl2 300 200 16 96 0 = 100 by decide] at h
  rw [show pl3 300 200 16 96 0 = 108 by decide] at h
  rw [show er 300 200 16 96 0 = 0 by decide] at h
  exact h
theorem aw_ino (w : World) : Calls Tryd.prog 21 #[.agg #[.int .i64 300, .int .i64 200, .int .i64 16, .int .i64 96], .int .i64 18] w fun e w' => e = .returned (.tuple #[.int .i64 202, .int .i64 128, .int .i64 0]) ∧ Below w.heap.size w w' := by
  have h := InodeAt_any 300 200 16 96 w 18
  rw [show in0 300 200 16 96 18 = 202 by decide] at h
  rw [show in1 300 200 16 96 18 = 128 by decide] at h
  rw [show ie 300 200 16 96 18 = 0 by decide] at h
  exact h
theorem aw_ino2 (w : World) : Calls Tryd.prog 21 #[.agg #[.int .i64 300, .int .i64 200, .int .i64 16, .int .i64 96], .int .i64 33] w fun e w' => e = .returned (.tuple #[.int .i64 0, .int .i64 0, .int .i64 22]) ∧ Below w.heap.size w w' := by
  have h := InodeAt_any 300 200 16 96 w 33
  rw [show in0 300 200 16 96 33 = 0 by decide] at h
  rw [show in1 300 200 16 96 33 = 0 by decide] at h
  rw [show ie 300 200 16 96 33 = 22 by decide] at h
  exact h
theorem aw_check (w : World) : Calls Tryd.prog 18 #[.agg #[.int .i64 300, .int .i64 200, .int .i64 16, .int .i64 96]] w fun e w' => e = .returned (.int .i64 0) ∧ Below w.heap.size w w' := by
  have h := Check_any 300 200 16 96 w
  rw [show chk 300 200 16 96 = 0 by decide] at h
  exact h
theorem aw_small (w : World) : Calls Tryd.prog 18 #[.agg #[.int .i64 300, .int .i64 108, .int .i64 16, .int .i64 96]] w fun e w' => e = .returned (.int .i64 22) ∧ Below w.heap.size w w' := by
  have h := Check_any 300 108 16 96 w
  rw [show chk 300 108 16 96 = 22 by decide] at h
  exact h
theorem aw_groups (w : World) : Calls Tryd.prog 22 #[.agg #[.int .i64 300, .int .i64 200, .int .i64 16, .int .i64 96]] w fun e w' => e = .returned (.int .i64 2) ∧ Below w.heap.size w w' := by
  have h := Groups_any 300 200 16 96 w
  rw [show groupsI 300 200 16 96 = 2 by decide] at h
  exact h
theorem aw_fixed (w : World) : Calls Tryd.prog 23 #[.agg #[.int .i64 300, .int .i64 200, .int .i64 16, .int .i64 96]] w fun e w' => e = .returned (.int .i64 118) ∧ Below w.heap.size w w' := by
  have h := Fixed_any 300 200 16 96 w
  rw [show fixedI 300 200 16 96 = 118 by decide] at h
  exact h
set_option maxHeartbeats 1000000 in
theorem awake_any (w : World) : Calls Tryd.prog 7 #[] w fun e w' => e = .returned (.bool true) ∧ Below w.heap.size w w' := by
  have hsz : (w.alloc (.cells #[.int .i64 300, .int .i64 200, .int .i64 16, .int .i64 96] 23)).heap.size = w.heap.size + 1 := by simp
  have HX := Lib.hid (And.intro ((Boxed.start w [.int .i64 300, .int .i64 200, .int .i64 16, .int .i64 96] 23).alloc (.cells #[.int .i64 300, .int .i64 108, .int .i64 16, .int .i64 96] 23)) (Boxed.start (w.alloc (.cells #[.int .i64 300, .int .i64 200, .int .i64 16, .int .i64 96] 23)) [.int .i64 300, .int .i64 108, .int .i64 16, .int .i64 96] 23))
  go_enter Tryd.func7, Tryd.ntmps7
  go_wp2_with (first
    | (go_at_call 19; (with_reducible refine (aw_span _).mono ?_); rintro e w1 ⟨rfl, hb1⟩
       have HY : Hid (Boxed w w1 [.int .i64 300, .int .i64 200, .int .i64 16, .int .i64 96] ∧ Boxed (w.alloc (.cells #[.int .i64 300, .int .i64 200, .int .i64 16, .int .i64 96] 23)) w1 [.int .i64 300, .int .i64 108, .int .i64 16, .int .i64 96]) := Lib.hid (by first | exact ⟨HY.out.1.go hb1, HY.out.2.go hb1⟩ | exact ⟨HX.out.1.go hb1, HX.out.2.go hb1⟩)
       obtain ⟨c0, c1, c2, c3⟩ := HY.out.1.four
       obtain ⟨d0, d1, d2, d3⟩ := HY.out.2.four
       rw [hsz] at d0 d1 d2 d3
       clear hb1)
    | (go_at_call 20; (with_reducible refine (aw_place _).mono ?_); rintro e w1 ⟨rfl, hb1⟩
       have HY : Hid (Boxed w w1 [.int .i64 300, .int .i64 200, .int .i64 16, .int .i64 96] ∧ Boxed (w.alloc (.cells #[.int .i64 300, .int .i64 200, .int .i64 16, .int .i64 96] 23)) w1 [.int .i64 300, .int .i64 108, .int .i64 16, .int .i64 96]) := Lib.hid (by first | exact ⟨HY.out.1.go hb1, HY.out.2.go hb1⟩ | exact ⟨HX.out.1.go hb1, HX.out.2.go hb1⟩)
       obtain ⟨c0, c1, c2, c3⟩ := HY.out.1.four
       obtain ⟨d0, d1, d2, d3⟩ := HY.out.2.four
       rw [hsz] at d0 d1 d2 d3
       clear hb1)
    | (go_at_call 21; (with_reducible refine (aw_ino _).mono ?_); rintro e w1 ⟨rfl, hb1⟩
       have HY : Hid (Boxed w w1 [.int .i64 300, .int .i64 200, .int .i64 16, .int .i64 96] ∧ Boxed (w.alloc (.cells #[.int .i64 300, .int .i64 200, .int .i64 16, .int .i64 96] 23)) w1 [.int .i64 300, .int .i64 108, .int .i64 16, .int .i64 96]) := Lib.hid (by first | exact ⟨HY.out.1.go hb1, HY.out.2.go hb1⟩ | exact ⟨HX.out.1.go hb1, HX.out.2.go hb1⟩)
       obtain ⟨c0, c1, c2, c3⟩ := HY.out.1.four
       obtain ⟨d0, d1, d2, d3⟩ := HY.out.2.four
       rw [hsz] at d0 d1 d2 d3
       clear hb1)
    | (go_at_call 21; (with_reducible refine (aw_ino2 _).mono ?_); rintro e w1 ⟨rfl, hb1⟩
       have HY : Hid (Boxed w w1 [.int .i64 300, .int .i64 200, .int .i64 16, .int .i64 96] ∧ Boxed (w.alloc (.cells #[.int .i64 300, .int .i64 200, .int .i64 16, .int .i64 96] 23)) w1 [.int .i64 300, .int .i64 108, .int .i64 16, .int .i64 96]) := Lib.hid (by first | exact ⟨HY.out.1.go hb1, HY.out.2.go hb1⟩ | exact ⟨HX.out.1.go hb1, HX.out.2.go hb1⟩)
       obtain ⟨c0, c1, c2, c3⟩ := HY.out.1.four
       obtain ⟨d0, d1, d2, d3⟩ := HY.out.2.four
       rw [hsz] at d0 d1 d2 d3
       clear hb1)
    | (go_at_call 18; (with_reducible refine (aw_check _).mono ?_); rintro e w1 ⟨rfl, hb1⟩
       have HY : Hid (Boxed w w1 [.int .i64 300, .int .i64 200, .int .i64 16, .int .i64 96] ∧ Boxed (w.alloc (.cells #[.int .i64 300, .int .i64 200, .int .i64 16, .int .i64 96] 23)) w1 [.int .i64 300, .int .i64 108, .int .i64 16, .int .i64 96]) := Lib.hid (by first | exact ⟨HY.out.1.go hb1, HY.out.2.go hb1⟩ | exact ⟨HX.out.1.go hb1, HX.out.2.go hb1⟩)
       obtain ⟨c0, c1, c2, c3⟩ := HY.out.1.four
       obtain ⟨d0, d1, d2, d3⟩ := HY.out.2.four
       rw [hsz] at d0 d1 d2 d3
       clear hb1)
    | (go_at_call 18; (with_reducible refine (aw_small _).mono ?_); rintro e w1 ⟨rfl, hb1⟩
       have HY : Hid (Boxed w w1 [.int .i64 300, .int .i64 200, .int .i64 16, .int .i64 96] ∧ Boxed (w.alloc (.cells #[.int .i64 300, .int .i64 200, .int .i64 16, .int .i64 96] 23)) w1 [.int .i64 300, .int .i64 108, .int .i64 16, .int .i64 96]) := Lib.hid (by first | exact ⟨HY.out.1.go hb1, HY.out.2.go hb1⟩ | exact ⟨HX.out.1.go hb1, HX.out.2.go hb1⟩)
       obtain ⟨c0, c1, c2, c3⟩ := HY.out.1.four
       obtain ⟨d0, d1, d2, d3⟩ := HY.out.2.four
       rw [hsz] at d0 d1 d2 d3
       clear hb1)
    | (go_at_call 22; (with_reducible refine (aw_groups _).mono ?_); rintro e w1 ⟨rfl, hb1⟩
       have HY : Hid (Boxed w w1 [.int .i64 300, .int .i64 200, .int .i64 16, .int .i64 96] ∧ Boxed (w.alloc (.cells #[.int .i64 300, .int .i64 200, .int .i64 16, .int .i64 96] 23)) w1 [.int .i64 300, .int .i64 108, .int .i64 16, .int .i64 96]) := Lib.hid (by first | exact ⟨HY.out.1.go hb1, HY.out.2.go hb1⟩ | exact ⟨HX.out.1.go hb1, HX.out.2.go hb1⟩)
       obtain ⟨c0, c1, c2, c3⟩ := HY.out.1.four
       obtain ⟨d0, d1, d2, d3⟩ := HY.out.2.four
       rw [hsz] at d0 d1 d2 d3
       clear hb1)
    | (go_at_call 23; (with_reducible refine (aw_fixed _).mono ?_); rintro e w1 ⟨rfl, hb1⟩
       have HY : Hid (Boxed w w1 [.int .i64 300, .int .i64 200, .int .i64 16, .int .i64 96] ∧ Boxed (w.alloc (.cells #[.int .i64 300, .int .i64 200, .int .i64 16, .int .i64 96] 23)) w1 [.int .i64 300, .int .i64 108, .int .i64 16, .int .i64 96]) := Lib.hid (by first | exact ⟨HY.out.1.go hb1, HY.out.2.go hb1⟩ | exact ⟨HX.out.1.go hb1, HX.out.2.go hb1⟩)
       obtain ⟨c0, c1, c2, c3⟩ := HY.out.1.four
       obtain ⟨d0, d1, d2, d3⟩ := HY.out.2.four
       rw [hsz] at d0 d1 d2 d3
       clear hb1))
  go_ret
  exact ⟨rfl, HY.out.1.below⟩
end Go.Proofs.YtoaallnmihhjlaaDoor.GFace
