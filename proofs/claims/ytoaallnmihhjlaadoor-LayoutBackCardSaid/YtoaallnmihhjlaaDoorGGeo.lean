/- layout's functions of a geometry: which group's blocks lie where. -/
import Derived.Test.YtoaallnmihhjlaaDoorGWithin
import Derived.RegionTactic
import Derived.BigRegion
import Derived.ChangeAlike
import Derived.Deep.QuietTactic
import Derived.BigQuiet
import Derived.Deep.RegionHeld3
namespace Go.Proofs.YtoaallnmihhjlaaDoor.GGeo
open Go.RowKit WMem GPlain GWithin

theorem below_box {w : World} (o : Obj) : Below w.heap.size w (w.alloc o) := (Below.refl _ _).alloc (Nat.le_refl _) _
theorem below_box_to {w w' : World} {o : Obj} (h : Below (w.alloc o).heap.size (w.alloc o) w') : Below w.heap.size w w' := (below_box o).trans (h.mono (by simp))
theorem below_next {B : Nat} {a w w' : World} (h : Below B a w) (hb : Below w.heap.size w w') (hB : B ≤ w.heap.size) : Below B a w' := h.trans (hb.mono hB)
/-- a box of the call's own, and all behind it -/
structure Boxed (a w : World) (vs : List Value) : Prop where
  below : Below a.heap.size a w
  lt : a.heap.size < w.heap.size
  cell : ∀ i v, vs[i]? = some v → w.cell? ⟨a.heap.size, i, none⟩ = some v
section
variable {a w w' : World} {vs : List Value}
theorem Boxed.start (w : World) (vs : List Value) (T : TypeId) : Boxed w (w.alloc (.cells vs.toArray T)) vs :=
  ⟨below_box _, by simp, fun i v h => by
    rw [row_cell (row_new w (.cells vs.toArray T)), List.getElem?_toArray]; exact h⟩
theorem Boxed.go (h : Boxed a w vs) (hb : Below w.heap.size w w') : Boxed a w' vs :=
  ⟨h.below.trans (hb.mono (by have := h.lt; omega)), by have := h.lt; have := hb.size; omega, fun i v hv => (hb.cell (p := ⟨a.heap.size, i, none⟩) h.lt).trans (h.cell i v hv)⟩
theorem Boxed.drewN (h : Boxed a w vs) (n : Nat) : Boxed a (w.drewN n) vs := h.go (below_drewN (Below.refl _ _) n)
theorem Boxed.alloc (h : Boxed a w vs) (o : Obj) : Boxed a (w.alloc o) vs := h.go (below_box o)
theorem Boxed.four {v0 v1 v2 v3 : Value} (h : Boxed a w [v0, v1, v2, v3]) : w.cell? ⟨a.heap.size, 0, none⟩ = some v0 ∧ w.cell? ⟨a.heap.size, 1, none⟩ = some v1 ∧ w.cell? ⟨a.heap.size, 2, none⟩ = some v2 ∧ w.cell? ⟨a.heap.size, 3, none⟩ = some v3 :=
  ⟨h.cell 0 _ rfl, h.cell 1 _ rfl, h.cell 2 _ rfl, h.cell 3 _ rfl⟩
end
section
variable (b p n j : Int) (w : World)
set_option maxHeartbeats 400000 in
theorem groups_any (hb0 : 128 ≤ b) (hb1 : b ≤ 4096) (hp0 : 32 ≤ p) (hp1 : p ≤ 2016) :
    Calls Tryd.prog 47 #[.agg #[.int .i64 b, .int .i64 p, .int .i64 n, .int .i64 j]] w fun e w' => e = .returned (.int .i64 (gN b p)) ∧ Below w.heap.size w w' := by
  go_enter Tryd.func47, Tryd.ntmps47
  go_wp2
  go_ret
  exact ⟨rfl, below_box _⟩
set_option maxHeartbeats 400000 in
theorem tableSize_any (hn0 : 8 ≤ n) (hn1 : n ≤ 512) :
    Calls Tryd.prog 48 #[.agg #[.int .i64 b, .int .i64 p, .int .i64 n, .int .i64 j]] w fun e w' => e = .returned (.int .i64 (n / 2)) ∧ Below w.heap.size w w' := by
  go_enter Tryd.func48, Tryd.ntmps48
  go_wp2
  go_ret
  exact ⟨rfl, below_box _⟩
set_option maxHeartbeats 400000 in
theorem base_any (k : Int) (hp0 : 32 ≤ p) (hp1 : p ≤ 2016) (hj0 : 96 ≤ j) (hj1 : j ≤ 512) (hk0 : 0 ≤ k) (hk1 : k ≤ 200) :
    Calls Tryd.prog 43 #[.agg #[.int .i64 b, .int .i64 p, .int .i64 n, .int .i64 j], .int .i64 k] w fun e w' => e = .returned (.int .i64 (baseI p j k)) ∧ Below w.heap.size w w' := by
  obtain ⟨m0, m1⟩ := mul_bd hk0 hk1 (show 0 ≤ p by omega) hp1
  by_cases hz : k = 0
  · subst hz
    rw [base_0]
    clear m0 m1
    go_enter Tryd.func43, Tryd.ntmps43
    go_wp2
    go_ret
    exact ⟨rfl, below_box _⟩
  · rw [base_up _ _ _ hz]
    have d0 : (k == 0) = false := by simpa using hz
    generalize hm : k * p = m at *
    clear hz
    go_enter Tryd.func43, Tryd.ntmps43
    go_wp2
    go_ret
    exact ⟨rfl, below_box _⟩
set_option maxHeartbeats 400000 in
theorem table_any (k : Int) (hp0 : 32 ≤ p) (hp1 : p ≤ 2016) (hj0 : 96 ≤ j) (hj1 : j ≤ 512) (hk0 : 0 ≤ k) (hk1 : k ≤ 200) :
    Calls Tryd.prog 44 #[.agg #[.int .i64 b, .int .i64 p, .int .i64 n, .int .i64 j], .int .i64 k] w fun e w' => e = .returned (.int .i64 (tableI p j k)) ∧ Below w.heap.size w w' := by
  obtain ⟨t0, t1⟩ := base_bd p j k hp0 hp1 hj0 hj1 hk0 hk1
  go_enter Tryd.func44, Tryd.ntmps44
  go_wp2_with (go_at_call 43; refine (base_any b p n j _ k hp0 hp1 hj0 hj1 hk0 hk1).mono ?_; rintro e w1 ⟨rfl, hb⟩)
  go_ret
  exact ⟨rfl, below_box_to hb⟩
set_option maxHeartbeats 400000 in
theorem data_any (k : Int) (hp0 : 32 ≤ p) (hp1 : p ≤ 2016) (hj0 : 96 ≤ j) (hj1 : j ≤ 512) (hk0 : 0 ≤ k) (hk1 : k ≤ 200) (hn0 : 8 ≤ n) (hn1 : n ≤ 512) :
    Calls Tryd.prog 45 #[.agg #[.int .i64 b, .int .i64 p, .int .i64 n, .int .i64 j], .int .i64 k] w fun e w' => e = .returned (.int .i64 (dataI p n j k)) ∧ Below w.heap.size w w' := by
  obtain ⟨t0, t1⟩ := table_bd p j k hp0 hp1 hj0 hj1 hk0 hk1
  have n0 : 0 ≤ n / 2 := by omega
  have n1 : n / 2 ≤ 256 := by omega
  have hs : IntKind.i64.wrap (tableI p j k + n / 2) = tableI p j k + n / 2 := IntWalk.i64_in _ (by omega)
  go_enter Tryd.func45, Tryd.ntmps45
  go_wp2
  have HX := Lib.hid (Boxed.start w [.int .i64 b, .int .i64 p, .int .i64 n, .int .i64 j] 23)
  go_region_held3 (fun w' => w'.cell? ⟨w.heap.size, 0, none⟩ = some (.int .i64 b) ∧ w'.cell? ⟨w.heap.size, 1, none⟩ = some (.int .i64 p) ∧ w'.cell? ⟨w.heap.size, 2, none⟩ = some (.int .i64 n) ∧ w'.cell? ⟨w.heap.size, 3, none⟩ = some (.int .i64 j)) (first | exact HY.out.four | exact HX.out.four | go_keep)
    ((first
      | (go_at_call 44; refine (table_any b p n j _ k hp0 hp1 hj0 hj1 hk0 hk1).mono ?_; rintro e w1 ⟨rfl, hb1⟩
         have HY : Hid (Boxed w w1 [.int .i64 b, .int .i64 p, .int .i64 n, .int .i64 j]) := Lib.hid (by refine Boxed.go ?_ hb1; repeat (first | exact HY.out | exact HX.out | exact HY.out.drewN 1 | exact HX.out.drewN 1 | apply Boxed.alloc))
         clear hb1)
      | (go_at_call 48; refine (tableSize_any b p n j _ hn0 hn1).mono ?_; rintro e w1 ⟨rfl, hb1⟩
         have HY : Hid (Boxed w w1 [.int .i64 b, .int .i64 p, .int .i64 n, .int .i64 j]) := Lib.hid (by refine Boxed.go ?_ hb1; repeat (first | exact HY.out | exact HX.out | exact HY.out.drewN 1 | exact HX.out.drewN 1 | apply Boxed.alloc))
         clear hb1)))
  go_wp2
  go_ret
  exact ⟨rfl, HY.out.below⟩
set_option maxHeartbeats 400000 in
theorem span_any (k : Int) (hb0 : 128 ≤ b) (hb1 : b ≤ 4096) (hp0 : 32 ≤ p) (hp1 : p ≤ 2016) (hk0 : 0 ≤ k) (hk1 : k ≤ 200) :
    Calls Tryd.prog 42 #[.agg #[.int .i64 b, .int .i64 p, .int .i64 n, .int .i64 j], .int .i64 k] w fun e w' => e = .returned (.tuple #[.int .i64 (k * p), .int .i64 (endI b p k)]) ∧ Below w.heap.size w w' := by
  obtain ⟨m0, m1⟩ := mul_bd hk0 hk1 (show 0 ≤ p by omega) hp1
  have hE := endI_if b p k
  generalize hm : k * p = m at *
  generalize endI b p k = q at *
  have HE := Lib.hid hE
  clear hE
  have hs : IntKind.i64.wrap (m + p) = m + p := IntWalk.i64_in _ (by omega)
  go_enter Tryd.func42, Tryd.ntmps42
  go_wp2
  go_region
  go_wp2
  all_goals
    have HQ := HE.out
    first | rw [if_pos (by omega)] at HQ | rw [if_neg (by omega)] at HQ
    subst HQ
    go_ret2
    exact ⟨rfl, (below_box _).trans (below_drewN (Below.refl _ _) 1)⟩
set_option maxHeartbeats 400000 in
theorem hasRoom_any (k : Int) (hb0 : 128 ≤ b) (hb1 : b ≤ 4096) (hp0 : 32 ≤ p) (hp1 : p ≤ 2016) (hk0 : 0 ≤ k) (hk1 : k ≤ 200) (hj0 : 96 ≤ j) (hj1 : j ≤ 512) (hn0 : 8 ≤ n) (hn1 : n ≤ 512) :
    Calls Tryd.prog 60 #[.agg #[.int .i64 b, .int .i64 p, .int .i64 n, .int .i64 j], .int .i64 k] w fun e w' => e = .returned (.bool (roomB b p n j k)) ∧ Below w.heap.size w w' := by
  obtain ⟨t0, t1⟩ := data_bd p n j k hp0 hp1 hj0 hj1 hk0 hk1 hn0 hn1
  obtain ⟨m0, m1⟩ := mul_bd hk0 hk1 (show 0 ≤ p by omega) hp1
  obtain ⟨e0, e1⟩ := endI_bd b p k hb0 hb1 m0 hp0
  have HX := Lib.hid (Boxed.start w [.int .i64 b, .int .i64 p, .int .i64 n, .int .i64 j] 23)
  go_enter Tryd.func60, Tryd.ntmps60
  go_wp2_with (first
      | (go_at_call 42; refine (span_any b p n j _ k hb0 hb1 hp0 hp1 hk0 hk1).mono ?_; rintro e w1 ⟨rfl, hb1⟩
         have HY : Hid (Boxed w w1 [.int .i64 b, .int .i64 p, .int .i64 n, .int .i64 j]) := Lib.hid (by refine Boxed.go ?_ hb1; repeat (first | exact HY.out | exact HX.out | exact HY.out.drewN 1 | exact HX.out.drewN 1 | apply Boxed.alloc))
         obtain ⟨c0, c1, c2, c3⟩ := HY.out.four
         clear hb1)
      | (go_at_call 45; refine (data_any b p n j _ k hp0 hp1 hj0 hj1 hk0 hk1 hn0 hn1).mono ?_; rintro e w1 ⟨rfl, hb1⟩
         have HY : Hid (Boxed w w1 [.int .i64 b, .int .i64 p, .int .i64 n, .int .i64 j]) := Lib.hid (by refine Boxed.go ?_ hb1; repeat (first | exact HY.out | exact HX.out | exact HY.out.drewN 1 | exact HX.out.drewN 1 | apply Boxed.alloc))
         clear hb1))
  go_ret
  exact ⟨rfl, HY.out.below⟩
end
set_option maxHeartbeats 400000 in
theorem mayBe_b (b p n j : Int) (w : World)  (h : inB 128 4096 b = false) :
    Calls Tryd.prog 40 #[.agg #[.int .i64 b, .int .i64 p, .int .i64 n, .int .i64 j]] w fun e w' => e = .returned (.bool false) ∧ Below w.heap.size w w' := by
  have HX := Lib.hid (Boxed.start w [.int .i64 b, .int .i64 p, .int .i64 n, .int .i64 j] 23)
  go_enter Tryd.func40, Tryd.ntmps40
  go_wp2_with (first
    | (go_at_call 35; (with_reducible refine (within_one 128 4096 b _ _ _ ?_).mono ?_); · simp [go_sem]
       rintro e w' ⟨rfl, rfl⟩)
    | (go_at_call 35; (with_reducible refine (within_one 32 2016 p _ _ _ ?_).mono ?_); · simp [go_sem]
       rintro e w' ⟨rfl, rfl⟩)
    | (go_at_call 35; (with_reducible refine (within_one 8 512 n _ _ _ ?_).mono ?_); · simp [go_sem]
       rintro e w' ⟨rfl, rfl⟩)
    | (go_at_call 35; (with_reducible refine (within_one 96 512 j _ _ _ ?_).mono ?_); · simp [go_sem]
       rintro e w' ⟨rfl, rfl⟩)
    | (go_at_call 47; refine (groups_any b p n j _ hb0 hb1 hp0 hp1).mono ?_; rintro e w1 ⟨rfl, hb1⟩
       have HY : Hid (Boxed w w1 [.int .i64 b, .int .i64 p, .int .i64 n, .int .i64 j]) := Lib.hid (by refine Boxed.go ?_ hb1; repeat (first | exact HY.out | exact HX.out | exact HY.out.drewN 1 | exact HX.out.drewN 1 | apply Boxed.alloc))
       obtain ⟨c0, c1, c2, c3⟩ := HY.out.four
       clear hb1)
    | (go_at_call 60; (with_reducible refine (hasRoom_any b p n j _ 0 hb0 hb1 hp0 hp1 (by omega) (by omega) hj0 hj1 hn0 hn1).mono ?_); rintro e w1 ⟨rfl, hb1⟩
       have HY : Hid (Boxed w w1 [.int .i64 b, .int .i64 p, .int .i64 n, .int .i64 j]) := Lib.hid (by refine Boxed.go ?_ hb1; repeat (first | exact HY.out | exact HX.out | exact HY.out.drewN 1 | exact HX.out.drewN 1 | apply Boxed.alloc))
       obtain ⟨c0, c1, c2, c3⟩ := HY.out.four
       clear hb1)
    | (go_at_call 60; (with_reducible refine (hasRoom_any b p n j _ (gN b p - 1) hb0 hb1 hp0 hp1 (by omega) (by omega) hj0 hj1 hn0 hn1).mono ?_); rintro e w1 ⟨rfl, hb1⟩
       have HY : Hid (Boxed w w1 [.int .i64 b, .int .i64 p, .int .i64 n, .int .i64 j]) := Lib.hid (by refine Boxed.go ?_ hb1; repeat (first | exact HY.out | exact HX.out | exact HY.out.drewN 1 | exact HX.out.drewN 1 | apply Boxed.alloc))
       obtain ⟨c0, c1, c2, c3⟩ := HY.out.four
       clear hb1))
  go_ret
  exact ⟨rfl, Boxed.below (by repeat (first | exact HY.out | exact HX.out | apply Boxed.alloc))⟩
set_option maxHeartbeats 400000 in
theorem mayBe_p (b p n j : Int) (w : World) (hb : inB 128 4096 b = true) (h : inB 32 2016 p = false) :
    Calls Tryd.prog 40 #[.agg #[.int .i64 b, .int .i64 p, .int .i64 n, .int .i64 j]] w fun e w' => e = .returned (.bool false) ∧ Below w.heap.size w w' := by
  obtain ⟨hb0, hb1⟩ := inB_true.1 hb
  have HX := Lib.hid (Boxed.start w [.int .i64 b, .int .i64 p, .int .i64 n, .int .i64 j] 23)
  go_enter Tryd.func40, Tryd.ntmps40
  go_wp2_with (first
    | (go_at_call 35; (with_reducible refine (within_one 128 4096 b _ _ _ ?_).mono ?_); · simp [go_sem]
       rintro e w' ⟨rfl, rfl⟩)
    | (go_at_call 35; (with_reducible refine (within_one 32 2016 p _ _ _ ?_).mono ?_); · simp [go_sem]
       rintro e w' ⟨rfl, rfl⟩)
    | (go_at_call 35; (with_reducible refine (within_one 8 512 n _ _ _ ?_).mono ?_); · simp [go_sem]
       rintro e w' ⟨rfl, rfl⟩)
    | (go_at_call 35; (with_reducible refine (within_one 96 512 j _ _ _ ?_).mono ?_); · simp [go_sem]
       rintro e w' ⟨rfl, rfl⟩)
    | (go_at_call 47; refine (groups_any b p n j _ hb0 hb1 hp0 hp1).mono ?_; rintro e w1 ⟨rfl, hb1⟩
       have HY : Hid (Boxed w w1 [.int .i64 b, .int .i64 p, .int .i64 n, .int .i64 j]) := Lib.hid (by refine Boxed.go ?_ hb1; repeat (first | exact HY.out | exact HX.out | exact HY.out.drewN 1 | exact HX.out.drewN 1 | apply Boxed.alloc))
       obtain ⟨c0, c1, c2, c3⟩ := HY.out.four
       clear hb1)
    | (go_at_call 60; (with_reducible refine (hasRoom_any b p n j _ 0 hb0 hb1 hp0 hp1 (by omega) (by omega) hj0 hj1 hn0 hn1).mono ?_); rintro e w1 ⟨rfl, hb1⟩
       have HY : Hid (Boxed w w1 [.int .i64 b, .int .i64 p, .int .i64 n, .int .i64 j]) := Lib.hid (by refine Boxed.go ?_ hb1; repeat (first | exact HY.out | exact HX.out | exact HY.out.drewN 1 | exact HX.out.drewN 1 | apply Boxed.alloc))
       obtain ⟨c0, c1, c2, c3⟩ := HY.out.four
       clear hb1)
    | (go_at_call 60; (with_reducible refine (hasRoom_any b p n j _ (gN b p - 1) hb0 hb1 hp0 hp1 (by omega) (by omega) hj0 hj1 hn0 hn1).mono ?_); rintro e w1 ⟨rfl, hb1⟩
       have HY : Hid (Boxed w w1 [.int .i64 b, .int .i64 p, .int .i64 n, .int .i64 j]) := Lib.hid (by refine Boxed.go ?_ hb1; repeat (first | exact HY.out | exact HX.out | exact HY.out.drewN 1 | exact HX.out.drewN 1 | apply Boxed.alloc))
       obtain ⟨c0, c1, c2, c3⟩ := HY.out.four
       clear hb1))
  go_ret
  exact ⟨rfl, Boxed.below (by repeat (first | exact HY.out | exact HX.out | apply Boxed.alloc))⟩
set_option maxHeartbeats 400000 in
theorem mayBe_n (b p n j : Int) (w : World) (hb : inB 128 4096 b = true) (hp : inB 32 2016 p = true) (h : inB 8 512 n = false) :
    Calls Tryd.prog 40 #[.agg #[.int .i64 b, .int .i64 p, .int .i64 n, .int .i64 j]] w fun e w' => e = .returned (.bool false) ∧ Below w.heap.size w w' := by
  obtain ⟨hb0, hb1⟩ := inB_true.1 hb
  obtain ⟨hp0, hp1⟩ := inB_true.1 hp
  have HX := Lib.hid (Boxed.start w [.int .i64 b, .int .i64 p, .int .i64 n, .int .i64 j] 23)
  go_enter Tryd.func40, Tryd.ntmps40
  go_wp2_with (first
    | (go_at_call 35; (with_reducible refine (within_one 128 4096 b _ _ _ ?_).mono ?_); · simp [go_sem]
       rintro e w' ⟨rfl, rfl⟩)
    | (go_at_call 35; (with_reducible refine (within_one 32 2016 p _ _ _ ?_).mono ?_); · simp [go_sem]
       rintro e w' ⟨rfl, rfl⟩)
    | (go_at_call 35; (with_reducible refine (within_one 8 512 n _ _ _ ?_).mono ?_); · simp [go_sem]
       rintro e w' ⟨rfl, rfl⟩)
    | (go_at_call 35; (with_reducible refine (within_one 96 512 j _ _ _ ?_).mono ?_); · simp [go_sem]
       rintro e w' ⟨rfl, rfl⟩)
    | (go_at_call 47; refine (groups_any b p n j _ hb0 hb1 hp0 hp1).mono ?_; rintro e w1 ⟨rfl, hb1⟩
       have HY : Hid (Boxed w w1 [.int .i64 b, .int .i64 p, .int .i64 n, .int .i64 j]) := Lib.hid (by refine Boxed.go ?_ hb1; repeat (first | exact HY.out | exact HX.out | exact HY.out.drewN 1 | exact HX.out.drewN 1 | apply Boxed.alloc))
       obtain ⟨c0, c1, c2, c3⟩ := HY.out.four
       clear hb1)
    | (go_at_call 60; (with_reducible refine (hasRoom_any b p n j _ 0 hb0 hb1 hp0 hp1 (by omega) (by omega) hj0 hj1 hn0 hn1).mono ?_); rintro e w1 ⟨rfl, hb1⟩
       have HY : Hid (Boxed w w1 [.int .i64 b, .int .i64 p, .int .i64 n, .int .i64 j]) := Lib.hid (by refine Boxed.go ?_ hb1; repeat (first | exact HY.out | exact HX.out | exact HY.out.drewN 1 | exact HX.out.drewN 1 | apply Boxed.alloc))
       obtain ⟨c0, c1, c2, c3⟩ := HY.out.four
       clear hb1)
    | (go_at_call 60; (with_reducible refine (hasRoom_any b p n j _ (gN b p - 1) hb0 hb1 hp0 hp1 (by omega) (by omega) hj0 hj1 hn0 hn1).mono ?_); rintro e w1 ⟨rfl, hb1⟩
       have HY : Hid (Boxed w w1 [.int .i64 b, .int .i64 p, .int .i64 n, .int .i64 j]) := Lib.hid (by refine Boxed.go ?_ hb1; repeat (first | exact HY.out | exact HX.out | exact HY.out.drewN 1 | exact HX.out.drewN 1 | apply Boxed.alloc))
       obtain ⟨c0, c1, c2, c3⟩ := HY.out.four
       clear hb1))
  go_ret
  exact ⟨rfl, Boxed.below (by repeat (first | exact HY.out | exact HX.out | apply Boxed.alloc))⟩
set_option maxHeartbeats 400000 in
theorem mayBe_e (b p n j : Int) (w : World) (hb : inB 128 4096 b = true) (hp : inB 32 2016 p = true) (hn : inB 8 512 n = true) (h : (n % 2 != 0) = true) :
    Calls Tryd.prog 40 #[.agg #[.int .i64 b, .int .i64 p, .int .i64 n, .int .i64 j]] w fun e w' => e = .returned (.bool false) ∧ Below w.heap.size w w' := by
  obtain ⟨hb0, hb1⟩ := inB_true.1 hb
  obtain ⟨hp0, hp1⟩ := inB_true.1 hp
  obtain ⟨hn0, hn1⟩ := inB_true.1 hn
  have HX := Lib.hid (Boxed.start w [.int .i64 b, .int .i64 p, .int .i64 n, .int .i64 j] 23)
  go_enter Tryd.func40, Tryd.ntmps40
  go_wp2_with (first
    | (go_at_call 35; (with_reducible refine (within_one 128 4096 b _ _ _ ?_).mono ?_); · simp [go_sem]
       rintro e w' ⟨rfl, rfl⟩)
    | (go_at_call 35; (with_reducible refine (within_one 32 2016 p _ _ _ ?_).mono ?_); · simp [go_sem]
       rintro e w' ⟨rfl, rfl⟩)
    | (go_at_call 35; (with_reducible refine (within_one 8 512 n _ _ _ ?_).mono ?_); · simp [go_sem]
       rintro e w' ⟨rfl, rfl⟩)
    | (go_at_call 35; (with_reducible refine (within_one 96 512 j _ _ _ ?_).mono ?_); · simp [go_sem]
       rintro e w' ⟨rfl, rfl⟩)
    | (go_at_call 47; refine (groups_any b p n j _ hb0 hb1 hp0 hp1).mono ?_; rintro e w1 ⟨rfl, hb1⟩
       have HY : Hid (Boxed w w1 [.int .i64 b, .int .i64 p, .int .i64 n, .int .i64 j]) := Lib.hid (by refine Boxed.go ?_ hb1; repeat (first | exact HY.out | exact HX.out | exact HY.out.drewN 1 | exact HX.out.drewN 1 | apply Boxed.alloc))
       obtain ⟨c0, c1, c2, c3⟩ := HY.out.four
       clear hb1)
    | (go_at_call 60; (with_reducible refine (hasRoom_any b p n j _ 0 hb0 hb1 hp0 hp1 (by omega) (by omega) hj0 hj1 hn0 hn1).mono ?_); rintro e w1 ⟨rfl, hb1⟩
       have HY : Hid (Boxed w w1 [.int .i64 b, .int .i64 p, .int .i64 n, .int .i64 j]) := Lib.hid (by refine Boxed.go ?_ hb1; repeat (first | exact HY.out | exact HX.out | exact HY.out.drewN 1 | exact HX.out.drewN 1 | apply Boxed.alloc))
       obtain ⟨c0, c1, c2, c3⟩ := HY.out.four
       clear hb1)
    | (go_at_call 60; (with_reducible refine (hasRoom_any b p n j _ (gN b p - 1) hb0 hb1 hp0 hp1 (by omega) (by omega) hj0 hj1 hn0 hn1).mono ?_); rintro e w1 ⟨rfl, hb1⟩
       have HY : Hid (Boxed w w1 [.int .i64 b, .int .i64 p, .int .i64 n, .int .i64 j]) := Lib.hid (by refine Boxed.go ?_ hb1; repeat (first | exact HY.out | exact HX.out | exact HY.out.drewN 1 | exact HX.out.drewN 1 | apply Boxed.alloc))
       obtain ⟨c0, c1, c2, c3⟩ := HY.out.four
       clear hb1))
  go_ret
  exact ⟨rfl, Boxed.below (by repeat (first | exact HY.out | exact HX.out | apply Boxed.alloc))⟩
set_option maxHeartbeats 400000 in
theorem mayBe_j (b p n j : Int) (w : World) (hb : inB 128 4096 b = true) (hp : inB 32 2016 p = true) (hn : inB 8 512 n = true) (h1 : (n % 2 != 0) = false) (h : inB 96 512 j = false) :
    Calls Tryd.prog 40 #[.agg #[.int .i64 b, .int .i64 p, .int .i64 n, .int .i64 j]] w fun e w' => e = .returned (.bool false) ∧ Below w.heap.size w w' := by
  obtain ⟨hb0, hb1⟩ := inB_true.1 hb
  obtain ⟨hp0, hp1⟩ := inB_true.1 hp
  obtain ⟨hn0, hn1⟩ := inB_true.1 hn
  have HX := Lib.hid (Boxed.start w [.int .i64 b, .int .i64 p, .int .i64 n, .int .i64 j] 23)
  go_enter Tryd.func40, Tryd.ntmps40
  go_wp2_with (first
    | (go_at_call 35; (with_reducible refine (within_one 128 4096 b _ _ _ ?_).mono ?_); · simp [go_sem]
       rintro e w' ⟨rfl, rfl⟩)
    | (go_at_call 35; (with_reducible refine (within_one 32 2016 p _ _ _ ?_).mono ?_); · simp [go_sem]
       rintro e w' ⟨rfl, rfl⟩)
    | (go_at_call 35; (with_reducible refine (within_one 8 512 n _ _ _ ?_).mono ?_); · simp [go_sem]
       rintro e w' ⟨rfl, rfl⟩)
    | (go_at_call 35; (with_reducible refine (within_one 96 512 j _ _ _ ?_).mono ?_); · simp [go_sem]
       rintro e w' ⟨rfl, rfl⟩)
    | (go_at_call 47; refine (groups_any b p n j _ hb0 hb1 hp0 hp1).mono ?_; rintro e w1 ⟨rfl, hb1⟩
       have HY : Hid (Boxed w w1 [.int .i64 b, .int .i64 p, .int .i64 n, .int .i64 j]) := Lib.hid (by refine Boxed.go ?_ hb1; repeat (first | exact HY.out | exact HX.out | exact HY.out.drewN 1 | exact HX.out.drewN 1 | apply Boxed.alloc))
       obtain ⟨c0, c1, c2, c3⟩ := HY.out.four
       clear hb1)
    | (go_at_call 60; (with_reducible refine (hasRoom_any b p n j _ 0 hb0 hb1 hp0 hp1 (by omega) (by omega) hj0 hj1 hn0 hn1).mono ?_); rintro e w1 ⟨rfl, hb1⟩
       have HY : Hid (Boxed w w1 [.int .i64 b, .int .i64 p, .int .i64 n, .int .i64 j]) := Lib.hid (by refine Boxed.go ?_ hb1; repeat (first | exact HY.out | exact HX.out | exact HY.out.drewN 1 | exact HX.out.drewN 1 | apply Boxed.alloc))
       obtain ⟨c0, c1, c2, c3⟩ := HY.out.four
       clear hb1)
    | (go_at_call 60; (with_reducible refine (hasRoom_any b p n j _ (gN b p - 1) hb0 hb1 hp0 hp1 (by omega) (by omega) hj0 hj1 hn0 hn1).mono ?_); rintro e w1 ⟨rfl, hb1⟩
       have HY : Hid (Boxed w w1 [.int .i64 b, .int .i64 p, .int .i64 n, .int .i64 j]) := Lib.hid (by refine Boxed.go ?_ hb1; repeat (first | exact HY.out | exact HX.out | exact HY.out.drewN 1 | exact HX.out.drewN 1 | apply Boxed.alloc))
       obtain ⟨c0, c1, c2, c3⟩ := HY.out.four
       clear hb1))
  go_ret
  exact ⟨rfl, Boxed.below (by repeat (first | exact HY.out | exact HX.out | apply Boxed.alloc))⟩
set_option maxHeartbeats 400000 in
theorem mayBe_g (b p n j : Int) (w : World) (hb : inB 128 4096 b = true) (hp : inB 32 2016 p = true) (hn : inB 8 512 n = true) (hj : inB 96 512 j = true) (h1 : (n % 2 != 0) = false) (h : decide (gN b p ≤ 14) = false) :
    Calls Tryd.prog 40 #[.agg #[.int .i64 b, .int .i64 p, .int .i64 n, .int .i64 j]] w fun e w' => e = .returned (.bool false) ∧ Below w.heap.size w w' := by
  obtain ⟨hb0, hb1⟩ := inB_true.1 hb
  obtain ⟨hp0, hp1⟩ := inB_true.1 hp
  obtain ⟨hn0, hn1⟩ := inB_true.1 hn
  obtain ⟨hj0, hj1⟩ := inB_true.1 hj
  obtain ⟨g0, g1⟩ := gN_bd hb0 hb1 hp0 hp1
  have HX := Lib.hid (Boxed.start w [.int .i64 b, .int .i64 p, .int .i64 n, .int .i64 j] 23)
  go_enter Tryd.func40, Tryd.ntmps40
  go_wp2_with (first
    | (go_at_call 35; (with_reducible refine (within_one 128 4096 b _ _ _ ?_).mono ?_); · simp [go_sem]
       rintro e w' ⟨rfl, rfl⟩)
    | (go_at_call 35; (with_reducible refine (within_one 32 2016 p _ _ _ ?_).mono ?_); · simp [go_sem]
       rintro e w' ⟨rfl, rfl⟩)
    | (go_at_call 35; (with_reducible refine (within_one 8 512 n _ _ _ ?_).mono ?_); · simp [go_sem]
       rintro e w' ⟨rfl, rfl⟩)
    | (go_at_call 35; (with_reducible refine (within_one 96 512 j _ _ _ ?_).mono ?_); · simp [go_sem]
       rintro e w' ⟨rfl, rfl⟩)
    | (go_at_call 47; refine (groups_any b p n j _ hb0 hb1 hp0 hp1).mono ?_; rintro e w1 ⟨rfl, hb1⟩
       have HY : Hid (Boxed w w1 [.int .i64 b, .int .i64 p, .int .i64 n, .int .i64 j]) := Lib.hid (by refine Boxed.go ?_ hb1; repeat (first | exact HY.out | exact HX.out | exact HY.out.drewN 1 | exact HX.out.drewN 1 | apply Boxed.alloc))
       obtain ⟨c0, c1, c2, c3⟩ := HY.out.four
       clear hb1)
    | (go_at_call 60; (with_reducible refine (hasRoom_any b p n j _ 0 hb0 hb1 hp0 hp1 (by omega) (by omega) hj0 hj1 hn0 hn1).mono ?_); rintro e w1 ⟨rfl, hb1⟩
       have HY : Hid (Boxed w w1 [.int .i64 b, .int .i64 p, .int .i64 n, .int .i64 j]) := Lib.hid (by refine Boxed.go ?_ hb1; repeat (first | exact HY.out | exact HX.out | exact HY.out.drewN 1 | exact HX.out.drewN 1 | apply Boxed.alloc))
       obtain ⟨c0, c1, c2, c3⟩ := HY.out.four
       clear hb1)
    | (go_at_call 60; (with_reducible refine (hasRoom_any b p n j _ (gN b p - 1) hb0 hb1 hp0 hp1 (by omega) (by omega) hj0 hj1 hn0 hn1).mono ?_); rintro e w1 ⟨rfl, hb1⟩
       have HY : Hid (Boxed w w1 [.int .i64 b, .int .i64 p, .int .i64 n, .int .i64 j]) := Lib.hid (by refine Boxed.go ?_ hb1; repeat (first | exact HY.out | exact HX.out | exact HY.out.drewN 1 | exact HX.out.drewN 1 | apply Boxed.alloc))
       obtain ⟨c0, c1, c2, c3⟩ := HY.out.four
       clear hb1))
  go_ret
  exact ⟨rfl, Boxed.below (by repeat (first | exact HY.out | exact HX.out | apply Boxed.alloc))⟩
set_option maxHeartbeats 400000 in
theorem mayBe_0 (b p n j : Int) (w : World) (hb : inB 128 4096 b = true) (hp : inB 32 2016 p = true) (hn : inB 8 512 n = true) (hj : inB 96 512 j = true) (h1 : (n % 2 != 0) = false) (h : decide (gN b p ≤ 14) = true) (h0 : roomB b p n j 0 = false) :
    Calls Tryd.prog 40 #[.agg #[.int .i64 b, .int .i64 p, .int .i64 n, .int .i64 j]] w fun e w' => e = .returned (.bool false) ∧ Below w.heap.size w w' := by
  obtain ⟨hb0, hb1⟩ := inB_true.1 hb
  obtain ⟨hp0, hp1⟩ := inB_true.1 hp
  obtain ⟨hn0, hn1⟩ := inB_true.1 hn
  obtain ⟨hj0, hj1⟩ := inB_true.1 hj
  obtain ⟨g0, g1⟩ := gN_bd hb0 hb1 hp0 hp1
  have HX := Lib.hid (Boxed.start w [.int .i64 b, .int .i64 p, .int .i64 n, .int .i64 j] 23)
  go_enter Tryd.func40, Tryd.ntmps40
  go_wp2_with (first
    | (go_at_call 35; (with_reducible refine (within_one 128 4096 b _ _ _ ?_).mono ?_); · simp [go_sem]
       rintro e w' ⟨rfl, rfl⟩)
    | (go_at_call 35; (with_reducible refine (within_one 32 2016 p _ _ _ ?_).mono ?_); · simp [go_sem]
       rintro e w' ⟨rfl, rfl⟩)
    | (go_at_call 35; (with_reducible refine (within_one 8 512 n _ _ _ ?_).mono ?_); · simp [go_sem]
       rintro e w' ⟨rfl, rfl⟩)
    | (go_at_call 35; (with_reducible refine (within_one 96 512 j _ _ _ ?_).mono ?_); · simp [go_sem]
       rintro e w' ⟨rfl, rfl⟩)
    | (go_at_call 47; refine (groups_any b p n j _ hb0 hb1 hp0 hp1).mono ?_; rintro e w1 ⟨rfl, hb1⟩
       have HY : Hid (Boxed w w1 [.int .i64 b, .int .i64 p, .int .i64 n, .int .i64 j]) := Lib.hid (by refine Boxed.go ?_ hb1; repeat (first | exact HY.out | exact HX.out | exact HY.out.drewN 1 | exact HX.out.drewN 1 | apply Boxed.alloc))
       obtain ⟨c0, c1, c2, c3⟩ := HY.out.four
       clear hb1)
    | (go_at_call 60; (with_reducible refine (hasRoom_any b p n j _ 0 hb0 hb1 hp0 hp1 (by omega) (by omega) hj0 hj1 hn0 hn1).mono ?_); rintro e w1 ⟨rfl, hb1⟩
       have HY : Hid (Boxed w w1 [.int .i64 b, .int .i64 p, .int .i64 n, .int .i64 j]) := Lib.hid (by refine Boxed.go ?_ hb1; repeat (first | exact HY.out | exact HX.out | exact HY.out.drewN 1 | exact HX.out.drewN 1 | apply Boxed.alloc))
       obtain ⟨c0, c1, c2, c3⟩ := HY.out.four
       clear hb1)
    | (go_at_call 60; (with_reducible refine (hasRoom_any b p n j _ (gN b p - 1) hb0 hb1 hp0 hp1 (by omega) (by omega) hj0 hj1 hn0 hn1).mono ?_); rintro e w1 ⟨rfl, hb1⟩
       have HY : Hid (Boxed w w1 [.int .i64 b, .int .i64 p, .int .i64 n, .int .i64 j]) := Lib.hid (by refine Boxed.go ?_ hb1; repeat (first | exact HY.out | exact HX.out | exact HY.out.drewN 1 | exact HX.out.drewN 1 | apply Boxed.alloc))
       obtain ⟨c0, c1, c2, c3⟩ := HY.out.four
       clear hb1))
  go_ret
  exact ⟨rfl, Boxed.below (by repeat (first | exact HY.out | exact HX.out | apply Boxed.alloc))⟩
set_option maxHeartbeats 400000 in
theorem mayBe_l (b p n j : Int) (w : World) (hb : inB 128 4096 b = true) (hp : inB 32 2016 p = true) (hn : inB 8 512 n = true) (hj : inB 96 512 j = true) (h1 : (n % 2 != 0) = false) (h : decide (gN b p ≤ 14) = true) (h0 : roomB b p n j 0 = true) :
    Calls Tryd.prog 40 #[.agg #[.int .i64 b, .int .i64 p, .int .i64 n, .int .i64 j]] w fun e w' => e = .returned (.bool (roomB b p n j (gN b p - 1))) ∧ Below w.heap.size w w' := by
  obtain ⟨hb0, hb1⟩ := inB_true.1 hb
  obtain ⟨hp0, hp1⟩ := inB_true.1 hp
  obtain ⟨hn0, hn1⟩ := inB_true.1 hn
  obtain ⟨hj0, hj1⟩ := inB_true.1 hj
  obtain ⟨g0, g1⟩ := gN_bd hb0 hb1 hp0 hp1
  have HX := Lib.hid (Boxed.start w [.int .i64 b, .int .i64 p, .int .i64 n, .int .i64 j] 23)
  go_enter Tryd.func40, Tryd.ntmps40
  go_wp2_with (first
    | (go_at_call 35; (with_reducible refine (within_one 128 4096 b _ _ _ ?_).mono ?_); · simp [go_sem]
       rintro e w' ⟨rfl, rfl⟩)
    | (go_at_call 35; (with_reducible refine (within_one 32 2016 p _ _ _ ?_).mono ?_); · simp [go_sem]
       rintro e w' ⟨rfl, rfl⟩)
    | (go_at_call 35; (with_reducible refine (within_one 8 512 n _ _ _ ?_).mono ?_); · simp [go_sem]
       rintro e w' ⟨rfl, rfl⟩)
    | (go_at_call 35; (with_reducible refine (within_one 96 512 j _ _ _ ?_).mono ?_); · simp [go_sem]
       rintro e w' ⟨rfl, rfl⟩)
    | (go_at_call 47; refine (groups_any b p n j _ hb0 hb1 hp0 hp1).mono ?_; rintro e w1 ⟨rfl, hb1⟩
       have HY : Hid (Boxed w w1 [.int .i64 b, .int .i64 p, .int .i64 n, .int .i64 j]) := Lib.hid (by refine Boxed.go ?_ hb1; repeat (first | exact HY.out | exact HX.out | exact HY.out.drewN 1 | exact HX.out.drewN 1 | apply Boxed.alloc))
       obtain ⟨c0, c1, c2, c3⟩ := HY.out.four
       clear hb1)
    | (go_at_call 60; (with_reducible refine (hasRoom_any b p n j _ 0 hb0 hb1 hp0 hp1 (by omega) (by omega) hj0 hj1 hn0 hn1).mono ?_); rintro e w1 ⟨rfl, hb1⟩
       have HY : Hid (Boxed w w1 [.int .i64 b, .int .i64 p, .int .i64 n, .int .i64 j]) := Lib.hid (by refine Boxed.go ?_ hb1; repeat (first | exact HY.out | exact HX.out | exact HY.out.drewN 1 | exact HX.out.drewN 1 | apply Boxed.alloc))
       obtain ⟨c0, c1, c2, c3⟩ := HY.out.four
       clear hb1)
    | (go_at_call 60; (with_reducible refine (hasRoom_any b p n j _ (gN b p - 1) hb0 hb1 hp0 hp1 (by omega) (by omega) hj0 hj1 hn0 hn1).mono ?_); rintro e w1 ⟨rfl, hb1⟩
       have HY : Hid (Boxed w w1 [.int .i64 b, .int .i64 p, .int .i64 n, .int .i64 j]) := Lib.hid (by refine Boxed.go ?_ hb1; repeat (first | exact HY.out | exact HX.out | exact HY.out.drewN 1 | exact HX.out.drewN 1 | apply Boxed.alloc))
       obtain ⟨c0, c1, c2, c3⟩ := HY.out.four
       clear hb1))
  go_ret
  exact ⟨rfl, Boxed.below (by repeat (first | exact HY.out | exact HX.out | apply Boxed.alloc))⟩
end Go.Proofs.YtoaallnmihhjlaaDoor.GGeo
