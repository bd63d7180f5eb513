/- layout's functions of a geometry: which group's blocks lie where. -/
import Derived.Test.YtmlgchmladkfpaaGreatDoorMg22
import Derived.RegionTactic
import Derived.BigRegion
import Derived.ChangeAlike
import Derived.Deep.QuietTactic
import Derived.BigQuiet
import Derived.Deep.RegionHeld3
namespace Go.Proofs.YtmlgchmladkfpaaGreatDoor.GGeo
open Go.RowKit WMem GPlain GWithin

theorem below_box {w : World} (o : Obj) : Below w.heap.size w (w.alloc o) := (Below.refl _ _).alloc (Nat.le_refl _) _
theorem below_box_to {w w' : World} {o : Obj} (h : Below (w.alloc o).heap.size (w.alloc o) w') : Below w.heap.size w w' := (below_box o).trans (h.mono (by simp))
theorem below_next {B : Nat} {a w w' : World} (h : Below B a w) (hb : Below w.heap.size w w') (hB : B ≤ w.heap.size) : Below B a w' := h.trans (hb.mono hB)
/-- a box of the call's own, and all behind it -/
structure Boxed (a w : World) (vs : List Value) : Prop where
  below : Below a.heap.size a w
  lt : a.heap.size < w.heap.size
  cell : ∀ i v, vs[i]? = some v → w.cell? ⟨a.heap.size, i, none⟩ = some v
section
variable {a w w' : World} {vs : List Value}
theorem Boxed.start (w : World) (vs : List Value) (T : TypeId) : Boxed w (w.alloc (.cells vs.toArray T)) vs :=
  ⟨below_box _, by simp, fun i v h => by
    rw [row_cell (row_new w (.cells vs.toArray T)), List.getElem?_toArray]; exact h⟩
theorem Boxed.go (h : Boxed a w vs) (hb : Below w.heap.size w w') : Boxed a w' vs :=
  ⟨h.below.trans (hb.mono (by have := h.lt; omega)), by have := h.lt; have := hb.size; omega, fun i v hv => (hb.cell (p := ⟨a.heap.size, i, none⟩) h.lt).trans (h.cell i v hv)⟩
theorem Boxed.drewN (h : Boxed a w vs) (n : Nat) : Boxed a (w.drewN n) vs := h.go (below_drewN (Below.refl _ _) n)
theorem Boxed.alloc (h : Boxed a w vs) (o : Obj) : Boxed a (w.alloc o) vs := h.go (below_box o)
theorem Boxed.four {v0 v1 v2 v3 : Value} (h : Boxed a w [v0, v1, v2, v3]) : w.cell? ⟨a.heap.size, 0, none⟩ = some v0 ∧ w.cell? ⟨a.heap.size, 1, none⟩ = some v1 ∧ w.cell? ⟨a.heap.size, 2, none⟩ = some v2 ∧ w.cell? ⟨a.heap.size, 3, none⟩ = some v3 :=
  ⟨h.cell 0 _ rfl, h.cell 1 _ rfl, h.cell 2 _ rfl, h.cell 3 _ rfl⟩
end
section
variable (b p n j : Int) (w : World)
set_option maxHeartbeats 400000 in
theorem groups_any (hb0 : 128 ≤ b) (hb1 : b ≤ 4096) (hp0 : 32 ≤ p) (hp1 : p ≤ 2016) :
    Calls Tryz.prog 104 #[.agg #[.int .i64 b, .int .i64 p, .int .i64 n, .int .i64 j]] w fun e w' => e = .returned (.int .i64 (gN b p)) ∧ Below w.heap.size w w' := by
  go_enter Tryz.func104, Tryz.ntmps104
  go_wp2
  go_ret
  exact ⟨rfl, below_box _⟩
set_option maxHeartbeats 400000 in
theorem tableSize_any (hn0 : 8 ≤ n) (hn1 : n ≤ 512) :
    Calls Tryz.prog 184 #[.agg #[.int .i64 b, .int .i64 p, .int .i64 n, .int .i64 j]] w fun e w' => e = .returned (.int .i64 (n / 2)) ∧ Below w.heap.size w w' := by
  go_enter Tryz.func184, Tryz.ntmps184
  go_wp2
  go_ret
  exact ⟨rfl, below_box _⟩
set_option maxHeartbeats 400000 in
theorem base_any (k : Int) (hp0 : 32 ≤ p) (hp1 : p ≤ 2016) (hj0 : 96 ≤ j) (hj1 : j ≤ 512) (hk0 : 0 ≤ k) (hk1 : k ≤ 200) :
    Calls Tryz.prog 207 #[.agg #[.int .i64 b, .int .i64 p, .int .i64 n, .int .i64 j], .int .i64 k] w fun e w' => e = .returned (.int .i64 (baseI p j k)) ∧ Below w.heap.size w w' := by
  obtain ⟨m0, m1⟩ := mul_bd hk0 hk1 (show 0 ≤ p by omega) hp1
  by_cases hz : k = 0
  · subst hz
    rw [base_0]
    clear m0 m1
    go_enter Tryz.func207, Tryz.ntmps207
    go_wp2
    go_ret
    exact ⟨rfl, below_box _⟩
  · rw [base_up _ _ _ hz]
    have d0 : (k == 0) = false := by simpa using hz
    generalize hm : k * p = m at *
    clear hz
    go_enter Tryz.func207, Tryz.ntmps207
    go_wp2
    go_ret
    exact ⟨rfl, below_box _⟩
set_option maxHeartbeats 400000 in
theorem table_any (k : Int) (hp0 : 32 ≤ p) (hp1 : p ≤ 2016) (hj0 : 96 ≤ j) (hj1 : j ≤ 512) (hk0 : 0 ≤ k) (hk1 : k ≤ 200) :
    Calls Tryz.prog 183 #[.agg #[.int .i64 b, .int .i64 p, .int .i64 n, .int .i64 j], .int .i64 k] w fun e w' => e = .returned (.int .i64 (tableI p j k)) ∧ Below w.heap.size w w' := by
  obtain ⟨t0, t1⟩ := base_bd p j k hp0 hp1 hj0 hj1 hk0 hk1
  go_enter Tryz.func183, Tryz.ntmps183
  go_wp2_with (go_at_call 207; refine (base_any b p n j _ k hp0 hp1 hj0 hj1 hk0 hk1).mono ?_; rintro e w1 ⟨rfl, hb⟩)
  go_ret
  exact ⟨rfl, below_box_to hb⟩
set_option maxHeartbeats 400000 in
theorem data_any (k : Int) (hp0 : 32 ≤ p) (hp1 : p ≤ 2016) (hj0 : 96 ≤ j) (hj1 : j ≤ 512) (hk0 : 0 ≤ k) (hk1 : k ≤ 200) (hn0 : 8 ≤ n) (hn1 : n ≤ 512) :
    Calls Tryz.prog 136 #[.agg #[.int .i64 b, .int .i64 p, .int .i64 n, .int .i64 j], .int .i64 k] w fun e w' => e = .returned (.int .i64 (dataI p n j k)) ∧ Below w.heap.size w w' := by
  obtain ⟨t0, t1⟩ := table_bd p j k hp0 hp1 hj0 hj1 hk0 hk1
  have n0 : 0 ≤ n / 2 := by omega
  have n1 : n / 2 ≤ 256 := by omega
  have hs : IntKind.i64.wrap (tableI p j k + n / 2) = tableI p j k + n / 2 := IntWalk.i64_in _ (by omega)
  go_enter Tryz.func136, Tryz.ntmps136
  go_wp2
  have HX := Lib.hid (Boxed.start w [.int .i64 b, .int .i64 p, .int .i64 n, .int .i64 j] 35)
  go_region_held3 (fun w' => w'.cell? ⟨w.heap.size, 0, none⟩ = some (.int .i64 b) ∧ w'.cell? ⟨w.heap.size, 1, none⟩ = some (.int .i64 p) ∧ w'.cell? ⟨w.heap.size, 2, none⟩ = some (.int .i64 n) ∧ w'.cell? ⟨w.heap.size, 3, none⟩ = some (.int .i64 j)) (first | exact HY.out.four | exact HX.out.four | go_keep)
    ((first
      | (go_at_call 183; refine (table_any b p n j _ k hp0 hp1 hj0 hj1 hk0 hk1).mono ?_; rintro e w1 ⟨rfl, hb1⟩
         have HY : Hid (Boxed w w1 [.int .i64 b, .int .i64 p, .int .i64 n, .int .i64 j]) := Lib.hid (by refine Boxed.go ?_ hb1; repeat (first | exact HY.out | exact HX.out | exact HY.out.drewN 1 | exact HX.out.drewN 1 | apply Boxed.alloc))
         clear hb1)
      | (go_at_call 184; refine (tableSize_any b p n j _ hn0 hn1).mono ?_; rintro e w1 ⟨rfl, hb1⟩
         have HY : Hid (Boxed w w1 [.int .i64 b, .int .i64 p, .int .i64 n, .int .i64 j]) := Lib.hid (by refine Boxed.go ?_ hb1; repeat (first | exact HY.out | exact HX.out | exact HY.out.drewN 1 | exact HX.out.drewN 1 | apply Boxed.alloc))
         clear hb1)))
  go_wp2
  go_ret
  exact ⟨rfl, HY.out.below⟩
set_option maxHeartbeats 400000 in
theorem span_any (k : Int) (hb0 : 128 ≤ b) (hb1 : b ≤ 4096) (hp0 : 32 ≤ p) (hp1 : p ≤ 2016) (hk0 : 0 ≤ k) (hk1 : k ≤ 200) :
    Calls Tryz.prog 135 #[.agg #[.int .i64 b, .int .i64 p, .int .i64 n, .int .i64 j], .int .i64 k] w fun e w' => e = .returned (.tuple #[.int .i64 (k * p), .int .i64 (endI b p k)]) ∧ Below w.heap.size w w' := by
  obtain ⟨m0, m1⟩ := mul_bd hk0 hk1 (show 0 ≤ p by omega) hp1
  have hE := endI_if b p k
  generalize hm : k * p = m at *
  generalize endI b p k = q at *
  have HE := Lib.hid hE
  clear hE
  have hs : IntKind.i64.wrap (m + p) = m + p := IntWalk.i64_in _ (by omega)
  go_enter Tryz.func135, Tryz.ntmps135
  go_wp2
  go_region
  go_wp2
  all_goals
    have HQ := HE.out
    first | rw [if_pos (by omega)] at HQ | rw [if_neg (by omega)] at HQ
    subst HQ
    go_ret2
    exact ⟨rfl, (below_box _).trans (below_drewN (Below.refl _ _) 1)⟩
set_option maxHeartbeats 400000 in
theorem hasRoom_any (k : Int) (hb0 : 128 ≤ b) (hb1 : b ≤ 4096) (hp0 : 32 ≤ p) (hp1 : p ≤ 2016) (hk0 : 0 ≤ k) (hk1 : k ≤ 200) (hj0 : 96 ≤ j) (hj1 : j ≤ 512) (hn0 : 8 ≤ n) (hn1 : n ≤ 512) :
    Calls Tryz.prog 105 #[.agg #[.int .i64 b, .int .i64 p, .int .i64 n, .int .i64 j], .int .i64 k] w fun e w' => e = .returned (.bool (roomB b p n j k)) ∧ Below w.heap.size w w' := by
  obtain ⟨t0, t1⟩ := data_bd p n j k hp0 hp1 hj0 hj1 hk0 hk1 hn0 hn1
  obtain ⟨m0, m1⟩ := mul_bd hk0 hk1 (show 0 ≤ p by omega) hp1
  obtain ⟨e0, e1⟩ := endI_bd b p k hb0 hb1 m0 hp0
  have HX := Lib.hid (Boxed.start w [.int .i64 b, .int .i64 p, .int .i64 n, .int .i64 j] 35)
  go_enter Tryz.func105, Tryz.ntmps105
  go_wp2_with (first
      | (go_at_call 135; refine (span_any b p n j _ k hb0 hb1 hp0 hp1 hk0 hk1).mono ?_; rintro e w1 ⟨rfl, hb1⟩
         have HY : Hid (Boxed w w1 [.int .i64 b, .int .i64 p, .int .i64 n, .int .i64 j]) := Lib.hid (by refine Boxed.go ?_ hb1; repeat (first | exact HY.out | exact HX.out | exact HY.out.drewN 1 | exact HX.out.drewN 1 | apply Boxed.alloc))
         obtain ⟨c0, c1, c2, c3⟩ := HY.out.four
         clear hb1)
      | (go_at_call 136; refine (data_any b p n j _ k hp0 hp1 hj0 hj1 hk0 hk1 hn0 hn1).mono ?_; rintro e w1 ⟨rfl, hb1⟩
         have HY : Hid (Boxed w w1 [.int .i64 b, .int .i64 p, .int .i64 n, .int .i64 j]) := Lib.hid (by refine Boxed.go ?_ hb1; repeat (first | exact HY.out | exact HX.out | exact HY.out.drewN 1 | exact HX.out.drewN 1 | apply Boxed.alloc))
         clear hb1))
  go_ret
  exact ⟨rfl, HY.out.below⟩
end
set_option maxHeartbeats 400000 in
theorem mayBe_b (b p n j : Int) (w : World)  (h : inB 128 4096 b = false) :
    Calls Tryz.prog 77 #[.agg #[.int .i64 b, .int .i64 p, .int .i64 n, .int .i64 j]] w fun e w' => e = .returned (.bool false) ∧ Below w.heap.size w w' := by
  have HX := Lib.hid (Boxed.start w [.int .i64 b, .int .i64 p, .int .i64 n, .int .i64 j] 35)
  go_enter Tryz.func77, Tryz.ntmps77
  go_wp2_with (first
    | (go_at_call 103; (with_reducible refine (within_one 128 4096 b _ _ _ ?_).mono ?_); · simp [go_sem]
       rintro e w' ⟨rfl, rfl⟩)
    | (go_at_call 103; (with_reducible refine (within_one 32 2016 p _ _ _ ?_).mono ?_); · simp [go_sem]
       rintro e w' ⟨rfl, rfl⟩)
    | (go_at_call 103; (with_reducible refine (within_one 8 512 n _ _ _ ?_).mono ?_); · simp [go_sem]
       rintro e w' ⟨rfl, rfl⟩)
    | (go_at_call 103; (with_reducible refine (within_one 96 512 j _ _ _ ?_).mono ?_); · simp [go_sem]
       rintro e w' ⟨rfl, rfl⟩)
    | (go_at_call 104; refine (groups_any b p n j _ hb0 hb1 hp0 hp1).mono ?_; rintro e w1 ⟨rfl, hb1⟩
       have HY : Hid (Boxed w w1 [.int .i64 b, .int .i64 p, .int .i64 n, .int .i64 j]) := Lib.hid (by refine Boxed.go ?_ hb1; repeat (first | exact HY.out | exact HX.out | exact HY.out.drewN 1 | exact HX.out.drewN 1 | apply Boxed.alloc))
       obtain ⟨c0, c1, c2, c3⟩ := HY.out.four
       clear hb1)
    | (go_at_call 105; (with_reducible refine (hasRoom_any b p n j _ 0 hb0 hb1 hp0 hp1 (by omega) (by omega) hj0 hj1 hn0 hn1).mono ?_); rintro e w1 ⟨rfl, hb1⟩
       have HY : Hid (Boxed w w1 [.int .i64 b, .int .i64 p, .int .i64 n, .int .i64 j]) := Lib.hid (by refine Boxed.go ?_ hb1; repeat (first | exact HY.out | exact HX.out | exact HY.out.drewN 1 | exact HX.out.drewN 1 | apply Boxed.alloc))
       obtain ⟨c0, c1, c2, c3⟩ := HY.out.four
       clear hb1)
    | (go_at_call 105; (with_reducible refine (hasRoom_any b p n j _ (gN b p - 1) hb0 hb1 hp0 hp1 (by omega) (by omega) hj0 hj1 hn0 hn1).mono ?_); rintro e w1 ⟨rfl, hb1⟩
       have HY : Hid (Boxed w w1 [.int .i64 b, .int .i64 p, .int .i64 n, .int .i64 j]) := Lib.hid (by refine Boxed.go ?_ hb1; repeat (first | exact HY.out | exact HX.out | exact HY.out.drewN 1 | exact HX.out.drewN 1 | apply Boxed.alloc))
       obtain ⟨c0, c1, c2, c3⟩ := HY.out.four
       clear hb1))
  go_ret
  exact ⟨rfl, Boxed.below (by repeat (first | exact HY.out | exact HX.out | apply Boxed.alloc))⟩
set_option maxHeartbeats 400000 in
theorem mayBe_p (b p n j : Int) (w : World) (hb : inB 128 4096 b = true) (h : inB 32 2016 p = false) :
    Calls Tryz.prog 77 #[.agg #[.int .i64 b, .int .i64 p, .int .i64 n, .int .i64 j]] w fun e w' => e = .returned (.bool false) ∧ Below w.heap.size w w' := by
  obtain ⟨hb0, hb1⟩ := inB_true.1 hb
  have HX := Lib.hid (Boxed.start w [.int .i64 b, .int .i64 p, .int .i64 n, .int .i64 j] 35)
  go_enter Tryz.func77, Tryz.ntmps77
  go_wp2_with (first
    | (go_at_call 103; (with_reducible refine (within_one 128 4096 b _ _ _ ?_).mono ?_); · simp [go_sem]
       rintro e w' ⟨rfl, rfl⟩)
    | (go_at_call 103; (with_reducible refine (within_one 32 2016 p _ _ _ ?_).mono ?_); · simp [go_sem]
       rintro e w' ⟨rfl, rfl⟩)
    | (go_at_call 103; (with_reducible refine (within_one 8 512 n _ _ _ ?_).mono ?_); · simp [go_sem]
       rintro e w' ⟨rfl, rfl⟩)
    | (go_at_call 103; (with_reducible refine (within_one 96 512 j _ _ _ ?_).mono ?_); · simp [go_sem]
       rintro e w' ⟨rfl, rfl⟩)
    | (go_at_call 104; refine (groups_any b p n j _ hb0 hb1 hp0 hp1).mono ?_; rintro e w1 ⟨rfl, hb1⟩
       have HY : Hid (Boxed w w1 [.int .i64 b, .int .i64 p, .int .i64 n, .int .i64 j]) := Lib.hid (by refine Boxed.go ?_ hb1; repeat (first | exact HY.out | exact HX.out | exact HY.out.drewN 1 | exact HX.out.drewN 1 | apply Boxed.alloc))
       obtain ⟨c0, c1, c2, c3⟩ := HY.out.four
       clear hb1)
    | (go_at_call 105; (with_reducible refine (hasRoom_any b p n j _ 0 hb0 hb1 hp0 hp1 (by omega) (by omega) hj0 hj1 hn0 hn1).mono ?_); rintro e w1 ⟨rfl, hb1⟩
       have HY : Hid (Boxed w w1 [.int .i64 b, .int .i64 p, .int .i64 n, .int .i64 j]) := Lib.hid (by refine Boxed.go ?_ hb1; repeat (first | exact HY.out | exact HX.out | exact HY.out.drewN 1 | exact HX.out.drewN 1 | apply Boxed.alloc))
       obtain ⟨c0, c1, c2, c3⟩ := HY.out.four
       clear hb1)
    | (go_at_call 105; (with_reducible refine (hasRoom_any b p n j _ (gN b p - 1) hb0 hb1 hp0 hp1 (by omega) (by omega) hj0 hj1 hn0 hn1).mono ?_); rintro e w1 ⟨rfl, hb1⟩
       have HY : Hid (Boxed w w1 [.int .i64 b, .int .i64 p, .int .i64 n, .int .i64 j]) := Lib.hid (by refine Boxed.go ?_ hb1; repeat (first | exact HY.out | exact HX.out | exact HY.out.drewN 1 | exact HX.out.drewN 1 | apply Boxed.alloc))
       obtain ⟨c0, c1, c2, c3⟩ := HY.out.four
       clear hb1))
  go_ret
  exact ⟨rfl, Boxed.below (by repeat (first | exact HY.out | exact HX.out | apply Boxed.alloc))⟩
set_option maxHeartbeats 400000 in
theorem mayBe_n (b p n j : Int) (w : World) (hb : inB 128 4096 b = true) (hp : inB 32 2016 p = true) (h : inB 8 512 n = false) :
    Calls Tryz.prog 77 #[.agg #[.int .i64 b, .int .i64 p, .int .i64 n, .int .i64 j]] w fun e w' => e = .returned (.bool false) ∧ Below w.heap.size w w' := by
  obtain ⟨hb0, hb1⟩ := inB_true.1 hb
  obtain ⟨hp0, hp1⟩ := inB_true.1 hp
  have HX := Lib.hid (Boxed.start w [.int .i64 b, .int .i64 p, .int .i64 n, .int .i64 j] 35)
  go_enter Tryz.func77, Tryz.ntmps77
  go_wp2_with (first
    | (go_at_call 103; (with_reducible refine (within_one 128 4096 b _ _ _ ?_).mono ?_); · simp [go_sem]
       rintro e w' ⟨rfl, rfl⟩)
    | (go_at_call 103; (with_reducible refine (within_one 32 2016 p _ _ _ ?_).mono ?_); · simp [go_sem]
       rintro e w' ⟨rfl, rfl⟩)
    | (go_at_call 103; (with_reducible refine (within_one 8 512 n _ _ _ ?_).mono ?_); · simp [go_sem]
       rintro e w' ⟨rfl, rfl⟩)
    | (go_at_call 103; (with_reducible refine (within_one 96 512 j _ _ _ ?_).mono ?_); · simp [go_sem]
       rintro e w' ⟨rfl, rfl⟩)
    | (go_at_call 104; refine (groups_any b p n j _ hb0 hb1 hp0 hp1).mono ?_; rintro e w1 ⟨rfl, hb1⟩
       have HY : Hid (Boxed w w1 [.int .i64 b, .int .i64 p, .int .i64 n, .int .i64 j]) := Lib.hid (by refine Boxed.go ?_ hb1; repeat (first | exact HY.out | exact HX.out | exact HY.out.drewN 1 | exact HX.out.drewN 1 | apply Boxed.alloc))
       obtain ⟨c0, c1, c2, c3⟩ := HY.out.four
       clear hb1)
    | (go_at_call 105; (with_reducible refine (hasRoom_any b p n j _ 0 hb0 hb1 hp0 hp1 (by omega) (by omega) hj0 hj1 hn0 hn1).mono ?_); rintro e w1 ⟨rfl, hb1⟩
       have HY : Hid (Boxed w w1 [.int .i64 b, .int .i64 p, .int .i64 n, .int .i64 j]) := Lib.hid (by refine Boxed.go ?_ hb1; repeat (first | exact HY.out | exact HX.out | exact HY.out.drewN 1 | exact HX.out.drewN 1 | apply Boxed.alloc))
       obtain ⟨c0, c1, c2, c3⟩ := HY.out.four
       clear hb1)
    | (go_at_call 105; (with_reducible refine (hasRoom_any b p n j _ (gN b p - 1) hb0 hb1 hp0 hp1 (by omega) (by omega) hj0 hj1 hn0 hn1).mono ?_); rintro e w1 ⟨rfl, hb1⟩
       have HY : Hid (Boxed w w1 [.int .i64 b, .int .i64 p, .int .i64 n, .int .i64 j]) := Lib.hid (by refine Boxed.go ?_ hb1; repeat (first | exact HY.out | exact HX.out | exact HY.out.drewN 1 | exact HX.out.drewN 1 | apply Boxed.alloc))
       obtain ⟨c0, c1, c2, c3⟩ := HY.out.four
       clear hb1))
  go_ret
  exact ⟨rfl, Boxed.below (by repeat (first | exact HY.out | exact HX.out | apply Boxed.alloc))⟩
set_option maxHeartbeats 400000 in
theorem mayBe_e (b p n j : Int) (w : World) (hb : inB 128 4096 b = true) (hp : inB 32 2016 p = true) (hn : inB 8 512 n = true) (h : (n % 2 != 0) = true) :
    Calls Tryz.prog 77 #[.agg #[.int .i64 b, .int .i64 p, .int .i64 n, .int .i64 j]] w fun e w' => e = .returned (.bool false) ∧ Below w.heap.size w w' := by
  obtain ⟨hb0, hb1⟩ := inB_true.1 hb
  obtain ⟨hp0, hp1⟩ := inB_true.1 hp
  obtain ⟨hn0, hn1⟩ := inB_true.1 hn
  have HX := Lib.hid (Boxed.start w [.int .i64 b, .int .i64 p, .int .i64 n, .int .i64 j] 35)
  go_enter Tryz.func77, Tryz.ntmps77
  go_wp2_with (first
    | (go_at_call 103; (with_reducible refine (within_one 128 4096 b _ _ _ ?_).mono ?_); · simp [go_sem]
       rintro e w' ⟨rfl, rfl⟩)
    | (go_at_call 103; (with_reducible refine (within_one 32 2016 p _ _ _ ?_).mono ?_); · simp [go_sem]
       rintro e w' ⟨rfl, rfl⟩)
    | (go_at_call 103; (with_reducible refine (within_one 8 512 n _ _ _ ?_).mono ?_); · simp [go_sem]
       rintro e w' ⟨rfl, rfl⟩)
    | (go_at_call 103; (with_reducible refine (within_one 96 512 j _ _ _ ?_).mono ?_); · simp [go_sem]
       rintro e w' ⟨rfl, rfl⟩)
    | (go_at_call 104; refine (groups_any b p n j _ hb0 hb1 hp0 hp1).mono ?_; rintro e w1 ⟨rfl, hb1⟩
       have HY : Hid (Boxed w w1 [.int .i64 b, .int .i64 p, .int .i64 n, .int .i64 j]) := Lib.hid (by refine Boxed.go ?_ hb1; repeat (first | exact HY.out | exact HX.out | exact HY.out.drewN 1 | exact HX.out.drewN 1 | apply Boxed.alloc))
       obtain ⟨c0, c1, c2, c3⟩ := HY.out.four
       clear hb1)
    | (go_at_call 105; (with_reducible refine (hasRoom_any b p n j _ 0 hb0 hb1 hp0 hp1 (by omega) (by omega) hj0 hj1 hn0 hn1).mono ?_); rintro e w1 ⟨rfl, hb1⟩
       have HY : Hid (Boxed w w1 [.int .i64 b, .int .i64 p, .int .i64 n, .int .i64 j]) := Lib.hid (by refine Boxed.go ?_ hb1; repeat (first | exact HY.out | exact HX.out | exact HY.out.drewN 1 | exact HX.out.drewN 1 | apply Boxed.alloc))
       obtain ⟨c0, c1, c2, c3⟩ := HY.out.four
       clear hb1)
    | (go_at_call 105; (with_reducible refine (hasRoom_any b p n j _ (gN b p - 1) hb0 hb1 hp0 hp1 (by omega) (by omega) hj0 hj1 hn0 hn1).mono ?_); rintro e w1 ⟨rfl, hb1⟩
       have HY : Hid (Boxed w w1 [.int .i64 b, .int .i64 p, .int .i64 n, .int .i64 j]) := Lib.hid (by refine Boxed.go ?_ hb1; repeat (first | exact HY.out | exact HX.out | exact HY.out.drewN 1 | exact HX.out.drewN 1 | apply Boxed.alloc))
       obtain ⟨c0, c1, c2, c3⟩ := HY.out.four
       clear hb1))
  go_ret
  exact ⟨rfl, Boxed.below (by repeat (first | exact HY.out | exact HX.out | apply Boxed.alloc))⟩
set_option maxHeartbeats 400000 in
theorem mayBe_j (b p n j : Int) (w : World) (hb : inB 128 4096 b = true) (hp : inB 32 2016 p = true) (hn : inB 8 512 n = true) (h1 : (n % 2 != 0) = false) (h : inB 96 512 j = false) :
    Calls Tryz.prog 77 #[.agg #[.int .i64 b, .int .i64 p, .int .i64 n, .int .i64 j]] w fun e w' => e = .returned (.bool false) ∧ Below w.heap.size w w' := by
  obtain ⟨hb0, hb1⟩ := inB_true.1 hb
  obtain ⟨hp0, hp1⟩ := inB_true.1 hp
  obtain ⟨hn0, hn1⟩ := inB_true.1 hn
  have HX := Lib.hid (Boxed.start w [.int .i64 b, .int .i64 p, .int .i64 n, .int .i64 j] 35)
  go_enter Tryz.func77, Tryz.ntmps77
  go_wp2_with (first
    | (go_at_call 103; (with_reducible refine (within_one 128 4096 b _ _ _ ?_).mono ?_); · simp [go_sem]
       rintro e w' ⟨rfl, rfl⟩)
    | (go_at_call 103; (with_reducible refine (within_one 32 2016 p _ _ _ ?_).mono ?_); · simp [go_sem]
       rintro e w' ⟨rfl, rfl⟩)
    | (go_at_call 103; (with_reducible refine (within_one 8 512 n _ _ _ ?_).mono ?_); · simp [go_sem]
       rintro e w' ⟨rfl, rfl⟩)
    | (go_at_call 103; (with_reducible refine (within_one 96 512 j _ _ _ ?_).mono ?_); · simp [go_sem]
       rintro e w' ⟨rfl, rfl⟩)
    | (go_at_call 104; refine (groups_any b p n j _ hb0 hb1 hp0 hp1).mono ?_; rintro e w1 ⟨rfl, hb1⟩
       have HY : Hid (Boxed w w1 [.int .i64 b, .int .i64 p, .int .i64 n, .int .i64 j]) := Lib.hid (by refine Boxed.go ?_ hb1; repeat (first | exact HY.out | exact HX.out | exact HY.out.drewN 1 | exact HX.out.drewN 1 | apply Boxed.alloc))
       obtain ⟨c0, c1, c2, c3⟩ := HY.out.four
       clear hb1)
    | (go_at_call 105; (with_reducible refine (hasRoom_any b p n j _ 0 hb0 hb1 hp0 hp1 (by omega) (by omega) hj0 hj1 hn0 hn1).mono ?_); rintro e w1 ⟨rfl, hb1⟩
       have HY : Hid (Boxed w w1 [.int .i64 b, .int .i64 p, .int .i64 n, .int .i64 j]) := Lib.hid (by refine Boxed.go ?_ hb1; repeat (first | exact HY.out | exact HX.out | exact HY.out.drewN 1 | exact HX.out.drewN 1 | apply Boxed.alloc))
       obtain ⟨c0, c1, c2, c3⟩ := HY.out.four
       clear hb1)
    | (go_at_call 105; (with_reducible refine (hasRoom_any b p n j _ (gN b p - 1) hb0 hb1 hp0 hp1 (by omega) (by omega) hj0 hj1 hn0 hn1).mono ?_); rintro e w1 ⟨rfl, hb1⟩
       have HY : Hid (Boxed w w1 [.int .i64 b, .int .i64 p, .int .i64 n, .int .i64 j]) := Lib.hid (by refine Boxed.go ?_ hb1; repeat (first | exact HY.out | exact HX.out | exact HY.out.drewN 1 | exact HX.out.drewN 1 | apply Boxed.alloc))
       obtain ⟨c0, c1, c2, c3⟩ := HY.out.four
       clear hb1))
  go_ret
  exact ⟨rfl, Boxed.below (by repeat (first | exact HY.out | exact HX.out | apply Boxed.alloc))⟩
set_option maxHeartbeats 400000 in
theorem mayBe_g (b p n j : Int) (w : World) (hb : inB 128 4096 b = true) (hp : inB 32 2016 p = true) (hn : inB 8 512 n = true) (hj : inB 96 512 j = true) (h1 : (n % 2 != 0) = false) (h : decide (gN b p ≤ 14) = false) :
    Calls Tryz.prog 77 #[.agg #[.int .i64 b, .int .i64 p, .int .i64 n, .int .i64 j]] w fun e w' => e = .returned (.bool false) ∧ Below w.heap.size w w' := by
  obtain ⟨hb0, hb1⟩ := inB_true.1 hb
  obtain ⟨hp0, hp1⟩ := inB_true.1 hp
  obtain ⟨hn0, hn1⟩ := inB_true.1 hn
  obtain ⟨hj0, hj1⟩ := inB_true.1 hj
  obtain ⟨g0, g1⟩ := gN_bd hb0 hb1 hp0 hp1
  have HX := Lib.hid (Boxed.start w [.int .i64 b, .int .i64 p, .int .i64 n, .int .i64 j] 35)
  go_enter Tryz.func77, Tryz.ntmps77
  go_wp2_with (first
    | (go_at_call 103; (with_reducible refine (within_one 128 4096 b _ _ _ ?_).mono ?_); · simp [go_sem]
       rintro e w' ⟨rfl, rfl⟩)
    | (go_at_call 103; (with_reducible refine (within_one 32 2016 p _ _ _ ?_).mono ?_); · simp [go_sem]
       rintro e w' ⟨rfl, rfl⟩)
    | (go_at_call 103; (with_reducible refine (within_one 8 512 n _ _ _ ?_).mono ?_); · simp [go_sem]
       rintro e w' ⟨rfl, rfl⟩)
    | (go_at_call 103; (with_reducible refine (within_one 96 512 j _ _ _ ?_).mono ?_); · simp [go_sem]
       rintro e w' ⟨rfl, rfl⟩)
    | (go_at_call 104; refine (groups_any b p n j _ hb0 hb1 hp0 hp1).mono ?_; rintro e w1 ⟨rfl, hb1⟩
       have HY : Hid (Boxed w w1 [.int .i64 b, .int .i64 p, .int .i64 n, .int .i64 j]) := Lib.hid (by refine Boxed.go ?_ hb1; repeat (first | exact HY.out | exact HX.out | exact HY.out.drewN 1 | exact HX.out.drewN 1 | apply Boxed.alloc))
       obtain ⟨c0, c1, c2, c3⟩ := HY.out.four
       clear hb1)
    | (go_at_call 105; (with_reducible refine (hasRoom_any b p n j _ 0 hb0 hb1 hp0 hp1 (by omega) (by omega) hj0 hj1 hn0 hn1).mono ?_); rintro e w1 ⟨rfl, hb1⟩
       have HY : Hid (Boxed w w1 [.int .i64 b, .int .i64 p, .int .i64 n, .int .i64 j]) := Lib.hid (by refine Boxed.go ?_ hb1; repeat (first | exact HY.out | exact HX.out | exact HY.out.drewN 1 | exact HX.out.drewN 1 | apply Boxed.alloc))
       obtain ⟨c0, c1, c2, c3⟩ := HY.out.four
       clear hb1)
    | (go_at_call 105; (with_reducible refine (hasRoom_any b p n j _ (gN b p - 1) hb0 hb1 hp0 hp1 (by omega) (by omega) hj0 hj1 hn0 hn1).mono ?_); rintro e w1 ⟨rfl, hb1⟩
       have HY : Hid (Boxed w w1 [.int .i64 b, .int .i64 p, .int .i64 n, .int .i64 j]) := Lib.hid (by refine Boxed.go ?_ hb1; repeat (first | exact HY.out | exact HX.out | exact HY.out.drewN 1 | exact HX.out.drewN 1 | apply Boxed.alloc))
       obtain ⟨c0, c1, c2, c3⟩ := HY.out.four
       clear hb1))
  go_ret
  exact ⟨rfl, Boxed.below (by repeat (first | exact HY.out | exact HX.out | apply Boxed.alloc))⟩
set_option maxHeartbeats 400000 in
theorem mayBe_0 (b p n j : Int) (w : World) (hb : inB 128 4096 b = true) (hp : inB 32 2016 p = true) (hn : inB 8 512 n = true) (hj : inB 96 512 j = true) (h1 : (n % 2 != 0) = false) (h : decide (gN b p ≤ 14) = true) (h0 : roomB b p n j 0 = false) :
    Calls Tryz.prog 77 #[.agg #[.int .i64 b, .int .i64 p, .int .i64 n, .int .i64 j]] w fun e w' => e = .returned (.bool false) ∧ Below w.heap.size w w' := by
  obtain ⟨hb0, hb1⟩ := inB_true.1 hb
  obtain ⟨hp0, hp1⟩ := inB_true.1 hp
  obtain ⟨hn0, hn1⟩ := inB_true.1 hn
  obtain ⟨hj0, hj1⟩ := inB_true.1 hj
  obtain ⟨g0, g1⟩ := gN_bd hb0 hb1 hp0 hp1
  have HX := Lib.hid (Boxed.start w [.int .i64 b, .int .i64 p, .int .i64 n, .int .i64 j] 35)
  go_enter Tryz.func77, Tryz.ntmps77
  go_wp2_with (first
    | (go_at_call 103; (with_reducible refine (within_one 128 4096 b _ _ _ ?_).mono ?_); · simp [go_sem]
       rintro e w' ⟨rfl, rfl⟩)
    | (go_at_call 103; (with_reducible refine (within_one 32 2016 p _ _ _ ?_).mono ?_); · simp [go_sem]
       rintro e w' ⟨rfl, rfl⟩)
    | (go_at_call 103; (with_reducible refine (within_one 8 512 n _ _ _ ?_).mono ?_); · simp [go_sem]
       rintro e w' ⟨rfl, rfl⟩)
    | (go_at_call 103; (with_reducible refine (within_one 96 512 j _ _ _ ?_).mono ?_); · simp [go_sem]
       rintro e w' ⟨rfl, rfl⟩)
    | (go_at_call 104; refine (groups_any b p n j _ hb0 hb1 hp0 hp1).mono ?_; rintro e w1 ⟨rfl, hb1⟩
       have HY : Hid (Boxed w w1 [.int .i64 b, .int .i64 p, .int .i64 n, .int .i64 j]) := Lib.hid (by refine Boxed.go ?_ hb1; repeat (first | exact HY.out | exact HX.out | exact HY.out.drewN 1 | exact HX.out.drewN 1 | apply Boxed.alloc))
       obtain ⟨c0, c1, c2, c3⟩ := HY.out.four
       clear hb1)
    | (go_at_call 105; (with_reducible refine (hasRoom_any b p n j _ 0 hb0 hb1 hp0 hp1 (by omega) (by omega) hj0 hj1 hn0 hn1).mono ?_); rintro e w1 ⟨rfl, hb1⟩
       have HY : Hid (Boxed w w1 [.int .i64 b, .int .i64 p, .int .i64 n, .int .i64 j]) := Lib.hid (by refine Boxed.go ?_ hb1; repeat (first | exact HY.out | exact HX.out | exact HY.out.drewN 1 | exact HX.out.drewN 1 | apply Boxed.alloc))
       obtain ⟨c0, c1, c2, c3⟩ := HY.out.four
       clear hb1)
    | (go_at_call 105; (with_reducible refine (hasRoom_any b p n j _ (gN b p - 1) hb0 hb1 hp0 hp1 (by omega) (by omega) hj0 hj1 hn0 hn1).mono ?_); rintro e w1 ⟨rfl, hb1⟩
       have HY : Hid (Boxed w w1 [.int .i64 b, .int .i64 p, .int .i64 n, .int .i64 j]) := Lib.hid (by refine Boxed.go ?_ hb1; repeat (first | exact HY.out | exact HX.out | exact HY.out.drewN 1 | exact HX.out.drewN 1 | apply Boxed.alloc))
       obtain ⟨c0, c1, c2, c3⟩ := HY.out.four
       clear hb1))
  go_ret
  exact ⟨rfl, Boxed.below (by repeat (first | exact HY.out | exact HX.out | apply Boxed.alloc))⟩
set_option maxHeartbeats 400000 in
theorem mayBe_l (b p n j : Int) (w : World) (hb : inB 128 4096 b = true) (hp : inB 32 2016 p = true) (hn : inB 8 512 n = true) (hj : inB 96 512 j = true) (h1 : (n % 2 != 0) = false) (h : decide (gN b p ≤ 14) = true) (h0 : roomB b p n j 0 = true) :
    Calls Tryz.prog 77 #[.agg #[.int .i64 b, .int .i64 p, .int .i64 n, .int .i64 j]] w fun e w' => e = .returned (.bool (roomB b p n j (gN b p - 1))) ∧ Below w.heap.size w w' := by
  obtain ⟨hb0, hb1⟩ := inB_true.1 hb
  obtain ⟨hp0, hp1⟩ := inB_true.1 hp
  obtain ⟨hn0, hn1⟩ := inB_true.1 hn
  obtain ⟨hj0, hj1⟩ := inB_true.1 hj
  obtain ⟨g0, g1⟩ := gN_bd hb0 hb1 hp0 hp1
  have HX := Lib.hid (Boxed.start w [.int .i64 b, .int .i64 p, .int .i64 n, .int .i64 j] 35)
  go_enter Tryz.func77, Tryz.ntmps77
  go_wp2_with (first
    | (go_at_call 103; (with_reducible refine (within_one 128 4096 b _ _ _ ?_).mono ?_); · simp [go_sem]
       rintro e w' ⟨rfl, rfl⟩)
    | (go_at_call 103; (with_reducible refine (within_one 32 2016 p _ _ _ ?_).mono ?_); · simp [go_sem]
       rintro e w' ⟨rfl, rfl⟩)
    | (go_at_call 103; (with_reducible refine (within_one 8 512 n _ _ _ ?_).mono ?_); · simp [go_sem]
       rintro e w' ⟨rfl, rfl⟩)
    | (go_at_call 103; (with_reducible refine (within_one 96 512 j _ _ _ ?_).mono ?_); · simp [go_sem]
       rintro e w' ⟨rfl, rfl⟩)
    | (go_at_call 104; refine (groups_any b p n j _ hb0 hb1 hp0 hp1).mono ?_; rintro e w1 ⟨rfl, hb1⟩
       have HY : Hid (Boxed w w1 [.int .i64 b, .int .i64 p, .int .i64 n, .int .i64 j]) := Lib.hid (by refine Boxed.go ?_ hb1; repeat (first | exact HY.out | exact HX.out | exact HY.out.drewN 1 | exact HX.out.drewN 1 | apply Boxed.alloc))
       obtain ⟨c0, c1, c2, c3⟩ := HY.out.four
       clear hb1)
    | (go_at_call 105; (with_reducible refine (hasRoom_any b p n j _ 0 hb0 hb1 hp0 hp1 (by omega) (by omega) hj0 hj1 hn0 hn1).mono ?_); rintro e w1 ⟨rfl, hb1⟩
       have HY : Hid (Boxed w w1 [.int .i64 b, .int .i64 p, .int .i64 n, .int .i64 j]) := Lib.hid (by refine Boxed.go ?_ hb1; repeat (first | exact HY.out | exact HX.out | exact HY.out.drewN 1 | exact HX.out.drewN 1 | apply Boxed.alloc))
       obtain ⟨c0, c1, c2, c3⟩ := HY.out.four
       clear hb1)
    | (go_at_call 105; (with_reducible refine (hasRoom_any b p n j _ (gN b p - 1) hb0 hb1 hp0 hp1 (by omega) (by omega) hj0 hj1 hn0 hn1).mono ?_); rintro e w1 ⟨rfl, hb1⟩
       have HY : Hid (Boxed w w1 [.int .i64 b, .int .i64 p, .int .i64 n, .int .i64 j]) := Lib.hid (by refine Boxed.go ?_ hb1; repeat (first | exact HY.out | exact HX.out | exact HY.out.drewN 1 | exact HX.out.drewN 1 | apply Boxed.alloc))
       obtain ⟨c0, c1, c2, c3⟩ := HY.out.four
       clear hb1))
  go_ret
  exact ⟨rfl, Boxed.below (by repeat (first | exact HY.out | exact HX.out | apply Boxed.alloc))⟩
end Go.Proofs.YtmlgchmladkfpaaGreatDoor.GGeo
/- layout's faces of a geometry. -/
namespace Go.Proofs.YtmlgchmladkfpaaGreatDoor.GGeo2
open Go.RowKit WMem GPlain GWithin GGeo

section
variable (b p n j : Int) (w : World)
theorem mayBe_any :
    Calls Tryz.prog 77 #[.agg #[.int .i64 b, .int .i64 p, .int .i64 n, .int .i64 j]] w fun e w' => e = .returned (.bool (mayB b p n j)) ∧ Below w.heap.size w w' := by
  cases h1 : inB 128 4096 b with
  | false => rw [show mayB b p n j = false by simp [mayB, numsB, h1]]; exact mayBe_b b p n j w h1
  | true =>
    cases h2 : inB 32 2016 p with
    | false => rw [show mayB b p n j = false by simp [mayB, numsB, h1, h2]]; exact mayBe_p b p n j w h1 h2
    | true =>
      cases h3 : inB 8 512 n with
      | false => rw [show mayB b p n j = false by simp [mayB, numsB, h1, h2, h3]]; exact mayBe_n b p n j w h1 h2 h3
      | true =>
        cases h4 : (n % 2 == 0) with
        | false => rw [show mayB b p n j = false by simp only [mayB, numsB, h1, h2, h3, h4]; rfl]; exact mayBe_e b p n j w h1 h2 h3 (by simpa using h4)
        | true =>
          cases h5 : inB 96 512 j with
          | false => rw [show mayB b p n j = false by simp only [mayB, numsB, h1, h2, h3, h4, h5]; rfl]; exact mayBe_j b p n j w h1 h2 h3 (by simpa using h4) h5
          | true =>
            have hs : numsB b p n j = true := by simp only [numsB, h1, h2, h3, h4, h5]; rfl
            cases h6 : decide (gN b p ≤ 14) with
            | false => rw [show mayB b p n j = false by simp only [mayB, hs, h6]; rfl]; exact mayBe_g b p n j w h1 h2 h3 h5 (by simpa using h4) h6
            | true =>
              cases h7 : roomB b p n j 0 with
              | false => rw [show mayB b p n j = false by simp only [mayB, hs, h6, h7]; rfl]; exact mayBe_0 b p n j w h1 h2 h3 h5 (by simpa using h4) h6 h7
              | true => rw [show mayB b p n j = roomB b p n j (gN b p - 1) by simp only [mayB, hs, h6, h7]; rfl]; exact mayBe_l b p n j w h1 h2 h3 h5 (by simpa using h4) h6 h7
theorem mayBe_is (q : Bool) (hq : mayB b p n j = q) :
    Calls Tryz.prog 77 #[.agg #[.int .i64 b, .int .i64 p, .int .i64 n, .int .i64 j]] w fun e w' => e = .returned (.bool q) ∧ Below w.heap.size w w' := by
  subst hq
  exact mayBe_any b p n j w
set_option maxHeartbeats 400000 in
theorem Check_yes (hm : mayB b p n j = true) :
    Calls Tryz.prog 48 #[.agg #[.int .i64 b, .int .i64 p, .int .i64 n, .int .i64 j]] w fun e w' => e = .returned (.int .i64 0) ∧ Below w.heap.size w w' := by
  have hq := Lib.hid hm
  clear hm
  have HX := Lib.hid (Boxed.start w [.int .i64 b, .int .i64 p, .int .i64 n, .int .i64 j] 35)
  go_enter Tryz.func48, Tryz.ntmps48
  go_wp2_with (first
    | (go_at_call 77; refine (mayBe_is b p n j _ true hq.out).mono ?_; rintro e w1 ⟨rfl, hb1⟩
       have HY : Hid (Boxed w w1 [.int .i64 b, .int .i64 p, .int .i64 n, .int .i64 j]) := Lib.hid (by refine Boxed.go ?_ hb1; repeat (first | exact HY.out | exact HX.out | exact HY.out.drewN 1 | exact HX.out.drewN 1 | apply Boxed.alloc))
       obtain ⟨c0, c1, c2, c3⟩ := HY.out.four
       clear hb1))
  go_ret
  exact ⟨rfl, HY.out.below⟩
set_option maxHeartbeats 400000 in
theorem Check_no (hm : mayB b p n j = false) :
    Calls Tryz.prog 48 #[.agg #[.int .i64 b, .int .i64 p, .int .i64 n, .int .i64 j]] w fun e w' => e = .returned (.int .i64 22) ∧ Below w.heap.size w w' := by
  have hq := Lib.hid hm
  clear hm
  have HX := Lib.hid (Boxed.start w [.int .i64 b, .int .i64 p, .int .i64 n, .int .i64 j] 35)
  go_enter Tryz.func48, Tryz.ntmps48
  go_wp2_with (first
    | (go_at_call 77; refine (mayBe_is b p n j _ false hq.out).mono ?_; rintro e w1 ⟨rfl, hb1⟩
       have HY : Hid (Boxed w w1 [.int .i64 b, .int .i64 p, .int .i64 n, .int .i64 j]) := Lib.hid (by refine Boxed.go ?_ hb1; repeat (first | exact HY.out | exact HX.out | exact HY.out.drewN 1 | exact HX.out.drewN 1 | apply Boxed.alloc))
       obtain ⟨c0, c1, c2, c3⟩ := HY.out.four
       clear hb1))
  go_ret
  exact ⟨rfl, HY.out.below⟩
end
end Go.Proofs.YtmlgchmladkfpaaGreatDoor.GGeo2
/- The document's answers of a geometry. -/
namespace Go.Proofs.YtmlgchmladkfpaaGreatDoor.GRef
open Go.RowKit WMem GPlain GWithin GGeo

section
variable (b p n j : Int) (w : World)
end
end Go.Proofs.YtmlgchmladkfpaaGreatDoor.GRef
/- The document's answers of a geometry: each by one contract. -/
namespace Go.Proofs.YtmlgchmladkfpaaGreatDoor.GRef2
open Go.RowKit WMem GPlain GWithin GGeo GRef

section
variable (b p n j : Int) (w : World)
end
end Go.Proofs.YtmlgchmladkfpaaGreatDoor.GRef2
/- One contract for each face of a geometry, the program's and the document's; the document's examples. -/
namespace Go.Proofs.YtmlgchmladkfpaaGreatDoor.GFace
open Go.RowKit WMem GPlain GWithin GGeo GGeo2 GRef GRef2

section
variable (b p n j : Int) (w : World)
theorem Check_any  :
    Calls Tryz.prog 48 #[.agg #[.int .i64 b, .int .i64 p, .int .i64 n, .int .i64 j]] w fun e w' => e = .returned (.int .i64 (chk b p n j)) ∧ Below w.heap.size w w' := by
  cases h : mayB b p n j with
  | true => simp only [chk, h, if_true]; exact Check_yes b p n j w h
  | false => simp only [chk, h, Bool.false_eq_true, if_false]; exact Check_no b p n j w h
end
theorem aw_check (w : World) : Calls Tryz.prog 48 #[.agg #[.int .i64 300, .int .i64 200, .int .i64 16, .int .i64 96]] w fun e w' => e = .returned (.int .i64 0) ∧ Below w.heap.size w w' := by
  have h := Check_any 300 200 16 96 w
  rw [show chk 300 200 16 96 = 0 by decide] at h
  exact h
theorem aw_small (w : World) : Calls Tryz.prog 48 #[.agg #[.int .i64 300, .int .i64 108, .int .i64 16, .int .i64 96]] w fun e w' => e = .returned (.int .i64 22) ∧ Below w.heap.size w w' := by
  have h := Check_any 300 108 16 96 w
  rw [show chk 300 108 16 96 = 22 by decide] at h
  exact h
end Go.Proofs.YtmlgchmladkfpaaGreatDoor.GFace
