/- layout's functions of a geometry: which group's blocks lie where. -/
import Derived.Test.YtgjcbfdhpbkhoaaGreatDoorMg7
import Derived.RegionTactic
import Derived.BigRegion
import Derived.ChangeAlike
import Derived.Deep.QuietTactic
import Derived.BigQuiet
import Derived.Deep.RegionHeld3
namespace Go.Proofs.YtgjcbfdhpbkhoaaGreatDoor.GGeo
open Go.RowKit WMem GPlain GWithin
theorem below_box {w : World} (o : Obj) : Below w.heap.size w (w.alloc o) := (Below.refl _ _).alloc (Nat.le_refl _) _
theorem below_box_to {w w' : World} {o : Obj} (h : Below (w.alloc o).heap.size (w.alloc o) w') : Below w.heap.size w w' := (below_box o).trans (h.mono (by simp))
structure Boxed (a w : World) (vs : List Value) : Prop where
  below : Below a.heap.size a w
  lt : a.heap.size < w.heap.size
  cell : ∀ i v, vs[i]? = some v → w.cell? ⟨a.heap.size, i, none⟩ = some v
section
variable {a w w' : World} {vs : List Value}
theorem Boxed.start (w : World) (vs : List Value) (T : TypeId) : Boxed w (w.alloc (.cells vs.toArray T)) vs :=
  ⟨below_box _, by simp, fun i v h => by
    rw [row_cell (row_new w (.cells vs.toArray T)), List.getElem?_toArray]; exact h⟩
theorem Boxed.go (h : Boxed a w vs) (hb : Below w.heap.size w w') : Boxed a w' vs :=
  ⟨h.below.trans (hb.mono (by have := h.lt; omega)), by have := h.lt; have := hb.size; omega, fun i v hv => (hb.cell (p := ⟨a.heap.size, i, none⟩) h.lt).trans (h.cell i v hv)⟩
theorem Boxed.drewN (h : Boxed a w vs) (n : Nat) : Boxed a (w.drewN n) vs := h.go (below_drewN (Below.refl _ _) n)
theorem Boxed.alloc (h : Boxed a w vs) (o : Obj) : Boxed a (w.alloc o) vs := h.go (below_box o)
theorem Boxed.four {v0 v1 v2 v3 : Value} (h : Boxed a w [v0, v1, v2, v3]) : w.cell? ⟨a.heap.size, 0, none⟩ = some v0 ∧ w.cell? ⟨a.heap.size, 1, none⟩ = some v1 ∧ w.cell? ⟨a.heap.size, 2, none⟩ = some v2 ∧ w.cell? ⟨a.heap.size, 3, none⟩ = some v3 :=
  ⟨h.cell 0 _ rfl, h.cell 1 _ rfl, h.cell 2 _ rfl, h.cell 3 _ rfl⟩
end
section
variable (b p n j : Int) (w : World)
set_option maxHeartbeats 400000 in
theorem groups_any (hb0 : 128 ≤ b) (hb1 : b ≤ 4096) (hp0 : 32 ≤ p) (hp1 : p ≤ 2016) :
    Calls Tryz.prog 112 #[.agg #[.int .i64 b, .int .i64 p, .int .i64 n, .int .i64 j]] w fun e w' => e = .returned (.int .i64 (gN b p)) ∧ Below w.heap.size w w' := by
  go_enter Tryz.func112, Tryz.ntmps112
  go_wp2
  go_ret
  exact ⟨rfl, below_box _⟩
set_option maxHeartbeats 400000 in
theorem tableSize_any (hn0 : 8 ≤ n) (hn1 : n ≤ 512) :
    Calls Tryz.prog 153 #[.agg #[.int .i64 b, .int .i64 p, .int .i64 n, .int .i64 j]] w fun e w' => e = .returned (.int .i64 (n / 2)) ∧ Below w.heap.size w w' := by
  go_enter Tryz.func153, Tryz.ntmps153
  go_wp2
  go_ret
  exact ⟨rfl, below_box _⟩
set_option maxHeartbeats 400000 in
theorem base_any (k : Int) (hp0 : 32 ≤ p) (hp1 : p ≤ 2016) (hj0 : 96 ≤ j) (hj1 : j ≤ 512) (hk0 : 0 ≤ k) (hk1 : k ≤ 200) :
    Calls Tryz.prog 137 #[.agg #[.int .i64 b, .int .i64 p, .int .i64 n, .int .i64 j], .int .i64 k] w fun e w' => e = .returned (.int .i64 (baseI p j k)) ∧ Below w.heap.size w w' := by
  obtain ⟨m0, m1⟩ := mul_bd hk0 hk1 (show 0 ≤ p by omega) hp1
  by_cases hz : k = 0
  · subst hz
    rw [base_0]
    clear m0 m1
    go_enter Tryz.func137, Tryz.ntmps137
    go_wp2
    go_ret
    exact ⟨rfl, below_box _⟩
  · rw [base_up _ _ _ hz]
    have d0 : (k == 0) = false := by simpa using hz
    generalize hm : k * p = m at *
    clear hz
    go_enter Tryz.func137, Tryz.ntmps137
    go_wp2
    go_ret
    exact ⟨rfl, below_box _⟩
set_option maxHeartbeats 400000 in
theorem table_any (k : Int) (hp0 : 32 ≤ p) (hp1 : p ≤ 2016) (hj0 : 96 ≤ j) (hj1 : j ≤ 512) (hk0 : 0 ≤ k) (hk1 : k ≤ 200) :
    Calls Tryz.prog 132 #[.agg #[.int .i64 b, .int .i64 p, .int .i64 n, .int .i64 j], .int .i64 k] w fun e w' => e = .returned (.int .i64 (tableI p j k)) ∧ Below w.heap.size w w' := by
  obtain ⟨t0, t1⟩ := base_bd p j k hp0 hp1 hj0 hj1 hk0 hk1
  go_enter Tryz.func132, Tryz.ntmps132
  go_wp2_with (go_at_call 137; refine (base_any b p n j _ k hp0 hp1 hj0 hj1 hk0 hk1).mono ?_; rintro e w1 ⟨rfl, hb⟩)
  go_ret
  exact ⟨rfl, below_box_to hb⟩
set_option maxHeartbeats 400000 in
theorem data_any (k : Int) (hp0 : 32 ≤ p) (hp1 : p ≤ 2016) (hj0 : 96 ≤ j) (hj1 : j ≤ 512) (hk0 : 0 ≤ k) (hk1 : k ≤ 200) (hn0 : 8 ≤ n) (hn1 : n ≤ 512) :
    Calls Tryz.prog 135 #[.agg #[.int .i64 b, .int .i64 p, .int .i64 n, .int .i64 j], .int .i64 k] w fun e w' => e = .returned (.int .i64 (dataI p n j k)) ∧ Below w.heap.size w w' := by
  obtain ⟨t0, t1⟩ := table_bd p j k hp0 hp1 hj0 hj1 hk0 hk1
  have n0 : 0 ≤ n / 2 := by omega
  have n1 : n / 2 ≤ 256 := by omega
  have hs : IntKind.i64.wrap (tableI p j k + n / 2) = tableI p j k + n / 2 := IntWalk.i64_in _ (by omega)
  go_enter Tryz.func135, Tryz.ntmps135
  go_wp2
  have HX := Lib.hid (Boxed.start w [.int .i64 b, .int .i64 p, .int .i64 n, .int .i64 j] 63)
  go_region_held3 (fun w' => w'.cell? ⟨w.heap.size, 0, none⟩ = some (.int .i64 b) ∧ w'.cell? ⟨w.heap.size, 1, none⟩ = some (.int .i64 p) ∧ w'.cell? ⟨w.heap.size, 2, none⟩ = some (.int .i64 n) ∧ w'.cell? ⟨w.heap.size, 3, none⟩ = some (.int .i64 j)) (first | exact HY.out.four | exact HX.out.four | go_keep)
    ((first
      | (go_at_call 132; refine (table_any b p n j _ k hp0 hp1 hj0 hj1 hk0 hk1).mono ?_; rintro e w1 ⟨rfl, hb1⟩
         have HY : Hid (Boxed w w1 [.int .i64 b, .int .i64 p, .int .i64 n, .int .i64 j]) := Lib.hid (by refine Boxed.go ?_ hb1; repeat (first | exact HY.out | exact HX.out | exact HY.out.drewN 1 | exact HX.out.drewN 1 | apply Boxed.alloc))
         clear hb1)
      | (go_at_call 153; refine (tableSize_any b p n j _ hn0 hn1).mono ?_; rintro e w1 ⟨rfl, hb1⟩
         have HY : Hid (Boxed w w1 [.int .i64 b, .int .i64 p, .int .i64 n, .int .i64 j]) := Lib.hid (by refine Boxed.go ?_ hb1; repeat (first | exact HY.out | exact HX.out | exact HY.out.drewN 1 | exact HX.out.drewN 1 | apply Boxed.alloc))
         clear hb1)))
  go_wp2
  go_ret
  exact ⟨rfl, HY.out.below⟩
set_option maxHeartbeats 400000 in
theorem span_any (k : Int) (hb0 : 128 ≤ b) (hb1 : b ≤ 4096) (hp0 : 32 ≤ p) (hp1 : p ≤ 2016) (hk0 : 0 ≤ k) (hk1 : k ≤ 200) :
    Calls Tryz.prog 134 #[.agg #[.int .i64 b, .int .i64 p, .int .i64 n, .int .i64 j], .int .i64 k] w fun e w' => e = .returned (.tuple #[.int .i64 (k * p), .int .i64 (endI b p k)]) ∧ Below w.heap.size w w' := by
  obtain ⟨m0, m1⟩ := mul_bd hk0 hk1 (show 0 ≤ p by omega) hp1
  have hE := endI_if b p k
  generalize hm : k * p = m at *
  generalize endI b p k = q at *
  have HE := Lib.hid hE
  clear hE
  have hs : IntKind.i64.wrap (m + p) = m + p := IntWalk.i64_in _ (by omega)
  go_enter Tryz.func134, Tryz.ntmps134
  go_wp2
  go_region
  go_wp2
  all_goals
    have HQ := HE.out
    first | rw [if_pos (by omega)] at HQ | rw [if_neg (by omega)] at HQ
    subst HQ
    go_ret2
    exact ⟨rfl, (below_box _).trans (below_drewN (Below.refl _ _) 1)⟩
set_option maxHeartbeats 400000 in
theorem hasRoom_any (k : Int) (hb0 : 128 ≤ b) (hb1 : b ≤ 4096) (hp0 : 32 ≤ p) (hp1 : p ≤ 2016) (hk0 : 0 ≤ k) (hk1 : k ≤ 200) (hj0 : 96 ≤ j) (hj1 : j ≤ 512) (hn0 : 8 ≤ n) (hn1 : n ≤ 512) :
    Calls Tryz.prog 113 #[.agg #[.int .i64 b, .int .i64 p, .int .i64 n, .int .i64 j], .int .i64 k] w fun e w' => e = .returned (.bool (roomB b p n j k)) ∧ Below w.heap.size w w' := by
  obtain ⟨t0, t1⟩ := data_bd p n j k hp0 hp1 hj0 hj1 hk0 hk1 hn0 hn1
  obtain ⟨m0, m1⟩ := mul_bd hk0 hk1 (show 0 ≤ p by omega) hp1
  obtain ⟨e0, e1⟩ := endI_bd b p k hb0 hb1 m0 hp0
  have HX := Lib.hid (Boxed.start w [.int .i64 b, .int .i64 p, .int .i64 n, .int .i64 j] 63)
  go_enter Tryz.func113, Tryz.ntmps113
  go_wp2_with (first
      | (go_at_call 134; refine (span_any b p n j _ k hb0 hb1 hp0 hp1 hk0 hk1).mono ?_; rintro e w1 ⟨rfl, hb1⟩
         have HY : Hid (Boxed w w1 [.int .i64 b, .int .i64 p, .int .i64 n, .int .i64 j]) := Lib.hid (by refine Boxed.go ?_ hb1; repeat (first | exact HY.out | exact HX.out | exact HY.out.drewN 1 | exact HX.out.drewN 1 | apply Boxed.alloc))
         obtain ⟨c0, c1, c2, c3⟩ := HY.out.four
         clear hb1)
      | (go_at_call 135; refine (data_any b p n j _ k hp0 hp1 hj0 hj1 hk0 hk1 hn0 hn1).mono ?_; rintro e w1 ⟨rfl, hb1⟩
         have HY : Hid (Boxed w w1 [.int .i64 b, .int .i64 p, .int .i64 n, .int .i64 j]) := Lib.hid (by refine Boxed.go ?_ hb1; repeat (first | exact HY.out | exact HX.out | exact HY.out.drewN 1 | exact HX.out.drewN 1 | apply Boxed.alloc))
         clear hb1))
  go_ret
  exact ⟨rfl, HY.out.below⟩
end
set_option maxHeartbeats 400000 in
theorem mayBe_b (b p n j : Int) (w : World)  (h : inB 128 4096 b = false) :
    Calls Tryz.prog 83 #[.agg #[.int .i64 b, .int .i64 p, .int .i64 n, .int .i64 j]] w fun e w' => e = .returned (.bool false) ∧ Below w.heap.size w w' := by
  have HX := Lib.hid (Boxed.start w [.int .i64 b, .int .i64 p, .int .i64 n, .int .i64 j] 63)
  go_enter Tryz.func83, Tryz.ntmps83
  go_wp2_with (first
    | (go_at_call 111; (with_reducible refine (within_one 128 4096 b _ _ _ ?_).mono ?_); · simp [go_sem]
       rintro e w' ⟨rfl, rfl⟩)
    | (go_at_call 111; (with_reducible refine (within_one 32 2016 p _ _ _ ?_).mono ?_); · simp [go_sem]
       rintro e w' ⟨rfl, rfl⟩)
    | (go_at_call 111; (with_reducible refine (within_one 8 512 n _ _ _ ?_).mono ?_); · simp [go_sem]
       rintro e w' ⟨rfl, rfl⟩)
    | (go_at_call 111; (with_reducible refine (within_one 96 512 j _ _ _ ?_).mono ?_); · simp [go_sem]
       rintro e w' ⟨rfl, rfl⟩)
    | (go_at_call 112; refine (groups_any b p n j _ hb0 hb1 hp0 hp1).mono ?_; rintro e w1 ⟨rfl, hb1⟩
       have HY : Hid (Boxed w w1 [.int .i64 b, .int .i64 p, .int .i64 n, .int .i64 j]) := Lib.hid (by refine Boxed.go ?_ hb1; repeat (first | exact HY.out | exact HX.out | exact HY.out.drewN 1 | exact HX.out.drewN 1 | apply Boxed.alloc))
       obtain ⟨c0, c1, c2, c3⟩ := HY.out.four
       clear hb1)
    | (go_at_call 113; (with_reducible refine (hasRoom_any b p n j _ 0 hb0 hb1 hp0 hp1 (by omega) (by omega) hj0 hj1 hn0 hn1).mono ?_); rintro e w1 ⟨rfl, hb1⟩
       have HY : Hid (Boxed w w1 [.int .i64 b, .int .i64 p, .int .i64 n, .int .i64 j]) := Lib.hid (by refine Boxed.go ?_ hb1; repeat (first | exact HY.out | exact HX.out | exact HY.out.drewN 1 | exact HX.out.drewN 1 | apply Boxed.alloc))
       obtain ⟨c0, c1, c2, c3⟩ := HY.out.four
       clear hb1)
    | (go_at_call 113; (with_reducible refine (hasRoom_any b p n j _ (gN b p - 1) hb0 hb1 hp0 hp1 (by omega) (by omega) hj0 hj1 hn0 hn1).mono ?_); rintro e w1 ⟨rfl, hb1⟩
       have HY : Hid (Boxed w w1 [.int .i64 b, .int .i64 p, .int .i64 n, .int .i64 j]) := Lib.hid (by refine Boxed.go ?_ hb1; repeat (first | exact HY.out | exact HX.out | exact HY.out.drewN 1 | exact HX.out.drewN 1 | apply Boxed.alloc))
       obtain ⟨c0, c1, c2, c3⟩ := HY.out.four
       clear hb1))
  go_ret
  exact ⟨rfl, Boxed.below (by repeat (first | exact HY.out | exact HX.out | apply Boxed.alloc))⟩
set_option maxHeartbeats 400000 in
theorem mayBe_p (b p n j : Int) (w : World) (hb : inB 128 4096 b = true) (h : inB 32 2016 p = false) :
    Calls Tryz.prog 83 #[.agg #[.int .i64 b, .int .i64 p, .int .i64 n, .int .i64 j]] w fun e w' => e = .returned (.bool false) ∧ Below w.heap.size w w' := by
  obtain ⟨hb0, hb1⟩ := inB_true.1 hb
  have HX := Lib.hid (Boxed.start w [.int .i64 b, .int .i64 p, .int .i64 n, .int .i64 j] 63)
  go_enter Tryz.func83, Tryz.ntmps83
  go_wp2_with (first
    | (go_at_call 111; (with_reducible refine (within_one 128 4096 b _ _ _ ?_).mono ?_); · simp [go_sem]
       rintro e w' ⟨rfl, rfl⟩)
    | (go_at_call 111; (with_reducible refine (within_one 32 2016 p _ _ _ ?_).mono ?_); · simp [go_sem]
       rintro e w' ⟨rfl, rfl⟩)
    | (go_at_call 111; (with_reducible refine (within_one 8 512 n _ _ _ ?_).mono ?_); · simp [go_sem]
       rintro e w' ⟨rfl, rfl⟩)
    | (go_at_call 111; (with_reducible refine (within_one 96 512 j _ _ _ ?_).mono ?_); · simp [go_sem]
       rintro e w' ⟨rfl, rfl⟩)
    | (go_at_call 112; refine (groups_any b p n j _ hb0 hb1 hp0 hp1).mono ?_; rintro e w1 ⟨rfl, hb1⟩
       have HY : Hid (Boxed w w1 [.int .i64 b, .int .i64 p, .int .i64 n, .int .i64 j]) := Lib.hid (by refine Boxed.go ?_ hb1; repeat (first | exact HY.out | exact HX.out | exact HY.out.drewN 1 | exact HX.out.drewN 1 | apply Boxed.alloc))
       obtain ⟨c0, c1, c2, c3⟩ := HY.out.four
       clear hb1)
    | (go_at_call 113; (with_reducible refine (hasRoom_any b p n j _ 0 hb0 hb1 hp0 hp1 (by omega) (by omega) hj0 hj1 hn0 hn1).mono ?_); rintro e w1 ⟨rfl, hb1⟩
       have HY : Hid (Boxed w w1 [.int .i64 b, .int .i64 p, .int .i64 n, .int .i64 j]) := Lib.hid (by refine Boxed.go ?_ hb1; repeat (first | exact HY.out | exact HX.out | exact HY.out.drewN 1 | exact HX.out.drewN 1 | apply Boxed.alloc))
       obtain ⟨c0, c1, c2, c3⟩ := HY.out.four
       clear hb1)
    | (go_at_call 113; (with_reducible refine (hasRoom_any b p n j _ (gN b p - 1) hb0 hb1 hp0 hp1 (by omega) (by omega) hj0 hj1 hn0 hn1).mono ?_); rintro e w1 ⟨rfl, hb1⟩
       have HY : Hid (Boxed w w1 [.int .i64 b, .int .i64 p, .int .i64 n, .int .i64 j]) := Lib.hid (by refine Boxed.go ?_ hb1; repeat (first | exact HY.out | exact HX.out | exact HY.out.drewN 1 | exact HX.out.drewN 1 | apply Boxed.alloc))
       obtain ⟨c0, c1, c2, c3⟩ := HY.out.four
       clear hb1))
  go_ret
  exact ⟨rfl, Boxed.below (by repeat (first | exact HY.out | exact HX.out | apply Boxed.alloc))⟩
set_option maxHeartbeats 400000 in
theorem mayBe_n (b p n j : Int) (w : World) (hb : inB 128 4096 b = true) (hp : inB 32 2016 p = true) (h : inB 8 512 n = false) :
    Calls Tryz.prog 83 #[.agg #[.int .i64 b, .int .i64 p, .int .i64 n, .int .i64 j]] w fun e w' => e = .returned (.bool false) ∧ Below w.heap.size w w' := by
  obtain ⟨hb0, hb1⟩ := inB_true.1 hb
  obtain ⟨hp0, hp1⟩ := inB_true.1 hp
  have HX := Lib.hid (Boxed.start w [.int .i64 b, .int .i64 p, .int .i64 n, .int .i64 j] 63)
  go_enter Tryz.func83, Tryz.ntmps83
  go_wp2_with (first
    | (go_at_call 111; (with_reducible refine (within_one 128 4096 b _ _ _ ?_).mono ?_); · simp [go_sem]
       rintro e w' ⟨rfl, rfl⟩)
    | (go_at_call 111; (with_reducible refine (within_one 32 2016 p _ _ _ ?_).mono ?_); · simp [go_sem]
       rintro e w' ⟨rfl, rfl⟩)
    | (go_at_call 111; (with_reducible refine (within_one 8 512 n _ _ _ ?_).mono ?_); · simp [go_sem]
       rintro e w' ⟨rfl, rfl⟩)
    | (go_at_call 111; (with_reducible refine (within_one 96 512 j _ _ _ ?_).mono ?_); · simp [go_sem]
       rintro e w' ⟨rfl, rfl⟩)
    | (go_at_call 112; refine (groups_any b p n j _ hb0 hb1 hp0 hp1).mono ?_; rintro e w1 ⟨rfl, hb1⟩
       have HY : Hid (Boxed w w1 [.int .i64 b, .int .i64 p, .int .i64 n, .int .i64 j]) := Lib.hid (by refine Boxed.go ?_ hb1; repeat (first | exact HY.out | exact HX.out | exact HY.out.drewN 1 | exact HX.out.drewN 1 | apply Boxed.alloc))
       obtain ⟨c0, c1, c2, c3⟩ := HY.out.four
       clear hb1)
    | (go_at_call 113; (with_reducible refine (hasRoom_any b p n j _ 0 hb0 hb1 hp0 hp1 (by omega) (by omega) hj0 hj1 hn0 hn1).mono ?_); rintro e w1 ⟨rfl, hb1⟩
       have HY : Hid (Boxed w w1 [.int .i64 b, .int .i64 p, .int .i64 n, .int .i64 j]) := Lib.hid (by refine Boxed.go ?_ hb1; repeat (first | exact HY.out | exact HX.out | exact HY.out.drewN 1 | exact HX.out.drewN 1 | apply Boxed.alloc))
       obtain ⟨c0, c1, c2, c3⟩ := HY.out.four
       clear hb1)
    | (go_at_call 113; (with_reducible refine (hasRoom_any b p n j _ (gN b p - 1) hb0 hb1 hp0 hp1 (by omega) (by omega) hj0 hj1 hn0 hn1).mono ?_); rintro e w1 ⟨rfl, hb1⟩
       have HY : Hid (Boxed w w1 [.int .i64 b, .int .i64 p, .int .i64 n, .int .i64 j]) := Lib.hid (by refine Boxed.go ?_ hb1; repeat (first | exact HY.out | exact HX.out | exact HY.out.drewN 1 | exact HX.out.drewN 1 | apply Boxed.alloc))
       obtain ⟨c0, c1, c2, c3⟩ := HY.out.four
       clear hb1))
  go_ret
  exact ⟨rfl, Boxed.below (by repeat (first | exact HY.out | exact HX.out | apply Boxed.alloc))⟩
set_option maxHeartbeats 400000 in
theorem mayBe_e (b p n j : Int) (w : World) (hb : inB 128 4096 b = true) (hp : inB 32 2016 p = true) (hn : inB 8 512 n = true) (h : (n % 2 != 0) = true) :
    Calls Tryz.prog 83 #[.agg #[.int .i64 b, .int .i64 p, .int .i64 n, .int .i64 j]] w fun e w' => e = .returned (.bool false) ∧ Below w.heap.size w w' := by
  obtain ⟨hb0, hb1⟩ := inB_true.1 hb
  obtain ⟨hp0, hp1⟩ := inB_true.1 hp
  obtain ⟨hn0, hn1⟩ := inB_true.1 hn
  have HX := Lib.hid (Boxed.start w [.int .i64 b, .int .i64 p, .int .i64 n, .int .i64 j] 63)
  go_enter Tryz.func83, Tryz.ntmps83
  go_wp2_with (first
    | (go_at_call 111; (with_reducible refine (within_one 128 4096 b _ _ _ ?_).mono ?_); · simp [go_sem]
       rintro e w' ⟨rfl, rfl⟩)
    | (go_at_call 111; (with_reducible refine (within_one 32 2016 p _ _ _ ?_).mono ?_); · simp [go_sem]
       rintro e w' ⟨rfl, rfl⟩)
    | (go_at_call 111; (with_reducible refine (within_one 8 512 n _ _ _ ?_).mono ?_); · simp [go_sem]
       rintro e w' ⟨rfl, rfl⟩)
    | (go_at_call 111; (with_reducible refine (within_one 96 512 j _ _ _ ?_).mono ?_); · simp [go_sem]
       rintro e w' ⟨rfl, rfl⟩)
    | (go_at_call 112; refine (groups_any b p n j _ hb0 hb1 hp0 hp1).mono ?_; rintro e w1 ⟨rfl, hb1⟩
       have HY : Hid (Boxed w w1 [.int .i64 b, .int .i64 p, .int .i64 n, .int .i64 j]) := Lib.hid (by refine Boxed.go ?_ hb1; repeat (first | exact HY.out | exact HX.out | exact HY.out.drewN 1 | exact HX.out.drewN 1 | apply Boxed.alloc))
       obtain ⟨c0, c1, c2, c3⟩ := HY.out.four
       clear hb1)
    | (go_at_call 113; (with_reducible refine (hasRoom_any b p n j _ 0 hb0 hb1 hp0 hp1 (by omega) (by omega) hj0 hj1 hn0 hn1).mono ?_); rintro e w1 ⟨rfl, hb1⟩
       have HY : Hid (Boxed w w1 [.int .i64 b, .int .i64 p, .int .i64 n, .int .i64 j]) := Lib.hid (by refine Boxed.go ?_ hb1; repeat (first | exact HY.out | exact HX.out | exact HY.out.drewN 1 | exact HX.out.drewN 1 | apply Boxed.alloc))
       obtain ⟨c0, c1, c2, c3⟩ := HY.out.four
       clear hb1)
    | (go_at_call 113; (with_reducible refine (hasRoom_any b p n j _ (gN b p - 1) hb0 hb1 hp0 hp1 (by omega) (by omega) hj0 hj1 hn0 hn1).mono ?_); rintro e w1 ⟨rfl, hb1⟩
       have HY : Hid (Boxed w w1 [.int .i64 b, .int .i64 p, .int .i64 n, .int .i64 j]) := Lib.hid (by refine Boxed.go ?_ hb1; repeat (first | exact HY.out | exact HX.out | exact HY.out.drewN 1 | exact HX.out.drewN 1 | apply Boxed.alloc))
       obtain ⟨c0, c1, c2, c3⟩ := HY.out.four
       clear hb1))
  go_ret
  exact ⟨rfl, Boxed.below (by repeat (first | exact HY.out | exact HX.out | apply Boxed.alloc))⟩
set_option maxHeartbeats 400000 in
theorem mayBe_j (b p n j : Int) (w : World) (hb : inB 128 4096 b = true) (hp : inB 32 2016 p = true) (hn : inB 8 512 n = true) (h1 : (n % 2 != 0) = false) (h : inB 96 512 j = false) :
    Calls Tryz.prog 83 #[.agg #[.int .i64 b, .int .i64 p, .int .i64 n, .int .i64 j]] w fun e w' => e = .returned (.bool false) ∧ Below w.heap.size w w' := by
  obtain ⟨hb0, hb1⟩ := inB_true.1 hb
  obtain ⟨hp0, hp1⟩ := inB_true.1 hp
  obtain ⟨hn0, hn1⟩ := inB_true.1 hn
  have HX := Lib.hid (Boxed.start w [.int .i64 b, .int .i64 p, .int .i64 n, .int .i64 j] 63)
  go_enter Tryz.func83, Tryz.ntmps83
  go_wp2_with (first
    | (go_at_call 111; (with_reducible refine (within_one 128 4096 b _ _ _ ?_).mono ?_); · simp [go_sem]
       rintro e w' ⟨rfl, rfl⟩)
    | (go_at_call 111; (with_reducible refine (within_one 32 2016 p _ _ _ ?_).mono ?_); · simp [go_sem]
       rintro e w' ⟨rfl, rfl⟩)
    | (go_at_call 111; (with_reducible refine (within_one 8 512 n _ _ _ ?_).mono ?_); · simp [go_sem]
       rintro e w' ⟨rfl, rfl⟩)
    | (go_at_call 111; (with_reducible refine (within_one 96 512 j _ _ _ ?_).mono ?_); · simp [go_sem]
       rintro e w' ⟨rfl, rfl⟩)
    | (go_at_call 112; refine (groups_any b p n j _ hb0 hb1 hp0 hp1).mono ?_; rintro e w1 ⟨rfl, hb1⟩
       have HY : Hid (Boxed w w1 [.int .i64 b, .int .i64 p, .int .i64 n, .int .i64 j]) := Lib.hid (by refine Boxed.go ?_ hb1; repeat (first | exact HY.out | exact HX.out | exact HY.out.drewN 1 | exact HX.out.drewN 1 | apply Boxed.alloc))
       obtain ⟨c0, c1, c2, c3⟩ := HY.out.four
       clear hb1)
    | (go_at_call 113; (with_reducible refine (hasRoom_any b p n j _ 0 hb0 hb1 hp0 hp1 (by omega) (by omega) hj0 hj1 hn0 hn1).mono ?_); rintro e w1 ⟨rfl, hb1⟩
       have HY : Hid (Boxed w w1 [.int .i64 b, .int .i64 p, .int .i64 n, .int .i64 j]) := Lib.hid (by refine Boxed.go ?_ hb1; repeat (first | exact HY.out | exact HX.out | exact HY.out.drewN 1 | exact HX.out.drewN 1 | apply Boxed.alloc))
       obtain ⟨c0, c1, c2, c3⟩ := HY.out.four
       clear hb1)
    | (go_at_call 113; (with_reducible refine (hasRoom_any b p n j _ (gN b p - 1) hb0 hb1 hp0 hp1 (by omega) (by omega) hj0 hj1 hn0 hn1).mono ?_); rintro e w1 ⟨rfl, hb1⟩
       have HY : Hid (Boxed w w1 [.int .i64 b, .int .i64 p, .int .i64 n, .int .i64 j]) := Lib.hid (by refine Boxed.go ?_ hb1; repeat (first | exact HY.out | exact HX.out | exact HY.out.drewN 1 | exact HX.out.drewN 1 | apply Boxed.alloc))
       obtain ⟨c0, c1, c2, c3⟩ := HY.out.four
       clear hb1))
  go_ret
  exact ⟨rfl, Boxed.below (by repeat (first | exact HY.out | exact HX.out | apply Boxed.alloc))⟩
set_option maxHeartbeats 400000 in
theorem mayBe_g (b p n j : Int) (w : World) (hb : inB 128 4096 b = true) (hp : inB 32 2016 p = true) (hn : inB 8 512 n = true) (hj : inB 96 512 j = true) (h1 : (n % 2 != 0) = false) (h : decide (gN b p ≤ 14) = false) :
    Calls Tryz.prog 83 #[.agg #[.int .i64 b, .int .i64 p, .int .i64 n, .int .i64 j]] w fun e w' => e = .returned (.bool false) ∧ Below w.heap.size w w' := by
  obtain ⟨hb0, hb1⟩ := inB_true.1 hb
  obtain ⟨hp0, hp1⟩ := inB_true.1 hp
  obtain ⟨hn0, hn1⟩ := inB_true.1 hn
  obtain ⟨hj0, hj1⟩ := inB_true.1 hj
  obtain ⟨g0, g1⟩ := gN_bd hb0 hb1 hp0 hp1
  have HX := Lib.hid (Boxed.start w [.int .i64 b, .int .i64 p, .int .i64 n, .int .i64 j] 63)
  go_enter Tryz.func83, Tryz.ntmps83
  go_wp2_with (first
    | (go_at_call 111; (with_reducible refine (within_one 128 4096 b _ _ _ ?_).mono ?_); · simp [go_sem]
       rintro e w' ⟨rfl, rfl⟩)
    | (go_at_call 111; (with_reducible refine (within_one 32 2016 p _ _ _ ?_).mono ?_); · simp [go_sem]
       rintro e w' ⟨rfl, rfl⟩)
    | (go_at_call 111; (with_reducible refine (within_one 8 512 n _ _ _ ?_).mono ?_); · simp [go_sem]
       rintro e w' ⟨rfl, rfl⟩)
    | (go_at_call 111; (with_reducible refine (within_one 96 512 j _ _ _ ?_).mono ?_); · simp [go_sem]
       rintro e w' ⟨rfl, rfl⟩)
    | (go_at_call 112; refine (groups_any b p n j _ hb0 hb1 hp0 hp1).mono ?_; rintro e w1 ⟨rfl, hb1⟩
       have HY : Hid (Boxed w w1 [.int .i64 b, .int .i64 p, .int .i64 n, .int .i64 j]) := Lib.hid (by refine Boxed.go ?_ hb1; repeat (first | exact HY.out | exact HX.out | exact HY.out.drewN 1 | exact HX.out.drewN 1 | apply Boxed.alloc))
       obtain ⟨c0, c1, c2, c3⟩ := HY.out.four
       clear hb1)
    | (go_at_call 113; (with_reducible refine (hasRoom_any b p n j _ 0 hb0 hb1 hp0 hp1 (by omega) (by omega) hj0 hj1 hn0 hn1).mono ?_); rintro e w1 ⟨rfl, hb1⟩
       have HY : Hid (Boxed w w1 [.int .i64 b, .int .i64 p, .int .i64 n, .int .i64 j]) := Lib.hid (by refine Boxed.go ?_ hb1; repeat (first | exact HY.out | exact HX.out | exact HY.out.drewN 1 | exact HX.out.drewN 1 | apply Boxed.alloc))
       obtain ⟨c0, c1, c2, c3⟩ := HY.out.four
       clear hb1)
    | (go_at_call 113; (with_reducible refine (hasRoom_any b p n j _ (gN b p - 1) hb0 hb1 hp0 hp1 (by omega) (by omega) hj0 hj1 hn0 hn1).mono ?_); rintro e w1 ⟨rfl, hb1⟩
       have HY : Hid (Boxed w w1 [.int .i64 b, .int .i64 p, .int .i64 n, .int .i64 j]) := Lib.hid (by refine Boxed.go ?_ hb1; repeat (first | exact HY.out | exact HX.out | exact HY.out.drewN 1 | exact HX.out.drewN 1 | apply Boxed.alloc))
       obtain ⟨c0, c1, c2, c3⟩ := HY.out.four
       clear hb1))
  go_ret
  exact ⟨rfl, Boxed.below (by repeat (first | exact HY.out | exact HX.out | apply Boxed.alloc))⟩
set_option maxHeartbeats 400000 in
theorem mayBe_0 (b p n j : Int) (w : World) (hb : inB 128 4096 b = true) (hp : inB 32 2016 p = true) (hn : inB 8 512 n = true) (hj : inB 96 512 j = true) (h1 : (n % 2 != 0) = false) (h : decide (gN b p ≤ 14) = true) (h0 : roomB b p n j 0 = false) :
    Calls Tryz.prog 83 #[.agg #[.int .i64 b, .int .i64 p, .int .i64 n, .int .i64 j]] w fun e w' => e = .returned (.bool false) ∧ Below w.heap.size w w' := by
  obtain ⟨hb0, hb1⟩ := inB_true.1 hb
  obtain ⟨hp0, hp1⟩ := inB_true.1 hp
  obtain ⟨hn0, hn1⟩ := inB_true.1 hn
  obtain ⟨hj0, hj1⟩ := inB_true.1 hj
  obtain ⟨g0, g1⟩ := gN_bd hb0 hb1 hp0 hp1
  have HX := Lib.hid (Boxed.start w [.int .i64 b, .int .i64 p, .int .i64 n, .int .i64 j] 63)
  go_enter Tryz.func83, Tryz.ntmps83
  go_wp2_with (first
    | (go_at_call 111; (with_reducible refine (within_one 128 4096 b _ _ _ ?_).mono ?_); · simp [go_sem]
       rintro e w' ⟨rfl, rfl⟩)
    | (go_at_call 111; (with_reducible refine (within_one 32 2016 p _ _ _ ?_).mono ?_); · simp [go_sem]
       rintro e w' ⟨rfl, rfl⟩)
    | (go_at_call 111; (with_reducible refine (within_one 8 512 n _ _ _ ?_).mono ?_); · simp [go_sem]
       rintro e w' ⟨rfl, rfl⟩)
    | (go_at_call 111; (with_reducible refine (within_one 96 512 j _ _ _ ?_).mono ?_); · simp [go_sem]
       rintro e w' ⟨rfl, rfl⟩)
    | (go_at_call 112; refine (groups_any b p n j _ hb0 hb1 hp0 hp1).mono ?_; rintro e w1 ⟨rfl, hb1⟩
       have HY : Hid (Boxed w w1 [.int .i64 b, .int .i64 p, .int .i64 n, .int .i64 j]) := Lib.hid (by refine Boxed.go ?_ hb1; repeat (first | exact HY.out | exact HX.out | exact HY.out.drewN 1 | exact HX.out.drewN 1 | apply Boxed.alloc))
       obtain ⟨c0, c1, c2, c3⟩ := HY.out.four
       clear hb1)
    | (go_at_call 113; (with_reducible refine (hasRoom_any b p n j _ 0 hb0 hb1 hp0 hp1 (by omega) (by omega) hj0 hj1 hn0 hn1).mono ?_); rintro e w1 ⟨rfl, hb1⟩
       have HY : Hid (Boxed w w1 [.int .i64 b, .int .i64 p, .int .i64 n, .int .i64 j]) := Lib.hid (by refine Boxed.go ?_ hb1; repeat (first | exact HY.out | exact HX.out | exact HY.out.drewN 1 | exact HX.out.drewN 1 | apply Boxed.alloc))
       obtain ⟨c0, c1, c2, c3⟩ := HY.out.four
       clear hb1)
    | (go_at_call 113; (with_reducible refine (hasRoom_any b p n j _ (gN b p - 1) hb0 hb1 hp0 hp1 (by omega) (by omega) hj0 hj1 hn0 hn1).mono ?_); rintro e w1 ⟨rfl, hb1⟩
       have HY : Hid (Boxed w w1 [.int .i64 b, .int .i64 p, .int .i64 n, .int .i64 j]) := Lib.hid (by refine Boxed.go ?_ hb1; repeat (first | exact HY.out | exact HX.out | exact HY.out.drewN 1 | exact HX.out.drewN 1 | apply Boxed.alloc))
       obtain ⟨c0, c1, c2, c3⟩ := HY.out.four
       clear hb1))
  go_ret
  exact ⟨rfl, Boxed.below (by repeat (first | exact HY.out | exact HX.out | apply Boxed.alloc))⟩
set_option maxHeartbeats 400000 in
theorem mayBe_l (b p n j : Int) (w : World) (hb : inB 128 4096 b = true) (hp : inB 32 2016 p = true) (hn : inB 8 512 n = true) (hj : inB 96 512 j = true) (h1 : (n % 2 != 0) = false) (h : decide (gN b p ≤ 14) = true) (h0 : roomB b p n j 0 = true) :
    Calls Tryz.prog 83 #[.agg #[.int .i64 b, .int .i64 p, .int .i64 n, .int .i64 j]] w fun e w' => e = .returned (.bool (roomB b p n j (gN b p - 1))) ∧ Below w.heap.size w w' := by
  obtain ⟨hb0, hb1⟩ := inB_true.1 hb
  obtain ⟨hp0, hp1⟩ := inB_true.1 hp
  obtain ⟨hn0, hn1⟩ := inB_true.1 hn
  obtain ⟨hj0, hj1⟩ := inB_true.1 hj
  obtain ⟨g0, g1⟩ := gN_bd hb0 hb1 hp0 hp1
  have HX := Lib.hid (Boxed.start w [.int .i64 b, .int .i64 p, .int .i64 n, .int .i64 j] 63)
  go_enter Tryz.func83, Tryz.ntmps83
  go_wp2_with (first
    | (go_at_call 111; (with_reducible refine (within_one 128 4096 b _ _ _ ?_).mono ?_); · simp [go_sem]
       rintro e w' ⟨rfl, rfl⟩)
    | (go_at_call 111; (with_reducible refine (within_one 32 2016 p _ _ _ ?_).mono ?_); · simp [go_sem]
       rintro e w' ⟨rfl, rfl⟩)
    | (go_at_call 111; (with_reducible refine (within_one 8 512 n _ _ _ ?_).mono ?_); · simp [go_sem]
       rintro e w' ⟨rfl, rfl⟩)
    | (go_at_call 111; (with_reducible refine (within_one 96 512 j _ _ _ ?_).mono ?_); · simp [go_sem]
       rintro e w' ⟨rfl, rfl⟩)
    | (go_at_call 112; refine (groups_any b p n j _ hb0 hb1 hp0 hp1).mono ?_; rintro e w1 ⟨rfl, hb1⟩
       have HY : Hid (Boxed w w1 [.int .i64 b, .int .i64 p, .int .i64 n, .int .i64 j]) := Lib.hid (by refine Boxed.go ?_ hb1; repeat (first | exact HY.out | exact HX.out | exact HY.out.drewN 1 | exact HX.out.drewN 1 | apply Boxed.alloc))
       obtain ⟨c0, c1, c2, c3⟩ := HY.out.four
       clear hb1)
    | (go_at_call 113; (with_reducible refine (hasRoom_any b p n j _ 0 hb0 hb1 hp0 hp1 (by omega) (by omega) hj0 hj1 hn0 hn1).mono ?_); rintro e w1 ⟨rfl, hb1⟩
       have HY : Hid (Boxed w w1 [.int .i64 b, .int .i64 p, .int .i64 n, .int .i64 j]) := Lib.hid (by refine Boxed.go ?_ hb1; repeat (first | exact HY.out | exact HX.out | exact HY.out.drewN 1 | exact HX.out.drewN 1 | apply Boxed.alloc))
       obtain ⟨c0, c1, c2, c3⟩ := HY.out.four
       clear hb1)
    | (go_at_call 113; (with_reducible refine (hasRoom_any b p n j _ (gN b p - 1) hb0 hb1 hp0 hp1 (by omega) (by omega) hj0 hj1 hn0 hn1).mono ?_); rintro e w1 ⟨rfl, hb1⟩
       have HY : Hid (Boxed w w1 [.int .i64 b, .int .i64 p, .int .i64 n, .int .i64 j]) := Lib.hid (by refine Boxed.go ?_ hb1; repeat (first | exact HY.out | exact HX.out | exact HY.out.drewN 1 | exact HX.out.drewN 1 | apply Boxed.alloc))
       obtain ⟨c0, c1, c2, c3⟩ := HY.out.four
       clear hb1))
  go_ret
  exact ⟨rfl, Boxed.below (by repeat (first | exact HY.out | exact HX.out | apply Boxed.alloc))⟩
end Go.Proofs.YtgjcbfdhpbkhoaaGreatDoor.GGeo
/- layout's faces of a geometry. -/
namespace Go.Proofs.YtgjcbfdhpbkhoaaGreatDoor.GGeo2
open Go.RowKit WMem GPlain GWithin GGeo
section
variable (b p n j : Int) (w : World)
theorem mayBe_any :
    Calls Tryz.prog 83 #[.agg #[.int .i64 b, .int .i64 p, .int .i64 n, .int .i64 j]] w fun e w' => e = .returned (.bool (mayB b p n j)) ∧ Below w.heap.size w w' := by
  cases h1 : inB 128 4096 b with
  | false => rw [show mayB b p n j = false by simp [mayB, numsB, h1]]; exact mayBe_b b p n j w h1
  | true =>
    cases h2 : inB 32 2016 p with
    | false => rw [show mayB b p n j = false by simp [mayB, numsB, h1, h2]]; exact mayBe_p b p n j w h1 h2
    | true =>
      cases h3 : inB 8 512 n with
      | false => rw [show mayB b p n j = false by simp [mayB, numsB, h1, h2, h3]]; exact mayBe_n b p n j w h1 h2 h3
      | true =>
        cases h4 : (n % 2 == 0) with
        | false => rw [show mayB b p n j = false by simp only [mayB, numsB, h1, h2, h3, h4]; rfl]; exact mayBe_e b p n j w h1 h2 h3 (by simpa using h4)
        | true =>
          cases h5 : inB 96 512 j with
          | false => rw [show mayB b p n j = false by simp only [mayB, numsB, h1, h2, h3, h4, h5]; rfl]; exact mayBe_j b p n j w h1 h2 h3 (by simpa using h4) h5
          | true =>
            have hs : numsB b p n j = true := by simp only [numsB, h1, h2, h3, h4, h5]; rfl
            cases h6 : decide (gN b p ≤ 14) with
            | false => rw [show mayB b p n j = false by simp only [mayB, hs, h6]; rfl]; exact mayBe_g b p n j w h1 h2 h3 h5 (by simpa using h4) h6
            | true =>
              cases h7 : roomB b p n j 0 with
              | false => rw [show mayB b p n j = false by simp only [mayB, hs, h6, h7]; rfl]; exact mayBe_0 b p n j w h1 h2 h3 h5 (by simpa using h4) h6 h7
              | true => rw [show mayB b p n j = roomB b p n j (gN b p - 1) by simp only [mayB, hs, h6, h7]; rfl]; exact mayBe_l b p n j w h1 h2 h3 h5 (by simpa using h4) h6 h7
theorem mayBe_is (q : Bool) (hq : mayB b p n j = q) :
    Calls Tryz.prog 83 #[.agg #[.int .i64 b, .int .i64 p, .int .i64 n, .int .i64 j]] w fun e w' => e = .returned (.bool q) ∧ Below w.heap.size w w' := by
  subst hq
  exact mayBe_any b p n j w
set_option maxHeartbeats 400000 in
theorem Check_yes (hm : mayB b p n j = true) :
    Calls Tryz.prog 53 #[.agg #[.int .i64 b, .int .i64 p, .int .i64 n, .int .i64 j]] w fun e w' => e = .returned (.int .i64 0) ∧ Below w.heap.size w w' := by
  have hq := Lib.hid hm
  clear hm
  have HX := Lib.hid (Boxed.start w [.int .i64 b, .int .i64 p, .int .i64 n, .int .i64 j] 63)
  go_enter Tryz.func53, Tryz.ntmps53
  go_wp2_with (first
    | (go_at_call 83; refine (mayBe_is b p n j _ true hq.out).mono ?_; rintro e w1 ⟨rfl, hb1⟩
       have HY : Hid (Boxed w w1 [.int .i64 b, .int .i64 p, .int .i64 n, .int .i64 j]) := Lib.hid (by refine Boxed.go ?_ hb1; repeat (first | exact HY.out | exact HX.out | exact HY.out.drewN 1 | exact HX.out.drewN 1 | apply Boxed.alloc))
       obtain ⟨c0, c1, c2, c3⟩ := HY.out.four
       clear hb1))
  go_ret
  exact ⟨rfl, HY.out.below⟩
set_option maxHeartbeats 400000 in
theorem Check_no (hm : mayB b p n j = false) :
    Calls Tryz.prog 53 #[.agg #[.int .i64 b, .int .i64 p, .int .i64 n, .int .i64 j]] w fun e w' => e = .returned (.int .i64 22) ∧ Below w.heap.size w w' := by
  have hq := Lib.hid hm
  clear hm
  have HX := Lib.hid (Boxed.start w [.int .i64 b, .int .i64 p, .int .i64 n, .int .i64 j] 63)
  go_enter Tryz.func53, Tryz.ntmps53
  go_wp2_with (first
    | (go_at_call 83; refine (mayBe_is b p n j _ false hq.out).mono ?_; rintro e w1 ⟨rfl, hb1⟩
       have HY : Hid (Boxed w w1 [.int .i64 b, .int .i64 p, .int .i64 n, .int .i64 j]) := Lib.hid (by refine Boxed.go ?_ hb1; repeat (first | exact HY.out | exact HX.out | exact HY.out.drewN 1 | exact HX.out.drewN 1 | apply Boxed.alloc))
       obtain ⟨c0, c1, c2, c3⟩ := HY.out.four
       clear hb1))
  go_ret
  exact ⟨rfl, HY.out.below⟩
set_option maxHeartbeats 400000 in
theorem Groups_yes (hm : mayB b p n j = true) :
    Calls Tryz.prog 84 #[.agg #[.int .i64 b, .int .i64 p, .int .i64 n, .int .i64 j]] w fun e w' => e = .returned (.int .i64 (gN b p)) ∧ Below w.heap.size w w' := by
  obtain ⟨hb0, hb1, hp0, hp1, hn0, hn1, hev, hj0, hj1, hg0, hg1, hlo, hhi, hf, hl⟩ := may_iff.1 hm
  clear hl hf hlo hhi hev
  have hq := Lib.hid hm
  clear hm
  have HX := Lib.hid (Boxed.start w [.int .i64 b, .int .i64 p, .int .i64 n, .int .i64 j] 63)
  go_enter Tryz.func84, Tryz.ntmps84
  go_wp2_with (first
    | (go_at_call 83; refine (mayBe_is b p n j _ true hq.out).mono ?_; rintro e w1 ⟨rfl, hb1⟩
       have HY : Hid (Boxed w w1 [.int .i64 b, .int .i64 p, .int .i64 n, .int .i64 j]) := Lib.hid (by refine Boxed.go ?_ hb1; repeat (first | exact HY.out | exact HX.out | exact HY.out.drewN 1 | exact HX.out.drewN 1 | apply Boxed.alloc))
       obtain ⟨c0, c1, c2, c3⟩ := HY.out.four
       clear hb1)
    | (go_at_call 112; refine (groups_any b p n j _ hb0 hb1 hp0 hp1).mono ?_; rintro e w1 ⟨rfl, hb1⟩
       have HY : Hid (Boxed w w1 [.int .i64 b, .int .i64 p, .int .i64 n, .int .i64 j]) := Lib.hid (by refine Boxed.go ?_ hb1; repeat (first | exact HY.out | exact HX.out | exact HY.out.drewN 1 | exact HX.out.drewN 1 | apply Boxed.alloc))
       obtain ⟨c0, c1, c2, c3⟩ := HY.out.four
       clear hb1))
  go_ret
  exact ⟨rfl, HY.out.below⟩
set_option maxHeartbeats 400000 in
theorem Groups_no (hm : mayB b p n j = false) :
    Calls Tryz.prog 84 #[.agg #[.int .i64 b, .int .i64 p, .int .i64 n, .int .i64 j]] w fun e w' => e = .returned (.int .i64 0) ∧ Below w.heap.size w w' := by
  have hq := Lib.hid hm
  clear hm
  have HX := Lib.hid (Boxed.start w [.int .i64 b, .int .i64 p, .int .i64 n, .int .i64 j] 63)
  go_enter Tryz.func84, Tryz.ntmps84
  go_wp2_with (first
    | (go_at_call 83; refine (mayBe_is b p n j _ false hq.out).mono ?_; rintro e w1 ⟨rfl, hb1⟩
       have HY : Hid (Boxed w w1 [.int .i64 b, .int .i64 p, .int .i64 n, .int .i64 j]) := Lib.hid (by refine Boxed.go ?_ hb1; repeat (first | exact HY.out | exact HX.out | exact HY.out.drewN 1 | exact HX.out.drewN 1 | apply Boxed.alloc))
       obtain ⟨c0, c1, c2, c3⟩ := HY.out.four
       clear hb1))
  go_ret
  exact ⟨rfl, HY.out.below⟩
set_option maxHeartbeats 400000 in
theorem Groups_any  :
    Calls Tryz.prog 84 #[.agg #[.int .i64 b, .int .i64 p, .int .i64 n, .int .i64 j]] w fun e w' => e = .returned (.int .i64 (groupsI b p n j)) ∧ Below w.heap.size w w' := by
  cases hm : mayB b p n j with
  | true => rw [groupsI_yes hm]; exact Groups_yes b p n j w hm
  | false => rw [groupsI_no hm]; exact Groups_no b p n j w hm
set_option maxHeartbeats 400000 in
theorem hasGroup_any (k : Int) :
    Calls Tryz.prog 136 #[.agg #[.int .i64 b, .int .i64 p, .int .i64 n, .int .i64 j], .int .i64 k] w fun e w' => e = .returned (.bool (hasB b p n j k)) ∧ Below w.heap.size w w' := by
  obtain ⟨g0, g1⟩ := groupsI_bd b p n j
  unfold hasB
  have HX := Lib.hid (Boxed.start w [.int .i64 b, .int .i64 p, .int .i64 n, .int .i64 j] 63)
  go_enter Tryz.func136, Tryz.ntmps136
  go_wp2_with (first
    | (go_at_call 84; refine (Groups_any b p n j _).mono ?_; rintro e w1 ⟨rfl, hb1⟩
       have HY : Hid (Boxed w w1 [.int .i64 b, .int .i64 p, .int .i64 n, .int .i64 j]) := Lib.hid (by refine Boxed.go ?_ hb1; repeat (first | exact HY.out | exact HX.out | exact HY.out.drewN 1 | exact HX.out.drewN 1 | apply Boxed.alloc))
       obtain ⟨c0, c1, c2, c3⟩ := HY.out.four
       clear hb1)
    | (go_at_call 111; (with_reducible refine (within_one 0 (groupsI b p n j - 1) k _ _ _ ?_).mono ?_); · simp [go_sem]
       rintro e w' ⟨rfl, rfl⟩))
  go_ret
  exact ⟨rfl, Boxed.below (by repeat (first | exact HY.out | exact HX.out | apply Boxed.alloc))⟩
set_option maxHeartbeats 400000 in
theorem hasGroup_is (k : Int) (q : Bool) (hq : hasB b p n j k = q) :
    Calls Tryz.prog 136 #[.agg #[.int .i64 b, .int .i64 p, .int .i64 n, .int .i64 j], .int .i64 k] w fun e w' => e = .returned (.bool q) ∧ Below w.heap.size w w' := by
  subst hq
  exact hasGroup_any b p n j w k
set_option maxHeartbeats 400000 in
theorem Span_yes (k : Int) (hh : hasB b p n j k = true) :
    Calls Tryz.prog 114 #[.agg #[.int .i64 b, .int .i64 p, .int .i64 n, .int .i64 j], .int .i64 k] w fun e w' => e = .returned (.tuple #[.int .i64 (k * p), .int .i64 (endI b p k), .int .i64 0]) ∧ Below w.heap.size w w' := by
  obtain ⟨hm, hk0, hk1, hk2⟩ := has_may hh
  have hk3 : k ≤ 200 := by omega
  obtain ⟨hb0, hb1, hp0, hp1, hn0, hn1, hev, hj0, hj1, hg0, hg1, hlo, hhi, hf, hl⟩ := may_iff.1 hm
  clear hl hf hlo hhi hev hk2 hk1 hg0 hg1 hm
  have hq := Lib.hid hh
  clear hh
  have HX := Lib.hid (Boxed.start w [.int .i64 b, .int .i64 p, .int .i64 n, .int .i64 j] 63)
  go_enter Tryz.func114, Tryz.ntmps114
  go_wp2_with (first
    | (go_at_call 136; refine (hasGroup_is b p n j _ k true hq.out).mono ?_; rintro e w1 ⟨rfl, hb1⟩
       have HY : Hid (Boxed w w1 [.int .i64 b, .int .i64 p, .int .i64 n, .int .i64 j]) := Lib.hid (by refine Boxed.go ?_ hb1; repeat (first | exact HY.out | exact HX.out | exact HY.out.drewN 1 | exact HX.out.drewN 1 | apply Boxed.alloc))
       obtain ⟨c0, c1, c2, c3⟩ := HY.out.four
       clear hb1)
    | (go_at_call 134; refine (span_any b p n j _ k hb0 hb1 hp0 hp1 hk0 hk3).mono ?_; rintro e w1 ⟨rfl, hb1⟩
       have HY : Hid (Boxed w w1 [.int .i64 b, .int .i64 p, .int .i64 n, .int .i64 j]) := Lib.hid (by refine Boxed.go ?_ hb1; repeat (first | exact HY.out | exact HX.out | exact HY.out.drewN 1 | exact HX.out.drewN 1 | apply Boxed.alloc))
       obtain ⟨c0, c1, c2, c3⟩ := HY.out.four
       clear hb1))
  go_ret3
  exact ⟨rfl, HY.out.below⟩
set_option maxHeartbeats 400000 in
theorem Span_no (k : Int) (hh : hasB b p n j k = false) :
    Calls Tryz.prog 114 #[.agg #[.int .i64 b, .int .i64 p, .int .i64 n, .int .i64 j], .int .i64 k] w fun e w' => e = .returned (.tuple #[.int .i64 0, .int .i64 0, .int .i64 22]) ∧ Below w.heap.size w w' := by
  have hq := Lib.hid hh
  clear hh
  have HX := Lib.hid (Boxed.start w [.int .i64 b, .int .i64 p, .int .i64 n, .int .i64 j] 63)
  go_enter Tryz.func114, Tryz.ntmps114
  go_wp2_with (first
    | (go_at_call 136; refine (hasGroup_is b p n j _ k false hq.out).mono ?_; rintro e w1 ⟨rfl, hb1⟩
       have HY : Hid (Boxed w w1 [.int .i64 b, .int .i64 p, .int .i64 n, .int .i64 j]) := Lib.hid (by refine Boxed.go ?_ hb1; repeat (first | exact HY.out | exact HX.out | exact HY.out.drewN 1 | exact HX.out.drewN 1 | apply Boxed.alloc))
       obtain ⟨c0, c1, c2, c3⟩ := HY.out.four
       clear hb1))
  go_ret3
  exact ⟨rfl, HY.out.below⟩
set_option maxHeartbeats 400000 in
theorem Place_no (k : Int) (hh : hasB b p n j k = false) :
    Calls Tryz.prog 115 #[.agg #[.int .i64 b, .int .i64 p, .int .i64 n, .int .i64 j], .int .i64 k] w fun e w' => e = .returned (.tuple #[.int .i64 0, .int .i64 0, .int .i64 0, .int .i64 0, .int .i64 22]) ∧ Below w.heap.size w w' := by
  have hq := Lib.hid hh
  clear hh
  have HX := Lib.hid (Boxed.start w [.int .i64 b, .int .i64 p, .int .i64 n, .int .i64 j] 63)
  go_enter Tryz.func115, Tryz.ntmps115
  go_wp2_with (first
    | (go_at_call 136; refine (hasGroup_is b p n j _ k false hq.out).mono ?_; rintro e w1 ⟨rfl, hb1⟩
       have HY : Hid (Boxed w w1 [.int .i64 b, .int .i64 p, .int .i64 n, .int .i64 j]) := Lib.hid (by refine Boxed.go ?_ hb1; repeat (first | exact HY.out | exact HX.out | exact HY.out.drewN 1 | exact HX.out.drewN 1 | apply Boxed.alloc))
       obtain ⟨c0, c1, c2, c3⟩ := HY.out.four
       clear hb1))
  exact bodyPost_ret (v := .tuple #[.int .i64 0, .int .i64 0, .int .i64 0, .int .i64 0, .int .i64 22]) (by simp [results, Tryz.results115, go_sem]) rfl ⟨rfl, HY.out.below⟩
set_option maxHeartbeats 400000 in
theorem Place_yes (k : Int) (hh : hasB b p n j k = true) :
    Calls Tryz.prog 115 #[.agg #[.int .i64 b, .int .i64 p, .int .i64 n, .int .i64 j], .int .i64 k] w fun e w' => e = .returned (.tuple #[.int .i64 (baseI p j k), .int .i64 (baseI p j k + 1), .int .i64 (tableI p j k), .int .i64 (dataI p n j k), .int .i64 0]) ∧ Below w.heap.size w w' := by
  obtain ⟨hm, hk0, hk1, hk2⟩ := has_may hh
  have hk3 : k ≤ 200 := by omega
  obtain ⟨hb0, hb1, hp0, hp1, hn0, hn1, hev, hj0, hj1, hg0, hg1, hlo, hhi, hf, hl⟩ := may_iff.1 hm
  clear hl hf hlo hhi hev hk2 hk1 hg0 hg1 hm
  have hq := Lib.hid hh
  clear hh
  obtain ⟨t0, t1⟩ := base_bd p j k hp0 hp1 hj0 hj1 hk0 hk3
  have hs : IntKind.i64.wrap (baseI p j k + 1) = baseI p j k + 1 := IntWalk.i64_in _ (by omega)
  have HX := Lib.hid (Boxed.start w [.int .i64 b, .int .i64 p, .int .i64 n, .int .i64 j] 63)
  go_enter Tryz.func115, Tryz.ntmps115
  go_wp2_with (first
    | (go_at_call 136; refine (hasGroup_is b p n j _ k true hq.out).mono ?_; rintro e w1 ⟨rfl, hb1⟩
       have HY : Hid (Boxed w w1 [.int .i64 b, .int .i64 p, .int .i64 n, .int .i64 j]) := Lib.hid (by refine Boxed.go ?_ hb1; repeat (first | exact HY.out | exact HX.out | exact HY.out.drewN 1 | exact HX.out.drewN 1 | apply Boxed.alloc))
       obtain ⟨c0, c1, c2, c3⟩ := HY.out.four
       clear hb1)
    | (go_at_call 137; refine (base_any b p n j _ k hp0 hp1 hj0 hj1 hk0 hk3).mono ?_; rintro e w1 ⟨rfl, hb1⟩
       have HY : Hid (Boxed w w1 [.int .i64 b, .int .i64 p, .int .i64 n, .int .i64 j]) := Lib.hid (by refine Boxed.go ?_ hb1; repeat (first | exact HY.out | exact HX.out | exact HY.out.drewN 1 | exact HX.out.drewN 1 | apply Boxed.alloc))
       obtain ⟨c0, c1, c2, c3⟩ := HY.out.four
       clear hb1))
  go_region_held3 (fun w' => w'.cell? ⟨w.heap.size, 0, none⟩ = some (.int .i64 b) ∧ w'.cell? ⟨w.heap.size, 1, none⟩ = some (.int .i64 p) ∧ w'.cell? ⟨w.heap.size, 2, none⟩ = some (.int .i64 n) ∧ w'.cell? ⟨w.heap.size, 3, none⟩ = some (.int .i64 j)) (first | exact HY.out.four | exact HX.out.four | go_keep)
    ((first
      | (go_at_call 132; refine (table_any b p n j _ k hp0 hp1 hj0 hj1 hk0 hk3).mono ?_; rintro e w1 ⟨rfl, hb1⟩
         have HY : Hid (Boxed w w1 [.int .i64 b, .int .i64 p, .int .i64 n, .int .i64 j]) := Lib.hid (by refine Boxed.go ?_ hb1; repeat (first | exact HY.out | exact HX.out | exact HY.out.drewN 1 | exact HX.out.drewN 1 | apply Boxed.alloc))
         clear hb1)
      | (go_at_call 135; refine (data_any b p n j _ k hp0 hp1 hj0 hj1 hk0 hk3 hn0 hn1).mono ?_; rintro e w1 ⟨rfl, hb1⟩
         have HY : Hid (Boxed w w1 [.int .i64 b, .int .i64 p, .int .i64 n, .int .i64 j]) := Lib.hid (by refine Boxed.go ?_ hb1; repeat (first | exact HY.out | exact HX.out | exact HY.out.drewN 1 | exact HX.out.drewN 1 | apply Boxed.alloc))
         clear hb1)))
  go_wp2
  exact bodyPost_ret (v := .tuple #[.int .i64 (baseI p j k), .int .i64 (baseI p j k + 1), .int .i64 (tableI p j k), .int .i64 (dataI p n j k), .int .i64 0]) (by simp [results, Tryz.results115, go_sem]) rfl ⟨rfl, HY.out.below⟩
set_option maxHeartbeats 400000 in
theorem Fixed_no (hm : mayB b p n j = false) :
    Calls Tryz.prog 157 #[.agg #[.int .i64 b, .int .i64 p, .int .i64 n, .int .i64 j]] w fun e w' => e = .returned (.int .i64 0) ∧ Below w.heap.size w w' := by
  have hq := Lib.hid hm
  clear hm
  have HX := Lib.hid (Boxed.start w [.int .i64 b, .int .i64 p, .int .i64 n, .int .i64 j] 63)
  go_enter Tryz.func157, Tryz.ntmps157
  go_wp2_with (first
    | (go_at_call 83; refine (mayBe_is b p n j _ false hq.out).mono ?_; rintro e w1 ⟨rfl, hb1⟩
       have HY : Hid (Boxed w w1 [.int .i64 b, .int .i64 p, .int .i64 n, .int .i64 j]) := Lib.hid (by refine Boxed.go ?_ hb1; repeat (first | exact HY.out | exact HX.out | exact HY.out.drewN 1 | exact HX.out.drewN 1 | apply Boxed.alloc))
       obtain ⟨c0, c1, c2, c3⟩ := HY.out.four
       clear hb1))
  go_ret
  exact ⟨rfl, HY.out.below⟩
set_option maxHeartbeats 400000 in
theorem Fixed_yes (hm : mayB b p n j = true) :
    Calls Tryz.prog 157 #[.agg #[.int .i64 b, .int .i64 p, .int .i64 n, .int .i64 j]] w fun e w' => e = .returned (.int .i64 (2 + j + gN b p * (2 + n / 2))) ∧ Below w.heap.size w w' := by
  obtain ⟨hb0, hb1, hp0, hp1, hn0, hn1, hev, hj0, hj1, hg0, hg1, hlo, hhi, hf, hl⟩ := may_iff.1 hm
  clear hl hf hlo hhi hev
  have hq := Lib.hid hm
  clear hm
  obtain ⟨t0, t1⟩ := prod2_bd (by omega) hg1 hn0 hn1
  have s1 : IntKind.i64.wrap (2 + j) = 2 + j := IntWalk.i64_in _ (by omega)
  have s2 : IntKind.i64.wrap (2 + n / 2) = 2 + n / 2 := IntWalk.i64_in _ (by omega)
  have s3 : IntKind.i64.wrap (gN b p * (2 + n / 2)) = gN b p * (2 + n / 2) := IntWalk.i64_in _ (by omega)
  have s4 : IntKind.i64.wrap (2 + j + gN b p * (2 + n / 2)) = 2 + j + gN b p * (2 + n / 2) := IntWalk.i64_in _ (by omega)
  have HX := Lib.hid (Boxed.start w [.int .i64 b, .int .i64 p, .int .i64 n, .int .i64 j] 63)
  go_enter Tryz.func157, Tryz.ntmps157
  go_wp2_with (first
    | (go_at_call 83; refine (mayBe_is b p n j _ true hq.out).mono ?_; rintro e w1 ⟨rfl, hb1⟩
       have HY : Hid (Boxed w w1 [.int .i64 b, .int .i64 p, .int .i64 n, .int .i64 j]) := Lib.hid (by refine Boxed.go ?_ hb1; repeat (first | exact HY.out | exact HX.out | exact HY.out.drewN 1 | exact HX.out.drewN 1 | apply Boxed.alloc))
       obtain ⟨c0, c1, c2, c3⟩ := HY.out.four
       clear hb1))
  go_region_held3 (fun w' => w'.cell? ⟨w.heap.size, 0, none⟩ = some (.int .i64 b) ∧ w'.cell? ⟨w.heap.size, 1, none⟩ = some (.int .i64 p) ∧ w'.cell? ⟨w.heap.size, 2, none⟩ = some (.int .i64 n) ∧ w'.cell? ⟨w.heap.size, 3, none⟩ = some (.int .i64 j)) (first | exact HY.out.four | exact HX.out.four | go_keep)
    ((first
      | (go_at_call 112; refine (groups_any b p n j _ hb0 hb1 hp0 hp1).mono ?_; rintro e w1 ⟨rfl, hb1⟩
         have HY : Hid (Boxed w w1 [.int .i64 b, .int .i64 p, .int .i64 n, .int .i64 j]) := Lib.hid (by refine Boxed.go ?_ hb1; repeat (first | exact HY.out | exact HX.out | exact HY.out.drewN 1 | exact HX.out.drewN 1 | apply Boxed.alloc))
         clear hb1)
      | (go_at_call 153; refine (tableSize_any b p n j _ hn0 hn1).mono ?_; rintro e w1 ⟨rfl, hb1⟩
         have HY : Hid (Boxed w w1 [.int .i64 b, .int .i64 p, .int .i64 n, .int .i64 j]) := Lib.hid (by refine Boxed.go ?_ hb1; repeat (first | exact HY.out | exact HX.out | exact HY.out.drewN 1 | exact HX.out.drewN 1 | apply Boxed.alloc))
         clear hb1)))
  go_wp2
  go_ret
  exact ⟨rfl, HY.out.below⟩
set_option maxHeartbeats 400000 in
theorem Fixed_any  :
    Calls Tryz.prog 157 #[.agg #[.int .i64 b, .int .i64 p, .int .i64 n, .int .i64 j]] w fun e w' => e = .returned (.int .i64 (fixedI b p n j)) ∧ Below w.heap.size w w' := by
  cases hm : mayB b p n j with
  | true => rw [fixedI_yes hm]; exact Fixed_yes b p n j w hm
  | false => rw [fixedI_no hm]; exact Fixed_no b p n j w hm
set_option maxHeartbeats 400000 in
theorem inodes_yes (hm : mayB b p n j = true) :
    Calls Tryz.prog 131 #[.agg #[.int .i64 b, .int .i64 p, .int .i64 n, .int .i64 j]] w fun e w' => e = .returned (.int .i64 (gN b p * n)) ∧ Below w.heap.size w w' := by
  obtain ⟨hb0, hb1, hp0, hp1, hn0, hn1, hev, hj0, hj1, hg0, hg1, hlo, hhi, hf, hl⟩ := may_iff.1 hm
  clear hl hf hlo hhi hev
  have hq := Lib.hid hm
  clear hm
  obtain ⟨t0, t1⟩ := prod_bd (g := gN b p) (by omega) hg1 hn0 hn1
  have s1 : IntKind.i64.wrap (gN b p * n) = gN b p * n := IntWalk.i64_in _ (by omega)
  have HX := Lib.hid (Boxed.start w [.int .i64 b, .int .i64 p, .int .i64 n, .int .i64 j] 63)
  go_enter Tryz.func131, Tryz.ntmps131
  go_wp2
  go_region_held3 (fun w' => w'.cell? ⟨w.heap.size, 0, none⟩ = some (.int .i64 b) ∧ w'.cell? ⟨w.heap.size, 1, none⟩ = some (.int .i64 p) ∧ w'.cell? ⟨w.heap.size, 2, none⟩ = some (.int .i64 n) ∧ w'.cell? ⟨w.heap.size, 3, none⟩ = some (.int .i64 j)) (first | exact HY.out.four | exact HX.out.four | go_keep)
    ((first
      | (go_at_call 84; refine (Groups_yes b p n j _ hq.out).mono ?_; rintro e w1 ⟨rfl, hb1⟩
         have HY : Hid (Boxed w w1 [.int .i64 b, .int .i64 p, .int .i64 n, .int .i64 j]) := Lib.hid (by refine Boxed.go ?_ hb1; repeat (first | exact HY.out | exact HX.out | exact HY.out.drewN 1 | exact HX.out.drewN 1 | apply Boxed.alloc))
         clear hb1)))
  go_wp2
  go_ret
  exact ⟨rfl, HY.out.below⟩
set_option maxHeartbeats 400000 in
theorem inodes_no (hm : mayB b p n j = false) :
    Calls Tryz.prog 131 #[.agg #[.int .i64 b, .int .i64 p, .int .i64 n, .int .i64 j]] w fun e w' => e = .returned (.int .i64 0) ∧ Below w.heap.size w w' := by
  have hq := Lib.hid hm
  clear hm
  have s1 : IntKind.i64.wrap (0 * n) = 0 := by rw [Int.zero_mul]; exact IntWalk.i64_in _ (by omega)
  have HX := Lib.hid (Boxed.start w [.int .i64 b, .int .i64 p, .int .i64 n, .int .i64 j] 63)
  go_enter Tryz.func131, Tryz.ntmps131
  go_wp2
  go_region_held3 (fun w' => w'.cell? ⟨w.heap.size, 0, none⟩ = some (.int .i64 b) ∧ w'.cell? ⟨w.heap.size, 1, none⟩ = some (.int .i64 p) ∧ w'.cell? ⟨w.heap.size, 2, none⟩ = some (.int .i64 n) ∧ w'.cell? ⟨w.heap.size, 3, none⟩ = some (.int .i64 j)) (first | exact HY.out.four | exact HX.out.four | go_keep)
    ((first
      | (go_at_call 84; refine (Groups_no b p n j _ hq.out).mono ?_; rintro e w1 ⟨rfl, hb1⟩
         have HY : Hid (Boxed w w1 [.int .i64 b, .int .i64 p, .int .i64 n, .int .i64 j]) := Lib.hid (by refine Boxed.go ?_ hb1; repeat (first | exact HY.out | exact HX.out | exact HY.out.drewN 1 | exact HX.out.drewN 1 | apply Boxed.alloc))
         clear hb1)))
  go_wp2
  go_ret
  exact ⟨rfl, HY.out.below⟩
set_option maxHeartbeats 400000 in
theorem inodes_any  :
    Calls Tryz.prog 131 #[.agg #[.int .i64 b, .int .i64 p, .int .i64 n, .int .i64 j]] w fun e w' => e = .returned (.int .i64 (groupsI b p n j * n)) ∧ Below w.heap.size w w' := by
  cases hm : mayB b p n j with
  | true => rw [groupsI_yes hm]; exact inodes_yes b p n j w hm
  | false => rw [groupsI_no hm, Int.zero_mul]; exact inodes_no b p n j w hm
set_option maxHeartbeats 400000 in
theorem InodeAt_no (i : Int) (hh : inoB b p n j i = false) :
    Calls Tryz.prog 104 #[.agg #[.int .i64 b, .int .i64 p, .int .i64 n, .int .i64 j], .int .i64 i] w fun e w' => e = .returned (.tuple #[.int .i64 0, .int .i64 0, .int .i64 22]) ∧ Below w.heap.size w w' := by
  unfold inoB at hh
  have HX := Lib.hid (Boxed.start w [.int .i64 b, .int .i64 p, .int .i64 n, .int .i64 j] 63)
  go_enter Tryz.func104, Tryz.ntmps104
  go_wp2_with (first
    | (go_at_call 131; refine (inodes_any b p n j _).mono ?_; rintro e w1 ⟨rfl, hb1⟩
       have HY : Hid (Boxed w w1 [.int .i64 b, .int .i64 p, .int .i64 n, .int .i64 j]) := Lib.hid (by refine Boxed.go ?_ hb1; repeat (first | exact HY.out | exact HX.out | exact HY.out.drewN 1 | exact HX.out.drewN 1 | apply Boxed.alloc))
       obtain ⟨c0, c1, c2, c3⟩ := HY.out.four
       clear hb1)
    | (go_at_call 111; (with_reducible refine (within_one 1 (groupsI b p n j * n) i _ _ _ ?_).mono ?_); · simp [go_sem]
       rintro e w' ⟨rfl, rfl⟩
       have HY := Lib.hid (HY.out.alloc (.cells #[.int .i64 i] 3))
       obtain ⟨c0, c1, c2, c3⟩ := HY.out.four))
  go_ret3
  exact ⟨rfl, HY.out.below⟩
set_option maxHeartbeats 400000 in
theorem InodeAt_yes (i : Int) (hh : inoB b p n j i = true) :
    Calls Tryz.prog 104 #[.agg #[.int .i64 b, .int .i64 p, .int .i64 n, .int .i64 j], .int .i64 i] w fun e w' => e = .returned (.tuple #[.int .i64 (inoBlock p n j i), .int .i64 (inoByte n i), .int .i64 0]) ∧ Below w.heap.size w w' := by
  obtain ⟨hm, hi0, hi1⟩ := ino_may hh
  obtain ⟨hb0, hb1, hp0, hp1, hn0, hn1, hev, hj0, hj1, hg0, hg1, hlo, hhi, hf, hl⟩ := may_iff.1 hm
  obtain ⟨t0, t1⟩ := prod_bd (g := gN b p) (by omega) hg1 hn0 hn1
  obtain ⟨q0, q1⟩ := inoGroup_bd (g := gN b p) hn0 hi0 hi1
  obtain ⟨r0, r1⟩ := inoPlace_bd i hn0
  have q2 : inoGroup n i ≤ 200 := by omega
  obtain ⟨b0, b1⟩ := table_bd p j (inoGroup n i) hp0 hp1 hj0 hj1 q0 q2
  have eG : (i - 1) / n = inoGroup n i := rfl
  have eP : (i - 1) % n = inoPlace n i := rfl
  have s0 : IntKind.i64.wrap (i - 1) = i - 1 := IntWalk.i64_in _ (by omega)
  have s1 : (i - 1).tdiv n = inoGroup n i := by rw [Int.tdiv_eq_ediv_of_nonneg (by omega)]; rfl
  have s2 : (i - 1).tmod n = inoPlace n i := by rw [Int.tmod_eq_emod_of_nonneg (by omega)]; rfl
  have s3 : IntKind.i64.wrap (inoGroup n i) = inoGroup n i := IntWalk.i64_in _ (by omega)
  have s4 : IntKind.i64.wrap (inoPlace n i) = inoPlace n i := IntWalk.i64_in _ (by omega)
  have s5 : (n == 0) = false := by simp; omega
  unfold inoB at hh
  unfold inoBlock inoByte
  clear hl hf hlo hhi hev hm
  have HX := Lib.hid (Boxed.start w [.int .i64 b, .int .i64 p, .int .i64 n, .int .i64 j] 63)
  go_enter Tryz.func104, Tryz.ntmps104
  go_wp2_with (first
    | (go_at_call 131; refine (inodes_any b p n j _).mono ?_; rintro e w1 ⟨rfl, hb1⟩
       have HY : Hid (Boxed w w1 [.int .i64 b, .int .i64 p, .int .i64 n, .int .i64 j]) := Lib.hid (by refine Boxed.go ?_ hb1; repeat (first | exact HY.out | exact HX.out | exact HY.out.drewN 1 | exact HX.out.drewN 1 | apply Boxed.alloc))
       obtain ⟨c0, c1, c2, c3⟩ := HY.out.four
       clear hb1)
    | (go_at_call 111; (with_reducible refine (within_one 1 (groupsI b p n j * n) i _ _ _ ?_).mono ?_); · simp [go_sem]
       rintro e w' ⟨rfl, rfl⟩
       have HY := Lib.hid (HY.out.alloc (.cells #[.int .i64 i] 3))
       obtain ⟨c0, c1, c2, c3⟩ := HY.out.four))
  go_quiet (fail)
  have HY := Lib.hid (HY.out.drewN nq)
  clear s0 s1 s2 s3 s4
  go_wp2_with (first
    | (go_at_call 132; refine (table_any b p n j _ (inoGroup n i) hp0 hp1 hj0 hj1 q0 q2).mono ?_; rintro e w1 ⟨rfl, hb1⟩
       have HY : Hid (Boxed w w1 [.int .i64 b, .int .i64 p, .int .i64 n, .int .i64 j]) := Lib.hid (by refine Boxed.go ?_ hb1; repeat (first | exact HY.out | exact HX.out | exact HY.out.drewN 1 | exact HX.out.drewN 1 | apply Boxed.alloc))
       clear hb1))
  go_ret3
  exact ⟨rfl, HY.out.below⟩
end
end Go.Proofs.YtgjcbfdhpbkhoaaGreatDoor.GGeo2
/- The document's answers of a geometry. -/
namespace Go.Proofs.YtgjcbfdhpbkhoaaGreatDoor.GRef
open Go.RowKit WMem GPlain GWithin GGeo
set_option maxHeartbeats 400000 in
theorem refwithin_any (x lo hi : Int) (w : World) : Calls Tryz.prog 93 #[.int .i64 x, .int .i64 lo, .int .i64 hi] w fun e w' => e = .returned (.bool (inB lo hi x)) ∧ w = w' := by
  by_cases h1 : lo ≤ x
  · have d1 : decide (lo ≤ x) = true := by simpa using h1
    go_enter Tryz.func93, Tryz.ntmps93
    go_wp2
    go_ret
    exact ⟨by simp [inB, h1], rfl⟩
  · have d1 : decide (lo ≤ x) = false := by simpa using h1
    go_enter Tryz.func93, Tryz.ntmps93
    go_wp2
    go_ret
    exact ⟨by rw [show inB lo hi x = false from inB_false.2 (.inl (by omega))]; rfl, rfl⟩
section
variable (b p n j : Int) (w : World)
set_option maxHeartbeats 400000 in
theorem refgroups_any (hb0 : 128 ≤ b) (hb1 : b ≤ 4096) (hp0 : 32 ≤ p) (hp1 : p ≤ 2016) :
    Calls Tryz.prog 94 #[.agg #[.int .i64 b, .int .i64 p, .int .i64 n, .int .i64 j]] w fun e w' => e = .returned (.int .i64 (gN b p)) ∧ Below w.heap.size w w' := by
  go_enter Tryz.func94, Tryz.ntmps94
  go_wp2
  go_ret
  exact ⟨rfl, below_box _⟩
set_option maxHeartbeats 400000 in
theorem refCheck_b (h : inB 128 4096 b = false) :
    Calls Tryz.prog 59 #[.agg #[.int .i64 b, .int .i64 p, .int .i64 n, .int .i64 j]] w fun e w' => e = .returned (.int .i64 22) ∧ Below w.heap.size w w' := by
  have HX := Lib.hid (Boxed.start w [.int .i64 b, .int .i64 p, .int .i64 n, .int .i64 j] 63)
  go_enter Tryz.func59, Tryz.ntmps59
  go_wp2_with (first
    | (go_at_call 93; refine (refwithin_any _ _ _ _).mono ?_; rintro e w' ⟨rfl, rfl⟩)
    | (go_at_call 94; refine (refgroups_any b p n j _ hb0 hb1 hp0 hp1).mono ?_; rintro e w1 ⟨rfl, hb1⟩
       have HY : Hid (Boxed w w1 [.int .i64 b, .int .i64 p, .int .i64 n, .int .i64 j]) := Lib.hid (by refine Boxed.go ?_ hb1; repeat (first | exact HY.out | exact HX.out | exact HY.out.drewN 1 | exact HX.out.drewN 1 | apply Boxed.alloc))
       obtain ⟨c0, c1, c2, c3⟩ := HY.out.four
       clear hb1))
  go_ret
  exact ⟨rfl, Boxed.below (by repeat (first | exact HY.out | exact HX.out | apply Boxed.alloc))⟩
set_option maxHeartbeats 400000 in
theorem refCheck_p (hb : inB 128 4096 b = true) (h : inB 32 2016 p = false) :
    Calls Tryz.prog 59 #[.agg #[.int .i64 b, .int .i64 p, .int .i64 n, .int .i64 j]] w fun e w' => e = .returned (.int .i64 22) ∧ Below w.heap.size w w' := by
  have HX := Lib.hid (Boxed.start w [.int .i64 b, .int .i64 p, .int .i64 n, .int .i64 j] 63)
  go_enter Tryz.func59, Tryz.ntmps59
  go_wp2_with (first
    | (go_at_call 93; refine (refwithin_any _ _ _ _).mono ?_; rintro e w' ⟨rfl, rfl⟩)
    | (go_at_call 94; refine (refgroups_any b p n j _ hb0 hb1 hp0 hp1).mono ?_; rintro e w1 ⟨rfl, hb1⟩
       have HY : Hid (Boxed w w1 [.int .i64 b, .int .i64 p, .int .i64 n, .int .i64 j]) := Lib.hid (by refine Boxed.go ?_ hb1; repeat (first | exact HY.out | exact HX.out | exact HY.out.drewN 1 | exact HX.out.drewN 1 | apply Boxed.alloc))
       obtain ⟨c0, c1, c2, c3⟩ := HY.out.four
       clear hb1))
  go_ret
  exact ⟨rfl, Boxed.below (by repeat (first | exact HY.out | exact HX.out | apply Boxed.alloc))⟩
set_option maxHeartbeats 400000 in
theorem refCheck_n (hb : inB 128 4096 b = true) (hp : inB 32 2016 p = true) (h : inB 8 512 n = false) :
    Calls Tryz.prog 59 #[.agg #[.int .i64 b, .int .i64 p, .int .i64 n, .int .i64 j]] w fun e w' => e = .returned (.int .i64 22) ∧ Below w.heap.size w w' := by
  have HX := Lib.hid (Boxed.start w [.int .i64 b, .int .i64 p, .int .i64 n, .int .i64 j] 63)
  go_enter Tryz.func59, Tryz.ntmps59
  go_wp2_with (first
    | (go_at_call 93; refine (refwithin_any _ _ _ _).mono ?_; rintro e w' ⟨rfl, rfl⟩)
    | (go_at_call 94; refine (refgroups_any b p n j _ hb0 hb1 hp0 hp1).mono ?_; rintro e w1 ⟨rfl, hb1⟩
       have HY : Hid (Boxed w w1 [.int .i64 b, .int .i64 p, .int .i64 n, .int .i64 j]) := Lib.hid (by refine Boxed.go ?_ hb1; repeat (first | exact HY.out | exact HX.out | exact HY.out.drewN 1 | exact HX.out.drewN 1 | apply Boxed.alloc))
       obtain ⟨c0, c1, c2, c3⟩ := HY.out.four
       clear hb1))
  go_ret
  exact ⟨rfl, Boxed.below (by repeat (first | exact HY.out | exact HX.out | apply Boxed.alloc))⟩
set_option maxHeartbeats 400000 in
theorem refCheck_e (hb : inB 128 4096 b = true) (hp : inB 32 2016 p = true) (hn : inB 8 512 n = true) (he : (n % 2 != 0) = true) :
    Calls Tryz.prog 59 #[.agg #[.int .i64 b, .int .i64 p, .int .i64 n, .int .i64 j]] w fun e w' => e = .returned (.int .i64 22) ∧ Below w.heap.size w w' := by
  obtain ⟨hn0, hn1⟩ := inB_true.1 hn
  have HX := Lib.hid (Boxed.start w [.int .i64 b, .int .i64 p, .int .i64 n, .int .i64 j] 63)
  go_enter Tryz.func59, Tryz.ntmps59
  go_wp2_with (first
    | (go_at_call 93; refine (refwithin_any _ _ _ _).mono ?_; rintro e w' ⟨rfl, rfl⟩)
    | (go_at_call 94; refine (refgroups_any b p n j _ hb0 hb1 hp0 hp1).mono ?_; rintro e w1 ⟨rfl, hb1⟩
       have HY : Hid (Boxed w w1 [.int .i64 b, .int .i64 p, .int .i64 n, .int .i64 j]) := Lib.hid (by refine Boxed.go ?_ hb1; repeat (first | exact HY.out | exact HX.out | exact HY.out.drewN 1 | exact HX.out.drewN 1 | apply Boxed.alloc))
       obtain ⟨c0, c1, c2, c3⟩ := HY.out.four
       clear hb1))
  go_ret
  exact ⟨rfl, Boxed.below (by repeat (first | exact HY.out | exact HX.out | apply Boxed.alloc))⟩
set_option maxHeartbeats 400000 in
theorem refCheck_j (hb : inB 128 4096 b = true) (hp : inB 32 2016 p = true) (hn : inB 8 512 n = true) (he : (n % 2 != 0) = false) (h : inB 96 512 j = false) :
    Calls Tryz.prog 59 #[.agg #[.int .i64 b, .int .i64 p, .int .i64 n, .int .i64 j]] w fun e w' => e = .returned (.int .i64 22) ∧ Below w.heap.size w w' := by
  obtain ⟨hn0, hn1⟩ := inB_true.1 hn
  have HX := Lib.hid (Boxed.start w [.int .i64 b, .int .i64 p, .int .i64 n, .int .i64 j] 63)
  go_enter Tryz.func59, Tryz.ntmps59
  go_wp2_with (first
    | (go_at_call 93; refine (refwithin_any _ _ _ _).mono ?_; rintro e w' ⟨rfl, rfl⟩)
    | (go_at_call 94; refine (refgroups_any b p n j _ hb0 hb1 hp0 hp1).mono ?_; rintro e w1 ⟨rfl, hb1⟩
       have HY : Hid (Boxed w w1 [.int .i64 b, .int .i64 p, .int .i64 n, .int .i64 j]) := Lib.hid (by refine Boxed.go ?_ hb1; repeat (first | exact HY.out | exact HX.out | exact HY.out.drewN 1 | exact HX.out.drewN 1 | apply Boxed.alloc))
       obtain ⟨c0, c1, c2, c3⟩ := HY.out.four
       clear hb1))
  go_ret
  exact ⟨rfl, Boxed.below (by repeat (first | exact HY.out | exact HX.out | apply Boxed.alloc))⟩
set_option maxHeartbeats 400000 in
theorem refCheck_gl (hb : inB 128 4096 b = true) (hp : inB 32 2016 p = true) (hn : inB 8 512 n = true) (he : (n % 2 != 0) = false) (hj : inB 96 512 j = true) (hc : b < p) (h : 14 < gN b p) :
    Calls Tryz.prog 59 #[.agg #[.int .i64 b, .int .i64 p, .int .i64 n, .int .i64 j]] w fun e w' => e = .returned (.int .i64 22) ∧ Below w.heap.size w w' := by
  obtain ⟨hb0, hb1⟩ := inB_true.1 hb
  obtain ⟨hp0, hp1⟩ := inB_true.1 hp
  obtain ⟨hn0, hn1⟩ := inB_true.1 hn
  obtain ⟨hj0, hj1⟩ := inB_true.1 hj
  obtain ⟨g0, g1⟩ := gN_bd hb0 hb1 hp0 hp1
  obtain ⟨u0, u1⟩ := mul_bd (k := gN b p - 1) (by omega) (by omega) (show 0 ≤ p by omega) hp1
  have h1 : 0 ≤ n / 2 := by omega
  have h2 : n / 2 ≤ 256 := by omega
  generalize hm : (gN b p - 1) * p = m at *
  have HX := Lib.hid (Boxed.start w [.int .i64 b, .int .i64 p, .int .i64 n, .int .i64 j] 63)
  go_enter Tryz.func59, Tryz.ntmps59
  go_wp2_with (first
    | (go_at_call 93; refine (refwithin_any _ _ _ _).mono ?_; rintro e w' ⟨rfl, rfl⟩)
    | (go_at_call 94; refine (refgroups_any b p n j _ hb0 hb1 hp0 hp1).mono ?_; rintro e w1 ⟨rfl, hb1⟩
       have HY : Hid (Boxed w w1 [.int .i64 b, .int .i64 p, .int .i64 n, .int .i64 j]) := Lib.hid (by refine Boxed.go ?_ hb1; repeat (first | exact HY.out | exact HX.out | exact HY.out.drewN 1 | exact HX.out.drewN 1 | apply Boxed.alloc))
       obtain ⟨c0, c1, c2, c3⟩ := HY.out.four
       clear hb1))
  go_ret
  exact ⟨rfl, Boxed.below (by repeat (first | exact HY.out | exact HX.out | apply Boxed.alloc))⟩
set_option maxHeartbeats 400000 in
theorem refCheck_fl (hb : inB 128 4096 b = true) (hp : inB 32 2016 p = true) (hn : inB 8 512 n = true) (he : (n % 2 != 0) = false) (hj : inB 96 512 j = true) (hc : b < p) (h : gN b p ≤ 14) (hf : b < 5 + j + n / 2) :
    Calls Tryz.prog 59 #[.agg #[.int .i64 b, .int .i64 p, .int .i64 n, .int .i64 j]] w fun e w' => e = .returned (.int .i64 22) ∧ Below w.heap.size w w' := by
  obtain ⟨hb0, hb1⟩ := inB_true.1 hb
  obtain ⟨hp0, hp1⟩ := inB_true.1 hp
  obtain ⟨hn0, hn1⟩ := inB_true.1 hn
  obtain ⟨hj0, hj1⟩ := inB_true.1 hj
  obtain ⟨g0, g1⟩ := gN_bd hb0 hb1 hp0 hp1
  obtain ⟨u0, u1⟩ := mul_bd (k := gN b p - 1) (by omega) (by omega) (show 0 ≤ p by omega) hp1
  have h1 : 0 ≤ n / 2 := by omega
  have h2 : n / 2 ≤ 256 := by omega
  generalize hm : (gN b p - 1) * p = m at *
  have HX := Lib.hid (Boxed.start w [.int .i64 b, .int .i64 p, .int .i64 n, .int .i64 j] 63)
  go_enter Tryz.func59, Tryz.ntmps59
  go_wp2_with (first
    | (go_at_call 93; refine (refwithin_any _ _ _ _).mono ?_; rintro e w' ⟨rfl, rfl⟩)
    | (go_at_call 94; refine (refgroups_any b p n j _ hb0 hb1 hp0 hp1).mono ?_; rintro e w1 ⟨rfl, hb1⟩
       have HY : Hid (Boxed w w1 [.int .i64 b, .int .i64 p, .int .i64 n, .int .i64 j]) := Lib.hid (by refine Boxed.go ?_ hb1; repeat (first | exact HY.out | exact HX.out | exact HY.out.drewN 1 | exact HX.out.drewN 1 | apply Boxed.alloc))
       obtain ⟨c0, c1, c2, c3⟩ := HY.out.four
       clear hb1))
  go_ret
  exact ⟨rfl, Boxed.below (by repeat (first | exact HY.out | exact HX.out | apply Boxed.alloc))⟩
set_option maxHeartbeats 400000 in
theorem refCheck_ll (hb : inB 128 4096 b = true) (hp : inB 32 2016 p = true) (hn : inB 8 512 n = true) (he : (n % 2 != 0) = false) (hj : inB 96 512 j = true) (hc : b < p) (h : gN b p ≤ 14) (hf : 5 + j + n / 2 ≤ b) (hl : b - (gN b p - 1) * p < 3 + n / 2) :
    Calls Tryz.prog 59 #[.agg #[.int .i64 b, .int .i64 p, .int .i64 n, .int .i64 j]] w fun e w' => e = .returned (.int .i64 22) ∧ Below w.heap.size w w' := by
  obtain ⟨hb0, hb1⟩ := inB_true.1 hb
  obtain ⟨hp0, hp1⟩ := inB_true.1 hp
  obtain ⟨hn0, hn1⟩ := inB_true.1 hn
  obtain ⟨hj0, hj1⟩ := inB_true.1 hj
  obtain ⟨g0, g1⟩ := gN_bd hb0 hb1 hp0 hp1
  obtain ⟨u0, u1⟩ := mul_bd (k := gN b p - 1) (by omega) (by omega) (show 0 ≤ p by omega) hp1
  have h1 : 0 ≤ n / 2 := by omega
  have h2 : n / 2 ≤ 256 := by omega
  generalize hm : (gN b p - 1) * p = m at *
  have HX := Lib.hid (Boxed.start w [.int .i64 b, .int .i64 p, .int .i64 n, .int .i64 j] 63)
  go_enter Tryz.func59, Tryz.ntmps59
  go_wp2_with (first
    | (go_at_call 93; refine (refwithin_any _ _ _ _).mono ?_; rintro e w' ⟨rfl, rfl⟩)
    | (go_at_call 94; refine (refgroups_any b p n j _ hb0 hb1 hp0 hp1).mono ?_; rintro e w1 ⟨rfl, hb1⟩
       have HY : Hid (Boxed w w1 [.int .i64 b, .int .i64 p, .int .i64 n, .int .i64 j]) := Lib.hid (by refine Boxed.go ?_ hb1; repeat (first | exact HY.out | exact HX.out | exact HY.out.drewN 1 | exact HX.out.drewN 1 | apply Boxed.alloc))
       obtain ⟨c0, c1, c2, c3⟩ := HY.out.four
       clear hb1))
  go_ret
  exact ⟨rfl, Boxed.below (by repeat (first | exact HY.out | exact HX.out | apply Boxed.alloc))⟩
set_option maxHeartbeats 400000 in
theorem refCheck_kl (hb : inB 128 4096 b = true) (hp : inB 32 2016 p = true) (hn : inB 8 512 n = true) (he : (n % 2 != 0) = false) (hj : inB 96 512 j = true) (hc : b < p) (h : gN b p ≤ 14) (hf : 5 + j + n / 2 ≤ b) (hl : 3 + n / 2 ≤ b - (gN b p - 1) * p) :
    Calls Tryz.prog 59 #[.agg #[.int .i64 b, .int .i64 p, .int .i64 n, .int .i64 j]] w fun e w' => e = .returned (.int .i64 0) ∧ Below w.heap.size w w' := by
  obtain ⟨hb0, hb1⟩ := inB_true.1 hb
  obtain ⟨hp0, hp1⟩ := inB_true.1 hp
  obtain ⟨hn0, hn1⟩ := inB_true.1 hn
  obtain ⟨hj0, hj1⟩ := inB_true.1 hj
  obtain ⟨g0, g1⟩ := gN_bd hb0 hb1 hp0 hp1
  obtain ⟨u0, u1⟩ := mul_bd (k := gN b p - 1) (by omega) (by omega) (show 0 ≤ p by omega) hp1
  have h1 : 0 ≤ n / 2 := by omega
  have h2 : n / 2 ≤ 256 := by omega
  generalize hm : (gN b p - 1) * p = m at *
  have HX := Lib.hid (Boxed.start w [.int .i64 b, .int .i64 p, .int .i64 n, .int .i64 j] 63)
  go_enter Tryz.func59, Tryz.ntmps59
  go_wp2_with (first
    | (go_at_call 93; refine (refwithin_any _ _ _ _).mono ?_; rintro e w' ⟨rfl, rfl⟩)
    | (go_at_call 94; refine (refgroups_any b p n j _ hb0 hb1 hp0 hp1).mono ?_; rintro e w1 ⟨rfl, hb1⟩
       have HY : Hid (Boxed w w1 [.int .i64 b, .int .i64 p, .int .i64 n, .int .i64 j]) := Lib.hid (by refine Boxed.go ?_ hb1; repeat (first | exact HY.out | exact HX.out | exact HY.out.drewN 1 | exact HX.out.drewN 1 | apply Boxed.alloc))
       obtain ⟨c0, c1, c2, c3⟩ := HY.out.four
       clear hb1))
  go_ret
  exact ⟨rfl, Boxed.below (by repeat (first | exact HY.out | exact HX.out | apply Boxed.alloc))⟩
set_option maxHeartbeats 400000 in
theorem refCheck_gg (hb : inB 128 4096 b = true) (hp : inB 32 2016 p = true) (hn : inB 8 512 n = true) (he : (n % 2 != 0) = false) (hj : inB 96 512 j = true) (hc : p ≤ b) (h : 14 < gN b p) :
    Calls Tryz.prog 59 #[.agg #[.int .i64 b, .int .i64 p, .int .i64 n, .int .i64 j]] w fun e w' => e = .returned (.int .i64 22) ∧ Below w.heap.size w w' := by
  obtain ⟨hb0, hb1⟩ := inB_true.1 hb
  obtain ⟨hp0, hp1⟩ := inB_true.1 hp
  obtain ⟨hn0, hn1⟩ := inB_true.1 hn
  obtain ⟨hj0, hj1⟩ := inB_true.1 hj
  obtain ⟨g0, g1⟩ := gN_bd hb0 hb1 hp0 hp1
  obtain ⟨u0, u1⟩ := mul_bd (k := gN b p - 1) (by omega) (by omega) (show 0 ≤ p by omega) hp1
  have h1 : 0 ≤ n / 2 := by omega
  have h2 : n / 2 ≤ 256 := by omega
  generalize hm : (gN b p - 1) * p = m at *
  have HX := Lib.hid (Boxed.start w [.int .i64 b, .int .i64 p, .int .i64 n, .int .i64 j] 63)
  go_enter Tryz.func59, Tryz.ntmps59
  go_wp2_with (first
    | (go_at_call 93; refine (refwithin_any _ _ _ _).mono ?_; rintro e w' ⟨rfl, rfl⟩)
    | (go_at_call 94; refine (refgroups_any b p n j _ hb0 hb1 hp0 hp1).mono ?_; rintro e w1 ⟨rfl, hb1⟩
       have HY : Hid (Boxed w w1 [.int .i64 b, .int .i64 p, .int .i64 n, .int .i64 j]) := Lib.hid (by refine Boxed.go ?_ hb1; repeat (first | exact HY.out | exact HX.out | exact HY.out.drewN 1 | exact HX.out.drewN 1 | apply Boxed.alloc))
       obtain ⟨c0, c1, c2, c3⟩ := HY.out.four
       clear hb1))
  go_ret
  exact ⟨rfl, Boxed.below (by repeat (first | exact HY.out | exact HX.out | apply Boxed.alloc))⟩
set_option maxHeartbeats 400000 in
theorem refCheck_fg (hb : inB 128 4096 b = true) (hp : inB 32 2016 p = true) (hn : inB 8 512 n = true) (he : (n % 2 != 0) = false) (hj : inB 96 512 j = true) (hc : p ≤ b) (h : gN b p ≤ 14) (hf : p < 5 + j + n / 2) :
    Calls Tryz.prog 59 #[.agg #[.int .i64 b, .int .i64 p, .int .i64 n, .int .i64 j]] w fun e w' => e = .returned (.int .i64 22) ∧ Below w.heap.size w w' := by
  obtain ⟨hb0, hb1⟩ := inB_true.1 hb
  obtain ⟨hp0, hp1⟩ := inB_true.1 hp
  obtain ⟨hn0, hn1⟩ := inB_true.1 hn
  obtain ⟨hj0, hj1⟩ := inB_true.1 hj
  obtain ⟨g0, g1⟩ := gN_bd hb0 hb1 hp0 hp1
  obtain ⟨u0, u1⟩ := mul_bd (k := gN b p - 1) (by omega) (by omega) (show 0 ≤ p by omega) hp1
  have h1 : 0 ≤ n / 2 := by omega
  have h2 : n / 2 ≤ 256 := by omega
  generalize hm : (gN b p - 1) * p = m at *
  have HX := Lib.hid (Boxed.start w [.int .i64 b, .int .i64 p, .int .i64 n, .int .i64 j] 63)
  go_enter Tryz.func59, Tryz.ntmps59
  go_wp2_with (first
    | (go_at_call 93; refine (refwithin_any _ _ _ _).mono ?_; rintro e w' ⟨rfl, rfl⟩)
    | (go_at_call 94; refine (refgroups_any b p n j _ hb0 hb1 hp0 hp1).mono ?_; rintro e w1 ⟨rfl, hb1⟩
       have HY : Hid (Boxed w w1 [.int .i64 b, .int .i64 p, .int .i64 n, .int .i64 j]) := Lib.hid (by refine Boxed.go ?_ hb1; repeat (first | exact HY.out | exact HX.out | exact HY.out.drewN 1 | exact HX.out.drewN 1 | apply Boxed.alloc))
       obtain ⟨c0, c1, c2, c3⟩ := HY.out.four
       clear hb1))
  go_ret
  exact ⟨rfl, Boxed.below (by repeat (first | exact HY.out | exact HX.out | apply Boxed.alloc))⟩
set_option maxHeartbeats 400000 in
theorem refCheck_lg (hb : inB 128 4096 b = true) (hp : inB 32 2016 p = true) (hn : inB 8 512 n = true) (he : (n % 2 != 0) = false) (hj : inB 96 512 j = true) (hc : p ≤ b) (h : gN b p ≤ 14) (hf : 5 + j + n / 2 ≤ p) (hl : b - (gN b p - 1) * p < 3 + n / 2) :
    Calls Tryz.prog 59 #[.agg #[.int .i64 b, .int .i64 p, .int .i64 n, .int .i64 j]] w fun e w' => e = .returned (.int .i64 22) ∧ Below w.heap.size w w' := by
  obtain ⟨hb0, hb1⟩ := inB_true.1 hb
  obtain ⟨hp0, hp1⟩ := inB_true.1 hp
  obtain ⟨hn0, hn1⟩ := inB_true.1 hn
  obtain ⟨hj0, hj1⟩ := inB_true.1 hj
  obtain ⟨g0, g1⟩ := gN_bd hb0 hb1 hp0 hp1
  obtain ⟨u0, u1⟩ := mul_bd (k := gN b p - 1) (by omega) (by omega) (show 0 ≤ p by omega) hp1
  have h1 : 0 ≤ n / 2 := by omega
  have h2 : n / 2 ≤ 256 := by omega
  generalize hm : (gN b p - 1) * p = m at *
  have HX := Lib.hid (Boxed.start w [.int .i64 b, .int .i64 p, .int .i64 n, .int .i64 j] 63)
  go_enter Tryz.func59, Tryz.ntmps59
  go_wp2_with (first
    | (go_at_call 93; refine (refwithin_any _ _ _ _).mono ?_; rintro e w' ⟨rfl, rfl⟩)
    | (go_at_call 94; refine (refgroups_any b p n j _ hb0 hb1 hp0 hp1).mono ?_; rintro e w1 ⟨rfl, hb1⟩
       have HY : Hid (Boxed w w1 [.int .i64 b, .int .i64 p, .int .i64 n, .int .i64 j]) := Lib.hid (by refine Boxed.go ?_ hb1; repeat (first | exact HY.out | exact HX.out | exact HY.out.drewN 1 | exact HX.out.drewN 1 | apply Boxed.alloc))
       obtain ⟨c0, c1, c2, c3⟩ := HY.out.four
       clear hb1))
  go_ret
  exact ⟨rfl, Boxed.below (by repeat (first | exact HY.out | exact HX.out | apply Boxed.alloc))⟩
set_option maxHeartbeats 400000 in
theorem refCheck_kg (hb : inB 128 4096 b = true) (hp : inB 32 2016 p = true) (hn : inB 8 512 n = true) (he : (n % 2 != 0) = false) (hj : inB 96 512 j = true) (hc : p ≤ b) (h : gN b p ≤ 14) (hf : 5 + j + n / 2 ≤ p) (hl : 3 + n / 2 ≤ b - (gN b p - 1) * p) :
    Calls Tryz.prog 59 #[.agg #[.int .i64 b, .int .i64 p, .int .i64 n, .int .i64 j]] w fun e w' => e = .returned (.int .i64 0) ∧ Below w.heap.size w w' := by
  obtain ⟨hb0, hb1⟩ := inB_true.1 hb
  obtain ⟨hp0, hp1⟩ := inB_true.1 hp
  obtain ⟨hn0, hn1⟩ := inB_true.1 hn
  obtain ⟨hj0, hj1⟩ := inB_true.1 hj
  obtain ⟨g0, g1⟩ := gN_bd hb0 hb1 hp0 hp1
  obtain ⟨u0, u1⟩ := mul_bd (k := gN b p - 1) (by omega) (by omega) (show 0 ≤ p by omega) hp1
  have h1 : 0 ≤ n / 2 := by omega
  have h2 : n / 2 ≤ 256 := by omega
  generalize hm : (gN b p - 1) * p = m at *
  have HX := Lib.hid (Boxed.start w [.int .i64 b, .int .i64 p, .int .i64 n, .int .i64 j] 63)
  go_enter Tryz.func59, Tryz.ntmps59
  go_wp2_with (first
    | (go_at_call 93; refine (refwithin_any _ _ _ _).mono ?_; rintro e w' ⟨rfl, rfl⟩)
    | (go_at_call 94; refine (refgroups_any b p n j _ hb0 hb1 hp0 hp1).mono ?_; rintro e w1 ⟨rfl, hb1⟩
       have HY : Hid (Boxed w w1 [.int .i64 b, .int .i64 p, .int .i64 n, .int .i64 j]) := Lib.hid (by refine Boxed.go ?_ hb1; repeat (first | exact HY.out | exact HX.out | exact HY.out.drewN 1 | exact HX.out.drewN 1 | apply Boxed.alloc))
       obtain ⟨c0, c1, c2, c3⟩ := HY.out.four
       clear hb1))
  go_ret
  exact ⟨rfl, Boxed.below (by repeat (first | exact HY.out | exact HX.out | apply Boxed.alloc))⟩
end
end Go.Proofs.YtgjcbfdhpbkhoaaGreatDoor.GRef
/- The document's answers of a geometry: each by one contract. -/
namespace Go.Proofs.YtgjcbfdhpbkhoaaGreatDoor.GRef2
open Go.RowKit WMem GPlain GWithin GGeo GRef
section
variable (b p n j : Int) (w : World)
set_option maxHeartbeats 400000 in
theorem refCheck_yes (hm : mayB b p n j = true) :
    Calls Tryz.prog 59 #[.agg #[.int .i64 b, .int .i64 p, .int .i64 n, .int .i64 j]] w fun e w' => e = .returned (.int .i64 0) ∧ Below w.heap.size w w' := by
  have hnum : numsB b p n j = true := by
    simp only [mayB, Bool.and_eq_true] at hm
    exact hm.1.1.1
  obtain ⟨hb0, hb1, hp0, hp1, hn0, hn1, hev, hj0, hj1, hg0, hg1, hlo, hhi, hf, hl⟩ := may_iff.1 hm
  simp only [numsB, Bool.and_eq_true, beq_iff_eq] at hnum
  obtain ⟨⟨⟨⟨h1, h2⟩, h3⟩, h4⟩, h5⟩ := hnum
  have h4' : (n % 2 != 0) = false := by simp [h4]
  have h6 : 3 + n / 2 ≤ b - (gN b p - 1) * p := by
    rcases hl with hl | hl
    · have : (gN b p - 1) * p = 0 := by rw [hl]; simp
      omega
    · omega
  by_cases hc : b < p
  · exact refCheck_kl b p n j w h1 h2 h3 h4' h5 hc hg1 (by omega) h6
  · exact refCheck_kg b p n j w h1 h2 h3 h4' h5 (by omega) hg1 (by omega) h6
set_option maxHeartbeats 400000 in
theorem refCheck_no (hm : mayB b p n j = false) :
    Calls Tryz.prog 59 #[.agg #[.int .i64 b, .int .i64 p, .int .i64 n, .int .i64 j]] w fun e w' => e = .returned (.int .i64 22) ∧ Below w.heap.size w w' := by
  cases h1 : inB 128 4096 b with
  | false => exact refCheck_b b p n j w h1
  | true =>
    cases h2 : inB 32 2016 p with
    | false => exact refCheck_p b p n j w h1 h2
    | true =>
      cases h3 : inB 8 512 n with
      | false => exact refCheck_n b p n j w h1 h2 h3
      | true =>
        cases h4 : (n % 2 != 0) with
        | true => exact refCheck_e b p n j w h1 h2 h3 h4
        | false =>
          cases h5 : inB 96 512 j with
          | false => exact refCheck_j b p n j w h1 h2 h3 h4 h5
          | true =>
            have k1 := inB_true.1 h1
            have k2 := inB_true.1 h2
            have k3 := inB_true.1 h3
            have k5 := inB_true.1 h5
            have k4 : n % 2 = 0 := by simpa using h4
            obtain ⟨c1, c2, c3, _⟩ := gN_of (b := b) (p := p) (by omega) (by omega)
            have hno : ¬ May b p n j := fun h => by rw [may_iff.2 h] at hm; cases hm
            have hno' : gN b p ≤ 14 → 5 + j + n / 2 ≤ b → 5 + j + n / 2 ≤ p → b - (gN b p - 1) * p < 3 + n / 2 := by
              intro g1 f1 f2
              by_cases hl : b - (gN b p - 1) * p < 3 + n / 2
              · exact hl
              · exact absurd ⟨k1.1, k1.2, k2.1, k2.2, k3.1, k3.2, k4, k5.1, k5.2, c1, g1, c2, c3, by omega, .inr (by omega)⟩ hno
            by_cases hg : 14 < gN b p
            · by_cases hc : b < p
              · exact refCheck_gl b p n j w h1 h2 h3 h4 h5 hc hg
              · exact refCheck_gg b p n j w h1 h2 h3 h4 h5 (by omega) hg
            · by_cases hc : b < p
              · by_cases hf : b < 5 + j + n / 2
                · exact refCheck_fl b p n j w h1 h2 h3 h4 h5 hc (by omega) hf
                · exact refCheck_ll b p n j w h1 h2 h3 h4 h5 hc (by omega) (by omega) (hno' (by omega) (by omega) (by omega))
              · by_cases hf : p < 5 + j + n / 2
                · exact refCheck_fg b p n j w h1 h2 h3 h4 h5 (by omega) (by omega) hf
                · exact refCheck_lg b p n j w h1 h2 h3 h4 h5 (by omega) (by omega) (by omega) (hno' (by omega) (by omega) (by omega))
set_option maxHeartbeats 400000 in
theorem refGroups_yes (hm : mayB b p n j = true) :
    Calls Tryz.prog 60 #[.agg #[.int .i64 b, .int .i64 p, .int .i64 n, .int .i64 j]] w fun e w' => e = .returned (.int .i64 (gN b p)) ∧ Below w.heap.size w w' := by
  obtain ⟨hb0, hb1, hp0, hp1, hn0, hn1, hev, hj0, hj1, hg0, hg1, hlo, hhi, hf, hl⟩ := may_iff.1 hm
  clear hl hf hlo hhi hev
  have hq := Lib.hid hm
  clear hm
  have HX := Lib.hid (Boxed.start w [.int .i64 b, .int .i64 p, .int .i64 n, .int .i64 j] 63)
  go_enter Tryz.func60, Tryz.ntmps60
  go_wp2_with (first
    | (go_at_call 59; refine (refCheck_yes b p n j _ hq.out).mono ?_; rintro e w1 ⟨rfl, hb1⟩
       have HY : Hid (Boxed w w1 [.int .i64 b, .int .i64 p, .int .i64 n, .int .i64 j]) := Lib.hid (by refine Boxed.go ?_ hb1; repeat (first | exact HY.out | exact HX.out | exact HY.out.drewN 1 | exact HX.out.drewN 1 | apply Boxed.alloc))
       obtain ⟨c0, c1, c2, c3⟩ := HY.out.four
       clear hb1)
    | (go_at_call 94; refine (refgroups_any b p n j _ hb0 hb1 hp0 hp1).mono ?_; rintro e w1 ⟨rfl, hb1⟩
       have HY : Hid (Boxed w w1 [.int .i64 b, .int .i64 p, .int .i64 n, .int .i64 j]) := Lib.hid (by refine Boxed.go ?_ hb1; repeat (first | exact HY.out | exact HX.out | exact HY.out.drewN 1 | exact HX.out.drewN 1 | apply Boxed.alloc))
       obtain ⟨c0, c1, c2, c3⟩ := HY.out.four
       clear hb1))
  go_ret
  exact ⟨rfl, HY.out.below⟩
set_option maxHeartbeats 400000 in
theorem refGroups_no (hm : mayB b p n j = false) :
    Calls Tryz.prog 60 #[.agg #[.int .i64 b, .int .i64 p, .int .i64 n, .int .i64 j]] w fun e w' => e = .returned (.int .i64 0) ∧ Below w.heap.size w w' := by
  have hq := Lib.hid hm
  clear hm
  have HX := Lib.hid (Boxed.start w [.int .i64 b, .int .i64 p, .int .i64 n, .int .i64 j] 63)
  go_enter Tryz.func60, Tryz.ntmps60
  go_wp2_with (first
    | (go_at_call 59; refine (refCheck_no b p n j _ hq.out).mono ?_; rintro e w1 ⟨rfl, hb1⟩
       have HY : Hid (Boxed w w1 [.int .i64 b, .int .i64 p, .int .i64 n, .int .i64 j]) := Lib.hid (by refine Boxed.go ?_ hb1; repeat (first | exact HY.out | exact HX.out | exact HY.out.drewN 1 | exact HX.out.drewN 1 | apply Boxed.alloc))
       obtain ⟨c0, c1, c2, c3⟩ := HY.out.four
       clear hb1))
  go_ret
  exact ⟨rfl, HY.out.below⟩
set_option maxHeartbeats 400000 in
theorem refGroups_any  :
    Calls Tryz.prog 60 #[.agg #[.int .i64 b, .int .i64 p, .int .i64 n, .int .i64 j]] w fun e w' => e = .returned (.int .i64 (groupsI b p n j)) ∧ Below w.heap.size w w' := by
  cases hm : mayB b p n j with
  | true => rw [groupsI_yes hm]; exact refGroups_yes b p n j w hm
  | false => rw [groupsI_no hm]; exact refGroups_no b p n j w hm
set_option maxHeartbeats 400000 in
theorem refSpan_neg (k : Int) (hk : k < 0) :
    Calls Tryz.prog 95 #[.agg #[.int .i64 b, .int .i64 p, .int .i64 n, .int .i64 j], .int .i64 k] w fun e w' => e = .returned (.tuple #[.int .i64 0, .int .i64 0, .int .i64 22]) ∧ Below w.heap.size w w' := by
  have HX := Lib.hid (Boxed.start w [.int .i64 b, .int .i64 p, .int .i64 n, .int .i64 j] 63)
  go_enter Tryz.func95, Tryz.ntmps95
  go_wp2_with (first
    | (go_at_call 60; refine (refGroups_any b p n j _).mono ?_; rintro e w1 ⟨rfl, hb1⟩
       have HY : Hid (Boxed w w1 [.int .i64 b, .int .i64 p, .int .i64 n, .int .i64 j]) := Lib.hid (by refine Boxed.go ?_ hb1; repeat (first | exact HY.out | exact HX.out | exact HY.out.drewN 1 | exact HX.out.drewN 1 | apply Boxed.alloc))
       obtain ⟨c0, c1, c2, c3⟩ := HY.out.four
       clear hb1))
  go_ret3
  exact ⟨rfl, HX.out.below⟩
set_option maxHeartbeats 400000 in
theorem refSpan_big (k : Int) (hk0 : 0 ≤ k) (hk : groupsI b p n j ≤ k) :
    Calls Tryz.prog 95 #[.agg #[.int .i64 b, .int .i64 p, .int .i64 n, .int .i64 j], .int .i64 k] w fun e w' => e = .returned (.tuple #[.int .i64 0, .int .i64 0, .int .i64 22]) ∧ Below w.heap.size w w' := by
  have HX := Lib.hid (Boxed.start w [.int .i64 b, .int .i64 p, .int .i64 n, .int .i64 j] 63)
  go_enter Tryz.func95, Tryz.ntmps95
  go_wp2_with (first
    | (go_at_call 60; refine (refGroups_any b p n j _).mono ?_; rintro e w1 ⟨rfl, hb1⟩
       have HY : Hid (Boxed w w1 [.int .i64 b, .int .i64 p, .int .i64 n, .int .i64 j]) := Lib.hid (by refine Boxed.go ?_ hb1; repeat (first | exact HY.out | exact HX.out | exact HY.out.drewN 1 | exact HX.out.drewN 1 | apply Boxed.alloc))
       obtain ⟨c0, c1, c2, c3⟩ := HY.out.four
       clear hb1))
  go_ret3
  exact ⟨rfl, HY.out.below⟩
set_option maxHeartbeats 400000 in
theorem refSpan_no (k : Int) (hh : hasB b p n j k = false) :
    Calls Tryz.prog 95 #[.agg #[.int .i64 b, .int .i64 p, .int .i64 n, .int .i64 j], .int .i64 k] w fun e w' => e = .returned (.tuple #[.int .i64 0, .int .i64 0, .int .i64 22]) ∧ Below w.heap.size w w' := by
  unfold hasB at hh
  rw [inB_false] at hh
  by_cases hk : k < 0
  · exact refSpan_neg b p n j w k hk
  · exact refSpan_big b p n j w k (by omega) (by omega)
set_option maxHeartbeats 400000 in
theorem refSpan_yes (k : Int) (hh : hasB b p n j k = true) :
    Calls Tryz.prog 95 #[.agg #[.int .i64 b, .int .i64 p, .int .i64 n, .int .i64 j], .int .i64 k] w fun e w' => e = .returned (.tuple #[.int .i64 (k * p), .int .i64 (endI b p k), .int .i64 0]) ∧ Below w.heap.size w w' := by
  obtain ⟨hm, hk0, hk1, hk2⟩ := has_may hh
  have hk3 : k < groupsI b p n j := by rw [groupsI_yes hm]; exact hk1
  obtain ⟨hb0, hb1, hp0, hp1, hn0, hn1, hev, hj0, hj1, hg0, hg1, hlo, hhi, hf, hl⟩ := may_iff.1 hm
  obtain ⟨m0, m1⟩ := mul_bd hk0 (show k ≤ 200 by omega) (show 0 ≤ p by omega) hp1
  have hkp : (k + 1) * p = k * p + p := by rw [Int.add_mul, Int.one_mul]
  have hE := endI_if b p k
  clear hl hf hlo hhi hev hk1 hg0 hg1 hh hm
  generalize hm : k * p = m at *
  generalize hk' : (k + 1) * p = m' at *
  subst hkp
  generalize endI b p k = q at *
  have HE := Lib.hid hE
  clear hE
  have s0 : IntKind.i64.wrap m = m := IntWalk.i64_in _ (by omega)
  have s1 : IntKind.i64.wrap (k + 1) = k + 1 := IntWalk.i64_in _ (by omega)
  have s2 : IntKind.i64.wrap (m + p) = m + p := IntWalk.i64_in _ (by omega)
  have HX := Lib.hid (Boxed.start w [.int .i64 b, .int .i64 p, .int .i64 n, .int .i64 j] 63)
  go_enter Tryz.func95, Tryz.ntmps95
  go_wp2_with (first
    | (go_at_call 60; refine (refGroups_any b p n j _).mono ?_; rintro e w1 ⟨rfl, hb1⟩
       have HY : Hid (Boxed w w1 [.int .i64 b, .int .i64 p, .int .i64 n, .int .i64 j]) := Lib.hid (by refine Boxed.go ?_ hb1; repeat (first | exact HY.out | exact HX.out | exact HY.out.drewN 1 | exact HX.out.drewN 1 | apply Boxed.alloc))
       obtain ⟨c0, c1, c2, c3⟩ := HY.out.four
       clear hb1))
  go_region
  go_wp2
  all_goals
    have HQ := HE.out
    first | rw [if_pos (by omega)] at HQ | rw [if_neg (by omega)] at HQ
    subst HQ
    go_ret3
    exact ⟨rfl, (HY.out.drewN 1).below⟩
set_option maxHeartbeats 400000 in
theorem refPlace_no (k : Int) (hh : hasB b p n j k = false) :
    Calls Tryz.prog 61 #[.agg #[.int .i64 b, .int .i64 p, .int .i64 n, .int .i64 j], .int .i64 k] w fun e w' => e = .returned (.tuple #[.int .i64 0, .int .i64 0, .int .i64 0, .int .i64 0, .int .i64 22]) ∧ Below w.heap.size w w' := by
  have hq := Lib.hid hh
  clear hh
  have HX := Lib.hid (Boxed.start w [.int .i64 b, .int .i64 p, .int .i64 n, .int .i64 j] 63)
  go_enter Tryz.func61, Tryz.ntmps61
  go_wp2_with (first
    | (go_at_call 95; refine (refSpan_no b p n j _ k hq.out).mono ?_; rintro e w1 ⟨rfl, hb1⟩
       have HY : Hid (Boxed w w1 [.int .i64 b, .int .i64 p, .int .i64 n, .int .i64 j]) := Lib.hid (by refine Boxed.go ?_ hb1; repeat (first | exact HY.out | exact HX.out | exact HY.out.drewN 1 | exact HX.out.drewN 1 | apply Boxed.alloc))
       obtain ⟨c0, c1, c2, c3⟩ := HY.out.four
       clear hb1))
  exact bodyPost_ret (v := .tuple #[.int .i64 0, .int .i64 0, .int .i64 0, .int .i64 0, .int .i64 22]) (by simp [results, Tryz.results61, go_sem]) rfl ⟨rfl, HY.out.below⟩
set_option maxHeartbeats 400000 in
theorem refPlace_0 (hh : hasB b p n j 0 = true) :
    Calls Tryz.prog 61 #[.agg #[.int .i64 b, .int .i64 p, .int .i64 n, .int .i64 j], .int .i64 0] w fun e w' => e = .returned (.tuple #[.int .i64 (baseI p j 0), .int .i64 (baseI p j 0 + 1), .int .i64 (tableI p j 0), .int .i64 (dataI p n j 0), .int .i64 0]) ∧ Below w.heap.size w w' := by
  obtain ⟨hm, hk0, hk1, hk2⟩ := has_may hh
  obtain ⟨hb0, hb1, hp0, hp1, hn0, hn1, hev, hj0, hj1, hg0, hg1, hlo, hhi, hf, hl⟩ := may_iff.1 hm
  clear hl hf hlo hhi hev hk1 hg0 hg1 hm hk0 hk2
  have hq := Lib.hid hh
  clear hh
  unfold tableI dataI tableI
  rw [base_0]
  have s1 : IntKind.i64.wrap (2 + j + 1) = 2 + j + 1 := IntWalk.i64_in _ (by omega)
  have s2 : IntKind.i64.wrap (2 + j + 2) = 2 + j + 2 := IntWalk.i64_in _ (by omega)
  have s3 : n.tdiv 2 = n / 2 := Int.tdiv_eq_ediv_of_nonneg (by omega)
  have s4 : IntKind.i64.wrap (2 + j + 2 + n / 2) = 2 + j + 2 + n / 2 := IntWalk.i64_in _ (by omega)
  have HX := Lib.hid (Boxed.start w [.int .i64 b, .int .i64 p, .int .i64 n, .int .i64 j] 63)
  go_enter Tryz.func61, Tryz.ntmps61
  go_wp2_with (first
    | (go_at_call 95; refine (refSpan_yes b p n j _ 0 hq.out).mono ?_; rintro e w1 ⟨rfl, hb1⟩
       have HY : Hid (Boxed w w1 [.int .i64 b, .int .i64 p, .int .i64 n, .int .i64 j]) := Lib.hid (by refine Boxed.go ?_ hb1; repeat (first | exact HY.out | exact HX.out | exact HY.out.drewN 1 | exact HX.out.drewN 1 | apply Boxed.alloc))
       obtain ⟨c0, c1, c2, c3⟩ := HY.out.four
       clear hb1))
  go_quiet (fail)
  have HY := Lib.hid (HY.out.drewN nq)
  go_wp2
  exact bodyPost_ret (v := .tuple #[.int .i64 (2 + j), .int .i64 ((2 + j) + 1), .int .i64 ((2 + j) + 2), .int .i64 ((2 + j) + 2 + n / 2), .int .i64 0]) (by simp [results, Tryz.results61, go_sem]) rfl ⟨rfl, HY.out.below⟩
set_option maxHeartbeats 400000 in
theorem refPlace_up (k : Int) (hh : hasB b p n j k = true) (hk : (k == 0) = false) :
    Calls Tryz.prog 61 #[.agg #[.int .i64 b, .int .i64 p, .int .i64 n, .int .i64 j], .int .i64 k] w fun e w' => e = .returned (.tuple #[.int .i64 (baseI p j k), .int .i64 (baseI p j k + 1), .int .i64 (tableI p j k), .int .i64 (dataI p n j k), .int .i64 0]) ∧ Below w.heap.size w w' := by
  obtain ⟨hm, hk0, hk1, hk2⟩ := has_may hh
  obtain ⟨hb0, hb1, hp0, hp1, hn0, hn1, hev, hj0, hj1, hg0, hg1, hlo, hhi, hf, hl⟩ := may_iff.1 hm
  obtain ⟨m0, m1⟩ := mul_bd hk0 (show k ≤ 200 by omega) (show 0 ≤ p by omega) hp1
  clear hl hf hlo hhi hev hk1 hg0 hg1 hm
  have hq := Lib.hid hh
  clear hh
  have hz : k ≠ 0 := by simpa using hk
  unfold tableI dataI tableI
  rw [base_up _ _ _ hz]
  clear hz
  generalize hm : k * p = m at *
  have s1 : IntKind.i64.wrap (m + 1) = m + 1 := IntWalk.i64_in _ (by omega)
  have s2 : IntKind.i64.wrap (m + 2) = m + 2 := IntWalk.i64_in _ (by omega)
  have s3 : n.tdiv 2 = n / 2 := Int.tdiv_eq_ediv_of_nonneg (by omega)
  have s4 : IntKind.i64.wrap (m + 2 + n / 2) = m + 2 + n / 2 := IntWalk.i64_in _ (by omega)
  have HX := Lib.hid (Boxed.start w [.int .i64 b, .int .i64 p, .int .i64 n, .int .i64 j] 63)
  go_enter Tryz.func61, Tryz.ntmps61
  go_wp2_with (first
    | (go_at_call 95; refine (refSpan_yes b p n j _ k hq.out).mono ?_; rintro e w1 ⟨rfl, hb1⟩
       have HY : Hid (Boxed w w1 [.int .i64 b, .int .i64 p, .int .i64 n, .int .i64 j]) := Lib.hid (by refine Boxed.go ?_ hb1; repeat (first | exact HY.out | exact HX.out | exact HY.out.drewN 1 | exact HX.out.drewN 1 | apply Boxed.alloc))
       obtain ⟨c0, c1, c2, c3⟩ := HY.out.four
       clear hb1))
  go_quiet (fail)
  have HY := Lib.hid (HY.out.drewN nq)
  go_wp2
  exact bodyPost_ret (v := .tuple #[.int .i64 m, .int .i64 (m + 1), .int .i64 (m + 2), .int .i64 (m + 2 + n / 2), .int .i64 0]) (by simp [results, Tryz.results61, go_sem]) rfl ⟨rfl, HY.out.below⟩
set_option maxHeartbeats 400000 in
theorem refPlace_yes (k : Int) (hh : hasB b p n j k = true) :
    Calls Tryz.prog 61 #[.agg #[.int .i64 b, .int .i64 p, .int .i64 n, .int .i64 j], .int .i64 k] w fun e w' => e = .returned (.tuple #[.int .i64 (baseI p j k), .int .i64 (baseI p j k + 1), .int .i64 (tableI p j k), .int .i64 (dataI p n j k), .int .i64 0]) ∧ Below w.heap.size w w' := by
  by_cases hk : k = 0
  · subst hk; exact refPlace_0 b p n j w hh
  · exact refPlace_up b p n j w k hh (by simpa using hk)
set_option maxHeartbeats 400000 in
theorem refFixed_no (hm : mayB b p n j = false) :
    Calls Tryz.prog 66 #[.agg #[.int .i64 b, .int .i64 p, .int .i64 n, .int .i64 j]] w fun e w' => e = .returned (.int .i64 0) ∧ Below w.heap.size w w' := by
  have hq := Lib.hid hm
  clear hm
  have HX := Lib.hid (Boxed.start w [.int .i64 b, .int .i64 p, .int .i64 n, .int .i64 j] 63)
  go_enter Tryz.func66, Tryz.ntmps66
  go_wp2_with (first
    | (go_at_call 60; refine (refGroups_no b p n j _ hq.out).mono ?_; rintro e w1 ⟨rfl, hb1⟩
       have HY : Hid (Boxed w w1 [.int .i64 b, .int .i64 p, .int .i64 n, .int .i64 j]) := Lib.hid (by refine Boxed.go ?_ hb1; repeat (first | exact HY.out | exact HX.out | exact HY.out.drewN 1 | exact HX.out.drewN 1 | apply Boxed.alloc))
       obtain ⟨c0, c1, c2, c3⟩ := HY.out.four
       clear hb1))
  go_ret
  exact ⟨rfl, HY.out.below⟩
set_option maxHeartbeats 400000 in
theorem refFixed_yes (hm : mayB b p n j = true) :
    Calls Tryz.prog 66 #[.agg #[.int .i64 b, .int .i64 p, .int .i64 n, .int .i64 j]] w fun e w' => e = .returned (.int .i64 (2 + j + gN b p * (2 + n / 2))) ∧ Below w.heap.size w w' := by
  obtain ⟨hb0, hb1, hp0, hp1, hn0, hn1, hev, hj0, hj1, hg0, hg1, hlo, hhi, hf, hl⟩ := may_iff.1 hm
  clear hl hf hlo hhi hev
  have hq := Lib.hid hm
  clear hm
  obtain ⟨t0, t1⟩ := prod2_bd (by omega) hg1 hn0 hn1
  have d0 : (gN b p == 0) = false := by simp; omega
  have HX := Lib.hid (Boxed.start w [.int .i64 b, .int .i64 p, .int .i64 n, .int .i64 j] 63)
  go_enter Tryz.func66, Tryz.ntmps66
  go_wp2_with (first
    | (go_at_call 60; refine (refGroups_yes b p n j _ hq.out).mono ?_; rintro e w1 ⟨rfl, hb1⟩
       have HY : Hid (Boxed w w1 [.int .i64 b, .int .i64 p, .int .i64 n, .int .i64 j]) := Lib.hid (by refine Boxed.go ?_ hb1; repeat (first | exact HY.out | exact HX.out | exact HY.out.drewN 1 | exact HX.out.drewN 1 | apply Boxed.alloc))
       obtain ⟨c0, c1, c2, c3⟩ := HY.out.four
       clear hb1))
  go_ret
  exact ⟨rfl, HY.out.below⟩
set_option maxHeartbeats 400000 in
theorem refFixed_any  :
    Calls Tryz.prog 66 #[.agg #[.int .i64 b, .int .i64 p, .int .i64 n, .int .i64 j]] w fun e w' => e = .returned (.int .i64 (fixedI b p n j)) ∧ Below w.heap.size w w' := by
  cases hm : mayB b p n j with
  | true => rw [fixedI_yes hm]; exact refFixed_yes b p n j w hm
  | false => rw [fixedI_no hm]; exact refFixed_no b p n j w hm
end
end Go.Proofs.YtgjcbfdhpbkhoaaGreatDoor.GRef2
/- One contract for each face of a geometry, the program's and the document's; the document's examples. -/
namespace Go.Proofs.YtgjcbfdhpbkhoaaGreatDoor.GFace
open Go.RowKit WMem GPlain GWithin GGeo GGeo2 GRef GRef2
section
variable (b p n j : Int) (w : World)
theorem Check_any  :
    Calls Tryz.prog 53 #[.agg #[.int .i64 b, .int .i64 p, .int .i64 n, .int .i64 j]] w fun e w' => e = .returned (.int .i64 (chk b p n j)) ∧ Below w.heap.size w w' := by
  cases h : mayB b p n j with
  | true => simp only [chk, h, if_true]; exact Check_yes b p n j w h
  | false => simp only [chk, h, Bool.false_eq_true, if_false]; exact Check_no b p n j w h
theorem Span_any (k : Int) :
    Calls Tryz.prog 114 #[.agg #[.int .i64 b, .int .i64 p, .int .i64 n, .int .i64 j], .int .i64 k] w fun e w' => e = .returned (.tuple #[.int .i64 (sp0 b p n j k), .int .i64 (sp1 b p n j k), .int .i64 (er b p n j k)]) ∧ Below w.heap.size w w' := by
  cases h : hasB b p n j k with
  | true => simp only [sp0, sp1, er, h, if_true]; exact Span_yes b p n j w k h
  | false => simp only [sp0, sp1, er, h, Bool.false_eq_true, if_false]; exact Span_no b p n j w k h
theorem Place_any (k : Int) :
    Calls Tryz.prog 115 #[.agg #[.int .i64 b, .int .i64 p, .int .i64 n, .int .i64 j], .int .i64 k] w fun e w' => e = .returned (.tuple #[.int .i64 (pl0 b p n j k), .int .i64 (pl1 b p n j k), .int .i64 (pl2 b p n j k), .int .i64 (pl3 b p n j k), .int .i64 (er b p n j k)]) ∧ Below w.heap.size w w' := by
  cases h : hasB b p n j k with
  | true => simp only [pl0, pl1, pl2, pl3, er, h, if_true]; exact Place_yes b p n j w k h
  | false => simp only [pl0, pl1, pl2, pl3, er, h, Bool.false_eq_true, if_false]; exact Place_no b p n j w k h
theorem InodeAt_any (i : Int) :
    Calls Tryz.prog 104 #[.agg #[.int .i64 b, .int .i64 p, .int .i64 n, .int .i64 j], .int .i64 i] w fun e w' => e = .returned (.tuple #[.int .i64 (in0 b p n j i), .int .i64 (in1 b p n j i), .int .i64 (ie b p n j i)]) ∧ Below w.heap.size w w' := by
  cases h : inoB b p n j i with
  | true => simp only [in0, in1, ie, h, if_true]; exact InodeAt_yes b p n j w i h
  | false => simp only [in0, in1, ie, h, Bool.false_eq_true, if_false]; exact InodeAt_no b p n j w i h
theorem refCheck_any  :
    Calls Tryz.prog 59 #[.agg #[.int .i64 b, .int .i64 p, .int .i64 n, .int .i64 j]] w fun e w' => e = .returned (.int .i64 (chk b p n j)) ∧ Below w.heap.size w w' := by
  cases h : mayB b p n j with
  | true => simp only [chk, h, if_true]; exact refCheck_yes b p n j w h
  | false => simp only [chk, h, Bool.false_eq_true, if_false]; exact refCheck_no b p n j w h
theorem refPlace_any (k : Int) :
    Calls Tryz.prog 61 #[.agg #[.int .i64 b, .int .i64 p, .int .i64 n, .int .i64 j], .int .i64 k] w fun e w' => e = .returned (.tuple #[.int .i64 (pl0 b p n j k), .int .i64 (pl1 b p n j k), .int .i64 (pl2 b p n j k), .int .i64 (pl3 b p n j k), .int .i64 (er b p n j k)]) ∧ Below w.heap.size w w' := by
  cases h : hasB b p n j k with
  | true => simp only [pl0, pl1, pl2, pl3, er, h, if_true]; exact refPlace_yes b p n j w k h
  | false => simp only [pl0, pl1, pl2, pl3, er, h, Bool.false_eq_true, if_false]; exact refPlace_no b p n j w k h
end
end Go.Proofs.YtgjcbfdhpbkhoaaGreatDoor.GFace
