/- How layer wire gives up: must, the checks of a width and of a place, what a face makes of what it has caught. -/
import Derived.Test.YtgegmoejhnjhjaaDoorProg
import Derived.Test.YtgegmoejhnjhjaaDoorWMem
import Derived.WalkKit
import Derived.WalkSpells
import Derived.WalkLawsBesides
import Derived.Defers
import Derived.Recover
import Derived.Handy
import Derived.KernelRfl
namespace Go.Proofs.YtgegmoejhnjhjaaDoor.WGive
open Go.RowKit WMem

/-- what is given up with an error's number -/
abbrev fault (e : Int) : Value := .iface 117 (.agg #[.int .i64 e])
abbrev given (e : Int) : Ending := .panicked [{ v := fault e, recovered := false }]

theorem must_ok (e : Int) (w : World) : Calls Tryd.prog 59 #[.bool true, .int .i64 e] w fun r w' => r = .returned (.tuple #[]) ∧ w = w' := by
  go_enter Tryd.func59, Tryd.ntmps59
  go_wp2
  go_end0
  exact ⟨rfl, rfl⟩
theorem must_no (e : Int) (w : World) : Calls Tryd.prog 59 #[.bool false, .int .i64 e] w fun r w' => r = given e ∧ w = w' := by
  go_enter Tryd.func59, Tryd.ntmps59
  go_wp2
  exact ⟨rfl, rfl, rfl⟩

theorem width_ok (n : Int) (w : World) (h1 : 1 ≤ n) (h2 : n ≤ 8) : Calls Tryd.prog 83 #[.int .i64 n] w fun r w' => r = .returned (.tuple #[]) ∧ w = w' := by
  have d1 : decide (1 ≤ n) = true := by simpa using h1
  have d2 : decide (n ≤ 8) = true := by simpa using h2
  go_enter Tryd.func83, Tryd.ntmps83
  go_wp2_with (go_at_call 59; refine (must_ok _ _).mono ?_; rintro e w' ⟨rfl, rfl⟩)
  go_end0
  exact ⟨rfl, rfl⟩
theorem width_no (n : Int) (w : World) (h : n < 1 ∨ 8 < n) : Calls Tryd.prog 83 #[.int .i64 n] w fun r w' => r = given 22 ∧ w = w' := by
  by_cases h1 : 1 ≤ n
  · have d1 : decide (1 ≤ n) = true := by simpa using h1
    have d2 : decide (n ≤ 8) = false := by simp; omega
    go_enter Tryd.func83, Tryd.ntmps83
    go_wp2_with (go_at_call 59; refine (must_no _ _).mono ?_; rintro e w' ⟨rfl, rfl⟩)
    exact ⟨rfl, rfl, rfl⟩
  · have d1 : decide (1 ≤ n) = false := by simpa using h1
    go_enter Tryd.func83, Tryd.ntmps83
    go_wp2_with (go_at_call 59; refine (must_no _ _).mono ?_; rintro e w' ⟨rfl, rfl⟩)
    exact ⟨rfl, rfl, rfl⟩

theorem place_ok (A : Option Addr) (len c : Nat) (at_ n : Int) (w : World) (h1 : 1 ≤ n) (h2 : n ≤ 8) (h3 : 0 ≤ at_) (h4 : at_ ≤ len - n) (hl : len ≤ 140737488355328) :
    Calls Tryd.prog 85 #[.slice A len c, .int .i64 at_, .int .i64 n] w fun r w' => r = .returned (.tuple #[]) ∧ w = w' := by
  have d1 : decide (0 ≤ at_) = true := by simpa using h3
  have d2 : decide (at_ ≤ (len : Int) - n) = true := by simpa using h4
  go_enter Tryd.func85, Tryd.ntmps85
  go_wp2_with (first | (go_at_call 83; refine (width_ok _ _ h1 h2).mono ?_; rintro e w' ⟨rfl, rfl⟩) | (go_at_call 59; refine (must_ok _ _).mono ?_; rintro e w' ⟨rfl, rfl⟩))
  go_end0
  exact ⟨rfl, rfl⟩
theorem place_no (A : Option Addr) (len c : Nat) (at_ n : Int) (w : World) (h : ¬ (1 ≤ n ∧ n ≤ 8 ∧ 0 ≤ at_ ∧ at_ ≤ len - n)) (hl : len ≤ 140737488355328) :
    Calls Tryd.prog 85 #[.slice A len c, .int .i64 at_, .int .i64 n] w fun r w' => r = given 22 ∧ w = w' := by
  by_cases hn : 1 ≤ n ∧ n ≤ 8
  · obtain ⟨h1, h2⟩ := hn
    by_cases h3 : 0 ≤ at_
    · have d1 : decide (0 ≤ at_) = true := by simpa using h3
      have d2 : decide (at_ ≤ (len : Int) - n) = false := by simp; omega
      clear h
      go_enter Tryd.func85, Tryd.ntmps85
      go_wp2_with (first | (go_at_call 83; refine (width_ok _ _ h1 h2).mono ?_; rintro e w' ⟨rfl, rfl⟩) | (go_at_call 59; refine (must_no _ _).mono ?_; rintro e w' ⟨rfl, rfl⟩))
      exact ⟨rfl, rfl, rfl⟩
    · have d1 : decide (0 ≤ at_) = false := by simpa using h3
      clear h
      go_enter Tryd.func85, Tryd.ntmps85
      go_wp2_with (first | (go_at_call 83; refine (width_ok _ _ h1 h2).mono ?_; rintro e w' ⟨rfl, rfl⟩) | (go_at_call 59; refine (must_no _ _).mono ?_; rintro e w' ⟨rfl, rfl⟩))
      exact ⟨rfl, rfl, rfl⟩
  · have hx : n < 1 ∨ 8 < n := by omega
    clear h hn
    go_enter Tryd.func85, Tryd.ntmps85
    go_wp2_with (go_at_call 83; refine (width_no _ _ hx).mono ?_; rintro e w' ⟨rfl, rfl⟩)
    exact ⟨rfl, rfl, rfl⟩

theorem givenUp_nil (w : World) : Calls Tryd.prog 58 #[.nilIface] w fun r w' => r = .returned (.int .i64 0) ∧ w = w' := by
  go_enter Tryd.func58, Tryd.ntmps58
  go_wp2
  go_ret
  exact ⟨rfl, rfl⟩
theorem givenUp_fault (x : Int) (w : World) : Calls Tryd.prog 58 #[fault x] w fun r w' => r = .returned (.int .i64 x) ∧ Below w.heap.size w w' := by
  have hta : ∀ w : World, (Instr.typeAssert (fault x) 20 117 true).run Tryd.prog w = .ok (.tuple #[.agg #[.int .i64 x], .bool true]) w := fun _ => by kernel_rfl
  go_enter Tryd.func58, Tryd.ntmps58
  go_wp2
  go_ret
  exact ⟨rfl, by go_grown⟩

theorem get_caught (p : Addr) (y x : Int) (older : List PanicEntry) (w : World) (hc : w.cell? p = some (.int .i64 y)) (hz : w.frozen? p = false) :
    CallsD Tryd.prog 77 #[.pointer (some p)] (.panicking ({ v := fault x, recovered := false } :: older)) w fun e u' w' =>
      e = .returned (.tuple #[]) ∧ u' = .panicking ({ v := fault x, recovered := true } :: older) ∧ w'.cell? p = some (.int .i64 x) ∧ w.grownBy w' (some p.block) := by
  refine callsD_of_wpS Tryd.func77 rfl fun c₀ cs hu => ?_
  apply wpS_region
  simp [wpOpsS, go_sem, recoverD, hu, Tryd.ntmps77]
  refine (givenUp_fault x w).mono ?_
  rintro e w' ⟨rfl, hb⟩
  have hlt := World.block_lt_of_cell? w p hc
  have hc' := (hb.cell hlt).trans hc
  have hz' := (hb.frozen hlt).trans hz
  simp [go_sem, hc', hz', bodyPostS, results, Tryd.results77]
  exact grown_setp (below_grown hb _) _
theorem get_idle (p : Addr) (y : Int) (w : World) (hc : w.cell? p = some (.int .i64 y)) (hz : w.frozen? p = false) :
    CallsD Tryd.prog 77 #[.pointer (some p)] .returning w fun e u' w' => e = .returned (.tuple #[]) ∧ u' = .returning ∧ w'.cell? p = some (.int .i64 0) ∧ w.grownBy w' (some p.block) := by
  refine callsD_of_wpS Tryd.func77 rfl fun c₀ cs hu => ?_
  apply wpS_region
  simp [wpOpsS, go_sem, recoverD, hu, Tryd.ntmps77]
  refine (givenUp_nil w).mono ?_
  rintro e w' ⟨rfl, rfl⟩
  simp [go_sem, hc, hz, bodyPostS, results, Tryd.results77]
  exact ⟨c₀.mode, rfl, hu, grown_setp (grown_refl _ _) _⟩
theorem put_caught (p : Addr) (y x : Int) (older : List PanicEntry) (w : World) (hc : w.cell? p = some (.int .i64 y)) (hz : w.frozen? p = false) :
    CallsD Tryd.prog 79 #[.pointer (some p)] (.panicking ({ v := fault x, recovered := false } :: older)) w fun e u' w' =>
      e = .returned (.tuple #[]) ∧ u' = .panicking ({ v := fault x, recovered := true } :: older) ∧ w'.cell? p = some (.int .i64 x) ∧ w.grownBy w' (some p.block) := by
  refine callsD_of_wpS Tryd.func79 rfl fun c₀ cs hu => ?_
  apply wpS_region
  simp [wpOpsS, go_sem, recoverD, hu, Tryd.ntmps79]
  refine (givenUp_fault x w).mono ?_
  rintro e w' ⟨rfl, hb⟩
  have hlt := World.block_lt_of_cell? w p hc
  have hc' := (hb.cell hlt).trans hc
  have hz' := (hb.frozen hlt).trans hz
  simp [go_sem, hc', hz', bodyPostS, results, Tryd.results79]
  exact grown_setp (below_grown hb _) _
theorem put_idle (p : Addr) (y : Int) (w : World) (hc : w.cell? p = some (.int .i64 y)) (hz : w.frozen? p = false) :
    CallsD Tryd.prog 79 #[.pointer (some p)] .returning w fun e u' w' => e = .returned (.tuple #[]) ∧ u' = .returning ∧ w'.cell? p = some (.int .i64 0) ∧ w.grownBy w' (some p.block) := by
  refine callsD_of_wpS Tryd.func79 rfl fun c₀ cs hu => ?_
  apply wpS_region
  simp [wpOpsS, go_sem, recoverD, hu, Tryd.ntmps79]
  refine (givenUp_nil w).mono ?_
  rintro e w' ⟨rfl, rfl⟩
  simp [go_sem, hc, hz, bodyPostS, results, Tryd.results79]
  exact ⟨c₀.mode, rfl, hu, grown_setp (grown_refl _ _) _⟩
theorem seal_caught (p : Addr) (y x : Int) (older : List PanicEntry) (w : World) (hc : w.cell? p = some (.int .i64 y)) (hz : w.frozen? p = false) :
    CallsD Tryd.prog 63 #[.pointer (some p)] (.panicking ({ v := fault x, recovered := false } :: older)) w fun e u' w' =>
      e = .returned (.tuple #[]) ∧ u' = .panicking ({ v := fault x, recovered := true } :: older) ∧ w'.cell? p = some (.int .i64 x) ∧ w.grownBy w' (some p.block) := by
  refine callsD_of_wpS Tryd.func63 rfl fun c₀ cs hu => ?_
  apply wpS_region
  simp [wpOpsS, go_sem, recoverD, hu, Tryd.ntmps63]
  refine (givenUp_fault x w).mono ?_
  rintro e w' ⟨rfl, hb⟩
  have hlt := World.block_lt_of_cell? w p hc
  have hc' := (hb.cell hlt).trans hc
  have hz' := (hb.frozen hlt).trans hz
  simp [go_sem, hc', hz', bodyPostS, results, Tryd.results63]
  exact grown_setp (below_grown hb _) _
theorem seal_idle (p : Addr) (y : Int) (w : World) (hc : w.cell? p = some (.int .i64 y)) (hz : w.frozen? p = false) :
    CallsD Tryd.prog 63 #[.pointer (some p)] .returning w fun e u' w' => e = .returned (.tuple #[]) ∧ u' = .returning ∧ w'.cell? p = some (.int .i64 0) ∧ w.grownBy w' (some p.block) := by
  refine callsD_of_wpS Tryd.func63 rfl fun c₀ cs hu => ?_
  apply wpS_region
  simp [wpOpsS, go_sem, recoverD, hu, Tryd.ntmps63]
  refine (givenUp_nil w).mono ?_
  rintro e w' ⟨rfl, rfl⟩
  simp [go_sem, hc, hz, bodyPostS, results, Tryd.results63]
  exact ⟨c₀.mode, rfl, hu, grown_setp (grown_refl _ _) _⟩
theorem pack_caught (p : Addr) (y x : Int) (older : List PanicEntry) (w : World) (hc : w.cell? p = some (.int .i64 y)) (hz : w.frozen? p = false) :
    CallsD Tryd.prog 57 #[.pointer (some p)] (.panicking ({ v := fault x, recovered := false } :: older)) w fun e u' w' =>
      e = .returned (.tuple #[]) ∧ u' = .panicking ({ v := fault x, recovered := true } :: older) ∧ w'.cell? p = some (.int .i64 x) ∧ w.grownBy w' (some p.block) := by
  refine callsD_of_wpS Tryd.func57 rfl fun c₀ cs hu => ?_
  apply wpS_region
  simp [wpOpsS, go_sem, recoverD, hu, Tryd.ntmps57]
  refine (givenUp_fault x w).mono ?_
  rintro e w' ⟨rfl, hb⟩
  have hlt := World.block_lt_of_cell? w p hc
  have hc' := (hb.cell hlt).trans hc
  have hz' := (hb.frozen hlt).trans hz
  simp [go_sem, hc', hz', bodyPostS, results, Tryd.results57]
  exact grown_setp (below_grown hb _) _
theorem pack_idle (p : Addr) (y : Int) (w : World) (hc : w.cell? p = some (.int .i64 y)) (hz : w.frozen? p = false) :
    CallsD Tryd.prog 57 #[.pointer (some p)] .returning w fun e u' w' => e = .returned (.tuple #[]) ∧ u' = .returning ∧ w'.cell? p = some (.int .i64 0) ∧ w.grownBy w' (some p.block) := by
  refine callsD_of_wpS Tryd.func57 rfl fun c₀ cs hu => ?_
  apply wpS_region
  simp [wpOpsS, go_sem, recoverD, hu, Tryd.ntmps57]
  refine (givenUp_nil w).mono ?_
  rintro e w' ⟨rfl, rfl⟩
  simp [go_sem, hc, hz, bodyPostS, results, Tryd.results57]
  exact ⟨c₀.mode, rfl, hu, grown_setp (grown_refl _ _) _⟩
theorem unpack_caught (p : Addr) (y x : Int) (older : List PanicEntry) (w : World) (hc : w.cell? p = some (.int .i64 y)) (hz : w.frozen? p = false) :
    CallsD Tryd.prog 88 #[.pointer (some p)] (.panicking ({ v := fault x, recovered := false } :: older)) w fun e u' w' =>
      e = .returned (.tuple #[]) ∧ u' = .panicking ({ v := fault x, recovered := true } :: older) ∧ w'.cell? p = some (.int .i64 x) ∧ w.grownBy w' (some p.block) := by
  refine callsD_of_wpS Tryd.func88 rfl fun c₀ cs hu => ?_
  apply wpS_region
  simp [wpOpsS, go_sem, recoverD, hu, Tryd.ntmps88]
  refine (givenUp_fault x w).mono ?_
  rintro e w' ⟨rfl, hb⟩
  have hlt := World.block_lt_of_cell? w p hc
  have hc' := (hb.cell hlt).trans hc
  have hz' := (hb.frozen hlt).trans hz
  simp [go_sem, hc', hz', bodyPostS, results, Tryd.results88]
  exact grown_setp (below_grown hb _) _
theorem unpack_idle (p : Addr) (y : Int) (w : World) (hc : w.cell? p = some (.int .i64 y)) (hz : w.frozen? p = false) :
    CallsD Tryd.prog 88 #[.pointer (some p)] .returning w fun e u' w' => e = .returned (.tuple #[]) ∧ u' = .returning ∧ w'.cell? p = some (.int .i64 0) ∧ w.grownBy w' (some p.block) := by
  refine callsD_of_wpS Tryd.func88 rfl fun c₀ cs hu => ?_
  apply wpS_region
  simp [wpOpsS, go_sem, recoverD, hu, Tryd.ntmps88]
  refine (givenUp_nil w).mono ?_
  rintro e w' ⟨rfl, rfl⟩
  simp [go_sem, hc, hz, bodyPostS, results, Tryd.results88]
  exact ⟨c₀.mode, rfl, hu, grown_setp (grown_refl _ _) _⟩
end Go.Proofs.YtgegmoejhnjhjaaDoor.WGive
