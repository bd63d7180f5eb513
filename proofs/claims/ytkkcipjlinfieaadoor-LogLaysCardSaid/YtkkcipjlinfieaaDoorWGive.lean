/- How layer wire gives up: must, the checks of a width and of a place, what a face makes of what it has caught. -/
import Derived.Test.YtkkcipjlinfieaaDoorProg
import Derived.Test.YtkkcipjlinfieaaDoorWMem
import Derived.WalkKit
import Derived.WalkSpells
import Derived.WalkLawsBesides
import Derived.Defers
import Derived.Recover
import Derived.Handy
import Derived.KernelRfl
namespace Go.Proofs.YtkkcipjlinfieaaDoor.WGive
open Go.RowKit WMem

/-- what is given up with an error's number -/
abbrev fault (e : Int) : Value := .iface 105 (.agg #[.int .i64 e])
abbrev given (e : Int) : Ending := .panicked [{ v := fault e, recovered := false }]

theorem must_ok (e : Int) (w : World) : Calls Tryd.prog 57 #[.bool true, .int .i64 e] w fun r w' => r = .returned (.tuple #[]) ∧ w = w' := by
  go_enter Tryd.func57, Tryd.ntmps57
  go_wp2
  go_end0
  exact ⟨rfl, rfl⟩
theorem must_no (e : Int) (w : World) : Calls Tryd.prog 57 #[.bool false, .int .i64 e] w fun r w' => r = given e ∧ w = w' := by
  go_enter Tryd.func57, Tryd.ntmps57
  go_wp2
  exact ⟨rfl, rfl, rfl⟩

theorem width_ok (n : Int) (w : World) (h1 : 1 ≤ n) (h2 : n ≤ 8) : Calls Tryd.prog 72 #[.int .i64 n] w fun r w' => r = .returned (.tuple #[]) ∧ w = w' := by
  have d1 : decide (1 ≤ n) = true := by simpa using h1
  have d2 : decide (n ≤ 8) = true := by simpa using h2
  go_enter Tryd.func72, Tryd.ntmps72
  go_wp2_with (go_at_call 57; refine (must_ok _ _).mono ?_; rintro e w' ⟨rfl, rfl⟩)
  go_end0
  exact ⟨rfl, rfl⟩
theorem width_no (n : Int) (w : World) (h : n < 1 ∨ 8 < n) : Calls Tryd.prog 72 #[.int .i64 n] w fun r w' => r = given 22 ∧ w = w' := by
  by_cases h1 : 1 ≤ n
  · have d1 : decide (1 ≤ n) = true := by simpa using h1
    have d2 : decide (n ≤ 8) = false := by simp; omega
    go_enter Tryd.func72, Tryd.ntmps72
    go_wp2_with (go_at_call 57; refine (must_no _ _).mono ?_; rintro e w' ⟨rfl, rfl⟩)
    exact ⟨rfl, rfl, rfl⟩
  · have d1 : decide (1 ≤ n) = false := by simpa using h1
    go_enter Tryd.func72, Tryd.ntmps72
    go_wp2_with (go_at_call 57; refine (must_no _ _).mono ?_; rintro e w' ⟨rfl, rfl⟩)
    exact ⟨rfl, rfl, rfl⟩

theorem place_ok (A : Option Addr) (len c : Nat) (at_ n : Int) (w : World) (h1 : 1 ≤ n) (h2 : n ≤ 8) (h3 : 0 ≤ at_) (h4 : at_ ≤ len - n) (hl : len ≤ 140737488355328) :
    Calls Tryd.prog 65 #[.slice A len c, .int .i64 at_, .int .i64 n] w fun r w' => r = .returned (.tuple #[]) ∧ w = w' := by
  have d1 : decide (0 ≤ at_) = true := by simpa using h3
  have d2 : decide (at_ ≤ (len : Int) - n) = true := by simpa using h4
  go_enter Tryd.func65, Tryd.ntmps65
  go_wp2_with (first | (go_at_call 72; refine (width_ok _ _ h1 h2).mono ?_; rintro e w' ⟨rfl, rfl⟩) | (go_at_call 57; refine (must_ok _ _).mono ?_; rintro e w' ⟨rfl, rfl⟩))
  go_end0
  exact ⟨rfl, rfl⟩
theorem place_no (A : Option Addr) (len c : Nat) (at_ n : Int) (w : World) (h : ¬ (1 ≤ n ∧ n ≤ 8 ∧ 0 ≤ at_ ∧ at_ ≤ len - n)) (hl : len ≤ 140737488355328) :
    Calls Tryd.prog 65 #[.slice A len c, .int .i64 at_, .int .i64 n] w fun r w' => r = given 22 ∧ w = w' := by
  by_cases hn : 1 ≤ n ∧ n ≤ 8
  · obtain ⟨h1, h2⟩ := hn
    by_cases h3 : 0 ≤ at_
    · have d1 : decide (0 ≤ at_) = true := by simpa using h3
      have d2 : decide (at_ ≤ (len : Int) - n) = false := by simp; omega
      clear h
      go_enter Tryd.func65, Tryd.ntmps65
      go_wp2_with (first | (go_at_call 72; refine (width_ok _ _ h1 h2).mono ?_; rintro e w' ⟨rfl, rfl⟩) | (go_at_call 57; refine (must_no _ _).mono ?_; rintro e w' ⟨rfl, rfl⟩))
      exact ⟨rfl, rfl, rfl⟩
    · have d1 : decide (0 ≤ at_) = false := by simpa using h3
      clear h
      go_enter Tryd.func65, Tryd.ntmps65
      go_wp2_with (first | (go_at_call 72; refine (width_ok _ _ h1 h2).mono ?_; rintro e w' ⟨rfl, rfl⟩) | (go_at_call 57; refine (must_no _ _).mono ?_; rintro e w' ⟨rfl, rfl⟩))
      exact ⟨rfl, rfl, rfl⟩
  · have hx : n < 1 ∨ 8 < n := by omega
    clear h hn
    go_enter Tryd.func65, Tryd.ntmps65
    go_wp2_with (go_at_call 72; refine (width_no _ _ hx).mono ?_; rintro e w' ⟨rfl, rfl⟩)
    exact ⟨rfl, rfl, rfl⟩

theorem givenUp_nil (w : World) : Calls Tryd.prog 45 #[.nilIface] w fun r w' => r = .returned (.int .i64 0) ∧ w = w' := by
  go_enter Tryd.func45, Tryd.ntmps45
  go_wp2
  go_ret
  exact ⟨rfl, rfl⟩
theorem givenUp_fault (x : Int) (w : World) : Calls Tryd.prog 45 #[fault x] w fun r w' => r = .returned (.int .i64 x) ∧ Below w.heap.size w w' := by
  have hta : ∀ w : World, (Instr.typeAssert (fault x) 20 105 true).run Tryd.prog w = .ok (.tuple #[.agg #[.int .i64 x], .bool true]) w := fun _ => by kernel_rfl
  go_enter Tryd.func45, Tryd.ntmps45
  go_wp2
  go_ret
  exact ⟨rfl, by go_grown⟩

theorem get_caught (p : Addr) (y x : Int) (older : List PanicEntry) (w : World) (hc : w.cell? p = some (.int .i64 y)) (hz : w.frozen? p = false) :
    CallsD Tryd.prog 44 #[.pointer (some p)] (.panicking ({ v := fault x, recovered := false } :: older)) w fun e u' w' =>
      e = .returned (.tuple #[]) ∧ u' = .panicking ({ v := fault x, recovered := true } :: older) ∧ w'.cell? p = some (.int .i64 x) ∧ w.grownBy w' (some p.block) := by
  refine callsD_of_wpS Tryd.func44 rfl fun c₀ cs hu => ?_
  apply wpS_region
  simp [wpOpsS, go_sem, recoverD, hu, Tryd.ntmps44]
  refine (givenUp_fault x w).mono ?_
  rintro e w' ⟨rfl, hb⟩
  have hlt := World.block_lt_of_cell? w p hc
  have hc' := (hb.cell hlt).trans hc
  have hz' := (hb.frozen hlt).trans hz
  simp [go_sem, hc', hz', bodyPostS, results, Tryd.results44]
  exact grown_setp (below_grown hb _) _
theorem get_idle (p : Addr) (y : Int) (w : World) (hc : w.cell? p = some (.int .i64 y)) (hz : w.frozen? p = false) :
    CallsD Tryd.prog 44 #[.pointer (some p)] .returning w fun e u' w' => e = .returned (.tuple #[]) ∧ u' = .returning ∧ w'.cell? p = some (.int .i64 0) ∧ w.grownBy w' (some p.block) := by
  refine callsD_of_wpS Tryd.func44 rfl fun c₀ cs hu => ?_
  apply wpS_region
  simp [wpOpsS, go_sem, recoverD, hu, Tryd.ntmps44]
  refine (givenUp_nil w).mono ?_
  rintro e w' ⟨rfl, rfl⟩
  simp [go_sem, hc, hz, bodyPostS, results, Tryd.results44]
  exact ⟨c₀.mode, rfl, hu, grown_setp (grown_refl _ _) _⟩
theorem seal_caught (p : Addr) (y x : Int) (older : List PanicEntry) (w : World) (hc : w.cell? p = some (.int .i64 y)) (hz : w.frozen? p = false) :
    CallsD Tryd.prog 61 #[.pointer (some p)] (.panicking ({ v := fault x, recovered := false } :: older)) w fun e u' w' =>
      e = .returned (.tuple #[]) ∧ u' = .panicking ({ v := fault x, recovered := true } :: older) ∧ w'.cell? p = some (.int .i64 x) ∧ w.grownBy w' (some p.block) := by
  refine callsD_of_wpS Tryd.func61 rfl fun c₀ cs hu => ?_
  apply wpS_region
  simp [wpOpsS, go_sem, recoverD, hu, Tryd.ntmps61]
  refine (givenUp_fault x w).mono ?_
  rintro e w' ⟨rfl, hb⟩
  have hlt := World.block_lt_of_cell? w p hc
  have hc' := (hb.cell hlt).trans hc
  have hz' := (hb.frozen hlt).trans hz
  simp [go_sem, hc', hz', bodyPostS, results, Tryd.results61]
  exact grown_setp (below_grown hb _) _
theorem seal_idle (p : Addr) (y : Int) (w : World) (hc : w.cell? p = some (.int .i64 y)) (hz : w.frozen? p = false) :
    CallsD Tryd.prog 61 #[.pointer (some p)] .returning w fun e u' w' => e = .returned (.tuple #[]) ∧ u' = .returning ∧ w'.cell? p = some (.int .i64 0) ∧ w.grownBy w' (some p.block) := by
  refine callsD_of_wpS Tryd.func61 rfl fun c₀ cs hu => ?_
  apply wpS_region
  simp [wpOpsS, go_sem, recoverD, hu, Tryd.ntmps61]
  refine (givenUp_nil w).mono ?_
  rintro e w' ⟨rfl, rfl⟩
  simp [go_sem, hc, hz, bodyPostS, results, Tryd.results61]
  exact ⟨c₀.mode, rfl, hu, grown_setp (grown_refl _ _) _⟩
theorem pack_caught (p : Addr) (y x : Int) (older : List PanicEntry) (w : World) (hc : w.cell? p = some (.int .i64 y)) (hz : w.frozen? p = false) :
    CallsD Tryd.prog 56 #[.pointer (some p)] (.panicking ({ v := fault x, recovered := false } :: older)) w fun e u' w' =>
      e = .returned (.tuple #[]) ∧ u' = .panicking ({ v := fault x, recovered := true } :: older) ∧ w'.cell? p = some (.int .i64 x) ∧ w.grownBy w' (some p.block) := by
  refine callsD_of_wpS Tryd.func56 rfl fun c₀ cs hu => ?_
  apply wpS_region
  simp [wpOpsS, go_sem, recoverD, hu, Tryd.ntmps56]
  refine (givenUp_fault x w).mono ?_
  rintro e w' ⟨rfl, hb⟩
  have hlt := World.block_lt_of_cell? w p hc
  have hc' := (hb.cell hlt).trans hc
  have hz' := (hb.frozen hlt).trans hz
  simp [go_sem, hc', hz', bodyPostS, results, Tryd.results56]
  exact grown_setp (below_grown hb _) _
theorem pack_idle (p : Addr) (y : Int) (w : World) (hc : w.cell? p = some (.int .i64 y)) (hz : w.frozen? p = false) :
    CallsD Tryd.prog 56 #[.pointer (some p)] .returning w fun e u' w' => e = .returned (.tuple #[]) ∧ u' = .returning ∧ w'.cell? p = some (.int .i64 0) ∧ w.grownBy w' (some p.block) := by
  refine callsD_of_wpS Tryd.func56 rfl fun c₀ cs hu => ?_
  apply wpS_region
  simp [wpOpsS, go_sem, recoverD, hu, Tryd.ntmps56]
  refine (givenUp_nil w).mono ?_
  rintro e w' ⟨rfl, rfl⟩
  simp [go_sem, hc, hz, bodyPostS, results, Tryd.results56]
  exact ⟨c₀.mode, rfl, hu, grown_setp (grown_refl _ _) _⟩
theorem unpack_caught (p : Addr) (y x : Int) (older : List PanicEntry) (w : World) (hc : w.cell? p = some (.int .i64 y)) (hz : w.frozen? p = false) :
    CallsD Tryd.prog 66 #[.pointer (some p)] (.panicking ({ v := fault x, recovered := false } :: older)) w fun e u' w' =>
      e = .returned (.tuple #[]) ∧ u' = .panicking ({ v := fault x, recovered := true } :: older) ∧ w'.cell? p = some (.int .i64 x) ∧ w.grownBy w' (some p.block) := by
  refine callsD_of_wpS Tryd.func66 rfl fun c₀ cs hu => ?_
  apply wpS_region
  simp [wpOpsS, go_sem, recoverD, hu, Tryd.ntmps66]
  refine (givenUp_fault x w).mono ?_
  rintro e w' ⟨rfl, hb⟩
  have hlt := World.block_lt_of_cell? w p hc
  have hc' := (hb.cell hlt).trans hc
  have hz' := (hb.frozen hlt).trans hz
  simp [go_sem, hc', hz', bodyPostS, results, Tryd.results66]
  exact grown_setp (below_grown hb _) _
theorem unpack_idle (p : Addr) (y : Int) (w : World) (hc : w.cell? p = some (.int .i64 y)) (hz : w.frozen? p = false) :
    CallsD Tryd.prog 66 #[.pointer (some p)] .returning w fun e u' w' => e = .returned (.tuple #[]) ∧ u' = .returning ∧ w'.cell? p = some (.int .i64 0) ∧ w.grownBy w' (some p.block) := by
  refine callsD_of_wpS Tryd.func66 rfl fun c₀ cs hu => ?_
  apply wpS_region
  simp [wpOpsS, go_sem, recoverD, hu, Tryd.ntmps66]
  refine (givenUp_nil w).mono ?_
  rintro e w' ⟨rfl, rfl⟩
  simp [go_sem, hc, hz, bodyPostS, results, Tryd.results66]
  exact ⟨c₀.mode, rfl, hu, grown_setp (grown_refl _ _) _⟩
end Go.Proofs.YtkkcipjlinfieaaDoor.WGive
