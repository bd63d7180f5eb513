/- A slice that reads as groups; the statements' own sameGroups. -/
import Derived.Test.YtoaallnmihhjlaaDoorQPlain
import Derived.Test.YtoaallnmihhjlaaDoorWHelp
import Derived.Deep.QuietTactic
import Derived.BigQuiet
namespace Go.Proofs.YtoaallnmihhjlaaDoor.QMem
open Go.RowKit WMem WPlain QPlain

theorem addr_field (a : Addr) (n j : Nat) (hj : j ≠ 0) : (⟨(a.add n).block, (a.add n).off + j, none⟩ : Addr) = a.add (n + j) := by
  rw [← addr_add_add a n j]
  generalize a.add n = x
  unfold Addr.add
  rw [if_neg hj]
def Grps (w : World) (B : Nat) (A : Option Addr) (l : List Grp) : Prop :=
  ∀ (i : Nat) (hi : i < l.length), ∃ a, A = some a ∧ a.block < B ∧ w.cell? (a.add (i * 3)) = some (.int .i64 l[i].fb) ∧ w.cell? (a.add (i * 3 + 1)) = some (.int .i64 l[i].fi) ∧ w.cell? (a.add (i * 3 + 2)) = some (.int .i64 l[i].dirs)
section
variable {w w' : World} {B B' : Nat} {A : Option Addr} {l : List Grp}
theorem Grps.keep (h : Grps w B A l) (hk : ∀ p : Addr, p.block < B → w'.cell? p = w.cell? p) : Grps w' B A l := fun i hi => by
  obtain ⟨a, hA, hab, h1, h2, h3⟩ := h i hi
  have hk' : ∀ n, w'.cell? (a.add n) = w.cell? (a.add n) := fun n => hk _ (by rw [addr_add_block]; omega)
  exact ⟨a, hA, hab, (hk' _).trans h1, (hk' _).trans h2, (hk' _).trans h3⟩
theorem Grps.below (h : Grps w B A l) (hb : Below B' w w') (hB : B ≤ B') : Grps w' B A l := h.keep fun _ hp => hb.cell (by omega)
theorem Grps.up (h : Grps w B A l) (hB : B ≤ B') : Grps w B' A l := fun i hi => by
  obtain ⟨a, hA, hab, h1⟩ := h i hi
  exact ⟨a, hA, by omega, h1⟩
theorem Grps.drewN (h : Grps w B A l) (n : Nat) : Grps (w.drewN n) B A l := h
/-- one of them, as the walk spells it -/
theorem Grps.at_ (h : Grps w B A l) {k : Nat} (hk : k < l.length) : ∃ a, A = some a ∧ a.block < B ∧ w.cell? (a.add (k * 3)) = some (.int .i64 l[k].fb) ∧
    w.cell? ⟨(a.add (k * 3)).block, (a.add (k * 3)).off + 1, none⟩ = some (.int .i64 l[k].fi) ∧ w.cell? ⟨(a.add (k * 3)).block, (a.add (k * 3)).off + 2, none⟩ = some (.int .i64 l[k].dirs) := by
  obtain ⟨a, hA, hab, h1, h2, h3⟩ := h k hk
  exact ⟨a, hA, hab, h1, (congrArg w.cell? (addr_field a (k * 3) 1 (by decide))).trans h2, (congrArg w.cell? (addr_field a (k * 3) 2 (by decide))).trans h3⟩
end
set_option maxHeartbeats 1000000 in
theorem sameGroups_yes (l : List Grp) (B B' : Nat) (A A' : Option Addr) (c c' : Nat) (w : World) (hl : l.length ≤ 140737488355328) (hA : Grps w B A l) (hA' : Grps w B' A' l) :
    Calls Tryd.prog 17 #[.slice A l.length c, .slice A' l.length c'] w fun e w' => e = .returned (.bool true) ∧ ∃ n, w' = w.drewN n := by
  have HA := Lib.hid hA
  have HA' := Lib.hid hA'
  clear hA hA'
  go_enter Tryd.func17, Tryd.ntmps17
  go_wp2
  go_loopw [5] (fun i wr => ∃ k n : Nat, k ≤ l.length ∧ i = .int .i64 k ∧ wr = w.drewN n) (fun i _ => l.length - (intOf i).toNat)
  case atStart => exact ⟨0, 0, Nat.zero_le _, rfl, rfl⟩
  case round =>
    obtain ⟨k, n, hk, rfl, rfl⟩ := hrel
    by_cases hlt : k < l.length
    · obtain ⟨a, rfl, _, c0, c1, c2⟩ := HA.out.at_ hlt
      obtain ⟨a', rfl, _, d0, d1, d2⟩ := HA'.out.at_ hlt
      generalize l[k] = x at *
      have i0 : (0 : Int) ≤ (k : Int) := by omega
      have i1 : (k : Int) < (l.length : Int) := by omega
      go_wp2
      go_quiet (fail)
      go_wp2
      go_roundw
      case rel => exact ⟨k + 1, n + nq, by omega, by go_num, rfl⟩
      case measure => simp [intOf]; omega
    · go_wp2
      go_ret
      exact ⟨rfl, n, rfl⟩
end Go.Proofs.YtoaallnmihhjlaaDoor.QMem
