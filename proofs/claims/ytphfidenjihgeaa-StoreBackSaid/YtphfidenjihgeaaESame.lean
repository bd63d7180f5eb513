/- Two lists of writes compared (as in wip/disk's RFlush, which this seat lacks). -/
import Derived.Test.YtphfidenjihgeaaELaw
import Derived.BigQuiet
namespace Go.Proofs.Ytphfidenjihgeaa.ESame
open DPlain hiding OpV low7 low7_lt
open Go.RowKit WMem WPlain WAppend Ext DMem DBase

theorem quiet_one {P : Program} {f : FuncId} {args : Array Value} {w : World} {n : Nat} {v : Value}
    (h : Calls P f args (w.drewN n) fun e w' => e = .returned v ∧ ∃ m, w' = (w.drewN n).drewN m) :
    Calls P f args (w.drewN n) fun e w'' => e = .returned v ∧ ∃ m, w'' = w.drewN m :=
  h.mono fun _ _ ⟨he, m, hm⟩ => ⟨he, n + m, by rw [hm, World.drewN_drewN]⟩
theorem quiet_add {P : Program} {f : FuncId} {args : Array Value} {w : World} {a n : Nat} {v : Value}
    (h : Calls P f args (w.drewN (a + n)) fun e w' => e = .returned v ∧ ∃ m, w' = (w.drewN (a + n)).drewN m) :
    Calls P f args (w.drewN (a + n)) fun e w'' => e = .returned v ∧ ∃ m, w'' = w.drewN (a + m) :=
  h.mono fun _ _ ⟨he, m, hm⟩ => ⟨he, n + m, by rw [hm, World.drewN_drewN, Nat.add_assoc]⟩
set_option maxHeartbeats 1600000 in
set_option maxRecDepth 100000 in
/-- two lists of the same writes are the same -/
theorem SameWrites_yes (S S' : Nat → Prop) (P : List (Nat × List UInt8)) (A A' : Option Addr) (c c' : Nat) (w : World) (hP : P.length ≤ 1073741824)
    (h1 : ∀ (i : Nat) (hi : i < P.length), ∃ g u, A = some ⟨g, 0, none⟩ ∧ S g ∧ w.cell? ⟨g, i * 2, none⟩ = some (.int .i64 (P[i].1 : Int)) ∧ w.cell? ⟨g, i * 2 + 1, none⟩ = some u ∧ IsBlk w S u P[i].2)
    (h2 : ∀ (i : Nat) (hi : i < P.length), ∃ g u, A' = some ⟨g, 0, none⟩ ∧ S' g ∧ w.cell? ⟨g, i * 2, none⟩ = some (.int .i64 (P[i].1 : Int)) ∧ w.cell? ⟨g, i * 2 + 1, none⟩ = some u ∧ IsBlk w S' u P[i].2) :
    Calls Try.prog 26 #[.slice A P.length c, .slice A' P.length c'] w fun e w' => e = .returned (.bool true) ∧ ∃ n, w' = w.drewN n := by
  have H1 := Lib.hid h1
  have H2 := Lib.hid h2
  clear h1 h2
  go_enter Try.func26, Try.ntmps26
  go_wp2
  go_loopw [5] (fun i wr => ∃ k n : Nat, k ≤ P.length ∧ i = .int .i64 k ∧ wr = w.drewN n) (fun i _ => P.length - (RowKit.intOf i).toNat)
  case atStart => exact ⟨0, 0, Nat.zero_le _, rfl, rfl⟩
  case round =>
    obtain ⟨k, n, hk, rfl, rfl⟩ := hrel
    by_cases hlt : k < P.length
    · obtain ⟨g, u, rfl, _, p0, p1, hu⟩ := H1.out k hlt
      obtain ⟨g', u', rfl, _, p0', p1', hu'⟩ := H2.out k hlt
      obtain ⟨q, cq, rq, rfl, _⟩ := id hu
      obtain ⟨q', cq', rq', rfl, _⟩ := id hu'
      have HSB := fun m : Nat => Lib.hid (Same_blk P[k].2 S S' _ _ (w.drewN m) (hu.keep (w' := w.drewN m) (fun _ _ _ _ => rfl)) (hu'.keep (w' := w.drewN m) (fun _ _ _ _ => rfl)))
      have hk0 : (0 : Int) ≤ (k : Int) := Int.natCast_nonneg _
      have hk1 : (k : Int) < (P.length : Int) := by omega
      generalize P[k].1 = j at *
      generalize P[k].2 = lk at *
      have hne : ((j : Int) != (j : Int)) = false := by simp
      clear hu hu'
      go_wp2
      go_quiet ((go_at_call 25; exact quiet_add (HSB _).out))
      go_wp2
      go_roundw
      case rel => exact ⟨k + 1, n + nq, by omega, by go_num, rfl⟩
      case measure => simp [RowKit.intOf]; omega
    · go_wp2
      go_ret
      exact ⟨rfl, n, rfl⟩
end Go.Proofs.Ytphfidenjihgeaa.ESame
