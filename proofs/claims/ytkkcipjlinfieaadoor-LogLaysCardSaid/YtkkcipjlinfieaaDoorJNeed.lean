/- Need: how many blocks a transaction takes. -/
import Derived.Test.YtkkcipjlinfieaaDoorJMem
import Derived.WalkKit
import Derived.WalkSpells
import Derived.WalkLawsBesides
import Derived.Handy
import Derived.RegionTactic
import Derived.BigRegion
import Derived.Deep.QuietTactic
import Derived.BigQuiet
namespace Go.Proofs.YtkkcipjlinfieaaDoor.JNeed
open Go.RowKit WMem JMem

def rowsN (n size : Nat) : Nat := n / size + (if n % size = 0 then 0 else 1)
def needN (a b : Nat) : Nat := a + rowsN a 48 + rowsN b 60 + 1
theorem ret_i {q q' : Nat} (h : q = q') : Ending.returned (.int .i64 (q : Int)) = Ending.returned (.int .i64 (q' : Int)) := by rw [h]
set_option maxHeartbeats 1000000 in
theorem rows_any (n size : Nat) (hs1 : 1 ≤ size) (hs2 : size ≤ 1000) (hn : n ≤ 140737488355328) (w : World) : Calls Tryd.prog 24 #[.int .i64 (n : Int), .int .i64 (size : Int)] w fun e w' => e = .returned (.int .i64 (rowsN n size : Nat)) ∧ Below w.heap.size w w' := by
  have hd : n / size ≤ n := Nat.div_le_self _ _
  have hr : n % size < size := Nat.mod_lt _ (by omega)
  have HQ : Hid (rowsN n size = n / size + (if n % size = 0 then 0 else 1)) := rfl
  obtain ⟨q, hq⟩ : ∃ q, n / size = q := ⟨_, rfl⟩
  obtain ⟨r, hrr⟩ : ∃ r, n % size = r := ⟨_, rfl⟩
  have e1 : (n : Int).tdiv (size : Int) = (q : Int) := by rw [← hq]; rfl
  have e2 : (n : Int).tmod (size : Int) = (r : Int) := by rw [← hrr]; rfl
  have e1' : (n : Int) / (size : Int) = (q : Int) := by rw [← hq]; simp
  have e2' : (n : Int) % (size : Int) = (r : Int) := by rw [← hrr]; simp
  have hz : ((size : Int) == 0) = false := by rw [beq_eq_false_iff_ne]; omega
  have hz2 : ¬ ((size : Int) = 0) := by omega
  have hz3 : ¬ (size = 0) := by omega
  rw [hq, hrr] at HQ
  rw [hq] at hd
  rw [hrr] at hr
  generalize rowsN n size = T at *
  by_cases h0 : r = 0
  · subst h0
    have HT : Hid (T = q) := Lib.hid (by rw [HQ.out]; simp)
    clear HQ hq hrr
    go_enter Tryd.func24, Tryd.ntmps24
    go_wp2
    go_region
    all_goals
      go_wp2
      go_ret
      exact ⟨ret_i HT.out.symm, (Below.refl _ _).drew⟩
  · have HT : Hid (T = q + 1) := Lib.hid (by rw [HQ.out, if_neg h0])
    have s1 : IntKind.i64.wrap ((q : Int) + 1) = ((q + 1 : Nat) : Int) := by rw [IntWalk.i64_in _ (by omega)]; simp
    have HW : Hid (r ≠ 0) := Lib.hid h0
    clear HQ hq hrr h0
    by_cases h1 : (1 : Int) < (r : Int)
    · go_enter Tryd.func24, Tryd.ntmps24
      go_wp2
      go_region
      all_goals
        go_wp2
        go_ret
        exact ⟨ret_i HT.out.symm, (Below.refl _ _).drew⟩
    · obtain rfl : r = 1 := by have := HW.out; omega
      go_enter Tryd.func24, Tryd.ntmps24
      go_wp2
      go_region
      all_goals
        go_wp2
        go_ret
        exact ⟨ret_i HT.out.symm, (Below.refl _ _).drew⟩
theorem need_up (a b : Nat) : needN a b = a + rowsN a 48 + rowsN b 60 + 1 := rfl
theorem rowsN_le (n size : Nat) : rowsN n size ≤ n + 1 := by
  unfold rowsN
  have := Nat.div_le_self n size
  split <;> omega
set_option maxHeartbeats 1000000 in
theorem Need_any (a b : Nat) (ha : a ≤ 1000000000) (hb : b ≤ 1000000000) (w : World) : Calls Tryd.prog 7 #[.int .i64 (a : Int), .int .i64 (b : Int)] w fun e w' => e = .returned (.int .i64 (needN a b : Nat)) ∧ Below w.heap.size w w' := by
  have h1 := rowsN_le a 48
  have h2 := rowsN_le b 60
  have HN := Lib.hid (need_up a b)
  have HA := Lib.hid (fun w => rows_any a 48 (by decide) (by decide) (by omega) w)
  have HB := Lib.hid (fun w => rows_any b 60 (by decide) (by decide) (by omega) w)
  generalize rowsN a 48 = x at *
  generalize rowsN b 60 = y at *
  generalize needN a b = N at *
  have m1 : ¬ ((a : Int) < 0) := by omega
  have m2 : ¬ ((b : Int) < 0) := by omega
  have m3 : max (a : Int) 0 = (a : Int) := by omega
  have m4 : max (b : Int) 0 = (b : Int) := by omega
  have s1 : IntKind.i64.wrap ((a : Int) + (x : Int)) = ((a + x : Nat) : Int) := by rw [IntWalk.i64_in _ (by omega)]; simp
  have s2 : IntKind.i64.wrap (((a + x : Nat) : Int) + (y : Int)) = ((a + x + y : Nat) : Int) := by rw [IntWalk.i64_in _ (by omega)]; simp
  have s3 : IntKind.i64.wrap (((a + x + y : Nat) : Int) + 1) = ((a + x + y + 1 : Nat) : Int) := by rw [IntWalk.i64_in _ (by omega)]; simp
  go_enter Tryd.func7, Tryd.ntmps7
  go_wp2_with fail
  refine (HA.out _).mono ?_
  rintro e w1 ⟨rfl, hb1⟩
  go_wp2_with fail
  refine (HB.out _).mono ?_
  rintro e w2 ⟨rfl, hb2⟩
  have HBB := Lib.hid (below_up hb1 hb2 hb1.size)
  clear hb1 hb2
  go_wp2
  go_ret
  exact ⟨ret_i HN.out.symm, HBB.out⟩
end Go.Proofs.YtkkcipjlinfieaaDoor.JNeed
