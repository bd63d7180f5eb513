/- The document's Compare. -/
import Derived.Test.YthhihcmkjkofhaaFLaws
namespace Go.Proofs.Ythhihcmkjkofhaa.FRefC
open Go.RowKit FPlain FWord FNear FBits FMath FExp FLd FCut FNano FFrom FCmp FDiv FSec FAwake FFacts FLaws

def keyN (x : Nat) : Nat := if nanW x then 18446744073709551615 else if 9223372036854775808 ≤ x then 18446744073709551615 - x else x + 9223372036854775808
theorem none_any (x : Nat) (h : x < 18446744073709551616) (w : World) : Calls Try.prog 31 #[.float .f64 x] w fun e w' => e = .returned (.bool (nanW x)) ∧ w = w' := by
  have e := neq_self h
  go_enter Try.func31, Try.ntmps31
  go_wp2
  go_ret
  exact ⟨rfl, rfl⟩
theorem not_u64 (x : Nat) (h : x < 18446744073709551616) : bits .xor .u64 18446744073709551615 (x : Int) = ((18446744073709551615 - x : Nat) : Int) := by
  show IntKind.u64.wrap ((BitVec.ofInt 64 18446744073709551615 ^^^ BitVec.ofInt 64 (x : Int)).toNat : Int) = _
  have e : BitVec.ofInt 64 18446744073709551615 = BitVec.allOnes 64 := by decide
  rw [e, BitVec.allOnes_xor, BitVec.toNat_not, ofInt_nat x h, IntKind.wrap_u64]
  omega
set_option maxHeartbeats 400000 in
theorem key_any (x : Nat) (h : x < 18446744073709551616) (w : World) : Calls Try.prog 44 #[.float .f64 x] w fun e w' => e = .returned (.int .u64 (keyN x : Nat)) ∧ w = w' := by
  have hN := fun w => none_any x h w
  unfold keyN
  cases hn : nanW x
  · rw [hn] at hN
    have HN := Lib.hid hN
    by_cases hs : 9223372036854775808 ≤ x
    · have d : decide (9223372036854775808 ≤ (x : Int)) = true := by simp; omega
      have e := not_u64 x h
      rw [if_neg (by decide), if_pos hs]
      obtain ⟨y, hy⟩ : ∃ y, y = 18446744073709551615 - x := ⟨_, rfl⟩
      rw [← hy] at e ⊢
      clear hN hn hs h hy
      go_enter Try.func44, Try.ntmps44
      go_wp2_with (go_at_call 31; refine (HN.out _).mono ?_; rintro e w' ⟨rfl, rfl⟩)
      go_ret
      exact ⟨ret_u e, rfl⟩
    · have d : decide (9223372036854775808 ≤ (x : Int)) = false := by simp; omega
      rw [if_neg (by decide), if_neg hs]
      have g : IntKind.u64.wrap ((x : Int) + 9223372036854775808) = ((x + 9223372036854775808 : Nat) : Int) := by rw [IntKind.wrap_u64]; omega
      have G := Lib.hid g
      clear hN hn hs h g
      go_enter Try.func44, Try.ntmps44
      go_wp2_with (go_at_call 31; refine (HN.out _).mono ?_; rintro e w' ⟨rfl, rfl⟩)
      go_ret
      exact ⟨ret_u G.out, rfl⟩
  · rw [hn] at hN
    have HN := Lib.hid hN
    clear hN hn h
    go_enter Try.func44, Try.ntmps44
    go_wp2_with (go_at_call 31; refine (HN.out _).mono ?_; rintro e w' ⟨rfl, rfl⟩)
    go_ret
    exact ⟨rfl, rfl⟩
set_option maxHeartbeats 400000 in
theorem refCompare_any (x y : Nat) (hx : x < 18446744073709551616) (hy : y < 18446744073709551616) (w : World) : Calls Try.prog 22 #[.float .f64 x, .float .f64 y] w fun e w' => e = .returned (.int .i64 (cmpI (keyN x : Nat) (keyN y : Nat))) ∧ w = w' := by
  have K1 := Lib.hid (fun w => key_any x hx w)
  have K2 := Lib.hid (fun w => key_any y hy w)
  unfold cmpI
  generalize keyN x = a at *
  generalize keyN y = b at *
  clear hx hy
  by_cases c1 : (a : Int) < (b : Int)
  · have d1 : decide (a < b) = true := by simp; omega
    rw [if_pos c1]
    clear c1
    go_enter Try.func22, Try.ntmps22
    go_wp2_with (first
      | (go_at_call 44; (with_reducible refine (K1.out _).mono ?_); rintro e w' ⟨rfl, rfl⟩)
      | (go_at_call 44; (with_reducible refine (K2.out _).mono ?_); rintro e w' ⟨rfl, rfl⟩))
    go_ret
    exact ⟨rfl, rfl⟩
  · have d1 : decide (a < b) = false := by simp; omega
    rw [if_neg c1]
    by_cases c2 : (b : Int) < (a : Int)
    · have d2 : decide (b < a) = true := by simp; omega
      rw [if_pos c2]
      clear c1 c2
      go_enter Try.func22, Try.ntmps22
      go_wp2_with (first
        | (go_at_call 44; (with_reducible refine (K1.out _).mono ?_); rintro e w' ⟨rfl, rfl⟩)
        | (go_at_call 44; (with_reducible refine (K2.out _).mono ?_); rintro e w' ⟨rfl, rfl⟩))
      go_ret
      exact ⟨rfl, rfl⟩
    · have d2 : decide (b < a) = false := by simp; omega
      rw [if_neg c2]
      clear c1 c2
      go_enter Try.func22, Try.ntmps22
      go_wp2_with (first
        | (go_at_call 44; (with_reducible refine (K1.out _).mono ?_); rintro e w' ⟨rfl, rfl⟩)
        | (go_at_call 44; (with_reducible refine (K2.out _).mono ?_); rintro e w' ⟨rfl, rfl⟩))
      go_ret
      exact ⟨rfl, rfl⟩
/-- the program's order is the order of the keys -/
theorem cmp_key (x y : Nat) (hx : x < 18446744073709551616) (hy : y < 18446744073709551616) : cmpV x y = cmpI (keyN x : Nat) (keyN y : Nat) := by
  have key : ∀ z, z < 18446744073709551616 → (nanW z = true ∧ keyN z = 18446744073709551615) ∨ (nanW z = false ∧ rg z ≤ 9218868437227405312 ∧ ((sg z = true ∧ keyN z + rg z = 9223372036854775807 ∧ sk z = -(rg z : Int)) ∨ (sg z = false ∧ keyN z = 9223372036854775808 + rg z ∧ sk z = (rg z : Int)))) := by
    intro z hz
    unfold keyN
    cases hn : nanW z
    · right
      refine ⟨rfl, rg_le hn, ?_⟩
      have hr := rg_le hn
      rw [if_neg (by decide)]
      by_cases hs : 9223372036854775808 ≤ z
      · left
        rw [if_pos hs]
        have : sg z = true := by unfold sg; simpa using hs
        refine ⟨this, ?_, ?_⟩
        · unfold rg at *; omega
        · unfold sk; rw [this]; simp
      · right
        rw [if_neg hs]
        have : sg z = false := by unfold sg; simpa using hs
        refine ⟨this, ?_, ?_⟩
        · unfold rg at *; omega
        · unfold sk; rw [this]; simp
    · left; exact ⟨rfl, by simp⟩
  unfold cmpV lastV sideV
  rcases key x hx with ⟨n1, k1⟩ | ⟨n1, b1, ⟨s1, k1, v1⟩ | ⟨s1, k1, v1⟩⟩ <;> rcases key y hy with ⟨n2, k2⟩ | ⟨n2, b2, ⟨s2, k2, v2⟩ | ⟨s2, k2, v2⟩⟩ <;>
    simp only [n1, n2, Bool.or_self, Bool.or_true, Bool.or_false, Bool.false_eq_true, if_true, if_false] <;> unfold cmpI
  all_goals (first | (rw [k1, k2]; simp; done) | skip)
  all_goals (first | (rw [k1]; simp; (repeat' split) <;> omega) | (rw [k2]; simp; (repeat' split) <;> omega) | skip)
  all_goals (simp only [s1, s2, v1, v2, if_true, if_false, Bool.false_eq_true]; (repeat' split) <;> omega)
theorem cmp_zero (x y : Nat) (hx : x < 18446744073709551616) (hy : y < 18446744073709551616) (h : keyN x = keyN y) : x = y ∨ (nanW x = true ∧ nanW y = true) := by
  unfold keyN at h
  cases n1 : nanW x
  · have r1 := rg_le n1
    cases n2 : nanW y
    · have r2 := rg_le n2
      left
      rw [n1, n2] at h
      simp only [Bool.false_eq_true, if_false] at h
      split at h <;> split at h <;> omega
    · exfalso
      rw [n1, n2] at h
      simp only [Bool.false_eq_true, if_false, if_true] at h
      unfold rg at r1
      split at h <;> omega
  · cases n2 : nanW y
    · exfalso
      have r2 := rg_le n2
      rw [n1, n2] at h
      simp only [Bool.false_eq_true, if_false, if_true] at h
      unfold rg at r2
      split at h <;> omega
    · right; exact ⟨rfl, rfl⟩
end Go.Proofs.Ythhihcmkjkofhaa.FRefC
