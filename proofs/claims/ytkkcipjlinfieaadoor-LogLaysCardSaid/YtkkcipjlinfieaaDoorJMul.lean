/- math/bits.Mul of small numbers. -/
import Derived.Test.YtkkcipjlinfieaaDoorJMem
import Derived.WalkKit
import Derived.WalkSpells
namespace Go.Proofs.YtkkcipjlinfieaaDoor.JMul
open Go.RowKit WMem

theorem low32 (n : Nat) (h : n < 4294967296) : bits BinOp.and IntKind.u64 (n : Int) 4294967295 = (n : Int) := by
  have e := u64_and_nat n 4294967295 (by omega) (by decide)
  rw [Nat.and_two_pow_sub_one_eq_mod n 32] at e
  rw [show ((4294967295 : Nat) : Int) = 4294967295 from rfl] at e
  rw [e]
  omega
theorem mul_any (a n m : Nat) (ha : a ≤ 1000) (hn : n ≤ 1000) (hm : a * n = m) (w : World) : Calls Tryd.prog 73 #[.int .u64 (a : Int), .int .u64 (n : Int)] w fun e w' => e = .returned (.tuple #[.int .u64 0, .int .u64 (m : Int)]) ∧ w = w' := by
  have hm2 : m ≤ 1000000 := by
    subst hm
    exact Nat.mul_le_mul ha hn
  have e1 := low32 a (by omega)
  have e2 := low32 n (by omega)
  have e3 : (n : Int) / 4294967296 = 0 := by omega
  have e3' : (a : Int) / 4294967296 = 0 := by omega
  have e4 : (a : Int) * (n : Int) = (m : Int) := by rw [← hm]; simp
  have e5 : IntKind.u64.wrap (m : Int) = (m : Int) := by rw [IntKind.wrap_u64]; omega
  have e6 : (m : Int) / 4294967296 = 0 := by omega
  have e7 : IntKind.u64.wrap 0 = 0 := by decide
  have e8 : bits BinOp.and IntKind.u64 0 4294967295 = 0 := by decide
  clear hm ha hn hm2
  go_enter Tryd.func73, Tryd.ntmps73
  go_wp2
  go_ret2
  exact ⟨rfl, rfl⟩
end Go.Proofs.YtkkcipjlinfieaaDoor.JMul
