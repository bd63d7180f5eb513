/- math/bits: LeadingZeros64, Mul64; cmp.Compare at int. -/
import Derived.Test.YthhihcmkjkofhaaFLay
import Derived.Test.YthhihcmkjkofhaaFPlain
import Derived.WalkKit
import Derived.WalkSpells
import Derived.WalkLawsBesides
namespace Go.Proofs.Ythhihcmkjkofhaa.FBits
open Go.RowKit FPlain

/-- so many bits has a number -/
def len (x : Nat) : Nat := if x = 0 then 0 else x.log2 + 1
theorem len_is : ∀ (n x : Nat), x < n → x < 2 ^ 64 → Lib.bitLen x = len x := by
  intro n
  induction n with
  | zero => intro x h; omega
  | succ n ih =>
    intro x h hx
    by_cases h0 : x = 0
    · subst h0; rfl
    · rw [Lib.bitLen_half x h0 hx, ih (x / 2) (by omega) (by omega)]
      unfold len
      rw [if_neg h0]
      have e := Nat.log2_def x
      by_cases h1 : x / 2 = 0
      · have : x = 1 := by omega
        subst this; decide
      · rw [if_neg h1, e, if_pos (by omega)]; omega
theorem LeadingZeros64_any (x : Nat) (h : x < 18446744073709551616) (w : World) : Calls Try.prog 53 #[.int .u64 x] w fun e w' => e = .returned (.int .i64 (64 - (len x : Nat) : Int)) ∧ w = w' := by
  refine (Any.bits_LeadingZeros64 Try.lzL (x : Int) w (by omega) (by omega)).mono ?_
  rintro e w' ⟨rfl, rfl⟩
  refine ⟨?_, rfl⟩
  rw [Int.toNat_natCast, len_is (x + 1) x (by omega) h]
theorem Mul64_any (x y : Nat) (hx : x < 18446744073709551616) (hy : y < 18446744073709551616) (w : World) : Calls Try.prog 48 #[.int .u64 x, .int .u64 y] w fun e w' => e = .returned (.tuple #[.int .u64 ((x * y / 18446744073709551616 : Nat) : Int), .int .u64 ((x * y % 18446744073709551616 : Nat) : Int)]) ∧ w = w' := by
  refine (Any.bits_Mul64 Try.mulL x y hx hy w).mono ?_
  rintro e w' ⟨rfl, rfl⟩
  exact ⟨rfl, rfl⟩
def cmpI (x y : Int) : Int := if x < y then -1 else if y < x then 1 else 0
theorem Compare_int (x y : Int) (w : World) : Calls Try.prog 40 #[.int .i64 x, .int .i64 y] w fun e w' => e = .returned (.int .i64 (cmpI x y)) ∧ w = w' := by
  refine (Any.cmp_Compare_int Try.cmpL x y w).mono ?_
  rintro e w' ⟨rfl, rfl⟩
  exact ⟨rfl, rfl⟩
end Go.Proofs.Ythhihcmkjkofhaa.FBits
