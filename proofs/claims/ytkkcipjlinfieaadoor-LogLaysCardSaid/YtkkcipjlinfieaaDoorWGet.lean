/- A number is read from bytes, and written into them: the program's inner calls get and put, whether they give up or not. -/
import Derived.Test.YtkkcipjlinfieaaDoorProg
import Derived.Test.YtkkcipjlinfieaaDoorWPlain
import Derived.Test.YtkkcipjlinfieaaDoorWMem
import Derived.Test.YtkkcipjlinfieaaDoorWGive
import Derived.WalkKit
import Derived.WalkSpells
import Derived.WalkLawsBesides
import Derived.Outline
namespace Go.Proofs.YtkkcipjlinfieaaDoor.WGet
open Go.RowKit WMem WPlain WGive

theorem pow_le_56 {k : Nat} (h : k < 8) : 2 ^ (8 * k) ≤ 2 ^ 56 := Nat.pow_le_pow_right (by decide) (by omega)
theorem byte_shift (x : UInt8) (k : Nat) (h : k < 8) : IntKind.u64.wrap ((x.toNat : Int) * 2 ^ (8 * k)) = ((x.toNat * 2 ^ (8 * k) : Nat) : Int) ∧ x.toNat * 2 ^ (8 * k) < 18446744073709551616 := by
  have h2 : x.toNat * 2 ^ (8 * k) ≤ 255 * 2 ^ 56 := Nat.mul_le_mul (by have := byte_lt x; omega) (pow_le_56 h)
  have h3 : ((x.toNat * 2 ^ (8 * k) : Nat) : Int) = (x.toNat : Int) * 2 ^ (8 * k) := by simp
  rw [IntKind.wrap_u64, ← h3]
  constructor
  · omega
  · omega
theorem or_go (l : List UInt8) (x : UInt8) (h : l.length < 8) :
    bits BinOp.or IntKind.u64 (num l : Nat) (IntKind.u64.wrap ((x.toNat : Int) * 2 ^ (8 * l.length))) = ((num (l ++ [x]) : Nat) : Int) := by
  obtain ⟨h1, h2⟩ := byte_shift x l.length h
  have h3 : num l < 18446744073709551616 := by
    have := num_lt l
    have := pow_le_56 h
    omega
  rw [h1, u64_or_nat _ _ h3 h2, num_or]
theorem num_lt_u64 (l : List UInt8) (h : l.length ≤ 8) : num l < 18446744073709551616 := by
  have h1 := num_lt l
  have h2 : 2 ^ (8 * l.length) ≤ 2 ^ 64 := Nat.pow_le_pow_right (by decide) (by omega)
  omega
theorem part_succ (l : List UInt8) (p k : Nat) (h : p + k < l.length) : (l.drop p).take (k + 1) = (l.drop p).take k ++ [l[p + k]] := by
  rw [List.take_succ_eq_append_getElem (by simp; omega)]
  simp
theorem part_length (l : List UInt8) (p k : Nat) (h : p + k ≤ l.length) : ((l.drop p).take k).length = k := by simp; omega

set_option maxHeartbeats 400000 in
theorem get_ok (l : List UInt8) (B : Nat) (A : Option Addr) (c p n : Nat) (w : World) (h1 : 1 ≤ n) (h2 : n ≤ 8) (h4 : p + n ≤ l.length) (hl : l.length ≤ 140737488355328) (hA : Sl w B A (l.map u8v)) :
    Calls Tryd.prog 46 #[.slice A l.length c, .int .i64 p, .int .i64 n] w fun e w' => e = .returned (.int .u64 (num ((l.drop p).take n) : Nat)) ∧ w = w' := by
  go_enter Tryd.func46, Tryd.ntmps46
  go_wp2_with (go_at_call 65; refine (place_ok _ _ _ _ _ _ (by omega) (by omega) (by omega) (by omega) hl).mono ?_; rintro e w' ⟨rfl, rfl⟩)
  go_loop [7, 14] (fun v i => ∃ k : Nat, k ≤ n ∧ i = .int .i64 k ∧ v = .int .u64 (num ((l.drop p).take k) : Nat)) (fun _ i => n - (intOf i).toNat)
  case atStart => exact ⟨0, Nat.zero_le _, rfl, by simp [num]⟩
  case round =>
    obtain ⟨k, hk, rfl, rfl⟩ := hrel
    by_cases hlt : k < n
    · obtain ⟨a, rfl, hab, hc⟩ := hA.u8 (k := p + k) (by omega)
      have HS := Lib.hid (part_succ l p k (by omega))
      have HL := Lib.hid (part_length l p k (by omega))
      obtain ⟨x, hxe⟩ : ∃ x, x = l[p + k] := ⟨_, rfl⟩
      rw [← hxe] at hc HS
      clear hxe
      have hx := byte_lt x
      obtain ⟨m, hm⟩ : ∃ m, m = (l.drop p).take k := ⟨_, rfl⟩
      rw [← hm] at HS HL ⊢
      clear hm
      go_wp2
      go_round
      case rel =>
        refine ⟨k + 1, by omega, by go_num, ?_⟩
        rw [HS.out]
        have := or_go m x (by have := HL.out; omega)
        rw [HL.out] at this
        rw [this]
      case measure => simp [intOf]; omega
    · obtain rfl : k = n := by omega
      go_wp2
      go_ret
      exact ⟨rfl, rfl⟩

theorem get_no (A : Option Addr) (len c : Nat) (p n : Int) (w : World) (h : ¬ (1 ≤ n ∧ n ≤ 8 ∧ 0 ≤ p ∧ p ≤ len - n)) (hl : len ≤ 140737488355328) :
    Calls Tryd.prog 46 #[.slice A len c, .int .i64 p, .int .i64 n] w fun e w' => e = given 22 ∧ w = w' := by
  have H := Lib.hid h
  clear h
  go_enter Tryd.func46, Tryd.ntmps46
  go_wp2_with (go_at_call 65; refine (place_no _ _ _ _ _ _ H.out hl).mono ?_; rintro e w' ⟨rfl, rfl⟩)
  exact ⟨rfl, rfl, rfl⟩
end Go.Proofs.YtkkcipjlinfieaaDoor.WGet
