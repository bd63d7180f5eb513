/- A number is written into bytes: the program's inner call put, whether it gives up or not. -/
import Derived.Test.YtkkcipjlinfieaaDoorProg
import Derived.Test.YtkkcipjlinfieaaDoorWPlain
import Derived.Test.YtkkcipjlinfieaaDoorWMem
import Derived.Test.YtkkcipjlinfieaaDoorWGive
import Derived.Test.YtkkcipjlinfieaaDoorWGet
import Derived.WalkKit
import Derived.WalkSpells
import Derived.WalkLawsBesides
namespace Go.Proofs.YtkkcipjlinfieaaDoor.WPut
open Go.RowKit WMem WPlain WGive WGet

theorem fits_go (x n : Nat) (hx : x < 2 ^ (8 * n)) : ((x : Int) / 2 ^ (8 * n) == 0) = true := by
  rw [beq_iff_eq]
  have h : ((x / 2 ^ (8 * n) : Nat) : Int) = (x : Int) / 2 ^ (8 * n) := by simp
  rw [← h, Nat.div_eq_of_lt hx]; rfl
theorem big_go (x n : Nat) (hx : ¬ x < 2 ^ (8 * n)) : ((x : Int) / 2 ^ (8 * n) == 0) = false := by
  rw [beq_eq_false_iff_ne]
  have h : ((x / 2 ^ (8 * n) : Nat) : Int) = (x : Int) / 2 ^ (8 * n) := by simp
  rw [← h]
  have h2 : 1 ≤ x / 2 ^ (8 * n) := (Nat.le_div_iff_mul_le (Nat.two_pow_pos _)).2 (by omega)
  omega
theorem byte_go (x k : Nat) : IntKind.u8.wrap ((x : Int) / 2 ^ (8 * k)) = ((UInt8.ofNat (x / 2 ^ (8 * k) % 256)).toNat : Int) := by
  have h : ((x / 2 ^ (8 * k) : Nat) : Int) = (x : Int) / 2 ^ (8 * k) := by simp
  rw [IntKind.wrap_u8', ← h]
  simp

set_option maxHeartbeats 400000 in
theorem put_ok (l : List UInt8) (rest : List Value) (g c p n x : Nat) (w : World) (h1 : 1 ≤ n) (h2 : n ≤ 8) (h4 : p + n ≤ l.length) (hl : l.length ≤ 140737488355328) (hx : x < 2 ^ (8 * n)) (hA : Row w g l rest) :
    Calls Tryd.prog 62 #[.slice (some ⟨g, 0, none⟩) l.length c, .int .i64 p, .int .i64 n, .int .u64 x] w fun e w' => e = .returned (.tuple #[]) ∧ Row w' g (patch l p (dig n x)) rest ∧ w.grownBy w' (some g) := by
  have hz := fits_go x n hx
  clear hx
  go_enter Tryd.func62, Tryd.ntmps62
  go_wp2_with (first | (go_at_call 65; refine (place_ok _ _ _ _ _ _ (by omega) (by omega) (by omega) (by omega) hl).mono ?_; rintro e w' ⟨rfl, rfl⟩) | (go_at_call 57; refine (must_ok _ _).mono ?_; rintro e w' ⟨rfl, rfl⟩))
  clear hz
  go_loopw [20] (fun i wr => ∃ k : Nat, k ≤ n ∧ i = .int .i64 k ∧ Row wr g (patch l p (dig k x)) rest ∧ w.grownBy wr (some g)) (fun i _ => n - (intOf i).toNat)
  case atStart => exact ⟨0, Nat.zero_le _, rfl, by simpa [dig, patch_nil] using hA, grown_refl _ _⟩
  case round =>
    obtain ⟨k, hk, rfl, hR, hG⟩ := hrel
    by_cases hlt : k < n
    · have hpl := patch_length l p (dig k x) (by rw [dig_length]; omega)
      have hc := hR.cell (i := p + k) (by omega)
      have hf := hR.free (p + k)
      have HR := Lib.hid hR
      have HG := Lib.hid hG
      have HP := Lib.hid hpl
      have HS := Lib.hid (patch_snoc l p (dig k x) (UInt8.ofNat (x / 2 ^ (8 * k) % 256)) (by rw [dig_length]; omega))
      have hy := byte_go x k
      generalize (patch l p (dig k x))[p + k].toNat = old at hc
      clear hR hG hpl
      obtain ⟨y, hye⟩ : ∃ y, y = UInt8.ofNat (x / 2 ^ (8 * k) % 256) := ⟨_, rfl⟩
      rw [← hye] at hy HS
      have HY := Lib.hid hye
      clear hye
      go_wp2
      go_roundw
      case rel =>
        refine ⟨k + 1, by omega, by go_num, ?_, grown_set HG.out _ _⟩
        rw [dig_succ, ← HY.out, HS.out, dig_length]
        exact HR.out.set (by rw [HP.out]; omega) y
      case measure => simp [intOf]; omega
    · obtain rfl : k = n := by omega
      have HR := Lib.hid hR
      have HG := Lib.hid hG
      clear hR hG
      go_wp2
      go_end0
      exact ⟨rfl, HR.out, HG.out⟩

theorem put_place (A : Option Addr) (len c x : Nat) (p n : Int) (w : World) (h : ¬ (1 ≤ n ∧ n ≤ 8 ∧ 0 ≤ p ∧ p ≤ len - n)) (hl : len ≤ 140737488355328) :
    Calls Tryd.prog 62 #[.slice A len c, .int .i64 p, .int .i64 n, .int .u64 x] w fun e w' => e = given 22 ∧ w = w' := by
  have H := Lib.hid h
  clear h
  go_enter Tryd.func62, Tryd.ntmps62
  go_wp2_with (go_at_call 65; refine (place_no _ _ _ _ _ _ H.out hl).mono ?_; rintro e w' ⟨rfl, rfl⟩)
  exact ⟨rfl, rfl, rfl⟩
theorem put_big (A : Option Addr) (len c p n x : Nat) (w : World) (h1 : 1 ≤ n) (h2 : n ≤ 8) (h4 : p + n ≤ len) (hl : len ≤ 140737488355328) (hx : ¬ x < 2 ^ (8 * n)) :
    Calls Tryd.prog 62 #[.slice A len c, .int .i64 p, .int .i64 n, .int .u64 x] w fun e w' => e = given 34 ∧ w = w' := by
  have hz := big_go x n hx
  clear hx
  go_enter Tryd.func62, Tryd.ntmps62
  go_wp2_with (first | (go_at_call 65; refine (place_ok _ _ _ _ _ _ (by omega) (by omega) (by omega) (by omega) hl).mono ?_; rintro e w' ⟨rfl, rfl⟩) | (go_at_call 57; refine (must_no _ _).mono ?_; rintro e w' ⟨rfl, rfl⟩))
  exact ⟨rfl, rfl, rfl⟩
end Go.Proofs.YtkkcipjlinfieaaDoor.WPut
