/- The document's answers for places and numbers: fits, Get, small, Put. -/
import Derived.Test.YtkkcipjlinfieaaDoorProg
import Derived.Test.YtkkcipjlinfieaaDoorWPlain
import Derived.Test.YtkkcipjlinfieaaDoorWMem
import Derived.Test.YtkkcipjlinfieaaDoorWGet
import Derived.Test.YtkkcipjlinfieaaDoorWPut
import Derived.WalkKit
import Derived.WalkSpells
import Derived.WalkLawsBesides
namespace Go.Proofs.YtkkcipjlinfieaaDoor.WRef
open Go.RowKit WMem WPlain WGet WPut

set_option maxHeartbeats 400000 in
theorem fits_yes (A : Option Addr) (len c : Nat) (p n : Int) (w : World) (h1 : 1 ≤ n) (h2 : n ≤ 8) (h3 : 0 ≤ p) (h4 : p ≤ len - n) (hl : len ≤ 140737488355328) :
    Calls Tryd.prog 74 #[.slice A len c, .int .i64 p, .int .i64 n] w fun e w' => e = .returned (.bool true) ∧ w = w' := by
  have d1 : decide ((1 : Int) ≤ n) = true := by simpa using h1
  have d2 : decide (n ≤ 8) = true := by simpa using h2
  have d3 : decide (0 ≤ p) = true := by simpa using h3
  have d4 : decide (p ≤ (len : Int)) = true := by simp; omega
  have d5 : decide (n ≤ (len : Int) - p) = true := by simp; omega
  go_enter Tryd.func74, Tryd.ntmps74
  go_wp2
  go_ret
  exact ⟨rfl, rfl⟩
set_option maxHeartbeats 400000 in
theorem fits_no (A : Option Addr) (len c : Nat) (p n : Int) (w : World) (h : ¬ (1 ≤ n ∧ n ≤ 8 ∧ 0 ≤ p ∧ p ≤ len - n)) (hl : len ≤ 140737488355328) :
    Calls Tryd.prog 74 #[.slice A len c, .int .i64 p, .int .i64 n] w fun e w' => e = .returned (.bool false) ∧ w = w' := by
  by_cases h1 : 1 ≤ n
  · have d1 : decide ((1 : Int) ≤ n) = true := by simpa using h1
    by_cases h2 : n ≤ 8
    · have d2 : decide (n ≤ 8) = true := by simpa using h2
      by_cases h3 : 0 ≤ p
      · have d3 : decide (0 ≤ p) = true := by simpa using h3
        by_cases h4 : p ≤ len
        · have d4 : decide (p ≤ (len : Int)) = true := by simpa using h4
          have d5 : decide (n ≤ (len : Int) - p) = false := by simp; omega
          clear h
          go_enter Tryd.func74, Tryd.ntmps74
          go_wp2
          go_ret
          exact ⟨rfl, rfl⟩
        · have d4 : decide (p ≤ (len : Int)) = false := by simpa using h4
          clear h h4
          go_enter Tryd.func74, Tryd.ntmps74
          go_wp2
          go_ret
          exact ⟨rfl, rfl⟩
      · have d3 : decide (0 ≤ p) = false := by simpa using h3
        clear h h3
        go_enter Tryd.func74, Tryd.ntmps74
        go_wp2
        go_ret
        exact ⟨rfl, rfl⟩
    · have d2 : decide (n ≤ 8) = false := by simpa using h2
      clear h h2
      go_enter Tryd.func74, Tryd.ntmps74
      go_wp2
      go_ret
      exact ⟨rfl, rfl⟩
  · have d1 : decide ((1 : Int) ≤ n) = false := by simpa using h1
    clear h h1
    go_enter Tryd.func74, Tryd.ntmps74
    go_wp2
    go_ret
    exact ⟨rfl, rfl⟩

/-- the number read from the end: what bytes from k on are, without the first k -/
theorem num_cons_go (l : List UInt8) (p n k : Nat) (h : p + n ≤ l.length) (hk : k < n) :
    num ((l.drop (p + k)).take (n - k)) = (l[p + k]'(by omega)).toNat + 256 * num ((l.drop (p + (k + 1))).take (n - (k + 1))) := by
  have e : (l.drop (p + k)).take (n - k) = l[p + k]'(by omega) :: (l.drop (p + (k + 1))).take (n - (k + 1)) := by
    rw [List.drop_eq_getElem_cons (by omega : p + k < l.length), show n - k = (n - (k + 1)) + 1 by omega, List.take_succ_cons]
    rfl
  rw [e]; rfl

theorem div_next (x k : Nat) : x / 2 ^ (8 * k) / 256 = x / 2 ^ (8 * (k + 1)) := by
  rw [Nat.div_div_eq_div_mul, show 8 * (k + 1) = 8 * k + 8 by omega, Nat.pow_add]
theorem div_u64 (x k : Nat) (h : x < 18446744073709551616) : x / 2 ^ (8 * k) < 18446744073709551616 := Nat.lt_of_le_of_lt (Nat.div_le_self _ _) h

set_option maxHeartbeats 400000 in
theorem small_any (x n : Nat) (r : Bool) (w : World) (hx : x < 18446744073709551616) (hn : n ≤ 8) (hr : r = decide (x < 2 ^ (8 * n))) :
    Calls Tryd.prog 75 #[.int .u64 x, .int .i64 n] w fun e w' => e = .returned (.bool r) ∧ w = w' := by
  have HR := Lib.hid hr
  clear hr
  go_enter Tryd.func75, Tryd.ntmps75
  go_wp2
  go_loop [0, 5] (fun v i => ∃ k : Nat, k ≤ n ∧ i = .int .i64 k ∧ v = .int .u64 (x / 2 ^ (8 * k) : Nat)) (fun _ i => n - (intOf i).toNat)
  case atStart => exact ⟨0, Nat.zero_le _, rfl, by simp⟩
  case round =>
    obtain ⟨k, hk, rfl, rfl⟩ := hrel
    by_cases hlt : k < n
    · have HS := Lib.hid (div_next x k)
      have hd := div_u64 x k hx
      generalize x / 2 ^ (8 * k) = d at *
      go_wp2
      go_round
      case rel => exact ⟨k + 1, by omega, by go_num, by rw [← HS.out]; rfl⟩
      case measure => simp [intOf]; omega
    · obtain rfl : k = n := by omega
      have he : ((x / 2 ^ (8 * k) : Nat) == 0) = r := by
        rw [HR.out, Bool.eq_iff_iff, beq_iff_eq, decide_eq_true_iff, Nat.div_eq_zero_iff]
        have := Nat.two_pow_pos (8 * k)
        omega
      have hd := div_u64 x k hx
      have he2 : (((x / 2 ^ (8 * k) : Nat) : Int) == 0) = r := by
        rw [← he, Bool.eq_iff_iff, beq_iff_eq, beq_iff_eq]; omega
      generalize x / 2 ^ (8 * k) = d at *
      go_wp2
      go_ret
      exact ⟨rfl, rfl⟩

theorem refbyte_go (x : Nat) : IntKind.u8.wrap ((x : Int) % 256) = ((UInt8.ofNat (x % 256)).toNat : Int) := by
  rw [IntKind.wrap_u8']
  simp

set_option maxHeartbeats 400000 in
theorem refPut_ok (len : Nat) (l : List UInt8) (hlen : l.length = len) (rest : List Value) (g c p n x : Nat) (w : World) (h1 : 1 ≤ n) (h2 : n ≤ 8) (h4 : p + n ≤ len) (hl : len ≤ 140737488355328) (hx : x < 2 ^ (8 * n)) (hA : Row w g l rest) :
    Calls Tryd.prog 64 #[.slice (some ⟨g, 0, none⟩) len c, .int .i64 p, .int .i64 n, .int .u64 x] w fun e w' => e = .returned (.int .i64 0) ∧ Row w' g (patch l p (dig n x)) rest ∧ w.grownBy w' (some g) := by
  have hx64 : x < 18446744073709551616 := by
    have : 2 ^ (8 * n) ≤ 2 ^ 64 := Nat.pow_le_pow_right (by decide) (by omega)
    omega
  have HX := Lib.hid (show true = decide (x < 2 ^ (8 * n)) by simpa using hx)
  have HL := Lib.hid hlen
  clear hx hlen
  go_enter Tryd.func64, Tryd.ntmps64
  go_wp2_with (first | (go_at_call 74; refine (fits_yes _ len c p n _ (by omega) (by omega) (by omega) (by omega) hl).mono ?_; rintro e w' ⟨rfl, rfl⟩) | (go_at_call 75; refine (small_any x n true _ hx64 h2 HX.out).mono ?_; rintro e w' ⟨rfl, rfl⟩))
  go_loopw [3, 9] (fun v i wr => ∃ k : Nat, k ≤ n ∧ i = .int .i64 k ∧ v = .int .u64 (x / 2 ^ (8 * k) : Nat) ∧ Row wr g (patch l p (dig k x)) rest ∧ w.grownBy wr (some g)) (fun _ i _ => n - (intOf i).toNat)
  case atStart => exact ⟨0, Nat.zero_le _, rfl, by simp, by simpa [dig, patch_nil] using hA, grown_refl _ _⟩
  case round =>
    obtain ⟨k, hk, rfl, rfl, hR, hG⟩ := hrel
    by_cases hlt : k < n
    · have hll := HL.out
      have hpl := patch_length l p (dig k x) (by rw [dig_length]; omega)
      have hc := hR.cell (i := p + k) (by omega)
      have hf := hR.free (p + k)
      have HR := Lib.hid hR
      have HG := Lib.hid hG
      have HP := Lib.hid hpl
      have HS := Lib.hid (patch_snoc l p (dig k x) (UInt8.ofNat (x / 2 ^ (8 * k) % 256)) (by rw [dig_length]; omega))
      have hy := refbyte_go (x / 2 ^ (8 * k))
      have HN := Lib.hid (div_next x k)
      have hd := div_u64 x k hx64
      generalize (patch l p (dig k x))[p + k].toNat = old at hc
      clear hR hG hpl hll
      obtain ⟨y, hye⟩ : ∃ y, y = UInt8.ofNat (x / 2 ^ (8 * k) % 256) := ⟨_, rfl⟩
      rw [← hye] at hy HS
      have HY := Lib.hid hye
      clear hye
      obtain ⟨d, hde⟩ : ∃ d, d = x / 2 ^ (8 * k) := ⟨_, rfl⟩
      rw [← hde] at hy HN hd ⊢
      clear hde
      go_wp2
      go_roundw
      case rel =>
        refine ⟨k + 1, by omega, by go_num, by rw [← HN.out]; rfl, ?_, grown_set HG.out _ _⟩
        rw [dig_succ, ← HY.out, HS.out, dig_length]
        exact HR.out.set (by rw [HP.out]; have := HL.out; omega) y
      case measure => simp [intOf]; omega
    · obtain rfl : k = n := by omega
      have HR := Lib.hid hR
      have HG := Lib.hid hG
      clear hR hG
      go_wp2
      go_ret
      exact ⟨rfl, HR.out, HG.out⟩

theorem refPut_place (A : Option Addr) (len c x : Nat) (p n : Int) (w : World) (h : ¬ (1 ≤ n ∧ n ≤ 8 ∧ 0 ≤ p ∧ p ≤ len - n)) (hl : len ≤ 140737488355328) :
    Calls Tryd.prog 64 #[.slice A len c, .int .i64 p, .int .i64 n, .int .u64 x] w fun e w' => e = .returned (.int .i64 22) ∧ w = w' := by
  have H := Lib.hid h
  clear h
  go_enter Tryd.func64, Tryd.ntmps64
  go_wp2_with (go_at_call 74; refine (fits_no A len c p n _ H.out hl).mono ?_; rintro e w' ⟨rfl, rfl⟩)
  go_ret
  exact ⟨rfl, rfl⟩
theorem refPut_big (A : Option Addr) (len c p n x : Nat) (w : World) (h1 : 1 ≤ n) (h2 : n ≤ 8) (h4 : p + n ≤ len) (hl : len ≤ 140737488355328) (hx64 : x < 18446744073709551616) (hx : ¬ x < 2 ^ (8 * n)) :
    Calls Tryd.prog 64 #[.slice A len c, .int .i64 p, .int .i64 n, .int .u64 x] w fun e w' => e = .returned (.int .i64 34) ∧ w = w' := by
  have HX := Lib.hid (show false = decide (x < 2 ^ (8 * n)) by simpa using hx)
  clear hx
  go_enter Tryd.func64, Tryd.ntmps64
  go_wp2_with (first | (go_at_call 74; refine (fits_yes _ len c p n _ (by omega) (by omega) (by omega) (by omega) hl).mono ?_; rintro e w' ⟨rfl, rfl⟩) | (go_at_call 75; refine (small_any x n false _ hx64 h2 HX.out).mono ?_; rintro e w' ⟨rfl, rfl⟩))
  go_ret
  exact ⟨rfl, rfl⟩
end Go.Proofs.YtkkcipjlinfieaaDoor.WRef
