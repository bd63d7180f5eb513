/- slices.Repeat of three fours: the widths of n groups. -/
import Derived.Test.YtgjcbfdhpbkhoaaGreatDoorMg17
import Derived.Test.YtgjcbfdhpbkhoaaGreatDoorMg10
import Derived.WalkKit
import Derived.WalkSpells
import Derived.WalkLawsBesides
import Derived.Laws.CopyOwn
import Derived.Deep.RegionLaw
import Derived.Deep.DeepMust
namespace Go.Proofs.YtgjcbfdhpbkhoaaGreatDoor.QWidths
open Go.RowKit WMem WPlain WList WPack SNums QPlain
theorem groupWidths_any (w : World) : Calls Tryz.prog 152 #[] w fun e w' => e = .returned (.slice (some ⟨w.heap.size, 0, none⟩) 3 3) ∧ RowV w' w.heap.size 3 [.int .i64 4, .int .i64 4, .int .i64 4] ∧ Below w.heap.size w w' := by
  go_enter Tryz.func152, Tryz.ntmps152
  go_wp2
  go_ret
  exact ⟨rfl, row_new _ _, (Below.refl _ _).alloc (Nat.le_refl _) _⟩
theorem mul_1 (w : World) : Calls Tryz.prog 159 #[.int .u64 3, .int .u64 1] w fun e w' => e = .returned (.tuple #[.int .u64 0, .int .u64 3]) ∧ w = w' := by
  go_enter Tryz.func159, Tryz.ntmps159
  go_wp2
  go_ret2
  exact ⟨rfl, rfl⟩
theorem mul_2 (w : World) : Calls Tryz.prog 159 #[.int .u64 3, .int .u64 2] w fun e w' => e = .returned (.tuple #[.int .u64 0, .int .u64 6]) ∧ w = w' := by
  go_enter Tryz.func159, Tryz.ntmps159
  go_wp2
  go_ret2
  exact ⟨rfl, rfl⟩
theorem mul_3 (w : World) : Calls Tryz.prog 159 #[.int .u64 3, .int .u64 3] w fun e w' => e = .returned (.tuple #[.int .u64 0, .int .u64 9]) ∧ w = w' := by
  go_enter Tryz.func159, Tryz.ntmps159
  go_wp2
  go_ret2
  exact ⟨rfl, rfl⟩
theorem mul_4 (w : World) : Calls Tryz.prog 159 #[.int .u64 3, .int .u64 4] w fun e w' => e = .returned (.tuple #[.int .u64 0, .int .u64 12]) ∧ w = w' := by
  go_enter Tryz.func159, Tryz.ntmps159
  go_wp2
  go_ret2
  exact ⟨rfl, rfl⟩
theorem mul_5 (w : World) : Calls Tryz.prog 159 #[.int .u64 3, .int .u64 5] w fun e w' => e = .returned (.tuple #[.int .u64 0, .int .u64 15]) ∧ w = w' := by
  go_enter Tryz.func159, Tryz.ntmps159
  go_wp2
  go_ret2
  exact ⟨rfl, rfl⟩
theorem mul_6 (w : World) : Calls Tryz.prog 159 #[.int .u64 3, .int .u64 6] w fun e w' => e = .returned (.tuple #[.int .u64 0, .int .u64 18]) ∧ w = w' := by
  go_enter Tryz.func159, Tryz.ntmps159
  go_wp2
  go_ret2
  exact ⟨rfl, rfl⟩
theorem mul_7 (w : World) : Calls Tryz.prog 159 #[.int .u64 3, .int .u64 7] w fun e w' => e = .returned (.tuple #[.int .u64 0, .int .u64 21]) ∧ w = w' := by
  go_enter Tryz.func159, Tryz.ntmps159
  go_wp2
  go_ret2
  exact ⟨rfl, rfl⟩
theorem mul_8 (w : World) : Calls Tryz.prog 159 #[.int .u64 3, .int .u64 8] w fun e w' => e = .returned (.tuple #[.int .u64 0, .int .u64 24]) ∧ w = w' := by
  go_enter Tryz.func159, Tryz.ntmps159
  go_wp2
  go_ret2
  exact ⟨rfl, rfl⟩
theorem mul_9 (w : World) : Calls Tryz.prog 159 #[.int .u64 3, .int .u64 9] w fun e w' => e = .returned (.tuple #[.int .u64 0, .int .u64 27]) ∧ w = w' := by
  go_enter Tryz.func159, Tryz.ntmps159
  go_wp2
  go_ret2
  exact ⟨rfl, rfl⟩
theorem mul_10 (w : World) : Calls Tryz.prog 159 #[.int .u64 3, .int .u64 10] w fun e w' => e = .returned (.tuple #[.int .u64 0, .int .u64 30]) ∧ w = w' := by
  go_enter Tryz.func159, Tryz.ntmps159
  go_wp2
  go_ret2
  exact ⟨rfl, rfl⟩
theorem mul_11 (w : World) : Calls Tryz.prog 159 #[.int .u64 3, .int .u64 11] w fun e w' => e = .returned (.tuple #[.int .u64 0, .int .u64 33]) ∧ w = w' := by
  go_enter Tryz.func159, Tryz.ntmps159
  go_wp2
  go_ret2
  exact ⟨rfl, rfl⟩
theorem mul_12 (w : World) : Calls Tryz.prog 159 #[.int .u64 3, .int .u64 12] w fun e w' => e = .returned (.tuple #[.int .u64 0, .int .u64 36]) ∧ w = w' := by
  go_enter Tryz.func159, Tryz.ntmps159
  go_wp2
  go_ret2
  exact ⟨rfl, rfl⟩
theorem mul_13 (w : World) : Calls Tryz.prog 159 #[.int .u64 3, .int .u64 13] w fun e w' => e = .returned (.tuple #[.int .u64 0, .int .u64 39]) ∧ w = w' := by
  go_enter Tryz.func159, Tryz.ntmps159
  go_wp2
  go_ret2
  exact ⟨rfl, rfl⟩
theorem mul_14 (w : World) : Calls Tryz.prog 159 #[.int .u64 3, .int .u64 14] w fun e w' => e = .returned (.tuple #[.int .u64 0, .int .u64 42]) ∧ w = w' := by
  go_enter Tryz.func159, Tryz.ntmps159
  go_wp2
  go_ret2
  exact ⟨rfl, rfl⟩
theorem mul_any (n : Nat) (h1 : 1 ≤ n) (h2 : n ≤ 14) (w : World) : Calls Tryz.prog 159 #[.int .u64 3, .int .u64 (n : Int)] w fun e w' => e = .returned (.tuple #[.int .u64 0, .int .u64 ((3 * n : Nat) : Int)]) ∧ w = w' := by
  match n, h1, h2 with
  | 1, _, _ => exact mul_1 w
  | 2, _, _ => exact mul_2 w
  | 3, _, _ => exact mul_3 w
  | 4, _, _ => exact mul_4 w
  | 5, _, _ => exact mul_5 w
  | 6, _, _ => exact mul_6 w
  | 7, _, _ => exact mul_7 w
  | 8, _, _ => exact mul_8 w
  | 9, _, _ => exact mul_9 w
  | 10, _, _ => exact mul_10 w
  | 11, _, _ => exact mul_11 w
  | 12, _, _ => exact mul_12 w
  | 13, _, _ => exact mul_13 w
  | 14, _, _ => exact mul_14 w
  | n + 15, _, h => omega
def frow (m k : Nat) : List Value := List.replicate k (.int .i64 4) ++ List.replicate (m - k) (.int .i64 0)
theorem frow_len (m k : Nat) (h : k ≤ m) : (frow m k).length = m := by simp [frow]; omega
theorem make_ints (n : Nat) (hn : n ≤ 1000) (w : World) : (Instr.makeSlice 50 (.int .i64 (n : Int)) (.int .i64 (n : Int))).run Tryz.prog w = .ok (.slice (some ⟨w.heap.size, 0, none⟩) n n) (w.alloc (.cells (frow n 0).toArray 3)) := by
  obtain ⟨i, h1, h2, h3, h4⟩ := info_parts (P := Tryz.prog) (e := 3) (z := .int .i64 0) (size := 1) (bytes := 8) (by kernel_rfl)
  have h := run_make (P := Tryz.prog) w 50 3 i (.int .i64 0) (by kernel_rfl) h1 h2 .i64 .i64 n n (by omega) (by omega) (by rw [h4]; omega) (by omega)
  rw [h]
  simp only [Int.toNat_natCast, h3, Nat.mul_one]
  rw [show (Value.int IntKind.i64 0).cells = #[Value.int IntKind.i64 0] from rfl, made_one]
  simp [frow]
end Go.Proofs.YtgjcbfdhpbkhoaaGreatDoor.QWidths
