/- Bytes of nought, made by a call. -/
import Derived.Test.YtgjcbfdhpbkhoaaGreatDoorProg
import Derived.Test.YtgjcbfdhpbkhoaaGreatDoorMg1
import Derived.Test.YtgjcbfdhpbkhoaaGreatDoorMg8
import Derived.KernelRfl
namespace Go.Proofs.YtgjcbfdhpbkhoaaGreatDoor.Mk
open Go.RowKit WMem WAppend
def zrow (n : Nat) : Array Value := ((List.replicate n (0 : UInt8)).map u8v ++ []).toArray
theorem made_one (z : Value) (n : Nat) : madeCells #[z] n = (List.replicate n z).toArray := by
  apply Array.ext
  · simp [madeCells]
  · intro i h1 h2
    simp [madeCells, Nat.mod_one]
theorem zrow_eq (n : Nat) : zrow n = (List.replicate n (Value.int .u8 0)).toArray := by simp [zrow, u8v]
theorem make_bytes (n : Nat) (hn : n ≤ 281474976710656) (w : World) : (Instr.makeSlice 22 (.int .i64 (n : Int)) (.int .i64 (n : Int))).run Tryz.prog w = .ok (.slice (some ⟨w.heap.size, 0, none⟩) n n) (w.alloc (.cells (zrow n) 5)) := by
  obtain ⟨i, h1, h2, h3, h4⟩ := info_parts (P := Tryz.prog) (e := 5) (z := .int .u8 0) (size := 1) (bytes := 1) (by kernel_rfl)
  have h := run_make (P := Tryz.prog) w 22 5 i (.int .u8 0) (by kernel_rfl) h1 h2 .i64 .i64 n n (by omega) (by omega) (by rw [h4]; omega) (by omega)
  rw [h]
  simp only [Int.toNat_natCast, h3, Nat.mul_one]
  rw [zrow_eq, ← made_one]
  rfl
theorem make256 (w : World) : (Instr.makeSlice 22 (.int .i64 256) (.int .i64 256)).run Tryz.prog w = .ok (.slice (some ⟨w.heap.size, 0, none⟩) 256 256) (w.alloc (.cells (zrow 256) 5)) := make_bytes 256 (by decide) w
theorem zrow_row (w : World) (n : Nat) : Row (w.alloc (.cells (zrow n) 5)) w.heap.size (List.replicate n 0) [] := row_new _ _
theorem elem8 : Elem Tryz.prog 22 5 1 := ⟨by kernel_rfl, by
  obtain ⟨i, h1, h2, h3, h4⟩ := info_parts (P := Tryz.prog) (e := 5) (z := .int .u8 0) (size := 1) (bytes := 1) (by kernel_rfl)
  exact ⟨i, _, h1, h2, h3, h4, rfl⟩⟩
theorem one_u8 (l : List UInt8) : ∀ u ∈ l.map u8v, u.oneCell' = true := by
  intro u hu
  obtain ⟨x, _, rfl⟩ := List.mem_map.1 hu
  rfl
end Go.Proofs.YtgjcbfdhpbkhoaaGreatDoor.Mk
