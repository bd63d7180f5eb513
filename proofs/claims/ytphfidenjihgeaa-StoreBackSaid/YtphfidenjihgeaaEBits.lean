/- The lowest bits of a number. -/
import Derived.Test.YtphfidenjihgeaaEScript
namespace Go.Proofs.Ytphfidenjihgeaa.EBits
open Go.RowKit WMem

def low3 (x : Int) : Nat := (BitVec.ofInt 64 x &&& BitVec.ofInt 64 3).toNat
theorem low3_lt (x : Int) : low3 x < 4 := by
  unfold low3
  rw [BitVec.toNat_and]
  exact Nat.lt_of_le_of_lt Nat.and_le_right (by decide)
theorem and3 (x : Int) : bits BinOp.and IntKind.i64 x 3 = (low3 x : Int) := by
  have h := low3_lt x
  show IntKind.i64.wrap ((BitVec.ofInt 64 x &&& BitVec.ofInt 64 3).toNat : Int) = _
  rw [IntKind.wrap_i64]
  unfold low3 at *
  omega
def low7 (x : Int) : Nat := (BitVec.ofInt 64 x &&& BitVec.ofInt 64 7).toNat
theorem low7_lt (x : Int) : low7 x < 8 := by
  unfold low7
  rw [BitVec.toNat_and]
  exact Nat.lt_of_le_of_lt Nat.and_le_right (by decide)
theorem and7 (x : Int) : bits BinOp.and IntKind.i64 x 7 = (low7 x : Int) := by
  have h := low7_lt x
  show IntKind.i64.wrap ((BitVec.ofInt 64 x &&& BitVec.ofInt 64 7).toNat : Int) = _
  rw [IntKind.wrap_i64]
  unfold low7 at *
  omega
def low15 (x : Int) : Nat := (BitVec.ofInt 64 x &&& BitVec.ofInt 64 15).toNat
theorem low15_lt (x : Int) : low15 x < 16 := by
  unfold low15
  rw [BitVec.toNat_and]
  exact Nat.lt_of_le_of_lt Nat.and_le_right (by decide)
theorem and15 (x : Int) : bits BinOp.and IntKind.i64 x 15 = (low15 x : Int) := by
  have h := low15_lt x
  show IntKind.i64.wrap ((BitVec.ofInt 64 x &&& BitVec.ofInt 64 15).toNat : Int) = _
  rw [IntKind.wrap_i64]
  unfold low15 at *
  omega
def low255 (x : Int) : Nat := (BitVec.ofInt 64 x &&& BitVec.ofInt 64 255).toNat
theorem low255_lt (x : Int) : low255 x < 256 := by
  unfold low255
  rw [BitVec.toNat_and]
  exact Nat.lt_of_le_of_lt Nat.and_le_right (by decide)
theorem and255 (x : Int) : bits BinOp.and IntKind.i64 x 255 = (low255 x : Int) := by
  have h := low255_lt x
  show IntKind.i64.wrap ((BitVec.ofInt 64 x &&& BitVec.ofInt 64 255).toNat : Int) = _
  rw [IntKind.wrap_i64]
  unfold low255 at *
  omega
end Go.Proofs.Ytphfidenjihgeaa.EBits
