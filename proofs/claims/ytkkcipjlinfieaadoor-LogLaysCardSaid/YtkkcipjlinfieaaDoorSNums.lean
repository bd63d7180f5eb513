/- Fields as numbers; the program's block of numbers, sealed. -/
import Derived.Test.YtkkcipjlinfieaaDoorWWide
import Derived.Test.YtkkcipjlinfieaaDoorWAny
namespace Go.Proofs.YtkkcipjlinfieaaDoor.SNums
open Go.RowKit WMem WPlain WGive WGet WPut WAppend WHelp WList WPack WUnpack WFace WFace2 WSeal WAny WWide WCrc

def nums (l : List Nat) : List UInt64 := l.map UInt64.ofNat
theorem nums_len (l : List Nat) : (nums l).length = l.length := by simp [nums]
/-- what lies in the row when k fields are written -/
def filled (l : List Nat) (k : Nat) : List Value := ((nums l).take k).map u64v ++ List.replicate (l.length - k) (Value.int .u64 0)
theorem filled_zero (l : List Nat) : filled l 0 = List.replicate l.length (Value.int .u64 0) := by simp [filled]
theorem filled_all (l : List Nat) : filled l l.length = (nums l).map u64v := by
  rw [filled, List.take_of_length_le (by rw [nums_len]; exact Nat.le_refl _)]; simp
theorem filled_len (l : List Nat) (k : Nat) (h : k ≤ l.length) : (filled l k).length = l.length := by simp [filled, nums_len]; omega
theorem filled_next (l : List Nat) (k : Nat) (h : k < l.length) (hx : l[k] < 18446744073709551616) : (filled l k).set k (Value.int .u64 (l[k] : Nat)) = filled l (k + 1) := by
  have e : u64v ((nums l)[k]'(by rw [nums_len]; exact h)) = Value.int .u64 (l[k] : Nat) := by
    simp only [nums, List.getElem_map, u64v, UInt64.toNat_ofNat']
    rw [Nat.mod_eq_of_lt hx]
  rw [← e]
  unfold filled
  have hl : (((nums l).take k).map u64v).length = k := by simp [nums_len]; omega
  rw [List.set_append_right _ _ (by omega), hl, Nat.sub_self]
  rw [show l.length - k = (l.length - (k + 1)) + 1 by omega, List.replicate_succ, List.set_cons_zero]
  rw [List.take_succ_eq_append_getElem (by rw [nums_len]; exact h), List.map_append, List.append_assoc]
  rfl

/-- a block of numbers, sealed -/
def blockOf (xs : List UInt64) (ws : List Int) (seed : Nat) : List UInt8 := sealL (bytesOf_ xs ws 256) seed
theorem blockOf_len (xs : List UInt64) (ws : List Int) (seed : Nat) (h : packs xs ws 256) : (blockOf xs ws seed).length = 256 := by
  unfold blockOf
  rw [sealL_len, bytesOf_len ws xs 256 h]; rfl
end Go.Proofs.YtkkcipjlinfieaaDoor.SNums
