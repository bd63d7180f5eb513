/- Lists of numbers, each in its width: the program's inner call unpack. -/
import Derived.Test.YtlpipnpcgancmaaDoorWPack
namespace Go.Proofs.YtlpipnpcgancmaaDoor.WUnpack
open Go.RowKit WMem WPlain WGive WGet WPut WAppend WHelp WList WPack

/-- numbers of nought -/
def znums (n : Nat) : Array Value := (List.replicate n (Value.int .u64 0)).toArray
/-- what lies in the row when k numbers are read -/
def some_ (ns : List Nat) (b : List UInt8) (k : Nat) : List Value := ((unp ns b).take k).map u64v ++ List.replicate (ns.length - k) (Value.int .u64 0)
theorem some_zero (ns : List Nat) (b : List UInt8) : some_ ns b 0 = List.replicate ns.length (Value.int .u64 0) := by simp [some_]
theorem some_all (ns : List Nat) (b : List UInt8) : some_ ns b ns.length = (unp ns b).map u64v := by
  rw [some_, List.take_of_length_le (by rw [unp_length]; exact Nat.le_refl _)]; simp
theorem some_len (ns : List Nat) (b : List UInt8) (k : Nat) (h : k ≤ ns.length) : (some_ ns b k).length = ns.length := by simp [some_, unp_length]; omega
theorem some_next (ns : List Nat) (b : List UInt8) (k : Nat) (h : k < ns.length) (hf : fine ns) : (some_ ns b k).set k (Value.int .u64 (num ((b.drop (tot (ns.take k))).take ns[k]) : Nat)) = some_ ns b (k + 1) := by
  have hn := fine_get hf h
  have e : u64v ((unp ns b)[k]'(by rw [unp_length]; exact h)) = Value.int .u64 (num ((b.drop (tot (ns.take k))).take ns[k]) : Nat) := by
    rw [unp_get ns b k h, u64v, num_u64 _ (by simp; omega)]
  rw [← e]
  unfold some_
  have hl : (((unp ns b).take k).map u64v).length = k := by simp [unp_length]; omega
  rw [List.set_append_right _ _ (by omega), hl, Nat.sub_self]
  rw [show ns.length - k = (ns.length - (k + 1)) + 1 by omega, List.replicate_succ, List.set_cons_zero]
  rw [List.take_succ_eq_append_getElem (by rw [unp_length]; exact h), List.map_append, List.append_assoc]
  rfl

end Go.Proofs.YtlpipnpcgancmaaDoor.WUnpack
