/- Geometries compared, in plain mathematics; the lowest ten bits of a number. -/
import Derived.Test.YtoaallnmihhjlaaGPlain
import Derived.Test.YtoaallnmihhjlaaWMem
import Derived.WalkKit
import Derived.WalkLawsBesides
namespace Go.Proofs.Ytoaallnmihhjlaa.GPlain2
open Go.RowKit GPlain

def low1023 (x : Int) : Nat := (BitVec.ofInt 64 x &&& BitVec.ofInt 64 1023).toNat
theorem low1023_lt (x : Int) : low1023 x < 1024 := by
  unfold low1023
  rw [BitVec.toNat_and]
  exact Nat.lt_of_le_of_lt Nat.and_le_right (by decide)
theorem and1023 (x : Int) : bits BinOp.and IntKind.i64 x 1023 = (low1023 x : Int) := by
  have h := low1023_lt x
  show IntKind.i64.wrap ((BitVec.ofInt 64 x &&& BitVec.ofInt 64 1023).toNat : Int) = _
  rw [IntKind.wrap_i64]
  unfold low1023 at *
  omega
theorem chk_0 {b p n j : Int} (h : (chk b p n j != 0) = false) : mayB b p n j = true := by
  unfold chk at h
  split at h
  · assumption
  · simp at h
theorem er_0 {b p n j k : Int} (h : (er b p n j k != 0) = false) : hasB b p n j k = true := by
  unfold er at h
  split at h
  · assumption
  · simp at h
theorem gN_mono {b b' p : Int} (hp : 0 < p) (h : b ≤ b') : gN b p ≤ gN b' p := by
  unfold gN
  exact Int.ediv_le_ediv hp (by omega)
/-- a disk of more blocks keeps its groups -/
theorem more_keeps {b b' p n j k : Int} (h1 : mayB b p n j = true) (h2 : mayB b' p n j = true) (hb : b ≤ b') (hk : hasB b p n j k = true) :
    hasB b' p n j k = true ∧ groupsI b p n j ≤ groupsI b' p n j := by
  have hg := gN_mono (p := p) (by have := (may_iff.1 h1).p0; omega) hb
  rw [groupsI_yes h1, groupsI_yes h2]
  refine ⟨?_, hg⟩
  obtain ⟨_, k0, k1, _⟩ := has_may hk
  unfold hasB
  rw [groupsI_yes h2]
  exact inB_true.2 ⟨k0, by omega⟩
end Go.Proofs.Ytoaallnmihhjlaa.GPlain2
