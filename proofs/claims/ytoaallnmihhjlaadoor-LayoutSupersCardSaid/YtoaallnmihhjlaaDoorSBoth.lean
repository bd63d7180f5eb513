/- UnpackSuper, the program's and the document's, each by one contract for whatever bytes. -/
import Derived.Test.YtoaallnmihhjlaaDoorSUnp
import Derived.Test.YtoaallnmihhjlaaDoorSRUnp
namespace Go.Proofs.YtoaallnmihhjlaaDoor.SBoth
open Go.RowKit WMem WPlain WWide WCrc WSeal SNums SPlain

/-- is it a super block? -/
def supOk (l : List UInt8) : Bool := decide (l.length = 256) && supGood l
def us (l : List UInt8) (at_ : Nat) : Int := if supOk l = true then f4 l at_ else 0
def uc (l : List UInt8) : Bool := if supOk l = true then (f1 l 38 == 1) else false
def ue (l : List UInt8) : Int := if supOk l = true then 0 else 117
/-- what both answer -/
def unpV (l : List UInt8) : Value := .tuple #[.agg #[.int .i64 (us l 6), .int .i64 (us l 10), .int .i64 (us l 14), .int .i64 (us l 18), .int .i64 (us l 22), .int .i64 (us l 26), .int .i64 (us l 30), .int .i64 (us l 34), .bool (uc l)], .int .i64 (ue l)]
theorem unpV_no {l : List UInt8} (h : supOk l = false) : unpV l = .tuple #[SUnp.NoSup, .int .i64 117] := by
  simp [unpV, us, uc, ue, h, SUnp.NoSup]
theorem unpV_yes {l : List UInt8} (h : supOk l = true) : unpV l = .tuple #[.agg #[.int .i64 (f4 l 6), .int .i64 (f4 l 10), .int .i64 (f4 l 14), .int .i64 (f4 l 18), .int .i64 (f4 l 22), .int .i64 (f4 l 26), .int .i64 (f4 l 30), .int .i64 (f4 l 34), .bool (f1 l 38 == 1)], .int .i64 0] := by
  simp [unpV, us, uc, ue, h]
section
variable (l : List UInt8) (B : Nat) (A : Option Addr) (c : Nat) (w : World)
theorem Unpack_c (hc : l.length ≤ c) (hB : B ≤ w.heap.size) (hA : Sl w B A (l.map u8v)) (hT : Tab w) :
    Calls Tryd.prog 10 #[.slice A l.length c] w fun e w' => e = .returned (unpV l) ∧ Below w.heap.size w w' := by
  by_cases hl : l.length = 256
  · have hc' : 256 ≤ c := by omega
    cases h1 : supIs l with
    | false =>
      rw [unpV_no (by simp only [supOk, supGood, hl, h1]; rfl), hl]
      exact SUnp.UnpackSuper_1 l hl B A c hc' w hB hA hT h1
    | true =>
      cases h2 : (supSays l == l) with
      | false =>
        rw [unpV_no (by simp only [supOk, supGood, hl, h1, h2]; rfl), hl]
        exact SUnp.UnpackSuper_2 l hl B A c hc' w hB hA hT h1 h2
      | true =>
        rw [unpV_yes (by simp only [supOk, supGood, hl, h1, h2]; rfl), hl]
        exact SUnp.UnpackSuper_3 l hl B A c hc' w hB hA hT h1 h2
  · rw [unpV_no (by simp [supOk, hl])]
    exact SUnp.UnpackSuper_len l.length hl A c w
theorem refUnpack_c (hB : B ≤ w.heap.size) (hA : Sl w B A (l.map u8v)) :
    Calls Tryd.prog 11 #[.slice A l.length c] w fun e w' => e = .returned (unpV l) ∧ Below w.heap.size w w' := by
  by_cases hl : l.length = 256
  · have h := SRUnp.refUnpackSuper_all l hl B A c w hB hA
    have e : SRUnp.supRes l = unpV l := by
      unfold SRUnp.supRes
      cases hg : supGood l with
      | true => rw [if_pos rfl, unpV_yes (by simp [supOk, hl, hg])]
      | false => rw [if_neg (by simp), unpV_no (by simp [supOk, hl, hg])]; rfl
    rw [e] at h
    rw [hl]
    exact h
  · rw [unpV_no (by simp [supOk, hl])]
    exact SRUnp.refUnpackSuper_len l.length hl A c w
end
end Go.Proofs.YtoaallnmihhjlaaDoor.SBoth
