/- The statements' own helper: a block of one byte. -/
import Derived.Test.YtmlgchmladkfpaaGreatDoorMg9
import Derived.Test.YtmlgchmladkfpaaGreatDoorMg4
import Derived.WalkKit
import Derived.WalkSpells
import Derived.WalkLawsBesides
namespace Go.Proofs.YtmlgchmladkfpaaGreatDoor.EFill
open Go.RowKit WMem WPlain WAppend Mk DPlain

theorem octet_go (x : Int) : IntKind.u8.wrap x = ((octet x).toNat : Int) := by
  rw [IntKind.wrap_u8']
  unfold octet
  simp
  omega
/-- a block that is filled so far -/
def fillTo (n : Nat) (x : UInt8) (k : Nat) : List UInt8 := List.replicate k x ++ List.replicate (n - k) 0
theorem fillTo_len (n : Nat) (x : UInt8) (k : Nat) (h : k ≤ n) : (fillTo n x k).length = n := by simp [fillTo]; omega
theorem fillTo_set (n : Nat) (x : UInt8) (k : Nat) (h : k < n) : (fillTo n x k).set k x = fillTo n x (k + 1) := by
  unfold fillTo
  rw [List.set_append_right _ _ (by simp), List.length_replicate, Nat.sub_self, show n - k = (n - (k + 1)) + 1 by omega, List.replicate_succ, List.set_cons_zero, List.replicate_succ']
  simp
theorem fillTo_zero (n : Nat) (x : UInt8) : fillTo n x 0 = List.replicate n 0 := by simp [fillTo]
theorem fillTo_all (n : Nat) (x : UInt8) : fillTo n x n = List.replicate n x := by simp [fillTo]

end Go.Proofs.YtmlgchmladkfpaaGreatDoor.EFill
/- filled of the Journal statements. -/
namespace Go.Proofs.YtmlgchmladkfpaaGreatDoor.NFill
open Go.RowKit WMem WPlain WAppend Mk DPlain

theorem octet_go (x : Int) : IntKind.u8.wrap x = ((octet x).toNat : Int) := by
  rw [IntKind.wrap_u8']
  unfold octet
  simp
  omega
/-- a block that is filled so far -/
def fillTo (n : Nat) (x : UInt8) (k : Nat) : List UInt8 := List.replicate k x ++ List.replicate (n - k) 0
theorem fillTo_len (n : Nat) (x : UInt8) (k : Nat) (h : k ≤ n) : (fillTo n x k).length = n := by simp [fillTo]; omega
theorem fillTo_set (n : Nat) (x : UInt8) (k : Nat) (h : k < n) : (fillTo n x k).set k x = fillTo n x (k + 1) := by
  unfold fillTo
  rw [List.set_append_right _ _ (by simp), List.length_replicate, Nat.sub_self, show n - k = (n - (k + 1)) + 1 by omega, List.replicate_succ, List.set_cons_zero, List.replicate_succ']
  simp
theorem fillTo_zero (n : Nat) (x : UInt8) : fillTo n x 0 = List.replicate n 0 := by simp [fillTo]
theorem fillTo_all (n : Nat) (x : UInt8) : fillTo n x n = List.replicate n x := by simp [fillTo]

set_option maxHeartbeats 400000 in
set_option maxRecDepth 20000 in
theorem filled_any (x : Int) (w : World) :
    Calls Tryz.prog 17 #[.int .i64 x] w fun e w' =>
      e = .returned (.slice (some ⟨w.heap.size, 0, none⟩) 256 256) ∧ Row w' w.heap.size (full (octet x)) [] ∧ Below w.heap.size w w' ∧ w.heap.size < w'.heap.size := by
  have hmk := make256
  have hby := octet_go x
  generalize octet x = y at *
  go_enter Tryz.func17, Tryz.ntmps17
  go_wp2
  clear hmk
  go_loopw [4] (fun i wr => ∃ k : Nat, k ≤ 256 ∧ i = .int .i64 k ∧ Row wr w.heap.size (fillTo 256 y k) [] ∧ Below w.heap.size w wr) (fun i _ => 256 - (RowKit.intOf i).toNat)
  case atStart => exact ⟨0, Nat.zero_le _, rfl, by rw [fillTo_zero]; exact zrow_row w 256, (Below.refl _ _).alloc (Nat.le_refl _) _⟩
  case round =>
    obtain ⟨k, hk, rfl, hR, hB⟩ := hrel
    by_cases hlt : k < 256
    · have hc := hR.cell (i := k) (by rw [fillTo_len _ _ _ hk]; omega)
      have hf := hR.free k
      have HS := Lib.hid (fillTo_set 256 y k hlt)
      have HL := Lib.hid (fillTo_len 256 y k hk)
      generalize (fillTo 256 y k)[k]'(by rw [fillTo_len _ _ _ hk]; exact hlt) = old at hc
      have hox := byte_lt old
      generalize fillTo 256 y k = ft at *
      have HR := Lib.hid hR
      have HB := Lib.hid hB
      clear hR hB
      go_wp2
      go_roundw
      case rel => exact ⟨k + 1, by omega, by go_num, by rw [← HS.out]; exact HR.out.set (by rw [HL.out]; omega) y, HB.out.setCell (Nat.le_refl _) _⟩
      case measure => simp [RowKit.intOf]; omega
    · obtain rfl : k = 256 := by omega
      have HR := Lib.hid hR
      have HB := Lib.hid hB
      clear hR hB
      go_wp2
      go_ret
      exact ⟨rfl, by have := HR.out; rw [fillTo_all] at this; exact this, HB.out, HR.out.lt⟩
/-- the document's example of a geometry -/
theorem small_any (w : World) : Calls Tryz.prog 14 #[] w fun e w' => e = .returned (.agg #[.int .i64 300, .int .i64 200, .int .i64 16, .int .i64 96]) ∧ Below w.heap.size w w' := by
  go_enter Tryz.func14, Tryz.ntmps14
  go_wp2
  refine bodyPost_ret_by (v := .agg #[.int .i64 300, .int .i64 200, .int .i64 16, .int .i64 96]) (by simp [results, Tryz.results14, go_sem]; try rfl) rfl ?_
  exact ⟨rfl, (Below.refl _ _).alloc (Nat.le_refl _) _⟩
end Go.Proofs.YtmlgchmladkfpaaGreatDoor.NFill
