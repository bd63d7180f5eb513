/- The law StoreNone: a store that was never made has nothing and keeps nothing. -/
import Derived.Test.YtphfidenjihgeaaENone
import Derived.Test.YtphfidenjihgeaaELaw
namespace Go.Proofs.Ytphfidenjihgeaa.ELNone
open DPlain hiding OpV low7 low7_lt
open Go.RowKit WMem WPlain WAppend Ext Map DMem EPlain EMem EFace EWrite EHold ERead EHome EWrites ECommit EBack EFill EAny EAwake ELaw ENone

/-- no store at all, or one with nothing in it -/
structure NZ (w : World) (b : Nat) (a : Option Addr) : Prop where
  zero : Zero w b
  is : a = none ∨ a = some ⟨b, 0, none⟩
theorem NZ.below {w w' : World} {b : Nat} {a : Option Addr} (h : NZ w b a) (hb : Below w.heap.size w w') : NZ w' b a := ⟨h.zero.below hb, h.is⟩
section
variable {w : World} {b : Nat} {a : Option Addr} (h : NZ w b a) (n : Int)
include h
theorem z_blocks : Calls Try.prog 22 #[.pointer a] w fun e w' => e = .returned (.int .i64 0) ∧ w = w' := by
  rcases h.is with h1 | h1
  · rw [h1]; exact SBlocks_nil w
  · rw [h1]; exact blocks_zero h.zero
theorem z_has : Calls Try.prog 30 #[.pointer a, .int .i64 n] w fun e w' => e = .returned (.bool false) ∧ w = w' :=
  Shas_no a n 0 w (z_blocks h) (by omega)
theorem z_release : Calls Try.prog 9 #[.pointer a] w fun e w' => e = .returned (.tuple #[]) ∧ w = w' := by
  rcases h.is with h1 | h1
  · rw [h1]; exact Release_nil w
  · rw [h1]; exact release_zero h.zero
theorem z_counts : Calls Try.prog 11 #[.pointer a] w fun e w' => e = .returned (.tuple #[.int .i64 0, .int .i64 0]) ∧ Below w.heap.size w w' := by
  rcases h.is with h1 | h1
  · rw [h1]
    refine (Counts_nil w).mono ?_
    rintro e w' ⟨rfl, k, rfl⟩
    exact ⟨rfl, below_drewN (Below.refl _ _) k⟩
  · rw [h1]; exact counts_zero h.zero
theorem z_home : Calls Try.prog 16 #[.pointer a, .int .i64 n] w fun e w' => e = .returned (.int .i64 22) ∧ Below w.heap.size w w' := by
  rcases h.is with h1 | h1
  · rw [h1]
    refine (Home_nil n w).mono ?_
    rintro e w' ⟨rfl, rfl⟩
    exact ⟨rfl, Below.refl _ _⟩
  · rw [h1]; exact home_zero h.zero n
theorem z_held : Calls Try.prog 17 #[.pointer a, .int .i64 n] w fun e w' => e = .returned (.bool false) ∧ Below w.heap.size w w' := by
  rcases h.is with h1 | h1
  · rw [h1]
    refine (Held_nil n w).mono ?_
    rintro e w' ⟨rfl, rfl⟩
    exact ⟨rfl, Below.refl _ _⟩
  · rw [h1]; exact held_zero h.zero n
theorem z_mark : Calls Try.prog 18 #[.pointer a] w fun e w' => e = .returned (.int .i64 0) ∧ w = w' := by
  rcases h.is with h1 | h1
  · rw [h1]; exact Mark_nil w
  · rw [h1]; exact mark_zero h.zero
theorem z_changed : Calls Try.prog 19 #[.pointer a] w fun e w' => ∃ A c, e = .returned (.slice A 0 c) ∧ Below w.heap.size w w' := by
  rcases h.is with h1 | h1
  · rw [h1]
    refine (Changed_nil w).mono ?_
    rintro e w' ⟨rfl, rfl⟩
    exact ⟨_, _, rfl, Below.refl _ _⟩
  · rw [h1]; exact changed_zero h.zero
theorem z_waiting : Calls Try.prog 21 #[.pointer a] w fun e w' => e = .returned (.slice none 0 0) ∧ Below w.heap.size w w' := by
  rcases h.is with h1 | h1
  · rw [h1]
    refine (Waiting_nil w).mono ?_
    rintro e w' ⟨rfl, rfl⟩
    exact ⟨rfl, Below.refl _ _⟩
  · rw [h1]; exact waiting_zero h.zero
theorem z_commit : Calls Try.prog 20 #[.pointer a] w fun e w' => e = .returned (.slice none 0 0) ∧ NZ w' b a ∧ Ext (fun q => q = b) w w' := by
  rcases h.is with h1 | h1
  · rw [h1]
    refine (Commit_nil w).mono ?_
    rintro e w' ⟨rfl, rfl⟩
    exact ⟨rfl, ⟨h.zero, .inl rfl⟩, Ext.refl _ _⟩
  · rw [h1]
    refine (commit_zero h.zero).mono ?_
    rintro e w' ⟨rfl, hz, he⟩
    exact ⟨rfl, ⟨hz, .inr rfl⟩, he⟩
end

/-- both at hand: the row of the two, and what the second points to -/
structure Two2 (w : World) (b r : Nat) : Prop where
  zero : Zero w b
  row : w.heap[r]? = some (.cells #[.pointer none, .pointer (some ⟨b, 0, none⟩)] 23 (0, 0))
theorem Two2.below {w w' : World} {b r : Nat} (h : Two2 w b r) (hb : Below w.heap.size w w') : Two2 w' b r := ⟨h.zero.below hb, (hb.block r (row_lt h.row)).trans h.row⟩
theorem Two2.ext {w w' : World} {b r : Nat} {a : Option Addr} (h : Two2 w b r) (hz : NZ w' b a) (he : Ext (fun q => q = b) w w') (hr : r ≠ b) : Two2 w' b r := ⟨hz.zero, (he.block r (row_lt h.row) hr).trans h.row⟩
theorem Two2.at {w : World} {b r k : Nat} (h : Two2 w b r) (hk : k < 2) : ∃ a, w.cell? ⟨r, k, none⟩ = some (.pointer a) ∧ (a = none ∨ a = some ⟨b, 0, none⟩) := by
  have : k = 0 ∨ k = 1 := by omega
  rcases this with e | e
  · subst e; exact ⟨none, (row_cell h.row 0).trans rfl, .inl rfl⟩
  · subst e; exact ⟨some ⟨b, 0, none⟩, (row_cell h.row 1).trans rfl, .inr rfl⟩

set_option maxHeartbeats 4000000 in
set_option maxRecDepth 100000 in
theorem none_true (n : Int) (w : World) (_hf : Fits n) :
    Calls Try.prog 3 #[.int .i64 n] w fun e w' => e = .returned (.bool true) ∧ Below w.heap.size w w' := by
  go_enter Try.func3, Try.ntmps3
  go_wp2_with fail
  refine (awake_any w).mono ?_
  rintro e w0 ⟨rfl, hb0⟩
  have HB0 := Lib.hid hb0
  clear hb0
  go_wp2_with fail
  have hz := row_new w0 (.cells #[.pointer none, .map none, .map none, .slice none 0 0, .int .i64 0, .map none, .slice none 0 0, .int .i64 0, .int .i64 0] 32)
  have hz2 := row_alloc hz (.cells #[.pointer none, .pointer (some ⟨w0.heap.size, 0, none⟩)] 23)
  have hr := row_new (w0.alloc (.cells #[.pointer none, .map none, .map none, .slice none 0 0, .int .i64 0, .map none, .slice none 0 0, .int .i64 0, .int .i64 0] 32)) (.cells #[.pointer none, .pointer (some ⟨w0.heap.size, 0, none⟩)] 23)
  rw [show (w0.alloc (.cells #[.pointer none, .map none, .map none, .slice none 0 0, .int .i64 0, .map none, .slice none 0 0, .int .i64 0, .int .i64 0] 32)).heap.size = w0.heap.size + 1 by simp] at hr
  have HT : Hid (Two2 ((w0.alloc (.cells #[.pointer none, .map none, .map none, .slice none 0 0, .int .i64 0, .map none, .slice none 0 0, .int .i64 0, .int .i64 0] 32)).alloc (.cells #[.pointer none, .pointer (some ⟨w0.heap.size, 0, none⟩)] 23)) w0.heap.size (w0.heap.size + 1)) := Lib.hid ⟨⟨hz2⟩, hr⟩
  have HB1 : Hid (Below w0.heap.size w0 ((w0.alloc (.cells #[.pointer none, .map none, .map none, .slice none 0 0, .int .i64 0, .map none, .slice none 0 0, .int .i64 0, .int .i64 0] 32)).alloc (.cells #[.pointer none, .pointer (some ⟨w0.heap.size, 0, none⟩)] 23))) := Lib.hid (((Below.refl _ _).alloc (Nat.le_refl _) _).alloc (by simp) _)
  clear hz hz2 hr
  generalize (w0.alloc (.cells #[.pointer none, .map none, .map none, .slice none 0 0, .int .i64 0, .map none, .slice none 0 0, .int .i64 0, .int .i64 0] 32)).alloc (.cells #[.pointer none, .pointer (some ⟨w0.heap.size, 0, none⟩)] 23) = W at *
  have hbb : w0.heap.size ≤ w0.heap.size := Nat.le_refl _
  have hrb : w0.heap.size + 1 ≠ w0.heap.size := by omega
  go_loopw [6] (fun i wr => ∃ k : Nat, k ≤ 2 ∧ i = .int .i64 k ∧ Two2 wr w0.heap.size (w0.heap.size + 1) ∧ Below w0.heap.size w0 wr) (fun i _ => 2 - (RowKit.intOf i).toNat)
  case atStart => exact ⟨0, by omega, rfl, HT.out, HB1.out⟩
  case round =>
    obtain ⟨k, hk, rfl, ht, hbl⟩ := hrel
    have HT2 := Lib.hid ht
    have HBL := Lib.hid hbl
    clear ht hbl
    by_cases hk2 : k < 2
    · obtain ⟨a, hc, ha⟩ := HT2.out.at hk2
      have H2 : Hid (NZ wr w0.heap.size a) := Lib.hid ⟨HT2.out.zero, ha⟩
      have hk0 : (0 : Int) ≤ (k : Int) := Int.natCast_nonneg _
      have hk1 : (k : Int) < 2 := by omega
      have hs2 : w0.heap.size ≤ wr.heap.size := by exact HBL.out.size
      clear ha
      go_wp2_with fail
      refine (z_release H2.out).mono ?_
      rintro e w' ⟨rfl, rfl⟩
      go_wp2_with fail
      refine (SRead_out a n _ (z_has H2.out n)).mono ?_
      rintro e w' ⟨rfl, rfl⟩
      go_wp2_with fail
      refine (z_counts H2.out).mono ?_
      rintro e w3 ⟨rfl, hb⟩
      have H3 := Lib.hid (H2.out.below hb)
      have HT3 := Lib.hid (HT2.out.below hb)
      have HB3 := Lib.hid (HBL.out.trans (hb.mono hs2))
      have hs3 := hb.size
      clear hb hc
      go_wp2_with fail
      refine (filled_at 1 w3).mono ?_
      rintro e w4 ⟨g, rfl, -, -, -, hb⟩
      have H4 := Lib.hid (H3.out.below hb)
      have HT4 := Lib.hid (HT3.out.below hb)
      have HB4 := Lib.hid (HB3.out.trans (hb.mono (by omega)))
      have hs4 := hb.size
      clear hb
      go_wp2_with fail
      refine (SWrite_out a n _ _ (z_has H4.out n)).mono ?_
      rintro e w' ⟨rfl, rfl⟩
      go_wp2_with fail
      refine (Hold_out a n _ (z_has H4.out n)).mono ?_
      rintro e w' ⟨rfl, rfl⟩
      go_wp2_with fail
      refine (Back_out a n _ (z_blocks H4.out)).mono ?_
      rintro e w' ⟨rfl, rfl⟩
      go_wp2_with fail
      refine (z_home H4.out n).mono ?_
      rintro e w5 ⟨rfl, hb⟩
      have H5 := Lib.hid (H4.out.below hb)
      have HT5 := Lib.hid (HT4.out.below hb)
      have HB5 := Lib.hid (HB4.out.trans (hb.mono (by omega)))
      have hs5 := hb.size
      clear hb
      go_wp2_with fail
      refine (z_held H5.out n).mono ?_
      rintro e w6 ⟨rfl, hb⟩
      have H6 := Lib.hid (H5.out.below hb)
      have HT6 := Lib.hid (HT5.out.below hb)
      have HB6 := Lib.hid (HB5.out.trans (hb.mono (by omega)))
      have hs6 := hb.size
      clear hb
      go_wp2_with fail
      refine (z_mark H6.out).mono ?_
      rintro e w' ⟨rfl, rfl⟩
      go_wp2_with fail
      refine (z_changed H6.out).mono ?_
      rintro e w7 ⟨A7, c7, rfl, hb⟩
      have H7 := Lib.hid (H6.out.below hb)
      have HT7 := Lib.hid (HT6.out.below hb)
      have HB7 := Lib.hid (HB6.out.trans (hb.mono (by omega)))
      have hs7 := hb.size
      clear hb
      go_wp2_with fail
      refine (z_commit H7.out).mono ?_
      rintro e w8 ⟨rfl, hz8, he8⟩
      have H8 := Lib.hid hz8
      have HT8 := Lib.hid (HT7.out.ext hz8 he8 hrb)
      have HB8 := Lib.hid (HB7.out.trans (he8.below (by omega) (fun q hq => by subst hq; exact hbb)))
      have hs8 := he8.size
      clear hz8 he8
      go_wp2_with fail
      refine (z_waiting H8.out).mono ?_
      rintro e w9 ⟨rfl, hb⟩
      have H9 := Lib.hid (H8.out.below hb)
      have HT9 := Lib.hid (HT8.out.below hb)
      have HB9 := Lib.hid (HB8.out.trans (hb.mono (by omega)))
      clear hb
      go_wp2_with fail
      refine (z_blocks H9.out).mono ?_
      rintro e w' ⟨rfl, rfl⟩
      go_wp2_with fail
      go_roundw
      case rel => exact ⟨k + 1, by omega, by go_num, HT9.out, HB9.out⟩
      case measure => simp [RowKit.intOf]; omega
    · obtain rfl : k = 2 := by omega
      go_wp2_with fail
      go_ret
      have h1 := HB0.out.size
      exact ⟨rfl, HB0.out.trans (HBL.out.mono h1)⟩
end Go.Proofs.Ytphfidenjihgeaa.ELNone
