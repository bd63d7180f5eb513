/- The document's examples hold: awake answers true. -/
import Derived.Test.YtlbolfjelhljjaaDoorWSeal
import Derived.Lib.SlBytesConst
namespace Go.Proofs.YtlbolfjelhljjaaDoor.WAwake
open Go.RowKit WMem WPlain WGive WGet WPut WAppend WHelp WFace WFace2 WCrc WPack WSeal

theorem w_get1 (B : Nat) (A : Option Addr) (c : Nat) (w : World) (hA : Sl w B A [u8v 1, u8v 2, u8v 3]) (hB : B ≤ w.heap.size) :
    Calls Tryd.prog 18 #[.slice A 3 c, .int .i64 1, .int .i64 2] w fun e w' => e = .returned (.tuple #[.int .u64 770, .int .i64 0]) ∧ Below w.heap.size w w' :=
  Get_ok [1, 2, 3] B A c 1 2 w (by decide) (by decide) (by decide) (by decide) hA hB
theorem w_get2 (A : Option Addr) (c : Nat) (w : World) :
    Calls Tryd.prog 18 #[.slice A 3 c, .int .i64 2, .int .i64 2] w fun e w' => e = .returned (.tuple #[.int .u64 0, .int .i64 22]) ∧ Below w.heap.size w w' :=
  Get_no A 3 c 2 2 w (by decide) (by decide)
theorem w_put (A : Option Addr) (c : Nat) (w : World) :
    Calls Tryd.prog 20 #[.slice A 2 c, .int .i64 0, .int .i64 1, .int .u64 256] w fun e w' => e = .returned (.int .i64 34) ∧ Below w.heap.size w w' :=
  Put_big A 2 c 0 1 256 w (by decide) (by decide) (by decide) (by decide) (by decide)
theorem w_pack (B : Nat) (A A' : Option Addr) (c c' : Nat) (w : World) (hB : B ≤ w.heap.size) (hA : Sl w B A [.int .u64 5, .int .u64 258]) (hA' : Sl w B A' [.int .i64 1, .int .i64 2]) :
    Calls Tryd.prog 26 #[.slice A 2 c, .slice A' 2 c', .int .i64 4] w fun e w' =>
      ∃ g, e = .returned (.tuple #[.slice (some ⟨g, 0, none⟩) 4 4, .int .i64 0]) ∧ w.heap.size ≤ g ∧ Row w' g [5, 2, 1, 0] [] ∧ Below w.heap.size w w' :=
  Pack_ok [1, 2] [5, 258] 4 B A A' c c' w hB rfl (by unfold fine; decide) ⟨by decide, by decide, trivial⟩ (by decide) (by decide) hA hA'
theorem w_crc (B : Nat) (A : Option Addr) (c : Nat) (w : World) (hA : Sl w B A [u8v 49, u8v 50, u8v 51, u8v 52, u8v 53, u8v 54, u8v 55, u8v 56, u8v 57]) (hT : Tab w) :
    Calls Tryd.prog 13 #[.int .u32 0, .slice A 9 c] w fun e w' => e = .returned (.int .u32 3808858755) ∧ w = w' := by
  have h := wire_crc 0 [49, 50, 51, 52, 53, 54, 55, 56, 57] B A c w (by decide) (by decide) hA hT
  rw [show crc 0 [49, 50, 51, 52, 53, 54, 55, 56, 57] = 3808858755 by decide +kernel] at h
  exact h

set_option maxHeartbeats 1000000 in
theorem awake_any (w : World) (hT : Tab w) :
    Calls Tryd.prog 11 #[] w fun e w' => e = .returned (.bool true) ∧ Below w.heap.size w w' := by
  have h0 := Tab.lt hT
  have hcv := fun (w : World) (C : Array Value) (n c : Nat) => Lib.run_convert_bytes_const (P := Tryd.prog) w 23 5 C n c (by kernel_rfl) (by kernel_rfl)
  have HT := Lib.hid hT
  clear hT
  go_enter Tryd.func11, Tryd.ntmps11
  go_wp2_with fail
  refine (w_get1 (w.heap.size + 1) _ _ _ (Sl.of_row (n := 3) (row_new _ _) (by simp) rfl) (by simp)).mono ?_
  rintro e w1 ⟨rfl, hb1⟩
  have B1 : Hid (Below w.heap.size w w1) := ((Below.refl _ _).alloc (Nat.le_refl _) _).trans (hb1.mono (by simp))
  have s1 : w.heap.size ≤ w1.heap.size := B1.out.size
  clear hb1
  go_wp2_with fail
  refine (w_get2 _ _ _).mono ?_
  rintro e w2 ⟨rfl, hb2⟩
  have B2 : Hid (Below w.heap.size w w2) := (B1.out.alloc s1 _).trans (hb2.mono (by simp; omega))
  have s2 : w.heap.size ≤ w2.heap.size := B2.out.size
  clear hb2 B1 s1
  go_wp2_with fail
  refine (w_put _ _ _).mono ?_
  rintro e w3 ⟨rfl, hb3⟩
  have B3 : Hid (Below w.heap.size w w3) := (B2.out.alloc s2 _).trans (hb3.mono (by simp; omega))
  have s3 : w.heap.size ≤ w3.heap.size := B3.out.size
  clear hb3 B2 s2
  go_wp2_with fail
  refine (w_pack (w3.heap.size + 2) _ _ _ _ _ (by simp) (Sl.of_row (n := 2) (row_alloc (row_new w3 _) _) (by simp) rfl)
    (Sl.of_row (n := 2) (by have := row_new (w3.alloc (.cells #[.int .u64 5, .int .u64 258] 30)) (.cells #[.int .i64 1, .int .i64 2] 3); simpa using this) (by simp) rfl)).mono ?_
  rintro e w4 ⟨g, rfl, hg, hR, hb4⟩
  have B4 : Hid (Below w.heap.size w w4) := ((B3.out.alloc s3 _).alloc (by simp; omega) _).trans (hb4.mono (by simp; omega))
  have s4 : w.heap.size ≤ w4.heap.size := B4.out.size
  have HR := Lib.hid hR
  have hgl := hR.lt
  clear hb4 B3 hg hR
  have T4 := Lib.hid (Tab.alloc (Tab.below HT.out B4.out h0) (.cells #[u8v 49, u8v 50, u8v 51, u8v 52, u8v 53, u8v 54, u8v 55, u8v 56, u8v 57] 5 (9, 10)))
  go_wp2_with fail
  refine (w_crc (w4.heap.size + 1) _ _ _ (Sl.of_row (n := 9) (row_new _ _) (by simp) rfl) T4.out).mono ?_
  rintro e w5 ⟨rfl, rfl⟩
  go_wp2_with fail
  refine (Same_yes [5, 2, 1, 0] (w4.heap.size + 2) (w4.heap.size + 2) _ _ _ _ _ (Row.sl ((HR.out.alloc _).alloc _) (by omega))
    (Sl.of_row (n := 4) (by have := row_new (w4.alloc (.cells #[u8v 49, u8v 50, u8v 51, u8v 52, u8v 53, u8v 54, u8v 55, u8v 56, u8v 57] 5 (9, 10))) (.cells #[u8v 5, u8v 2, u8v 1, u8v 0] 5); simpa [u8v] using this) (by simp) rfl) (by decide)).mono ?_
  rintro e w6 ⟨rfl, n, rfl⟩
  go_wp2
  go_ret
  exact ⟨rfl, below_drewN ((B4.out.alloc s4 _).alloc (by simp; omega) _) n⟩
end Go.Proofs.YtlbolfjelhljjaaDoor.WAwake
