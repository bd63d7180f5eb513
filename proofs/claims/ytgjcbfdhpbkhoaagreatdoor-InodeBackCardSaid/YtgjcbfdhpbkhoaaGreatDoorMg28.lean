/- What bytes say of an inode: Unpack. -/
import Derived.Test.YtgjcbfdhpbkhoaaGreatDoorMg27
namespace Go.Proofs.YtgjcbfdhpbkhoaaGreatDoor.IUn2
open Go.RowKit WMem WPlain WPack WWide WAny WAppend WCrc WSeal WFace2 GPlain GWithin GGeo GGeo2 SNums SPlain SEqual IPlain ICheck IPack ITold IUnp
theorem make128 (w : World) : (Instr.makeSlice 22 (.int .i64 128) (.int .i64 128)).run Tryz.prog w = .ok (.slice (some ⟨w.heap.size, 0, none⟩) 128 128) (w.alloc (.cells (zrow 128) 5)) := make_bytes 128 (by decide) w
set_option maxHeartbeats 400000 in
theorem free_any (w : World) : Calls Tryz.prog 26 #[] w fun e w' => e = .returned (.slice (some ⟨w.heap.size, 0, none⟩) 128 128) ∧ Row w' w.heap.size zeros128 [] ∧ Below w.heap.size w w' ∧ w.heap.size < w'.heap.size := by
  have hmk := make128
  go_enter Tryz.func26, Tryz.ntmps26
  go_wp2
  go_ret
  exact ⟨rfl, zrow_row w 128, below_box _, by simp⟩
theorem zeros_len : zeros128.length = 128 := List.length_replicate
set_option maxRecDepth 20000 in
set_option maxHeartbeats 2000000 in
theorem un_num (b : List UInt8) (n : Nat) (hl : b.length = n) (B : Nat) (A : Option Addr) (c : Nat) (w : World) (hA : Sl w B A (b.map u8v)) (hT : Tab w) (ino : Int) (hn : inB 1 65535 ino = false) :
    Calls Tryz.prog 10 #[.int .i64 (ino : Int), .slice A n c] w fun e w' => e = .returned (.tuple #[.agg #[.int .i64 0, .int .i64 0, .int .i64 0, .int .i64 0, .int .i64 0, .int .i64 0, .int .i64 0, .int .i64 0, .int .i64 0, .int .i64 0, .int .i64 0, .int .i64 0, .int .i64 0, .bool false, .slice none 0 0], .int .i64 22]) ∧ Below w.heap.size w w' := by
  have HN : Hid (inB 1 65535 (ino : Int) = false) := Lib.hid hn
  clear hn
  have HX := Lib.hid (BoxR.start w [.int .i64 0, .int .i64 0, .int .i64 0, .int .i64 0, .int .i64 0, .int .i64 0, .int .i64 0, .int .i64 0, .int .i64 0, .int .i64 0, .int .i64 0, .int .i64 0, .int .i64 0, .bool false, .slice none 0 0] 24)
  have HA := Lib.hid hA
  have HL := Lib.hid hl
  have HT := Lib.hid hT
  have HTL := Lib.hid (Tab.lt hT)
  clear hA hl hT
  go_enter Tryz.func10, Tryz.ntmps10
  go_wp2_with fail
  refine (isNumber_is (ino : Int) _ false HN.out).mono ?_
  rintro e w1 ⟨rfl, hb1⟩
  have HY1 := Lib.hid (HX.out.go hb1)
  clear hb1
  have hfr := HY1.out.free
  obtain ⟨d0, d1, d2, d3, d4, d5, d6, d7, d8, d9, d10, d11, d12, d13, d14⟩ := (show _ ∧ _ ∧ _ ∧ _ ∧ _ ∧ _ ∧ _ ∧ _ ∧ _ ∧ _ ∧ _ ∧ _ ∧ _ ∧ _ ∧ _ from ⟨HY1.out.cell 0 rfl, HY1.out.cell 1 rfl, HY1.out.cell 2 rfl, HY1.out.cell 3 rfl, HY1.out.cell 4 rfl, HY1.out.cell 5 rfl, HY1.out.cell 6 rfl, HY1.out.cell 7 rfl, HY1.out.cell 8 rfl, HY1.out.cell 9 rfl, HY1.out.cell 10 rfl, HY1.out.cell 11 rfl, HY1.out.cell 12 rfl, HY1.out.cell 13 rfl, HY1.out.cell 14 rfl⟩)
  have hlt := HY1.out.lt
  go_wp2
  have hbz := HY1.out.below
  refine bodyPost_ret_by (v := .tuple #[.agg #[.int .i64 0, .int .i64 0, .int .i64 0, .int .i64 0, .int .i64 0, .int .i64 0, .int .i64 0, .int .i64 0, .int .i64 0, .int .i64 0, .int .i64 0, .int .i64 0, .int .i64 0, .bool false, .slice none 0 0], .int .i64 22]) (by simp [results, Tryz.results10, go_sem, d0, d1, d2, d3, d4, d5, d6, d7, d8, d9, d10, d11, d12, d13, d14]; try rfl) rfl ?_
  exact ⟨rfl, (((((((((((((((hbz.setCell (Nat.le_refl _) _).setCell (Nat.le_refl _) _).setCell (Nat.le_refl _) _).setCell (Nat.le_refl _) _).setCell (Nat.le_refl _) _).setCell (Nat.le_refl _) _).setCell (Nat.le_refl _) _).setCell (Nat.le_refl _) _).setCell (Nat.le_refl _) _).setCell (Nat.le_refl _) _).setCell (Nat.le_refl _) _).setCell (Nat.le_refl _) _).setCell (Nat.le_refl _) _).setCell (Nat.le_refl _) _).setCell (Nat.le_refl _) _)⟩
set_option maxRecDepth 20000 in
set_option maxHeartbeats 2000000 in
theorem un_free (b : List UInt8) (n : Nat) (hl : b.length = n) (B : Nat) (A : Option Addr) (c : Nat) (w : World) (hB : B ≤ w.heap.size) (hA : Sl w B A (b.map u8v)) (hT : Tab w) (ino : Int) (hn : inB 1 65535 ino = true) (hz : (b == zeros128) = true) :
    Calls Tryz.prog 10 #[.int .i64 (ino : Int), .slice A n c] w fun e w' => e = .returned (.tuple #[.agg #[.int .i64 0, .int .i64 0, .int .i64 0, .int .i64 0, .int .i64 0, .int .i64 0, .int .i64 0, .int .i64 0, .int .i64 0, .int .i64 0, .int .i64 0, .int .i64 0, .int .i64 0, .bool false, .slice none 0 0], .int .i64 2]) ∧ Below w.heap.size w w' := by
  have HZ := Lib.hid hz
  clear hz
  have HN : Hid (inB 1 65535 (ino : Int) = true) := Lib.hid hn
  clear hn
  have HX := Lib.hid (BoxR.start w [.int .i64 0, .int .i64 0, .int .i64 0, .int .i64 0, .int .i64 0, .int .i64 0, .int .i64 0, .int .i64 0, .int .i64 0, .int .i64 0, .int .i64 0, .int .i64 0, .int .i64 0, .bool false, .slice none 0 0] 24)
  have HA := Lib.hid hA
  have HL := Lib.hid hl
  have HT := Lib.hid hT
  have HTL := Lib.hid (Tab.lt hT)
  clear hA hl hT
  go_enter Tryz.func10, Tryz.ntmps10
  go_wp2_with fail
  refine (isNumber_is (ino : Int) _ true HN.out).mono ?_
  rintro e w1 ⟨rfl, hb1⟩
  have HY1 := Lib.hid (HX.out.go hb1)
  clear hb1
  go_wp2_with fail
  refine (free_any _).mono ?_
  rintro e w2 ⟨rfl, hR2, hb2, hs2⟩
  have HY2 := Lib.hid (HY1.out.go hb2)
  have HR2 := Lib.hid (hR2.sl (B := w2.heap.size) hs2)
  have HA2 := Lib.hid (HA.out.below_le HY2.out.below hB)
  clear hR2 hb2
  go_wp2_with fail
  refine (Equal_at n 128 b zeros128 HL.out zeros_len B w2.heap.size A _ c 128 w2 HA2.out HR2.out true HZ.out).mono ?_
  rintro e w' ⟨rfl, rfl⟩
  have hfr := HY2.out.free
  obtain ⟨d0, d1, d2, d3, d4, d5, d6, d7, d8, d9, d10, d11, d12, d13, d14⟩ := (show _ ∧ _ ∧ _ ∧ _ ∧ _ ∧ _ ∧ _ ∧ _ ∧ _ ∧ _ ∧ _ ∧ _ ∧ _ ∧ _ ∧ _ from ⟨HY2.out.cell 0 rfl, HY2.out.cell 1 rfl, HY2.out.cell 2 rfl, HY2.out.cell 3 rfl, HY2.out.cell 4 rfl, HY2.out.cell 5 rfl, HY2.out.cell 6 rfl, HY2.out.cell 7 rfl, HY2.out.cell 8 rfl, HY2.out.cell 9 rfl, HY2.out.cell 10 rfl, HY2.out.cell 11 rfl, HY2.out.cell 12 rfl, HY2.out.cell 13 rfl, HY2.out.cell 14 rfl⟩)
  have hlt := HY2.out.lt
  go_wp2
  have hbz := HY2.out.below
  refine bodyPost_ret_by (v := .tuple #[.agg #[.int .i64 0, .int .i64 0, .int .i64 0, .int .i64 0, .int .i64 0, .int .i64 0, .int .i64 0, .int .i64 0, .int .i64 0, .int .i64 0, .int .i64 0, .int .i64 0, .int .i64 0, .bool false, .slice none 0 0], .int .i64 2]) (by simp [results, Tryz.results10, go_sem, d0, d1, d2, d3, d4, d5, d6, d7, d8, d9, d10, d11, d12, d13, d14]; try rfl) rfl ?_
  exact ⟨rfl, (((((((((((((((hbz.setCell (Nat.le_refl _) _).setCell (Nat.le_refl _) _).setCell (Nat.le_refl _) _).setCell (Nat.le_refl _) _).setCell (Nat.le_refl _) _).setCell (Nat.le_refl _) _).setCell (Nat.le_refl _) _).setCell (Nat.le_refl _) _).setCell (Nat.le_refl _) _).setCell (Nat.le_refl _) _).setCell (Nat.le_refl _) _).setCell (Nat.le_refl _) _).setCell (Nat.le_refl _) _).setCell (Nat.le_refl _) _).setCell (Nat.le_refl _) _)⟩
set_option maxRecDepth 20000 in
set_option maxHeartbeats 2000000 in
theorem un_len (b : List UInt8) (n : Nat) (hl : b.length = n) (B : Nat) (A : Option Addr) (c : Nat) (w : World) (hB : B ≤ w.heap.size) (hA : Sl w B A (b.map u8v)) (hT : Tab w) (ino : Int) (hn : inB 1 65535 ino = true) (hz : (b == zeros128) = false) (h128 : n ≠ 128) :
    Calls Tryz.prog 10 #[.int .i64 (ino : Int), .slice A n c] w fun e w' => e = .returned (.tuple #[.agg #[.int .i64 0, .int .i64 0, .int .i64 0, .int .i64 0, .int .i64 0, .int .i64 0, .int .i64 0, .int .i64 0, .int .i64 0, .int .i64 0, .int .i64 0, .int .i64 0, .int .i64 0, .bool false, .slice none 0 0], .int .i64 117]) ∧ Below w.heap.size w w' := by
  have HZ := Lib.hid hz
  clear hz
  have HN : Hid (inB 1 65535 (ino : Int) = true) := Lib.hid hn
  clear hn
  have HX := Lib.hid (BoxR.start w [.int .i64 0, .int .i64 0, .int .i64 0, .int .i64 0, .int .i64 0, .int .i64 0, .int .i64 0, .int .i64 0, .int .i64 0, .int .i64 0, .int .i64 0, .int .i64 0, .int .i64 0, .bool false, .slice none 0 0] 24)
  have HA := Lib.hid hA
  have HL := Lib.hid hl
  have HT := Lib.hid hT
  have HTL := Lib.hid (Tab.lt hT)
  clear hA hl hT
  go_enter Tryz.func10, Tryz.ntmps10
  go_wp2_with fail
  refine (isNumber_is (ino : Int) _ true HN.out).mono ?_
  rintro e w1 ⟨rfl, hb1⟩
  have HY1 := Lib.hid (HX.out.go hb1)
  clear hb1
  go_wp2_with fail
  refine (free_any _).mono ?_
  rintro e w2 ⟨rfl, hR2, hb2, hs2⟩
  have HY2 := Lib.hid (HY1.out.go hb2)
  have HR2 := Lib.hid (hR2.sl (B := w2.heap.size) hs2)
  have HA2 := Lib.hid (HA.out.below_le HY2.out.below hB)
  clear hR2 hb2
  go_wp2_with fail
  refine (Equal_at n 128 b zeros128 HL.out zeros_len B w2.heap.size A _ c 128 w2 HA2.out HR2.out false HZ.out).mono ?_
  rintro e w' ⟨rfl, rfl⟩
  go_wp2_with fail
  refine (read_len n h128 A c w2).mono ?_
  rintro e w3 ⟨rfl, hb3⟩
  have HY3 := Lib.hid (HY2.out.go hb3)
  clear hb3
  have HY4 := Lib.hid (HY3.out.alloc (.cells #[.int .i64 0, .int .i64 0, .int .i64 0, .int .i64 0, .int .i64 0, .int .i64 0, .int .i64 0, .int .i64 0, .int .i64 0, .int .i64 0, .int .i64 0, .int .i64 0, .int .i64 0, .bool false, .slice none 0 0] 24))
  have hfr := HY4.out.free
  obtain ⟨d0, d1, d2, d3, d4, d5, d6, d7, d8, d9, d10, d11, d12, d13, d14⟩ := (show _ ∧ _ ∧ _ ∧ _ ∧ _ ∧ _ ∧ _ ∧ _ ∧ _ ∧ _ ∧ _ ∧ _ ∧ _ ∧ _ ∧ _ from ⟨HY4.out.cell 0 rfl, HY4.out.cell 1 rfl, HY4.out.cell 2 rfl, HY4.out.cell 3 rfl, HY4.out.cell 4 rfl, HY4.out.cell 5 rfl, HY4.out.cell 6 rfl, HY4.out.cell 7 rfl, HY4.out.cell 8 rfl, HY4.out.cell 9 rfl, HY4.out.cell 10 rfl, HY4.out.cell 11 rfl, HY4.out.cell 12 rfl, HY4.out.cell 13 rfl, HY4.out.cell 14 rfl⟩)
  have hlt := HY4.out.lt
  go_wp2
  have hbz := HY4.out.below
  refine bodyPost_ret_by (v := .tuple #[.agg #[.int .i64 0, .int .i64 0, .int .i64 0, .int .i64 0, .int .i64 0, .int .i64 0, .int .i64 0, .int .i64 0, .int .i64 0, .int .i64 0, .int .i64 0, .int .i64 0, .int .i64 0, .bool false, .slice none 0 0], .int .i64 117]) (by simp [results, Tryz.results10, go_sem, d0, d1, d2, d3, d4, d5, d6, d7, d8, d9, d10, d11, d12, d13, d14]; try rfl) rfl ?_
  exact ⟨rfl, (((((((((((((((hbz.setCell (Nat.le_refl _) _).setCell (Nat.le_refl _) _).setCell (Nat.le_refl _) _).setCell (Nat.le_refl _) _).setCell (Nat.le_refl _) _).setCell (Nat.le_refl _) _).setCell (Nat.le_refl _) _).setCell (Nat.le_refl _) _).setCell (Nat.le_refl _) _).setCell (Nat.le_refl _) _).setCell (Nat.le_refl _) _).setCell (Nat.le_refl _) _).setCell (Nat.le_refl _) _).setCell (Nat.le_refl _) _).setCell (Nat.le_refl _) _)⟩
set_option maxRecDepth 20000 in
set_option maxHeartbeats 2000000 in
theorem un_may (b : List UInt8) (n : Nat) (hl : b.length = n) (B : Nat) (A : Option Addr) (c : Nat) (hc : n ≤ c) (w : World) (hB : B ≤ w.heap.size) (hA : Sl w B A (b.map u8v)) (hT : Tab w) (ino : Int) (hn : inB 1 65535 ino = true) (hz : (b == zeros128) = false) (h128 : n = 128) (hm : inoMay (inoSays b) = false) :
    Calls Tryz.prog 10 #[.int .i64 (ino : Int), .slice A n c] w fun e w' => e = .returned (.tuple #[.agg #[.int .i64 0, .int .i64 0, .int .i64 0, .int .i64 0, .int .i64 0, .int .i64 0, .int .i64 0, .int .i64 0, .int .i64 0, .int .i64 0, .int .i64 0, .int .i64 0, .int .i64 0, .bool false, .slice none 0 0], .int .i64 117]) ∧ Below w.heap.size w w' := by
  have HZ := Lib.hid hz
  clear hz
  have HN8 := Lib.hid h128
  clear h128
  have HM := Lib.hid hm
  clear hm
  have HN : Hid (inB 1 65535 (ino : Int) = true) := Lib.hid hn
  clear hn
  have HX := Lib.hid (BoxR.start w [.int .i64 0, .int .i64 0, .int .i64 0, .int .i64 0, .int .i64 0, .int .i64 0, .int .i64 0, .int .i64 0, .int .i64 0, .int .i64 0, .int .i64 0, .int .i64 0, .int .i64 0, .bool false, .slice none 0 0] 24)
  have HA := Lib.hid hA
  have HL := Lib.hid hl
  have HT := Lib.hid hT
  have HTL := Lib.hid (Tab.lt hT)
  clear hA hl hT
  go_enter Tryz.func10, Tryz.ntmps10
  go_wp2_with fail
  refine (isNumber_is (ino : Int) _ true HN.out).mono ?_
  rintro e w1 ⟨rfl, hb1⟩
  have HY1 := Lib.hid (HX.out.go hb1)
  clear hb1
  go_wp2_with fail
  refine (free_any _).mono ?_
  rintro e w2 ⟨rfl, hR2, hb2, hs2⟩
  have HY2 := Lib.hid (HY1.out.go hb2)
  have HR2 := Lib.hid (hR2.sl (B := w2.heap.size) hs2)
  have HA2 := Lib.hid (HA.out.below_le HY2.out.below hB)
  clear hR2 hb2
  go_wp2_with fail
  refine (Equal_at n 128 b zeros128 HL.out zeros_len B w2.heap.size A _ c 128 w2 HA2.out HR2.out false HZ.out).mono ?_
  rintro e w' ⟨rfl, rfl⟩
  have h128 : n = 128 := HN8.out
  subst h128
  go_wp2_with fail
  refine (read_is b HL.out B A c hc w2 (by have := HY2.out.below.size; omega) HA2.out).mono ?_
  rintro e w3 ⟨g, cap, rest, rfl, hg, hcap, hR3, hb3⟩
  have HY3 := Lib.hid (HY2.out.go hb3)
  have HR3 := Lib.hid hR3
  have HRN := Lib.hid (show ((b.drop 54).take 48).length = 48 by rw [List.length_take, List.length_drop, HL.out]; rfl)
  clear hb3 hR3
  generalize hr : inoSays b = r at *
  have hroot : r.root = (b.drop 54).take 48 := by rw [← hr]; rfl
  have HRT := Lib.hid hroot
  have HRB := Lib.hid hr
  clear hr hroot
  have HS4 := Lib.hid (BoxR.start w3 [.int .i64 r.kind, .int .i64 r.perm, .int .i64 r.uid, .int .i64 r.gid, .int .i64 r.links, .int .i64 r.size, .int .i64 r.blocks, .int .i64 r.at_, .int .i64 r.mt, .int .i64 r.ct, .int .i64 r.next, .int .i64 r.parent, .int .i64 r.xattr, .bool r.idx, .slice (some ⟨g, 0, none⟩) 48 cap] 24)
  have HY4 := Lib.hid (HY3.out.alloc (.cells #[.int .i64 r.kind, .int .i64 r.perm, .int .i64 r.uid, .int .i64 r.gid, .int .i64 r.links, .int .i64 r.size, .int .i64 r.blocks, .int .i64 r.at_, .int .i64 r.mt, .int .i64 r.ct, .int .i64 r.next, .int .i64 r.parent, .int .i64 r.xattr, .bool r.idx, .slice (some ⟨g, 0, none⟩) 48 cap] 24))
  have HR4 := Lib.hid (HR3.out.alloc (.cells #[.int .i64 r.kind, .int .i64 r.perm, .int .i64 r.uid, .int .i64 r.gid, .int .i64 r.links, .int .i64 r.size, .int .i64 r.blocks, .int .i64 r.at_, .int .i64 r.mt, .int .i64 r.ct, .int .i64 r.next, .int .i64 r.parent, .int .i64 r.xattr, .bool r.idx, .slice (some ⟨g, 0, none⟩) 48 cap] 24))
  have hz4 : (w3.alloc (.cells #[.int .i64 r.kind, .int .i64 r.perm, .int .i64 r.uid, .int .i64 r.gid, .int .i64 r.links, .int .i64 r.size, .int .i64 r.blocks, .int .i64 r.at_, .int .i64 r.mt, .int .i64 r.ct, .int .i64 r.next, .int .i64 r.parent, .int .i64 r.xattr, .bool r.idx, .slice (some ⟨g, 0, none⟩) 48 cap] 24)).heap.size = w3.heap.size + 1 := by simp
  have HZ4 := Lib.hid hz4
  clear hz4
  go_wp2_with fail
  refine (Pack_may r _ cap _ 48 (by rw [HRT.out]; exact HRN.out) ino HN.out HM.out).mono ?_
  rintro e w5 ⟨rfl, hb5⟩
  have HY5 := Lib.hid (HY4.out.go hb5)
  clear hb5
  have hfr := HY5.out.free
  obtain ⟨d0, d1, d2, d3, d4, d5, d6, d7, d8, d9, d10, d11, d12, d13, d14⟩ := (show _ ∧ _ ∧ _ ∧ _ ∧ _ ∧ _ ∧ _ ∧ _ ∧ _ ∧ _ ∧ _ ∧ _ ∧ _ ∧ _ ∧ _ from ⟨HY5.out.cell 0 rfl, HY5.out.cell 1 rfl, HY5.out.cell 2 rfl, HY5.out.cell 3 rfl, HY5.out.cell 4 rfl, HY5.out.cell 5 rfl, HY5.out.cell 6 rfl, HY5.out.cell 7 rfl, HY5.out.cell 8 rfl, HY5.out.cell 9 rfl, HY5.out.cell 10 rfl, HY5.out.cell 11 rfl, HY5.out.cell 12 rfl, HY5.out.cell 13 rfl, HY5.out.cell 14 rfl⟩)
  have hlt := HY5.out.lt
  go_wp2
  have hbz := HY5.out.below
  refine bodyPost_ret_by (v := .tuple #[.agg #[.int .i64 0, .int .i64 0, .int .i64 0, .int .i64 0, .int .i64 0, .int .i64 0, .int .i64 0, .int .i64 0, .int .i64 0, .int .i64 0, .int .i64 0, .int .i64 0, .int .i64 0, .bool false, .slice none 0 0], .int .i64 117]) (by simp [results, Tryz.results10, go_sem, d0, d1, d2, d3, d4, d5, d6, d7, d8, d9, d10, d11, d12, d13, d14]; try rfl) rfl ?_
  exact ⟨rfl, (((((((((((((((hbz.setCell (Nat.le_refl _) _).setCell (Nat.le_refl _) _).setCell (Nat.le_refl _) _).setCell (Nat.le_refl _) _).setCell (Nat.le_refl _) _).setCell (Nat.le_refl _) _).setCell (Nat.le_refl _) _).setCell (Nat.le_refl _) _).setCell (Nat.le_refl _) _).setCell (Nat.le_refl _) _).setCell (Nat.le_refl _) _).setCell (Nat.le_refl _) _).setCell (Nat.le_refl _) _).setCell (Nat.le_refl _) _).setCell (Nat.le_refl _) _)⟩
set_option maxRecDepth 20000 in
set_option maxHeartbeats 2000000 in
theorem un_no (b : List UInt8) (n : Nat) (hl : b.length = n) (B : Nat) (A : Option Addr) (c : Nat) (hc : n ≤ c) (w : World) (hB : B ≤ w.heap.size) (hA : Sl w B A (b.map u8v)) (hT : Tab w) (ino : Int) (hn : inB 1 65535 ino = true) (hz : (b == zeros128) = false) (h128 : n = 128) (hm : inoMay (inoSays b) = true) (hq : (inoBytes ino.toNat (inoSays b) == b) = false) :
    Calls Tryz.prog 10 #[.int .i64 (ino : Int), .slice A n c] w fun e w' => e = .returned (.tuple #[.agg #[.int .i64 0, .int .i64 0, .int .i64 0, .int .i64 0, .int .i64 0, .int .i64 0, .int .i64 0, .int .i64 0, .int .i64 0, .int .i64 0, .int .i64 0, .int .i64 0, .int .i64 0, .bool false, .slice none 0 0], .int .i64 117]) ∧ Below w.heap.size w w' := by
  have HZ := Lib.hid hz
  clear hz
  have HN8 := Lib.hid h128
  clear h128
  have HM := Lib.hid hm
  clear hm
  have HQ := Lib.hid hq
  clear hq
  have HN : Hid (inB 1 65535 (ino : Int) = true) := Lib.hid hn
  clear hn
  have HX := Lib.hid (BoxR.start w [.int .i64 0, .int .i64 0, .int .i64 0, .int .i64 0, .int .i64 0, .int .i64 0, .int .i64 0, .int .i64 0, .int .i64 0, .int .i64 0, .int .i64 0, .int .i64 0, .int .i64 0, .bool false, .slice none 0 0] 24)
  have HA := Lib.hid hA
  have HL := Lib.hid hl
  have HT := Lib.hid hT
  have HTL := Lib.hid (Tab.lt hT)
  clear hA hl hT
  go_enter Tryz.func10, Tryz.ntmps10
  go_wp2_with fail
  refine (isNumber_is (ino : Int) _ true HN.out).mono ?_
  rintro e w1 ⟨rfl, hb1⟩
  have HY1 := Lib.hid (HX.out.go hb1)
  clear hb1
  go_wp2_with fail
  refine (free_any _).mono ?_
  rintro e w2 ⟨rfl, hR2, hb2, hs2⟩
  have HY2 := Lib.hid (HY1.out.go hb2)
  have HR2 := Lib.hid (hR2.sl (B := w2.heap.size) hs2)
  have HA2 := Lib.hid (HA.out.below_le HY2.out.below hB)
  clear hR2 hb2
  go_wp2_with fail
  refine (Equal_at n 128 b zeros128 HL.out zeros_len B w2.heap.size A _ c 128 w2 HA2.out HR2.out false HZ.out).mono ?_
  rintro e w' ⟨rfl, rfl⟩
  have h128 : n = 128 := HN8.out
  subst h128
  go_wp2_with fail
  refine (read_is b HL.out B A c hc w2 (by have := HY2.out.below.size; omega) HA2.out).mono ?_
  rintro e w3 ⟨g, cap, rest, rfl, hg, hcap, hR3, hb3⟩
  have HY3 := Lib.hid (HY2.out.go hb3)
  have HR3 := Lib.hid hR3
  have HRN := Lib.hid (show ((b.drop 54).take 48).length = 48 by rw [List.length_take, List.length_drop, HL.out]; rfl)
  clear hb3 hR3
  generalize hr : inoSays b = r at *
  have hroot : r.root = (b.drop 54).take 48 := by rw [← hr]; rfl
  have HRT := Lib.hid hroot
  have HRB := Lib.hid hr
  clear hr hroot
  have HS4 := Lib.hid (BoxR.start w3 [.int .i64 r.kind, .int .i64 r.perm, .int .i64 r.uid, .int .i64 r.gid, .int .i64 r.links, .int .i64 r.size, .int .i64 r.blocks, .int .i64 r.at_, .int .i64 r.mt, .int .i64 r.ct, .int .i64 r.next, .int .i64 r.parent, .int .i64 r.xattr, .bool r.idx, .slice (some ⟨g, 0, none⟩) 48 cap] 24)
  have HY4 := Lib.hid (HY3.out.alloc (.cells #[.int .i64 r.kind, .int .i64 r.perm, .int .i64 r.uid, .int .i64 r.gid, .int .i64 r.links, .int .i64 r.size, .int .i64 r.blocks, .int .i64 r.at_, .int .i64 r.mt, .int .i64 r.ct, .int .i64 r.next, .int .i64 r.parent, .int .i64 r.xattr, .bool r.idx, .slice (some ⟨g, 0, none⟩) 48 cap] 24))
  have HR4 := Lib.hid (HR3.out.alloc (.cells #[.int .i64 r.kind, .int .i64 r.perm, .int .i64 r.uid, .int .i64 r.gid, .int .i64 r.links, .int .i64 r.size, .int .i64 r.blocks, .int .i64 r.at_, .int .i64 r.mt, .int .i64 r.ct, .int .i64 r.next, .int .i64 r.parent, .int .i64 r.xattr, .bool r.idx, .slice (some ⟨g, 0, none⟩) 48 cap] 24))
  have hz4 : (w3.alloc (.cells #[.int .i64 r.kind, .int .i64 r.perm, .int .i64 r.uid, .int .i64 r.gid, .int .i64 r.links, .int .i64 r.size, .int .i64 r.blocks, .int .i64 r.at_, .int .i64 r.mt, .int .i64 r.ct, .int .i64 r.next, .int .i64 r.parent, .int .i64 r.xattr, .bool r.idx, .slice (some ⟨g, 0, none⟩) 48 cap] 24)).heap.size = w3.heap.size + 1 := by simp
  have HZ4 := Lib.hid hz4
  clear hz4
  have HHM := Lib.hid (Tab.below HT.out HY4.out.below HTL.out)
  have HI := inB_true.1 HN.out
  obtain ⟨m, rfl⟩ := Int.eq_ofNat_of_zero_le (show 0 ≤ ino by omega)
  go_wp2_with fail
  refine (Pack_yes r _ cap _ m (by omega) (by omega) HM.out (g + 1) (by have := HR3.out.lt; rw [HZ4.out]; omega) (by rw [HRT.out]; exact HR4.out.sl (Nat.lt_succ_self g)) HHM.out).mono ?_
  rintro e w5 ⟨g5, rfl, hg5, hR5, hb5⟩
  have HY5 := Lib.hid (HY4.out.go hb5)
  have HS5 := Lib.hid (HS4.out.row.keep hb5 HS4.out.row.lt)
  have HR5 := Lib.hid (hR5.sl hR5.lt)
  have HRR := Lib.hid (HR4.out.keep hb5 HR4.out.lt)
  have HB5 := Lib.hid hb5
  have HA5 := Lib.hid (HA.out.below_le HY5.out.below hB)
  have HPL := Lib.hid (inoBytes_len (may_of HM.out).root m)
  clear hb5 hR5
  go_wp2_with fail
  refine (Equal_at 128 128 (inoBytes m r) b HPL.out HL.out w5.heap.size B _ A 128 c w5 HR5.out HA5.out false (by rw [← Int.toNat_natCast m]; exact HQ.out)).mono ?_
  rintro e w' ⟨rfl, rfl⟩
  have hfr := HY5.out.free
  obtain ⟨d0, d1, d2, d3, d4, d5, d6, d7, d8, d9, d10, d11, d12, d13, d14⟩ := (show _ ∧ _ ∧ _ ∧ _ ∧ _ ∧ _ ∧ _ ∧ _ ∧ _ ∧ _ ∧ _ ∧ _ ∧ _ ∧ _ ∧ _ from ⟨HY5.out.cell 0 rfl, HY5.out.cell 1 rfl, HY5.out.cell 2 rfl, HY5.out.cell 3 rfl, HY5.out.cell 4 rfl, HY5.out.cell 5 rfl, HY5.out.cell 6 rfl, HY5.out.cell 7 rfl, HY5.out.cell 8 rfl, HY5.out.cell 9 rfl, HY5.out.cell 10 rfl, HY5.out.cell 11 rfl, HY5.out.cell 12 rfl, HY5.out.cell 13 rfl, HY5.out.cell 14 rfl⟩)
  have hlt := HY5.out.lt
  go_wp2
  have hbz := HY5.out.below
  refine bodyPost_ret_by (v := .tuple #[.agg #[.int .i64 0, .int .i64 0, .int .i64 0, .int .i64 0, .int .i64 0, .int .i64 0, .int .i64 0, .int .i64 0, .int .i64 0, .int .i64 0, .int .i64 0, .int .i64 0, .int .i64 0, .bool false, .slice none 0 0], .int .i64 117]) (by simp [results, Tryz.results10, go_sem, d0, d1, d2, d3, d4, d5, d6, d7, d8, d9, d10, d11, d12, d13, d14]; try rfl) rfl ?_
  exact ⟨rfl, (((((((((((((((hbz.setCell (Nat.le_refl _) _).setCell (Nat.le_refl _) _).setCell (Nat.le_refl _) _).setCell (Nat.le_refl _) _).setCell (Nat.le_refl _) _).setCell (Nat.le_refl _) _).setCell (Nat.le_refl _) _).setCell (Nat.le_refl _) _).setCell (Nat.le_refl _) _).setCell (Nat.le_refl _) _).setCell (Nat.le_refl _) _).setCell (Nat.le_refl _) _).setCell (Nat.le_refl _) _).setCell (Nat.le_refl _) _).setCell (Nat.le_refl _) _)⟩
set_option maxRecDepth 20000 in
set_option maxHeartbeats 2000000 in
theorem un_yes (b : List UInt8) (n : Nat) (hl : b.length = n) (B : Nat) (A : Option Addr) (c : Nat) (hc : n ≤ c) (w : World) (hB : B ≤ w.heap.size) (hA : Sl w B A (b.map u8v)) (hT : Tab w) (ino : Int) (hn : inB 1 65535 ino = true) (hz : (b == zeros128) = false) (h128 : n = 128) (hm : inoMay (inoSays b) = true) (hq : (inoBytes ino.toNat (inoSays b) == b) = true) :
    Calls Tryz.prog 10 #[.int .i64 (ino : Int), .slice A n c] w fun e w' => ∃ g cap rest, e = .returned (.tuple #[.agg #[.int .i64 (inoSays b).kind, .int .i64 (inoSays b).perm, .int .i64 (inoSays b).uid, .int .i64 (inoSays b).gid, .int .i64 (inoSays b).links, .int .i64 (inoSays b).size, .int .i64 (inoSays b).blocks, .int .i64 (inoSays b).at_, .int .i64 (inoSays b).mt, .int .i64 (inoSays b).ct, .int .i64 (inoSays b).next, .int .i64 (inoSays b).parent, .int .i64 (inoSays b).xattr, .bool (inoSays b).idx, .slice (some ⟨g, 0, none⟩) 48 cap], .int .i64 0]) ∧ w.heap.size ≤ g ∧ 48 ≤ cap ∧ Row w' g (inoSays b).root rest ∧ Below w.heap.size w w' := by
  have HZ := Lib.hid hz
  clear hz
  have HN8 := Lib.hid h128
  clear h128
  have HM := Lib.hid hm
  clear hm
  have HQ := Lib.hid hq
  clear hq
  have HN : Hid (inB 1 65535 (ino : Int) = true) := Lib.hid hn
  clear hn
  have HX := Lib.hid (BoxR.start w [.int .i64 0, .int .i64 0, .int .i64 0, .int .i64 0, .int .i64 0, .int .i64 0, .int .i64 0, .int .i64 0, .int .i64 0, .int .i64 0, .int .i64 0, .int .i64 0, .int .i64 0, .bool false, .slice none 0 0] 24)
  have HA := Lib.hid hA
  have HL := Lib.hid hl
  have HT := Lib.hid hT
  have HTL := Lib.hid (Tab.lt hT)
  clear hA hl hT
  go_enter Tryz.func10, Tryz.ntmps10
  go_wp2_with fail
  refine (isNumber_is (ino : Int) _ true HN.out).mono ?_
  rintro e w1 ⟨rfl, hb1⟩
  have HY1 := Lib.hid (HX.out.go hb1)
  clear hb1
  go_wp2_with fail
  refine (free_any _).mono ?_
  rintro e w2 ⟨rfl, hR2, hb2, hs2⟩
  have HY2 := Lib.hid (HY1.out.go hb2)
  have HR2 := Lib.hid (hR2.sl (B := w2.heap.size) hs2)
  have HA2 := Lib.hid (HA.out.below_le HY2.out.below hB)
  clear hR2 hb2
  go_wp2_with fail
  refine (Equal_at n 128 b zeros128 HL.out zeros_len B w2.heap.size A _ c 128 w2 HA2.out HR2.out false HZ.out).mono ?_
  rintro e w' ⟨rfl, rfl⟩
  have h128 : n = 128 := HN8.out
  subst h128
  go_wp2_with fail
  refine (read_is b HL.out B A c hc w2 (by have := HY2.out.below.size; omega) HA2.out).mono ?_
  rintro e w3 ⟨g, cap, rest, rfl, hg, hcap, hR3, hb3⟩
  have HY3 := Lib.hid (HY2.out.go hb3)
  have HR3 := Lib.hid hR3
  have HRN := Lib.hid (show ((b.drop 54).take 48).length = 48 by rw [List.length_take, List.length_drop, HL.out]; rfl)
  clear hb3 hR3
  generalize hr : inoSays b = r at *
  have hroot : r.root = (b.drop 54).take 48 := by rw [← hr]; rfl
  have HRT := Lib.hid hroot
  have HRB := Lib.hid hr
  clear hr hroot
  have HS4 := Lib.hid (BoxR.start w3 [.int .i64 r.kind, .int .i64 r.perm, .int .i64 r.uid, .int .i64 r.gid, .int .i64 r.links, .int .i64 r.size, .int .i64 r.blocks, .int .i64 r.at_, .int .i64 r.mt, .int .i64 r.ct, .int .i64 r.next, .int .i64 r.parent, .int .i64 r.xattr, .bool r.idx, .slice (some ⟨g, 0, none⟩) 48 cap] 24)
  have HY4 := Lib.hid (HY3.out.alloc (.cells #[.int .i64 r.kind, .int .i64 r.perm, .int .i64 r.uid, .int .i64 r.gid, .int .i64 r.links, .int .i64 r.size, .int .i64 r.blocks, .int .i64 r.at_, .int .i64 r.mt, .int .i64 r.ct, .int .i64 r.next, .int .i64 r.parent, .int .i64 r.xattr, .bool r.idx, .slice (some ⟨g, 0, none⟩) 48 cap] 24))
  have HR4 := Lib.hid (HR3.out.alloc (.cells #[.int .i64 r.kind, .int .i64 r.perm, .int .i64 r.uid, .int .i64 r.gid, .int .i64 r.links, .int .i64 r.size, .int .i64 r.blocks, .int .i64 r.at_, .int .i64 r.mt, .int .i64 r.ct, .int .i64 r.next, .int .i64 r.parent, .int .i64 r.xattr, .bool r.idx, .slice (some ⟨g, 0, none⟩) 48 cap] 24))
  have hz4 : (w3.alloc (.cells #[.int .i64 r.kind, .int .i64 r.perm, .int .i64 r.uid, .int .i64 r.gid, .int .i64 r.links, .int .i64 r.size, .int .i64 r.blocks, .int .i64 r.at_, .int .i64 r.mt, .int .i64 r.ct, .int .i64 r.next, .int .i64 r.parent, .int .i64 r.xattr, .bool r.idx, .slice (some ⟨g, 0, none⟩) 48 cap] 24)).heap.size = w3.heap.size + 1 := by simp
  have HZ4 := Lib.hid hz4
  clear hz4
  have HHM := Lib.hid (Tab.below HT.out HY4.out.below HTL.out)
  have HI := inB_true.1 HN.out
  obtain ⟨m, rfl⟩ := Int.eq_ofNat_of_zero_le (show 0 ≤ ino by omega)
  go_wp2_with fail
  refine (Pack_yes r _ cap _ m (by omega) (by omega) HM.out (g + 1) (by have := HR3.out.lt; rw [HZ4.out]; omega) (by rw [HRT.out]; exact HR4.out.sl (Nat.lt_succ_self g)) HHM.out).mono ?_
  rintro e w5 ⟨g5, rfl, hg5, hR5, hb5⟩
  have HY5 := Lib.hid (HY4.out.go hb5)
  have HS5 := Lib.hid (HS4.out.row.keep hb5 HS4.out.row.lt)
  have HR5 := Lib.hid (hR5.sl hR5.lt)
  have HRR := Lib.hid (HR4.out.keep hb5 HR4.out.lt)
  have HB5 := Lib.hid hb5
  have HA5 := Lib.hid (HA.out.below_le HY5.out.below hB)
  have HPL := Lib.hid (inoBytes_len (may_of HM.out).root m)
  clear hb5 hR5
  go_wp2_with fail
  refine (Equal_at 128 128 (inoBytes m r) b HPL.out HL.out w5.heap.size B _ A 128 c w5 HR5.out HA5.out true (by rw [← Int.toNat_natCast m]; exact HQ.out)).mono ?_
  rintro e w' ⟨rfl, rfl⟩
  have hfr := HY5.out.free
  obtain ⟨d0, d1, d2, d3, d4, d5, d6, d7, d8, d9, d10, d11, d12, d13, d14⟩ := (show _ ∧ _ ∧ _ ∧ _ ∧ _ ∧ _ ∧ _ ∧ _ ∧ _ ∧ _ ∧ _ ∧ _ ∧ _ ∧ _ ∧ _ from ⟨HY5.out.cell 0 rfl, HY5.out.cell 1 rfl, HY5.out.cell 2 rfl, HY5.out.cell 3 rfl, HY5.out.cell 4 rfl, HY5.out.cell 5 rfl, HY5.out.cell 6 rfl, HY5.out.cell 7 rfl, HY5.out.cell 8 rfl, HY5.out.cell 9 rfl, HY5.out.cell 10 rfl, HY5.out.cell 11 rfl, HY5.out.cell 12 rfl, HY5.out.cell 13 rfl, HY5.out.cell 14 rfl⟩)
  have hlt := HY5.out.lt
  have hsr := HS5.out
  obtain ⟨k0, k1, k2, k3, k4, k5, k6, k7, k8, k9, k10, k11, k12, k13, k14⟩ := (show _ ∧ _ ∧ _ ∧ _ ∧ _ ∧ _ ∧ _ ∧ _ ∧ _ ∧ _ ∧ _ ∧ _ ∧ _ ∧ _ ∧ _ from ⟨rowc hsr 0 rfl, rowc hsr 1 rfl, rowc hsr 2 rfl, rowc hsr 3 rfl, rowc hsr 4 rfl, rowc hsr 5 rfl, rowc hsr 6 rfl, rowc hsr 7 rfl, rowc hsr 8 rfl, rowc hsr 9 rfl, rowc hsr 10 rfl, rowc hsr 11 rfl, rowc hsr 12 rfl, rowc hsr 13 rfl, rowc hsr 14 rfl⟩)
  have hlt3 := hsr.lt
  clear hsr
  have hne3 : ¬ w3.heap.size = w.heap.size := by have := HY3.out.lt; omega
  go_wp2
  have hbz := HY5.out.below
  have hre := HRB.out
  subst hre
  refine bodyPost_ret_by (v := .tuple #[.agg #[.int .i64 (inoSays b).kind, .int .i64 (inoSays b).perm, .int .i64 (inoSays b).uid, .int .i64 (inoSays b).gid, .int .i64 (inoSays b).links, .int .i64 (inoSays b).size, .int .i64 (inoSays b).blocks, .int .i64 (inoSays b).at_, .int .i64 (inoSays b).mt, .int .i64 (inoSays b).ct, .int .i64 (inoSays b).next, .int .i64 (inoSays b).parent, .int .i64 (inoSays b).xattr, .bool (inoSays b).idx, .slice (some ⟨g, 0, none⟩) 48 cap], .int .i64 0]) (by simp [results, Tryz.results10, go_sem, d0, d1, d2, d3, d4, d5, d6, d7, d8, d9, d10, d11, d12, d13, d14]; try rfl) rfl ?_
  have hne : g ≠ w.heap.size := by have := HY2.out.lt; omega
  have hrow5 : Row w5 g (inoSays b).root rest := by rw [HRT.out]; exact HRR.out
  have hsz := HY2.out.below.size
  exact ⟨g, cap, rest, rfl, by omega, hcap, (rowFar (rowFar (rowFar (rowFar (rowFar (rowFar (rowFar (rowFar (rowFar (rowFar (rowFar (rowFar (rowFar (rowFar (rowFar hrow5 _ _ hne) _ _ hne) _ _ hne) _ _ hne) _ _ hne) _ _ hne) _ _ hne) _ _ hne) _ _ hne) _ _ hne) _ _ hne) _ _ hne) _ _ hne) _ _ hne) _ _ hne), (((((((((((((((hbz.setCell (Nat.le_refl _) _).setCell (Nat.le_refl _) _).setCell (Nat.le_refl _) _).setCell (Nat.le_refl _) _).setCell (Nat.le_refl _) _).setCell (Nat.le_refl _) _).setCell (Nat.le_refl _) _).setCell (Nat.le_refl _) _).setCell (Nat.le_refl _) _).setCell (Nat.le_refl _) _).setCell (Nat.le_refl _) _).setCell (Nat.le_refl _) _).setCell (Nat.le_refl _) _).setCell (Nat.le_refl _) _).setCell (Nat.le_refl _) _)⟩
end Go.Proofs.YtgjcbfdhpbkhoaaGreatDoor.IUn2
