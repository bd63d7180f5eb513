/- An inode, packed by the program. -/
import Derived.Test.YtgjcbfdhpbkhoaaGreatDoorMg24
import Derived.Laws.CopyOwn
import Derived.Deep.RegionLaw
namespace Go.Proofs.YtgjcbfdhpbkhoaaGreatDoor.IPack
open Go.RowKit WMem WPlain WPack WWide WAny WCrc WSeal WFace2 GPlain GWithin GGeo GGeo2 SNums SPlain IPlain ICheck
theorem u64v_0 : u64v 0 = .int .u64 0 := rfl
theorem u64v_1 : u64v 1 = .int .u64 1 := rfl
theorem numbers_is (r : Ino) (A : Option Addr) (n c : Nat) (w : World) : Calls Tryz.prog 43 #[.agg #[.int .i64 r.kind, .int .i64 r.perm, .int .i64 r.uid, .int .i64 r.gid, .int .i64 r.links, .int .i64 r.size, .int .i64 r.blocks, .int .i64 r.at_, .int .i64 r.mt, .int .i64 r.ct, .int .i64 r.next, .int .i64 r.parent, .int .i64 r.xattr, .bool r.idx, .slice A n c]] w fun e w' =>
    ∃ g, e = .returned (.slice (some ⟨g, 0, none⟩) 14 14) ∧ RowV w' g 47 ((inoN r).map u64v) ∧ Below w.heap.size w w' ∧ w.heap.size ≤ g := by
  have HX := Lib.hid (Boxed.start w [.int .i64 r.kind, .int .i64 r.perm, .int .i64 r.uid, .int .i64 r.gid, .int .i64 r.links, .int .i64 r.size, .int .i64 r.blocks, .int .i64 r.at_, .int .i64 r.mt, .int .i64 r.ct, .int .i64 r.next, .int .i64 r.parent, .int .i64 r.xattr, .bool r.idx, .slice A n c] 24)
  have HZ : Hid (∀ o : Obj, (w.alloc o).heap.size = w.heap.size + 1) := Lib.hid fun o => by simp
  have HN : Hid (∀ o : Obj, RowV ((w.alloc o).alloc (.cells ((inoN r).map u64v).toArray 47)) (w.heap.size + 1) 47 ((inoN r).map u64v)) := Lib.hid fun o => by
    have h := row_new (w.alloc o) (.cells ((inoN r).map u64v).toArray 47)
    rw [HZ.out] at h
    exact h
  simp only [inoN, List.map_cons, List.map_nil, u64v_of] at HN
  cases hi : r.idx
  all_goals
    rw [hi] at HX HN
    simp only [Bool.false_eq_true, if_false, if_true, u64v_0, u64v_1] at HN
    have HI := Lib.hid hi
    clear hi
    go_enter Tryz.func43, Tryz.ntmps43
    go_wp2
    go_ret
    refine ⟨_, rfl, ?_, (HX.out.alloc _).below, by simp⟩
    simp only [inoN, List.map_cons, List.map_nil, u64v_of, HI.out, Bool.false_eq_true, if_false, if_true, u64v_0, u64v_1]
    exact HN.out _
theorem widths_any (w : World) : Calls Tryz.prog 44 #[] w fun e w' => e = .returned (.slice (some ⟨w.heap.size, 0, none⟩) 14 14) ∧ RowV w' w.heap.size 3 (inoW.map i64v) ∧ Below w.heap.size w w' ∧ w.heap.size < w'.heap.size := by
  go_enter Tryz.func44, Tryz.ntmps44
  go_wp2
  go_ret
  exact ⟨rfl, row_new _ _, below_box _, by simp⟩
theorem splice_patch (l r : List UInt8) (k : Nat) : splice (l.map u8v ++ []) k (r.map u8v) = (patch l k r).map u8v ++ [] := by
  unfold splice patch
  simp
set_option maxRecDepth 20000 in
set_option maxHeartbeats 4000000 in
theorem record_is (r : Ino) (hm : inoMay r = true) (ino : Nat) (hino : ino ≤ 65535) (B : Nat) (A : Option Addr) (c : Nat) (w : World) (hB : B ≤ w.heap.size) (hA : Sl w B A (r.root.map u8v)) (hT : Tab w) :
    Calls Tryz.prog 22 #[.int .i64 (ino : Int), .agg #[.int .i64 r.kind, .int .i64 r.perm, .int .i64 r.uid, .int .i64 r.gid, .int .i64 r.links, .int .i64 r.size, .int .i64 r.blocks, .int .i64 r.at_, .int .i64 r.mt, .int .i64 r.ct, .int .i64 r.next, .int .i64 r.parent, .int .i64 r.xattr, .bool r.idx, .slice A 48 c]] w fun e w' => ∃ g, e = .returned (.tuple #[.slice (some ⟨g, 0, none⟩) 128 128, .int .i64 0]) ∧ w.heap.size ≤ g ∧ Row w' g (inoBytes ino r) [] ∧ Below w.heap.size w w' := by
  have HX := Lib.hid (Boxed.start w [.int .i64 r.kind, .int .i64 r.perm, .int .i64 r.uid, .int .i64 r.gid, .int .i64 r.links, .int .i64 r.size, .int .i64 r.blocks, .int .i64 r.at_, .int .i64 r.mt, .int .i64 r.ct, .int .i64 r.next, .int .i64 r.parent, .int .i64 r.xattr, .bool r.idx, .slice A 48 c] 24)
  have hM := may_of hm
  have HM := Lib.hid hM
  have HF := Lib.hid (ino_fit hM)
  have HRL := Lib.hid (inoRaw_len hM.root)
  have HA := Lib.hid hA
  have HT := Lib.hid hT
  have htl := Tab.lt hT
  have HTL := Lib.hid htl
  clear hm hM hA hT
  have hu : IntKind.u32.wrap (ino : Int) = (ino : Int) := by rw [IntKind.wrap_u32]; omega
  go_enter Tryz.func22, Tryz.ntmps22
  obtain ⟨c0, c1, c2, c3, c4, c5, c6, c7, c8, c9, c10, c11, c12, c13, c14⟩ := (show _ ∧ _ ∧ _ ∧ _ ∧ _ ∧ _ ∧ _ ∧ _ ∧ _ ∧ _ ∧ _ ∧ _ ∧ _ ∧ _ ∧ _ from ⟨HX.out.cell 0 _ rfl, HX.out.cell 1 _ rfl, HX.out.cell 2 _ rfl, HX.out.cell 3 _ rfl, HX.out.cell 4 _ rfl, HX.out.cell 5 _ rfl, HX.out.cell 6 _ rfl, HX.out.cell 7 _ rfl, HX.out.cell 8 _ rfl, HX.out.cell 9 _ rfl, HX.out.cell 10 _ rfl, HX.out.cell 11 _ rfl, HX.out.cell 12 _ rfl, HX.out.cell 13 _ rfl, HX.out.cell 14 _ rfl⟩)
  go_wp2_with fail
  refine (numbers_is r A 48 c _).mono ?_
  rintro e w1 ⟨g1, rfl, hR1, hb1, hg1⟩
  have HY1 := Lib.hid (HX.out.go hb1)
  have HR1 := Lib.hid hR1
  clear c0 c1 c2 c3 c4 c5 c6 c7 c8 c9 c10 c11 c12 c13 c14 hb1 hR1
  go_wp2_with fail
  refine (widths_any _).mono ?_
  rintro e w2 ⟨rfl, hR2, hb2, hs2⟩
  have HY2 := Lib.hid (HY1.out.go hb2)
  have HS1 := Lib.hid ((HR1.out.keep hb2 HR1.out.lt).sl (B := w2.heap.size) (Nat.lt_of_lt_of_le HR1.out.lt hb2.size))
  have HS2 := Lib.hid (hR2.sl hR2.lt)
  have hlt2 := HY2.out.lt
  clear hR2 hb2
  go_wp2_with fail
  refine (PackW_at 14 (inoN r) rfl inoW w2.heap.size _ _ _ _ w2 128 (Nat.le_refl _) (ino_packs r) HF.out HS1.out HS2.out).mono ?_
  rintro e w3 ⟨g, rfl, hg, hR3, hb3⟩
  have HY3 := Lib.hid (HY2.out.go hb3)
  have HR3 := Lib.hid hR3
  have HA3 := Lib.hid (HA.out.below_le HY3.out.below hB)
  have HG := Lib.hid (show w.heap.size ≤ g by omega)
  have c14 := HY3.out.cell 14 _ rfl
  have HRD : Hid (w3.drew.heap[g]? = some (.cells ((bytesOf_ (inoN r) inoW 128).map u8v ++ []).toArray 5 (0, 0))) := Lib.hid hR3
  have HBD : Hid (Below w.heap.size w w3.drew) := Lib.hid (below_drewN HY3.out.below 1)
  obtain ⟨a, ha, _, _⟩ := HA3.out.u8 (k := 0) (by rw [HM.out.root]; decide)
  subst ha
  have HLN : Hid ((r.root.map u8v).length = Nat.min 48 74) := Lib.hid (by rw [List.length_map, HM.out.root]; rfl)
  have HCC : Hid (∀ (j : Nat) (v : Value), (r.root.map u8v)[j]? = some v → w3.drew.cell? (a.add j) = some v) := Lib.hid (fun j v hv => by
    obtain ⟨a', e, _, hc⟩ := HA3.out j v hv
    injection e with e
    rw [e]
    exact hc)
  have HFT : Hid (54 + (r.root.map u8v).length ≤ ((bytesOf_ (inoN r) inoW 128).map u8v ++ []).length) := Lib.hid (by rw [List.length_map, HM.out.root, List.length_append, List.length_map, raw0_len]; decide)
  have HONE : Hid (∀ v ∈ r.root.map u8v, v.oneCell' = true) := Lib.hid (fun v hv => by
    obtain ⟨x, _, rfl⟩ := List.mem_map.1 hv
    rfl)
  clear hb3 hR3
  go_wp2_with fail
  go_region_law (refine step_copy_splice (w := w3.drew) ?g1 (.tmp 20) (.tmp 22) 22 22 ?g2 5 (by kernel_rfl) (by kernel_rfl) (some ⟨g, 54, none⟩) (some a) 74 74 48 c ?g3 ?g4 g 54 ((bytesOf_ (inoN r) inoW 128).map u8v ++ []) 5 HRD.out (r.root.map u8v) HLN.out (fun _ => ⟨rfl, a, rfl, HCC.out⟩) HFT.out HONE.out w.heap.size w HBD.out HG.out ?g5; (exact rfl); (exact rfl); (simp [Act.eval]); (simp [Act.eval]); intro w4 hg4 hb4)
  all_goals
    have hg5 := hg4.out
    rw [splice_patch] at hg5
    have HR4 : Hid (Row w4 g (inoRaw r) []) := Lib.hid hg5
    have HB4 := Lib.hid hb4
    have HSE := Lib.hid (Seal_ok (inoRaw r) [] g 128 ino w4 (by omega) (by rw [HRL.out]; decide) (by rw [HRL.out]; decide) (by rw [HRL.out]; decide) HR4.out (Tab.below HT.out HB4.out HTL.out))
    rw [HRL.out] at HSE
    clear hg4 hg5 hb4
    try simp [Exit.inBlock, Act.put]
    go_wp2_with fail
    refine HSE.out.mono ?_
    rintro e w5 ⟨rfl, hR5, hg5⟩
    have HR5 := Lib.hid hR5
    have HG5 := Lib.hid hg5
    clear hR5 hg5
    go_wp2
    go_ret2
    refine ⟨g, rfl, HG.out, ?_, ?_⟩
    · have := HR5.out
      unfold inoBytes sealL
      rw [if_pos (by rw [HRL.out]; decide), HRL.out]
      exact this
    · exact HB4.out.grown HG5.out HB4.out.size (by intro k hk; injection hk with hk; subst hk; exact HG.out)
section
variable (r : Ino) (A : Option Addr) (c : Nat) (w : World)
set_option maxHeartbeats 1000000 in
theorem Pack_num (n : Nat) (ino : Int) (h : inB 1 65535 ino = false) : Calls Tryz.prog 8 #[.int .i64 ino, .agg #[.int .i64 r.kind, .int .i64 r.perm, .int .i64 r.uid, .int .i64 r.gid, .int .i64 r.links, .int .i64 r.size, .int .i64 r.blocks, .int .i64 r.at_, .int .i64 r.mt, .int .i64 r.ct, .int .i64 r.next, .int .i64 r.parent, .int .i64 r.xattr, .bool r.idx, .slice A n c]] w fun e w' => e = .returned (.tuple #[.slice none 0 0, .int .i64 22]) ∧ Below w.heap.size w w' := by
  have HX := Lib.hid (Boxed.start w [.int .i64 r.kind, .int .i64 r.perm, .int .i64 r.uid, .int .i64 r.gid, .int .i64 r.links, .int .i64 r.size, .int .i64 r.blocks, .int .i64 r.at_, .int .i64 r.mt, .int .i64 r.ct, .int .i64 r.next, .int .i64 r.parent, .int .i64 r.xattr, .bool r.idx, .slice A n c] 24)
  have H := Lib.hid h
  clear h
  go_enter Tryz.func8, Tryz.ntmps8
  go_wp2_with fail
  refine (isNumber_is ino _ false H.out).mono ?_
  rintro e w1 ⟨rfl, hb1⟩
  have HY := Lib.hid (HX.out.go hb1)
  clear hb1
  go_wp2
  go_ret2
  exact ⟨rfl, HY.out.below⟩
set_option maxHeartbeats 1000000 in
theorem Pack_may (n : Nat) (hn : r.root.length = n) (ino : Int) (h : inB 1 65535 ino = true) (hm : inoMay r = false) : Calls Tryz.prog 8 #[.int .i64 ino, .agg #[.int .i64 r.kind, .int .i64 r.perm, .int .i64 r.uid, .int .i64 r.gid, .int .i64 r.links, .int .i64 r.size, .int .i64 r.blocks, .int .i64 r.at_, .int .i64 r.mt, .int .i64 r.ct, .int .i64 r.next, .int .i64 r.parent, .int .i64 r.xattr, .bool r.idx, .slice A n c]] w fun e w' => e = .returned (.tuple #[.slice none 0 0, .int .i64 22]) ∧ Below w.heap.size w w' := by
  subst hn
  have HX := Lib.hid (Boxed.start w [.int .i64 r.kind, .int .i64 r.perm, .int .i64 r.uid, .int .i64 r.gid, .int .i64 r.links, .int .i64 r.size, .int .i64 r.blocks, .int .i64 r.at_, .int .i64 r.mt, .int .i64 r.ct, .int .i64 r.next, .int .i64 r.parent, .int .i64 r.xattr, .bool r.idx, .slice A r.root.length c] 24)
  have H := Lib.hid h
  have HM := Lib.hid hm
  clear h hm
  go_enter Tryz.func8, Tryz.ntmps8
  go_wp2_with fail
  refine (isNumber_is ino _ true H.out).mono ?_
  rintro e w1 ⟨rfl, hb1⟩
  have HY := Lib.hid (HX.out.go hb1)
  obtain ⟨c0, c1, c2, c3, c4, c5, c6, c7, c8, c9, c10, c11, c12, c13, c14⟩ := (show _ ∧ _ ∧ _ ∧ _ ∧ _ ∧ _ ∧ _ ∧ _ ∧ _ ∧ _ ∧ _ ∧ _ ∧ _ ∧ _ ∧ _ from ⟨HY.out.cell 0 _ rfl, HY.out.cell 1 _ rfl, HY.out.cell 2 _ rfl, HY.out.cell 3 _ rfl, HY.out.cell 4 _ rfl, HY.out.cell 5 _ rfl, HY.out.cell 6 _ rfl, HY.out.cell 7 _ rfl, HY.out.cell 8 _ rfl, HY.out.cell 9 _ rfl, HY.out.cell 10 _ rfl, HY.out.cell 11 _ rfl, HY.out.cell 12 _ rfl, HY.out.cell 13 _ rfl, HY.out.cell 14 _ rfl⟩)
  clear hb1
  go_wp2_with fail
  refine (mayBe_is r A c _ false HM.out).mono ?_
  rintro e w2 ⟨rfl, hb2⟩
  have HZ := Lib.hid (HY.out.go hb2)
  clear hb2 c0 c1 c2 c3 c4 c5 c6 c7 c8 c9 c10 c11 c12 c13 c14
  go_wp2
  go_ret2
  exact ⟨rfl, HZ.out.below⟩
set_option maxHeartbeats 1000000 in
theorem Pack_yes (ino : Nat) (h0 : 1 ≤ ino) (h1 : ino ≤ 65535) (hm : inoMay r = true) (B : Nat) (hB : B ≤ w.heap.size) (hA : Sl w B A (r.root.map u8v)) (hT : Tab w) :
    Calls Tryz.prog 8 #[.int .i64 (ino : Int), .agg #[.int .i64 r.kind, .int .i64 r.perm, .int .i64 r.uid, .int .i64 r.gid, .int .i64 r.links, .int .i64 r.size, .int .i64 r.blocks, .int .i64 r.at_, .int .i64 r.mt, .int .i64 r.ct, .int .i64 r.next, .int .i64 r.parent, .int .i64 r.xattr, .bool r.idx, .slice A 48 c]] w fun e w' => ∃ g, e = .returned (.tuple #[.slice (some ⟨g, 0, none⟩) 128 128, .int .i64 0]) ∧ w.heap.size ≤ g ∧ Row w' g (inoBytes ino r) [] ∧ Below w.heap.size w w' := by
  have HX := Lib.hid (Boxed.start w [.int .i64 r.kind, .int .i64 r.perm, .int .i64 r.uid, .int .i64 r.gid, .int .i64 r.links, .int .i64 r.size, .int .i64 r.blocks, .int .i64 r.at_, .int .i64 r.mt, .int .i64 r.ct, .int .i64 r.next, .int .i64 r.parent, .int .i64 r.xattr, .bool r.idx, .slice A 48 c] 24)
  have H : Hid (inB 1 65535 (ino : Int) = true) := Lib.hid (inB_true.2 ⟨by omega, by omega⟩)
  have HM := Lib.hid hm
  have HRR := Lib.hid (may_of hm).root
  have HA := Lib.hid hA
  have HT := Lib.hid hT
  have HTL := Lib.hid (Tab.lt hT)
  clear hm hA hT
  go_enter Tryz.func8, Tryz.ntmps8
  go_wp2_with fail
  refine (isNumber_is (ino : Int) _ true H.out).mono ?_
  rintro e w1 ⟨rfl, hb1⟩
  have HY := Lib.hid (HX.out.go hb1)
  obtain ⟨c0, c1, c2, c3, c4, c5, c6, c7, c8, c9, c10, c11, c12, c13, c14⟩ := (show _ ∧ _ ∧ _ ∧ _ ∧ _ ∧ _ ∧ _ ∧ _ ∧ _ ∧ _ ∧ _ ∧ _ ∧ _ ∧ _ ∧ _ from ⟨HY.out.cell 0 _ rfl, HY.out.cell 1 _ rfl, HY.out.cell 2 _ rfl, HY.out.cell 3 _ rfl, HY.out.cell 4 _ rfl, HY.out.cell 5 _ rfl, HY.out.cell 6 _ rfl, HY.out.cell 7 _ rfl, HY.out.cell 8 _ rfl, HY.out.cell 9 _ rfl, HY.out.cell 10 _ rfl, HY.out.cell 11 _ rfl, HY.out.cell 12 _ rfl, HY.out.cell 13 _ rfl, HY.out.cell 14 _ rfl⟩)
  clear hb1
  go_wp2_with fail
  have hmb := mayBe_is r A c w1 true HM.out
  rw [HRR.out] at hmb
  refine hmb.mono ?_
  clear hmb
  rintro e w2 ⟨rfl, hb2⟩
  have HZ := Lib.hid (HY.out.go hb2)
  clear c0 c1 c2 c3 c4 c5 c6 c7 c8 c9 c10 c11 c12 c13 c14
  obtain ⟨c0, c1, c2, c3, c4, c5, c6, c7, c8, c9, c10, c11, c12, c13, c14⟩ := (show _ ∧ _ ∧ _ ∧ _ ∧ _ ∧ _ ∧ _ ∧ _ ∧ _ ∧ _ ∧ _ ∧ _ ∧ _ ∧ _ ∧ _ from ⟨HZ.out.cell 0 _ rfl, HZ.out.cell 1 _ rfl, HZ.out.cell 2 _ rfl, HZ.out.cell 3 _ rfl, HZ.out.cell 4 _ rfl, HZ.out.cell 5 _ rfl, HZ.out.cell 6 _ rfl, HZ.out.cell 7 _ rfl, HZ.out.cell 8 _ rfl, HZ.out.cell 9 _ rfl, HZ.out.cell 10 _ rfl, HZ.out.cell 11 _ rfl, HZ.out.cell 12 _ rfl, HZ.out.cell 13 _ rfl, HZ.out.cell 14 _ rfl⟩)
  clear hb2
  have hsz := HZ.out.below.size
  go_wp2_with fail
  refine (record_is r HM.out ino h1 B A c w2 (by omega) (HA.out.below_le HZ.out.below hB) (Tab.below HT.out HZ.out.below HTL.out)).mono ?_
  rintro e w3 ⟨g, rfl, hg, hR3, hb3⟩
  have HW := Lib.hid (HZ.out.go hb3)
  have HR := Lib.hid hR3
  clear hb3 hR3 c0 c1 c2 c3 c4 c5 c6 c7 c8 c9 c10 c11 c12 c13 c14
  go_wp2
  go_ret2
  exact ⟨g, rfl, by omega, HR.out, HW.out.below⟩
end
end Go.Proofs.YtgjcbfdhpbkhoaaGreatDoor.IPack
