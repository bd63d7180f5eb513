/- The document's examples hold: awake answers true. -/
import Derived.Test.YtphfidenjihgeaaEFix
import Derived.Test.YtphfidenjihgeaaEAwM
namespace Go.Proofs.Ytphfidenjihgeaa.EAwake
open Go.RowKit WMem WPlain WAppend Ext Map DPlain DMem Mk DBase DRead DWrite EPlain EMem ECache EFace EUnwrite EPush EWrite EHold ERead EHome EWrites ECommit EBack EFill EAny EFix EAwM

section
variable {a w : World} {ρ : Ro} {D : Nat → Prop} {b db : Nat} {s : Sto}
theorem a_write (h : Live a w ρ D b db s) (n : Int) (k : Nat) (hk : (k : Int) = n) (hn : k < s.N) (g : Nat) (l : Bk) (hv : IsBlk w (fun q => q = g) (.slice (some ⟨g, 0, none⟩) 256 256) l) (hg : ¬ Mine ρ g) (hgl : g < w.heap.size) (hload : s.load ≤ 1073741824) :
    Calls Try.prog 12 #[.pointer (some ⟨b, 0, none⟩), .int .i64 n, .slice (some ⟨g, 0, none⟩) 256 256] w fun e w' => e = .returned (.int .i64 0) ∧ ∃ ρ', Live a w' ρ' D b db (s.write k l) := by
  subst hk
  refine (SWrite_ok h.own hn hv (fun q hq => by subst hq; exact hgl) (fun q h1 h2 => by subst h2; exact hg h1) hload).mono ?_
  rintro e w' ⟨rfl, ρ', hgo⟩
  exact ⟨rfl, ρ', h.goes hgo⟩
theorem a_hold (h : Live a w ρ D b db s) (n : Int) (k : Nat) (hk : (k : Int) = n) (hn : k < s.N) (hload : s.load ≤ 1073741824) :
    Calls Try.prog 14 #[.pointer (some ⟨b, 0, none⟩), .int .i64 n] w fun e w' => e = .returned (.int .i64 0) ∧ ∃ ρ', Live a w' ρ' D b db (s.hold k) := by
  subst hk
  refine (Hold_ok h.own hn hload).mono ?_
  rintro e w' ⟨rfl, ρ', hgo⟩
  exact ⟨rfl, ρ', h.goes hgo⟩
theorem a_mark (h : Live a w ρ D b db s) (m : Int) (hm : (s.acts.length : Int) = m) (hl : s.acts.length ≤ 1073741824) :
    Calls Try.prog 18 #[.pointer (some ⟨b, 0, none⟩)] w fun e w' => e = .returned (.int .i64 m) ∧ w = w' := by
  subst hm
  exact Mark_own h.own hl
theorem a_back (h : Live a w ρ D b db s) (n : Int) (k : Nat) (hk : (k : Int) = n) (hn : k ≤ s.acts.length) (hload : s.load ≤ 1073741824) :
    Calls Try.prog 15 #[.pointer (some ⟨b, 0, none⟩), .int .i64 n] w fun e w' => e = .returned (.int .i64 0) ∧ Live a w' ρ D b db (s.back k) := by
  subst hk
  refine (Back_own h.own hn hload).mono ?_
  rintro e w' ⟨rfl, hgo⟩
  exact ⟨rfl, h.goes hgo⟩
theorem a_read (h : Live a w ρ D b db s) (n : Int) (k : Nat) (hk : (k : Int) = n) (hn : k < s.N) (hload : s.load ≤ 1073741824) :
    Calls Try.prog 10 #[.pointer (some ⟨b, 0, none⟩), .int .i64 n] w fun e w' => ∃ u, e = .returned (.tuple #[u, .int .i64 0]) ∧ ∃ ρ', Goes w w' ρ D ρ' D b db (s.read k) ∧ IsBlk w' (fun q => ¬ All ρ' D q ∧ q < w'.heap.size) u (s.val k) := by
  subst hk
  refine (SRead_own h.own hn hload).mono ?_
  rintro e w' ⟨u, rfl, ρ', hgo, hu⟩
  refine ⟨u, rfl, ρ', hgo, hu.more fun q hq => ⟨fun hq2 => ?_, hq.2.1⟩⟩
  rcases hq2 with h2 | h2
  · exact hq.2.2 h2
  · have := h.own.dd.there q h2; have := hq.1; omega
theorem a_held (h : Live a w ρ D b db s) (n : Int) (k : Nat) (hk : (k : Int) = n) (hn : k ≤ 4096) (q : Bool) (hq : s.now.hld k = q) :
    Calls Try.prog 17 #[.pointer (some ⟨b, 0, none⟩), .int .i64 n] w fun e w' => e = .returned (.bool q) ∧ Below w.heap.size w w' := by
  subst hk
  refine (Held_own h.own k (EMem.fits_n hn)).mono ?_
  rintro e w' ⟨rfl, hb⟩
  have : heldV s (k : Int) = q := by simp [heldV, hq]
  rw [this]
  exact ⟨rfl, hb⟩
theorem a_home (h : Live a w ρ D b db s) (n : Int) (k : Nat) (hk : (k : Int) = n) (l : Bk) (hl : s.wai k = some l) (hload : s.load ≤ 1073741824) :
    Calls Try.prog 16 #[.pointer (some ⟨b, 0, none⟩), .int .i64 n] w fun e w' => e = .returned (.int .i64 0) ∧ ∃ ρ' D', Goes w w' ρ D ρ' D' b db (s.home k l) := by
  subst hk
  refine (Home_ok h.own hl hload).mono ?_
  rintro e w' ⟨rfl, ρ', D', hgo⟩
  exact ⟨rfl, ρ', D', hgo⟩
theorem a_home_no (h : Live a w ρ D b db s) (n : Int) (k : Nat) (hk : (k : Int) = n) (hk2 : k ≤ 4096) (hl : s.wai k = none) :
    Calls Try.prog 16 #[.pointer (some ⟨b, 0, none⟩), .int .i64 n] w fun e w' => e = .returned (.int .i64 22) ∧ w = w' := by
  subst hk
  exact Home_no h.own (EMem.fits_n hk2) (fun m hm => by have : k = m := by omega
                                                        rw [← this]; exact hl)
theorem a_new : Calls Try.prog 23 #[.int .i64 128] w fun e w' => ∃ g, e = .returned (.tuple #[.pointer (some ⟨g, 0, none⟩), .int .i64 0]) ∧ DD w' (Made w w') g d0 ∧ Below w.heap.size w w' := New_yes 128 w (by decide) (by decide)
theorem a_store {S : Nat → Prop} {d : St} (hd : DD w S db d) (hl : d.L.length = 128) : Calls Try.prog 24 #[.pointer (some ⟨db, 0, none⟩), .int .i64 1, .int .i64 2] w fun e w' => ∃ b ρ, e = .returned (.tuple #[.pointer (some ⟨b, 0, none⟩), .int .i64 0]) ∧ SS w' ρ b db (fresh d 1 2) ∧ (∀ k, Mine ρ k → w.heap.size ≤ k) ∧ Below w.heap.size w w' :=
  ENew.New_yes db 1 2 d w hd.c0 (by decide) (by decide) (by decide) (by decide) (by omega) (by omega)
theorem a_store_no {S : Nat → Prop} {d : St} (hd : DD w S db d) : Calls Try.prog 24 #[.pointer (some ⟨db, 0, none⟩), .int .i64 17, .int .i64 2] w fun e w' => e = .returned (.tuple #[.pointer none, .int .i64 22]) ∧ w = w' :=
  ENew.New_no db d.L.length 17 2 w hd.c0 hd.len.1 (.inr (.inl (by decide)))
theorem a_filled (x : Int) (y : UInt8) (hy : octet x = y) : Calls Try.prog 13 #[.int .i64 x] w fun e w' => ∃ g, e = .returned (.slice (some ⟨g, 0, none⟩) 256 256) ∧ IsBlk w' (fun q => q = g) (.slice (some ⟨g, 0, none⟩) 256 256) (full y) ∧ w.heap.size ≤ g ∧ g < w'.heap.size ∧ Below w.heap.size w w' := by
  rw [← hy]
  exact filled_at x w
end
theorem live_not {a w : World} {ρ : Ro} {D : Nat → Prop} {b db : Nat} {s : Sto} (h : Live a w ρ D b db s) {g : Nat} (hg : w.heap.size ≤ g) : ¬ Mine ρ g := fun hm => by have := h.own.ss.there g hm; omega

theorem keys_cell {w : World} {g : Nat} (h : w.heap[g]? = some (.cells #[.int .i64 1, .int .i64 2, .int .i64 1, .int .i64 3, .int .i64 1, .int .i64 2] 3 (0, 0))) {k : Nat} (hk : k < 6) : w.cell? ⟨g, k, none⟩ = some (.int .i64 ((keys.getD k 0 : Nat) : Int)) := by
  rw [row_cell h]
  have : k = 0 ∨ k = 1 ∨ k = 2 ∨ k = 3 ∨ k = 4 ∨ k = 5 := by omega
  rcases this with h | h | h | h | h | h <;> subst h <;> rfl
set_option maxHeartbeats 4000000 in
set_option maxRecDepth 100000 in
theorem awake_any (w : World) : Calls Try.prog 8 #[] w fun e w' => e = .returned (.bool true) ∧ Below w.heap.size w w' := by
  obtain ⟨l0, l1, l2, l3, l4, l5, l6⟩ := loads
  go_enter Try.func8, Try.ntmps8
  go_wp2_with fail
  refine (a_new (w := w)).mono ?_
  rintro e w1 ⟨db, rfl, hd, hb⟩
  have HD1 := Lib.hid hd
  have HB1 := Lib.hid hb
  clear hd hb
  go_wp2_with fail
  refine (a_store HD1.out (by show (St.new 128).L.length = 128; simp [St.new])).mono ?_
  rintro e w2 ⟨b, ρ0, rfl, hs, hm, hb2⟩
  have H0 : Hid (Live w w2 ρ0 (Made w w1) b db s0) := live_new HD1.out (fun q hq => hq.1) HB1.out hs hm hb2
  clear hs hm hb2
  go_wp2_with fail
  refine (a_store_no H0.out.own.dd).mono ?_
  rintro e w' ⟨rfl, rfl⟩
  go_wp2_with fail
  refine (a_filled 7 7 rfl).mono ?_
  rintro e w3 ⟨g, rfl, hv, hg1, hg2, hb⟩
  have H1 := Lib.hid (H0.out.go hb)
  have HN := Lib.hid (live_not H0.out hg1)
  have HV := Lib.hid hv
  clear hv hg1 hb
  go_wp2_with fail
  refine (a_write H1.out 5 5 rfl (by rw [s0_N]; decide) g _ HV.out HN.out hg2 (by omega)).mono ?_
  rintro e w4 ⟨rfl, ρ1, hl⟩
  have H2 : Hid (Live w w4 ρ1 (Made w w1) b db s1) := hl
  clear hl hg2
  go_wp2_with fail
  refine (a_mark H2.out 1 rfl (by decide)).mono ?_
  rintro e w' ⟨rfl, rfl⟩
  go_wp2_with fail
  refine (a_filled 8 8 rfl).mono ?_
  rintro e w5 ⟨g2, rfl, hv, hg1, hg2, hb⟩
  have H3 := Lib.hid (H2.out.go hb)
  have HN2 := Lib.hid (live_not H2.out hg1)
  have HV2 := Lib.hid hv
  clear hv hg1 hb
  go_wp2_with fail
  refine (a_write H3.out 5 5 rfl (by show 5 < s0.N; rw [s0_N]; decide) g2 _ HV2.out HN2.out hg2 (by omega)).mono ?_
  rintro e w6 ⟨rfl, ρ2, hl⟩
  have H4 : Hid (Live w w6 ρ2 (Made w w1) b db s2) := hl
  clear hl hg2
  go_wp2_with fail
  refine (a_hold H4.out 9 9 rfl (by show 9 < s0.N; rw [s0_N]; decide) (by omega)).mono ?_
  rintro e w7 ⟨rfl, ρ3, hl⟩
  have H5 : Hid (Live w w7 ρ3 (Made w w1) b db s3) := hl
  clear hl
  go_wp2_with fail
  refine (a_back H5.out 1 1 rfl (by decide) (by omega)).mono ?_
  rintro e w8 ⟨rfl, hl⟩
  have H6 : Hid (Live w w8 ρ3 (Made w w1) b db s4) := hl
  clear hl
  go_wp2_with fail
  refine (a_read H6.out 5 5 rfl (by show 5 < s0.N; rw [s0_N]; decide) (by omega)).mono ?_
  rintro e w9 ⟨u, rfl, ρ4, hgo, hu⟩
  have H7 : Hid (Live w w9 ρ4 (Made w w1) b db s5) := H6.out.goes hgo
  obtain ⟨gu, cu, ru, rfl, hgu, hul, huc, hur⟩ := hu
  have F7 : Hid (Fix (fun q => q = gu) w9 w9 ρ4 (Made w w1)) := Fix.refl fun q hq => by subst hq; exact hgu
  have U7 : Hid (IsBlk w9 (fun q => q = gu) (.slice (some ⟨gu, 0, none⟩) 256 cu) (full 7)) := ⟨gu, cu, ru, rfl, rfl, hul, huc, hur⟩
  clear hgo hgu hul huc hur
  go_wp2_with fail
  refine (a_held H7.out 9 9 rfl (by decide) false s5_hld).mono ?_
  rintro e w10 ⟨rfl, hb⟩
  have H8 := Lib.hid (H7.out.go hb)
  have F8 := Lib.hid (F7.out.below hb)
  clear hb
  go_wp2_with fail
  refine (Commit_own H8.out.own).mono ?_
  rintro e w11 ⟨v, ys, rfl, hgot, hgo⟩
  rw [s5_wrs] at hgot
  have H9 : Hid (Live w w11 ρ4 (Made w w1) b db s6) := H8.out.goes hgo
  have F9 := Lib.hid (F8.out.goes hgo)
  obtain ⟨A, cap, rfl, hcap, hall⟩ := P_at (S := fun q => w10.heap.size ≤ q ∧ q < w11.heap.size) ⟨own_base hgot.own (fun _ _ => Nat.zero_le _), fun q hq => ⟨own_ge hgot.own q hq, own_lt hgot.own q hq⟩⟩ hgot.each
  obtain ⟨gv, uv, rfl, hgv, hv1, -, -⟩ := hall 0 (by decide)
  have F10 : Hid (Fix (fun q => q = gu ∨ q = gv) w11 w11 ρ4 (Made w w1)) := F9.out.also fun q hq => by
    subst hq
    refine ⟨fun h1 => ?_, hgv.2⟩
    have := H8.out.own.there q h1; omega
  have U10 : Hid (IsBlk w11 (fun q => q = gu ∨ q = gv) (.slice (some ⟨gu, 0, none⟩) 256 cu) (full 7)) := (F9.out.blk U7.out).more fun _ h => .inl h
  have V10 : Hid (w11.cell? ⟨gv, 0, none⟩ = some (.int .i64 5)) := hv1
  clear hgo hgot hall hv1 hgv H8 F7 F8 F9 U7 H7 H6 H5 H4 H3 H2 H1 H0
  go_wp2_with fail
  refine (a_home H9.out 5 5 rfl (full 7) s6_wai (by omega)).mono ?_
  rintro e w12 ⟨rfl, ρ5, D5, hgo⟩
  have H10 : Hid (Live w w12 ρ5 D5 b db s7) := H9.out.goes hgo
  have F11 := Lib.hid (F10.out.goes hgo)
  clear hgo
  go_wp2_with fail
  refine (a_home_no H10.out 5 5 rfl (by decide) (s7_wai 5)).mono ?_
  rintro e w' ⟨rfl, rfl⟩
  go_wp2_with fail
  refine (a_store H10.out.own.dd d7_L).mono ?_
  rintro e w13 ⟨b2, ρ6, rfl, hs, hm, hb⟩
  have H11 : Hid (Live w w13 ρ6 D5 b2 db (tk 0)) := live_new H10.out.own.dd (fun q hq => H10.out.new q (.inr hq)) H10.out.below hs hm hb
  have F12 := Lib.hid (F11.out.made hm hb)
  clear hs hm hb
  go_wp2_with fail
  have hal : Below w13.heap.size w13 (w13.alloc (.cells #[.int .i64 1, .int .i64 2, .int .i64 1, .int .i64 3, .int .i64 1, .int .i64 2] 3)) := (Below.refl _ _).alloc (Nat.le_refl _) _
  have hrow := row_new w13 (.cells #[.int .i64 1, .int .i64 2, .int .i64 1, .int .i64 3, .int .i64 1, .int .i64 2] 3)
  have H12 := Lib.hid (H11.out.go hal)
  have hth := H11.out.own.there
  have F13 := Lib.hid ((F12.out.below hal).also (S2 := fun q => q = w13.heap.size) fun q hq => by
    subst hq
    refine ⟨fun h1 => ?_, by simp⟩
    have := hth _ h1; omega)
  have U13 := Lib.hid ((F12.out.below hal).blk U10.out)
  have V13 := Lib.hid (((F12.out.below hal).cell ⟨gv, 0, none⟩ (.inr rfl)).trans V10.out)
  clear hal hth F12 U10 V10 H11 F11 F10 H9 H10
  generalize w13.alloc (.cells #[.int .i64 1, .int .i64 2, .int .i64 1, .int .i64 3, .int .i64 1, .int .i64 2] 3) = W at *
  generalize w13.heap.size = gk at *
  have HK := Lib.hid hrow
  clear hrow
  go_loopw [81] (fun i wr => ∃ (k : Nat) (ρ' : Ro), k ≤ 6 ∧ i = .int .i64 k ∧ Live w wr ρ' D5 b2 db (tk k) ∧ Fix (fun q => (q = gu ∨ q = gv) ∨ q = gk) W wr ρ' D5) (fun i _ => 6 - (RowKit.intOf i).toNat)
  case atStart => exact ⟨0, ρ6, Nat.zero_le _, rfl, H12.out, F13.out⟩
  case round =>
    obtain ⟨k, ρ7, hk, rfl, hl, hf⟩ := hrel
    have HL := Lib.hid hl
    have HF := Lib.hid hf
    clear hl hf
    by_cases hlt : k < 6
    · have r : wr.cell? ⟨gk, k, none⟩ = some (.int .i64 ((keys.getD k 0 : Nat) : Int)) := (HF.out.cell ⟨gk, k, none⟩ (.inr rfl)).trans (keys_cell HK.out hlt)
      have hm : keys.getD k 0 < 128 := keys_lt
      have HT := Lib.hid (tk_succ hlt)
      have hN := tk_N k
      have hld := tk_load k
      have hd7 := d7_N
      generalize keys.getD k 0 = m at *
      have hkc : (k : Int) < 6 := by omega
      go_wp2_with fail
      refine (a_read HL.out m m rfl (by omega) (by omega)).mono ?_
      rintro e wx ⟨u, rfl, ρ8, hgo, -⟩
      have HL2 := Lib.hid (HL.out.goes hgo)
      have HF2 := Lib.hid (HF.out.goes hgo)
      clear hgo
      go_wp2_with fail
      go_roundw
      case rel => exact ⟨k + 1, ρ8, by omega, by go_num, by rw [HT.out]; exact HL2.out, HF2.out⟩
      case measure => simp [RowKit.intOf]; omega
    · obtain rfl : k = 6 := by omega
      have HU := Lib.hid (((HF.out.less (S2 := fun q => q = gu ∨ q = gv) fun q hq => .inl hq)).blk U13.out)
      have HV : Hid (wr.cell? ⟨gv, 0, none⟩ = some (.int .i64 5)) := (HF.out.cell ⟨gv, 0, none⟩ (.inl (.inr rfl))).trans V13.out
      have HF3 := Lib.hid (HF.out.less (S2 := fun q => q = gu ∨ q = gv) fun q hq => .inl hq)
      clear HF U13 V13 F13
      go_wp2_with fail
      refine (Counts_own HL.out.own).mono ?_
      rw [t_counts.1, t_counts.2]
      rintro e wx ⟨rfl, n, rfl⟩
      have HL2 := Lib.hid (HL.out.drewN n)
      have HV2 : Hid ((wr.drewN n).cell? ⟨gv, 0, none⟩ = some (.int .i64 5)) := HV.out
      have HU2 := Lib.hid (HU.out.keep (w' := wr.drewN n) (fun _ _ _ _ => rfl))
      have HF4 := Lib.hid (HF3.out.drewN n)
      clear HV HU HF3 HL
      generalize wr.drewN n = wy at *
      go_wp2_with fail
      refine (a_filled 7 7 rfl).mono ?_
      rintro e wz ⟨g7, rfl, hv, -, -, hb⟩
      have HL3 := Lib.hid (HL2.out.go hb)
      have HF5 := Lib.hid (HF4.out.below hb)
      have HU3 := Lib.hid (HU2.out.keep (w' := wz) (fun q _ hq _ => hb.block q (HF4.out.far q hq).2))
      have HV3 : Hid (wz.cell? ⟨gv, 0, none⟩ = some (.int .i64 5)) := (World.cell?_of_block (a := ⟨gv, 0, none⟩) (hb.block gv (HF4.out.far gv (.inr rfl)).2)).trans HV2.out
      have HS := Lib.hid hv
      clear hv hb HL2 HF4 HU2 HV2
      go_wp2_with fail
      refine (Same_blk (full 7) _ _ _ _ wz HU3.out HS.out).mono ?_
      rintro e wq ⟨rfl, n, rfl⟩
      have HL4 := Lib.hid (HL3.out.drewN n)
      have r5 : (wz.drewN n).cell? ⟨gv, 0, none⟩ = some (.int .i64 5) := HV3.out
      generalize wz.drewN n = wq at *
      go_wp2_with fail
      go_ret
      exact ⟨rfl, HL4.out.below⟩
end Go.Proofs.Ytphfidenjihgeaa.EAwake
