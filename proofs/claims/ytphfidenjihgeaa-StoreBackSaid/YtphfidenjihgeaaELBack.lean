/- The law StoreBack: undoing to a mark leaves all as it was at that mark. -/
import Derived.Test.YtphfidenjihgeaaERows
import Derived.Deep.RegionHeld3
namespace Go.Proofs.Ytphfidenjihgeaa.ELBack
open DPlain hiding OpV low7 low7_lt
open Go.RowKit WMem WPlain WAppend Ext Map DMem Mk DBase DRead DWrite EPlain EMem ECache EFace EUnwrite EPush EWrite EHold ERead EHome EWrites ECommit EBack EFill EAny EFix EAwM EAwake EScript EBits ELaw ESame ERows

section
variable {a w : World} {ρ : Ro} {D : Nat → Prop} {b db : Nat} {s : Sto} (h : Live a w ρ D b db s) (n : Int) (hload : s.load ≤ 1073741824)
include h hload
theorem b_write (g : Nat) (l : Bk) (hv : IsBlk w (fun q => q = g) (.slice (some ⟨g, 0, none⟩) 256 256) l) (hg : ¬ Mine ρ g) (hgl : g < w.heap.size) :
    Calls Try.prog 12 #[.pointer (some ⟨b, 0, none⟩), .int .i64 n, .slice (some ⟨g, 0, none⟩) 256 256] w fun e w' => ∃ q, e = .returned (.int .i64 q) ∧ ∃ ρ' D', Goes w w' ρ D ρ' D' b db (writeI s n l) := by
  refine (l_write h n g l hv hg hgl hload).mono ?_
  rintro e w' ⟨rfl, ρ', D', hg⟩
  exact ⟨_, rfl, ρ', D', hg⟩
theorem b_hold : Calls Try.prog 14 #[.pointer (some ⟨b, 0, none⟩), .int .i64 n] w fun e w' => ∃ q, e = .returned (.int .i64 q) ∧ ∃ ρ' D', Goes w w' ρ D ρ' D' b db (holdI s n) := by
  refine (hold_go h.own n hload).mono ?_
  rintro e w' ⟨rfl, ρ', D', hg⟩
  exact ⟨_, rfl, ρ', D', hg⟩
theorem b_home (hf : Fits n) : Calls Try.prog 16 #[.pointer (some ⟨b, 0, none⟩), .int .i64 n] w fun e w' => ∃ q, e = .returned (.int .i64 q) ∧ ∃ ρ' D', Goes w w' ρ D ρ' D' b db (homeI s n) := by
  refine (home_go h.own n hf hload).mono ?_
  rintro e w' ⟨rfl, ρ', D', hg⟩
  exact ⟨_, rfl, ρ', D', hg⟩
theorem b_read : Calls Try.prog 10 #[.pointer (some ⟨b, 0, none⟩), .int .i64 n] w fun e w' => ∃ u q, e = .returned (.tuple #[u, .int .i64 q]) ∧ ∃ ρ' D', Goes w w' ρ D ρ' D' b db (readI s n) := by
  refine (read_go h.own n hload).mono ?_
  rintro e w' ⟨u, rfl, ρ', D', hg, -⟩
  exact ⟨u, _, rfl, ρ', D', hg⟩
end
theorem b_held {a w : World} {ρ : Ro} {D : Nat → Prop} {b db : Nat} {s : Sto} (h : Live a w ρ D b db s) (n : Nat) (hn : n ≤ 4096) (q : Bool) (hq : s.now.hld n = q) :
    Calls Try.prog 17 #[.pointer (some ⟨b, 0, none⟩), .int .i64 n] w fun e w' => e = .returned (.bool q) ∧ Below w.heap.size w w' := a_held h n n rfl hn q hq
theorem read_now (s : Sto) (n : Nat) : (s.read n).now = s.now := by
  unfold Sto.read
  split
  · rfl
  · split <;> rfl
theorem read_acts (s : Sto) (n : Nat) : (s.read n).acts = s.acts := by
  unfold Sto.read
  split
  · rfl
  · split <;> rfl
theorem read_val (s : Sto) (n m : Nat) : (s.read n).val m = s.val m := by
  have h1 : (s.read n).wai = s.wai := by
    unfold Sto.read
    split
    · rfl
    · split <;> rfl
  unfold Sto.val
  rw [read_now, h1, EAwM.read_d]

set_option maxHeartbeats 8000000 in
set_option maxRecDepth 100000 in
theorem back_true (ops later : List OpV) (A A2 : Option Addr) (c c2 : Nat) (w : World) (hA : OpsIn w w.heap.size A ops) (hA2 : OpsIn w w.heap.size A2 later) (_hl : ops.length ≤ 140737488355328) (_hl2 : later.length ≤ 140737488355328) :
    Calls Try.prog 5 #[.slice A ops.length c, .slice A2 later.length c2] w fun e w' => e = .returned (.bool true) ∧ Below w.heap.size w w' := by
  have HA := Lib.hid hA
  have HA2 := Lib.hid hA2
  clear hA hA2
  go_enter Try.func5, Try.ntmps5
  go_wp2_with fail
  refine (awake_any w).mono ?_
  rintro e w0 ⟨rfl, hb0⟩
  have HB0 := Lib.hid hb0
  clear hb0
  go_wp2_with fail
  refine (a_new (w := w0)).mono ?_
  rintro e w1 ⟨db, rfl, hd, hb⟩
  have HD1 := Lib.hid hd
  have HB1 := Lib.hid hb
  clear hd hb
  go_wp2_with fail
  refine (l_store HD1.out (by show (St.new 128).L.length = 128; simp [St.new])).mono ?_
  rintro e w2 ⟨b, ρ0, rfl, hs, hm, hb2⟩
  have H0 : Hid (Live w0 w2 ρ0 (Made w0 w1) b db (fresh d0 4 8)) := live_new HD1.out (fun q hq => hq.1) HB1.out hs hm hb2
  clear hs hm hb2 HD1 HB1
  generalize Made w0 w1 = D0 at *
  go_wp2_with fail
  go_loopw [10] (fun i wr => ∃ (k : Nat) (ρ : Ro) (D : Nat → Prop) (s : Sto), k ≤ ops.length ∧ k ≤ 300 ∧ i = .int .i64 k ∧ Live w0 wr ρ D b db s ∧ s.N = 128 ∧ s.load ≤ k) (fun i _ => ops.length - (RowKit.intOf i).toNat)
  case atStart => exact ⟨0, ρ0, D0, fresh d0 4 8, Nat.zero_le _, Nat.zero_le _, rfl, H0.out, s0_N, Nat.le_refl _⟩
  case round =>
    obtain ⟨k, ρ, D, s, hk, hk3, rfl, hl, hN, hld⟩ := hrel
    have H2 := Lib.hid hl
    clear hl
    by_cases hlt : k < ops.length ∧ k < 300
    · obtain ⟨hlt1, hlt2⟩ := hlt
      have hbw : Below w.heap.size w wr := HB0.out.trans (H2.out.below.mono HB0.out.size)
      obtain ⟨a, rfl, hab, hop, hfk⟩ := op_at HA.out hbw hlt1
      clear hbw
      have hk0 : (0 : Int) ≤ (k : Int) := Int.natCast_nonneg _
      have hk1 : (k : Int) < (ops.length : Int) := by omega
      have hk2 : (k : Int) < 300 := by omega
      generalize ops[k] = o at *
      have r0 := hop.c0
      have r1 := hop.c1
      have r2 := hop.c2
      clear hop
      have hand := and7 o.what
      have h7 := low7_lt o.what
      generalize low7 o.what = lo at *
      have hal := (Below.refl wr.heap.size wr).alloc (Nat.le_refl _) (.cells #[.int .i64 o.what, .int .i64 o.block, .int .i64 o.fill] 55)
      have hcop := cop_new wr o (T := 55)
      have hth1 := H2.out.own.there
      have hgo1 : ∀ q, q = wr.heap.size → ¬ All ρ D q ∧ q < (wr.alloc (.cells #[.int .i64 o.what, .int .i64 o.block, .int .i64 o.fill] 55)).heap.size := fun q hq => by
        subst hq
        exact ⟨fun h1 => by have := hth1 _ h1; omega, by simp⟩
      have H6 := Lib.hid (H2.out.go hal)
      have HF6 := Lib.hid (Fix.refl hgo1)
      have HC := Lib.hid hcop
      have HFK := Lib.hid hfk
      clear hgo1 hth1 hal hcop hfk H2
      have hcase : lo = 0 ∨ lo = 1 ∨ lo = 2 ∨ lo = 3 ∨ lo = 4 ∨ lo = 5 ∨ lo = 6 ∨ lo = 7 := by omega
      rcases hcase with rfl | rfl | rfl | rfl | rfl | rfl | rfl | rfl
      · go_wp2_with fail
        generalize wr.alloc (.cells #[.int .i64 o.what, .int .i64 o.block, .int .i64 o.fill] 55) = W2 at *
        generalize wr.heap.size = go at *
        have H6d := Lib.hid (H6.out.drewN 1)
        have HF6d := Lib.hid (HF6.out.drewN 1)
        have r1' := HC.out.c1
        have r2' := HC.out.c2
        go_region_held3 (fun w' => w'.cell? ⟨go, 1, none⟩ = some (.int .i64 o.block) ∧ w'.cell? ⟨go, 2, none⟩ = some (.int .i64 o.fill)) (go_keep)
          ((first
            | (go_at_call 13; refine (filled_at o.fill _).mono ?_; rintro e w5 ⟨g5, rfl, hv, hg1, hg2, hb5⟩
               have HM5 := Lib.hid (live_not H6d.out hg1)
               have HV5 := Lib.hid hv
               have HX5 := Lib.hid (H6d.out.go hb5)
               have HY5 := Lib.hid (HF6d.out.below hb5)
               have t1 := (HC.out.fix HY5.out rfl).c1
               have t2 := (HC.out.fix HY5.out rfl).c2
               clear hv hb5 hg1)
            | (go_at_call 12; refine (b_write HX5.out o.block (by omega) g5 _ HV5.out HM5.out hg2).mono ?_; rintro e w6 ⟨v6, rfl, ρ6, D6, hgo6⟩
               have H7 := Lib.hid (HX5.out.goes hgo6)
               have HF7 := Lib.hid (HY5.out.goes hgo6)
               have s1 := (HC.out.fix HF7.out rfl).c1
               have s2 := (HC.out.fix HF7.out rfl).c2
               clear hgo6 hg2 HX5 HY5 HV5 HM5)))
        all_goals
          have hl1 := writeI_load s o.block (full (octet o.fill))
          have hN1 := writeI_N s o.block (full (octet o.fill))
          go_wp2_with fail
          go_roundw
          case rel => exact ⟨k + 1, _, _, writeI s o.block (full (octet o.fill)), by omega, by omega, by go_num, H7.out, by omega, by omega⟩
          case measure => simp [RowKit.intOf]; omega
      · go_wp2_with fail
        generalize wr.alloc (.cells #[.int .i64 o.what, .int .i64 o.block, .int .i64 o.fill] 55) = W2 at *
        generalize wr.heap.size = go at *
        have H6d := Lib.hid (H6.out.drewN 1)
        have HF6d := Lib.hid (HF6.out.drewN 1)
        have r1' := HC.out.c1
        have r2' := HC.out.c2
        go_region_held3 (fun w' => w'.cell? ⟨go, 1, none⟩ = some (.int .i64 o.block) ∧ w'.cell? ⟨go, 2, none⟩ = some (.int .i64 o.fill)) (go_keep)
          ((first
            | (go_at_call 13; refine (filled_at o.fill _).mono ?_; rintro e w5 ⟨g5, rfl, hv, hg1, hg2, hb5⟩
               have HM5 := Lib.hid (live_not H6d.out hg1)
               have HV5 := Lib.hid hv
               have HX5 := Lib.hid (H6d.out.go hb5)
               have HY5 := Lib.hid (HF6d.out.below hb5)
               have t1 := (HC.out.fix HY5.out rfl).c1
               have t2 := (HC.out.fix HY5.out rfl).c2
               clear hv hb5 hg1)
            | (go_at_call 12; refine (b_write HX5.out o.block (by omega) g5 _ HV5.out HM5.out hg2).mono ?_; rintro e w6 ⟨v6, rfl, ρ6, D6, hgo6⟩
               have H7 := Lib.hid (HX5.out.goes hgo6)
               have HF7 := Lib.hid (HY5.out.goes hgo6)
               have s1 := (HC.out.fix HF7.out rfl).c1
               have s2 := (HC.out.fix HF7.out rfl).c2
               clear hgo6 hg2 HX5 HY5 HV5 HM5)))
        all_goals
          have hl1 := writeI_load s o.block (full (octet o.fill))
          have hN1 := writeI_N s o.block (full (octet o.fill))
          go_wp2_with fail
          go_roundw
          case rel => exact ⟨k + 1, _, _, writeI s o.block (full (octet o.fill)), by omega, by omega, by go_num, H7.out, by omega, by omega⟩
          case measure => simp [RowKit.intOf]; omega
      · go_wp2_with fail
        generalize wr.alloc (.cells #[.int .i64 o.what, .int .i64 o.block, .int .i64 o.fill] 55) = W2 at *
        generalize wr.heap.size = go at *
        have H6d := Lib.hid (H6.out.drewN 1)
        have HF6d := Lib.hid (HF6.out.drewN 1)
        have r1' := HC.out.c1
        have r2' := HC.out.c2
        go_region_held3 (fun w' => w'.cell? ⟨go, 1, none⟩ = some (.int .i64 o.block) ∧ w'.cell? ⟨go, 2, none⟩ = some (.int .i64 o.fill)) (go_keep)
          ((first
            | (go_at_call 13; refine (filled_at o.fill _).mono ?_; rintro e w5 ⟨g5, rfl, hv, hg1, hg2, hb5⟩
               have HM5 := Lib.hid (live_not H6d.out hg1)
               have HV5 := Lib.hid hv
               have HX5 := Lib.hid (H6d.out.go hb5)
               have HY5 := Lib.hid (HF6d.out.below hb5)
               have t1 := (HC.out.fix HY5.out rfl).c1
               have t2 := (HC.out.fix HY5.out rfl).c2
               clear hv hb5 hg1)
            | (go_at_call 12; refine (b_write HX5.out o.block (by omega) g5 _ HV5.out HM5.out hg2).mono ?_; rintro e w6 ⟨v6, rfl, ρ6, D6, hgo6⟩
               have H7 := Lib.hid (HX5.out.goes hgo6)
               have HF7 := Lib.hid (HY5.out.goes hgo6)
               have s1 := (HC.out.fix HF7.out rfl).c1
               have s2 := (HC.out.fix HF7.out rfl).c2
               clear hgo6 hg2 HX5 HY5 HV5 HM5)))
        all_goals
          have hl1 := writeI_load s o.block (full (octet o.fill))
          have hN1 := writeI_N s o.block (full (octet o.fill))
          go_wp2_with fail
          go_roundw
          case rel => exact ⟨k + 1, _, _, writeI s o.block (full (octet o.fill)), by omega, by omega, by go_num, H7.out, by omega, by omega⟩
          case measure => simp [RowKit.intOf]; omega
      · go_wp2_with fail
        generalize wr.alloc (.cells #[.int .i64 o.what, .int .i64 o.block, .int .i64 o.fill] 55) = W2 at *
        generalize wr.heap.size = go at *
        have H6d := Lib.hid (H6.out.drewN 1)
        have HF6d := Lib.hid (HF6.out.drewN 1)
        have r1' := HC.out.c1
        have r2' := HC.out.c2
        go_region_held3 (fun w' => w'.cell? ⟨go, 1, none⟩ = some (.int .i64 o.block) ∧ w'.cell? ⟨go, 2, none⟩ = some (.int .i64 o.fill)) (go_keep)
          ((first
            | (go_at_call 13; refine (filled_at o.fill _).mono ?_; rintro e w5 ⟨g5, rfl, hv, hg1, hg2, hb5⟩
               have HM5 := Lib.hid (live_not H6d.out hg1)
               have HV5 := Lib.hid hv
               have HX5 := Lib.hid (H6d.out.go hb5)
               have HY5 := Lib.hid (HF6d.out.below hb5)
               have t1 := (HC.out.fix HY5.out rfl).c1
               have t2 := (HC.out.fix HY5.out rfl).c2
               clear hv hb5 hg1)
            | (go_at_call 12; refine (b_write HX5.out o.block (by omega) g5 _ HV5.out HM5.out hg2).mono ?_; rintro e w6 ⟨v6, rfl, ρ6, D6, hgo6⟩
               have H7 := Lib.hid (HX5.out.goes hgo6)
               have HF7 := Lib.hid (HY5.out.goes hgo6)
               have s1 := (HC.out.fix HF7.out rfl).c1
               have s2 := (HC.out.fix HF7.out rfl).c2
               clear hgo6 hg2 HX5 HY5 HV5 HM5)))
        all_goals
          have hl1 := writeI_load s o.block (full (octet o.fill))
          have hN1 := writeI_N s o.block (full (octet o.fill))
          go_wp2_with fail
          go_roundw
          case rel => exact ⟨k + 1, _, _, writeI s o.block (full (octet o.fill)), by omega, by omega, by go_num, H7.out, by omega, by omega⟩
          case measure => simp [RowKit.intOf]; omega
      · go_wp2_with fail
        generalize wr.alloc (.cells #[.int .i64 o.what, .int .i64 o.block, .int .i64 o.fill] 55) = W2 at *
        generalize wr.heap.size = go at *
        refine (b_hold H6.out o.block (by omega)).mono ?_
        rintro e w5 ⟨v5, rfl, ρ6, D6, g5⟩
        have H7 := Lib.hid (H6.out.goes g5)
        have hl1 := holdI_load s o.block
        have hN1 := holdI_N s o.block
        clear g5
        go_wp2_with fail
        go_roundw
        case rel => exact ⟨k + 1, _, _, holdI s o.block, by omega, by omega, by go_num, H7.out, by omega, by omega⟩
        case measure => simp [RowKit.intOf]; omega
      · go_wp2_with fail
        generalize wr.alloc (.cells #[.int .i64 o.what, .int .i64 o.block, .int .i64 o.fill] 55) = W2 at *
        generalize wr.heap.size = go at *
        refine (Commit_own H6.out.own).mono ?_
        rintro e w5 ⟨v5, ys5, rfl, -, g5⟩
        have H7 := Lib.hid (H6.out.goes g5)
        have hl1 := Sto.load_commit s
        have hN1 : s.commit.N = s.N := rfl
        clear g5
        go_wp2_with fail
        go_roundw
        case rel => exact ⟨k + 1, _, _, s.commit, by omega, by omega, by go_num, H7.out, by omega, by omega⟩
        case measure => simp [RowKit.intOf]; omega
      · go_wp2_with fail
        generalize wr.alloc (.cells #[.int .i64 o.what, .int .i64 o.block, .int .i64 o.fill] 55) = W2 at *
        generalize wr.heap.size = go at *
        refine (b_home H6.out o.block (by omega) HFK.out).mono ?_
        rintro e w5 ⟨v5, rfl, ρ6, D6, g5⟩
        have H7 := Lib.hid (H6.out.goes g5)
        have hl1 := homeI_load s o.block
        have hN1 := homeI_N s o.block
        clear g5
        go_wp2_with fail
        go_roundw
        case rel => exact ⟨k + 1, _, _, homeI s o.block, by omega, by omega, by go_num, H7.out, by omega, by omega⟩
        case measure => simp [RowKit.intOf]; omega
      · go_wp2_with fail
        generalize wr.alloc (.cells #[.int .i64 o.what, .int .i64 o.block, .int .i64 o.fill] 55) = W2 at *
        generalize wr.heap.size = go at *
        refine (b_read H6.out o.block (by omega)).mono ?_
        rintro e w5 ⟨u5, v5, rfl, ρ6, D6, g5⟩
        have H7 := Lib.hid (H6.out.goes g5)
        have hl1 := readI_load s o.block
        have hN1 := readI_N s o.block
        clear g5
        go_wp2_with fail
        go_roundw
        case rel => exact ⟨k + 1, _, _, readI s o.block, by omega, by omega, by go_num, H7.out, by omega, by omega⟩
        case measure => simp [RowKit.intOf]; omega
    · have hends : ((ops.length : Int) ≤ (k : Int)) ∨ ((k : Int) < (ops.length : Int) ∧ (300 : Int) ≤ (k : Int)) := by omega
      clear hlt
      have hload3 : s.load ≤ 300 := by omega
      clear hld hk3 hk
      rcases hends with hd1 | ⟨hd1, hd2⟩
      all_goals
        go_wp2_with fail
        refine (l_mark H2.out _ rfl (by unfold Sto.load at hload3; omega)).mono ?_
        rintro e w' ⟨rfl, rfl⟩
        go_wp2_with fail
        refine (Changed_own H2.out.own).mono ?_
        rintro e w3 ⟨Cv, rfl, hCo, hb3⟩
        have H3 := Lib.hid (H2.out.go hb3)
        have HK3 : Hid (KR w0.heap.size w3 ρ D 3 Cv (numsOf s.now.chg s.N).length ((numsOf s.now.chg s.N).map natv)) := Lib.hid ⟨own_base hCo (fun q hq => Nat.le_trans H2.out.below.size (own_ge hCo q hq)), fun q hq hA => by have := H2.out.own.there q hA; have := own_ge hCo q hq; omega⟩
        clear hCo hb3 H2
        have HE3 : Hid (KE w3 ρ D [] s.val) := Lib.hid ⟨fun i u hu => by cases hu⟩
        have HP3 := Lib.hid (KR.nil w0.heap.size w3 ρ D 34)
        have HQ3 := Lib.hid (KR.nil w0.heap.size w3 ρ D 4)
        go_wp2_with fail
        go_loopw [14, 15, 16] (fun p q i wr => ∃ (n : Nat) (vs : List Value) (ρ5 : Ro) (D5 : Nat → Prop) (t : Sto), n ≤ 128 ∧ i = .int .i64 n ∧ vs.length = n ∧ Live w0 wr ρ5 D5 b db t ∧ Later s t ∧ t.now = s.now ∧ t.N = 128 ∧ t.load ≤ 300 + n ∧
          KR w0.heap.size wr ρ5 D5 34 p n vs ∧ KE wr ρ5 D5 vs s.val ∧ KR w0.heap.size wr ρ5 D5 4 q n ((List.range n).map fun i => .bool (s.now.hld i)) ∧ KR w0.heap.size wr ρ5 D5 3 Cv (numsOf s.now.chg s.N).length ((numsOf s.now.chg s.N).map natv)) (fun _ _ i _ => 128 - (RowKit.intOf i).toNat)
        case atStart => exact ⟨0, [], ρ, D, s, Nat.zero_le _, rfl, rfl, H3.out, Later.refl s, rfl, hN, by omega, HP3.out, HE3.out, HQ3.out, HK3.out⟩
        case round =>
          obtain ⟨n, vs, ρ5, D5, t, hn, rfl, hvs, h5, hlat, hnow, hN5, hld5, hp5, he5, hq5, hk5⟩ := hrel
          have H5 := Lib.hid h5
          have HLAT := Lib.hid hlat
          have HNOW := Lib.hid hnow
          have HP5 := Lib.hid hp5
          have HE5 := Lib.hid he5
          have HQ5 := Lib.hid hq5
          have HK5 := Lib.hid hk5
          have HVS := Lib.hid hvs
          clear h5 hlat hnow hp5 he5 hq5 hk5 hvs H3 HK3 HE3 HP3 HQ3
          by_cases hn8 : n < 128
          · have hn0 : (0 : Int) ≤ (n : Int) := Int.natCast_nonneg _
            have hn1 : (n : Int) < 128 := by omega
            go_wp2_with fail
            refine (a_read H5.out n n rfl (by omega) (by omega)).mono ?_
            rintro e w6 ⟨u, rfl, ρ6, hgo, hu⟩
            have H6 := Lib.hid (H5.out.goes hgo)
            have HP6 := Lib.hid (HP5.out.goes hgo)
            have HQ6 := Lib.hid (HQ5.out.goes hgo)
            have HK6 := Lib.hid (HK5.out.goes hgo)
            rw [HLAT.out.val HNOW.out n] at hu
            have HE6 := Lib.hid ((HE5.out.goes hgo).snoc (u := u) (by rw [HVS.out]; exact hu))
            have HO6 := Lib.hid HP6.out.own
            obtain ⟨gu, cu, ru, rfl, -⟩ := id hu
            have hth := H6.out.own.there
            have hw6 := H6.out.below.size
            clear hgo hu
            go_wp2_with (at_builtin; refine wl_append rfl _ _ 59 rfl w0.heap.size 34 24 elemV _ n vs rfl (HO6.out.alloc _) (w6.heap.size + 1) (some ⟨w6.heap.size, 0, none⟩) 1 1 [.slice (some ⟨gu, 0, none⟩) 256 cu] rfl rfl (made_row _ _) (by simp [Value.oneCell']) (by omega) (by unfold maxLen; omega) (by simp; omega) ?_
                         intro v' w7 ho7 hg7 hat7
                         have HP7 := Lib.hid (HP6.out.snoc hth ho7 hat7)
                         have G7 := grew HP6.out hg7
                         have HE7 := Lib.hid (HE6.out.grew G7 (by decide))
                         have HQ7 := Lib.hid (HQ6.out.grew G7 (by decide))
                         have HK7 := Lib.hid (HK6.out.grew G7 (by decide))
                         have H7 := Lib.hid (live_grew H6.out HP6.out hg7)
                         clear ho7 hg7 hat7 G7)
            obtain ⟨q0, hq0⟩ : ∃ q0, s.now.hld n = q0 := ⟨_, rfl⟩
            have HQQ := Lib.hid hq0
            have HLT := Lib.hid (HLAT.out.readN n)
            have HNW : Hid ((t.read n).now = s.now) := Lib.hid ((read_now t n).trans HNOW.out)
            have hN6 : (t.read n).N = 128 := (EAny.read_N t n).trans hN5
            have hld6 := Sto.load_read t n
            clear hq0 hth HP6 HE6 HQ6 HK6 H6 HO6
            generalize t.read n = t6 at *
            refine (b_held H7.out n (by omega) q0 (by rw [HNW.out]; exact HQQ.out)).mono ?_
            rintro e w8 ⟨rfl, hb8⟩
            have H8 := Lib.hid (H7.out.go hb8)
            have HP8 := Lib.hid (HP7.out.below hb8)
            have HE8 := Lib.hid (HE7.out.below hb8)
            have HQ8 := Lib.hid (HQ7.out.below hb8)
            have HK8 := Lib.hid (HK7.out.below hb8)
            have HO8 := Lib.hid HQ8.out.own
            have hth := H8.out.own.there
            have hw8 := H8.out.below.size
            clear hb8 H7 HP7 HE7 HQ7 HK7
            go_wp2_with (at_builtin; refine wl_append rfl _ _ 60 rfl w0.heap.size 4 1 elemB _ n ((List.range n).map fun i => .bool (s.now.hld i)) rfl (HO8.out.alloc _) (w8.heap.size + 1) (some ⟨w8.heap.size, 0, none⟩) 1 1 [.bool q0] rfl rfl (made_row _ _) (by simp [Value.oneCell']) (by omega) (by unfold maxLen; omega) (by simp; omega) ?_
                         intro v2 w9 ho9 hg9 hat9
                         have HQ9 := Lib.hid (HQ8.out.snoc hth ho9 hat9)
                         have G9 := grew HQ8.out hg9
                         have HE9 := Lib.hid (HE8.out.grew G9 (by decide))
                         have HP9 := Lib.hid (HP8.out.grew G9 (by decide))
                         have HK9 := Lib.hid (HK8.out.grew G9 (by decide))
                         have H9 := Lib.hid (live_grew H8.out HQ8.out hg9)
                         clear ho9 hg9 hat9 G9)
            go_roundw
            case rel => exact ⟨n + 1, vs ++ [.slice (some ⟨gu, 0, none⟩) 256 cu], ρ6, D5, t6, by omega, by go_num, by rw [List.length_append, HVS.out]; rfl, H9.out, HLT.out, HNW.out, hN6, by omega, HP9.out, HE9.out, by rw [List.range_succ, List.map_append]; have e := HQ9.out; rw [← HQQ.out] at e; exact e, HK9.out⟩
            case measure => simp [RowKit.intOf]; omega
          · skip
            have hn128 : n = 128 := by omega
            have HPa : Hid (KR w0.heap.size wr ρ5 D5 34 u14 128 vs) := Lib.hid (hn128 ▸ HP5.out)
            have HQa : Hid (KR w0.heap.size wr ρ5 D5 4 u15 128 ((List.range 128).map fun i => .bool (s.now.hld i))) := Lib.hid (hn128 ▸ HQ5.out)
            have HVa : Hid (vs.length = 128) := Lib.hid (hn128 ▸ HVS.out)
            have hld8 : t.load ≤ 428 := by omega
            have hge : (128 : Int) ≤ (n : Int) := by omega
            clear HNOW hN5 hn128 HP5 HQ5 HVS hn8 hld5 hn
            go_wp2_with fail
            clear hge
            go_loopw [19] (fun i wr => ∃ (k : Nat) (ρ : Ro) (D : Nat → Prop) (t7 : Sto), k ≤ later.length ∧ k ≤ 300 ∧ i = .int .i64 k ∧ Live w0 wr ρ D b db t7 ∧ Later s t7 ∧ t7.load ≤ 428 + k ∧ KR w0.heap.size wr ρ D 34 u14 128 vs ∧ KE wr ρ D vs s.val ∧ KR w0.heap.size wr ρ D 4 u15 128 ((List.range 128).map fun i => .bool (s.now.hld i)) ∧ KR w0.heap.size wr ρ D 3 Cv (numsOf s.now.chg s.N).length ((numsOf s.now.chg s.N).map natv)) (fun i _ => later.length - (RowKit.intOf i).toNat)
            case atStart => exact ⟨0, ρ5, D5, t, Nat.zero_le _, Nat.zero_le _, rfl, H5.out, HLAT.out, by omega, HPa.out, HE5.out, HQa.out, HK5.out⟩
            case round =>
              obtain ⟨k, ρ, D, t7, hk, hk3, rfl, h7, hlat7, hld7, hp7, he7, hq7, hk7⟩ := hrel
              have H7 := Lib.hid h7
              have HLAT7 := Lib.hid hlat7
              have HP7 := Lib.hid hp7
              have HE7 := Lib.hid he7
              have HQ7 := Lib.hid hq7
              have HK7 := Lib.hid hk7
              clear h7 hlat7 hp7 he7 hq7 hk7 H5 HLAT HPa HE5 HQa HK5
              by_cases hlt : k < later.length ∧ k < 300
              · obtain ⟨hlt1, hlt2⟩ := hlt
                have hbw : Below w.heap.size w wr := HB0.out.trans (H7.out.below.mono HB0.out.size)
                obtain ⟨a, rfl, hab, hop, hfk⟩ := op_at HA2.out hbw hlt1
                clear hbw
                have hk0 : (0 : Int) ≤ (k : Int) := Int.natCast_nonneg _
                have hk1 : (k : Int) < (later.length : Int) := by omega
                have hk2 : (k : Int) < 300 := by omega
                generalize later[k] = o at *
                have r0 := hop.c0
                have r1 := hop.c1
                have r2 := hop.c2
                clear hop
                have hand := and3 o.what
                have h7 := low3_lt o.what
                generalize low3 o.what = lo at *
                have hal := (Below.refl wr.heap.size wr).alloc (Nat.le_refl _) (.cells #[.int .i64 o.what, .int .i64 o.block, .int .i64 o.fill] 55)
                have hcop := cop_new wr o (T := 55)
                have hth1 := H7.out.own.there
                have hgo1 : ∀ q, q = wr.heap.size → ¬ All ρ D q ∧ q < (wr.alloc (.cells #[.int .i64 o.what, .int .i64 o.block, .int .i64 o.fill] 55)).heap.size := fun q hq => by
                  subst hq
                  exact ⟨fun h1 => by have := hth1 _ h1; omega, by simp⟩
                have H6 := Lib.hid (H7.out.go hal)
                have HP6 := Lib.hid (HP7.out.below hal)
                have HE6 := Lib.hid (HE7.out.below hal)
                have HQ6 := Lib.hid (HQ7.out.below hal)
                have HK6 := Lib.hid (HK7.out.below hal)
                have HF6 := Lib.hid (Fix.refl hgo1)
                have HC := Lib.hid hcop
                clear hgo1 hth1 hal hcop hfk H7 HP7 HE7 HQ7 HK7
                have hcase : lo = 0 ∨ lo = 1 ∨ lo = 2 ∨ lo = 3 := by omega
                rcases hcase with rfl | rfl | rfl | rfl
                · go_wp2_with fail
                  generalize wr.alloc (.cells #[.int .i64 o.what, .int .i64 o.block, .int .i64 o.fill] 55) = W2 at *
                  generalize wr.heap.size = go at *
                  have H6d := Lib.hid (H6.out.drewN 1)
                  have HF6d := Lib.hid (HF6.out.drewN 1)
                  have HP6d := Lib.hid (HP6.out.below (below_drewN (Below.refl _ _) 1))
                  have HE6d := Lib.hid (HE6.out.below (below_drewN (Below.refl _ _) 1))
                  have HQ6d := Lib.hid (HQ6.out.below (below_drewN (Below.refl _ _) 1))
                  have HK6d := Lib.hid (HK6.out.below (below_drewN (Below.refl _ _) 1))
                  have r1' := HC.out.c1
                  have r2' := HC.out.c2
                  go_region_held3 (fun w' => w'.cell? ⟨go, 1, none⟩ = some (.int .i64 o.block) ∧ w'.cell? ⟨go, 2, none⟩ = some (.int .i64 o.fill)) (go_keep)
                    ((first
                      | (go_at_call 13; refine (filled_at o.fill _).mono ?_; rintro e w5 ⟨g5, rfl, hv, hg1, hg2, hb5⟩
                         have HM5 := Lib.hid (live_not H6d.out hg1)
                         have HV5 := Lib.hid hv
                         have HX5 := Lib.hid (H6d.out.go hb5)
                         have HY5 := Lib.hid (HF6d.out.below hb5)
                         have HPX5 := Lib.hid (HP6d.out.below hb5)
                         have HEX5 := Lib.hid (HE6d.out.below hb5)
                         have HQX5 := Lib.hid (HQ6d.out.below hb5)
                         have HKX5 := Lib.hid (HK6d.out.below hb5)
                         have t1 := (HC.out.fix HY5.out rfl).c1
                         have t2 := (HC.out.fix HY5.out rfl).c2
                         clear hv hb5 hg1)
                      | (go_at_call 12; refine (b_write HX5.out o.block (by omega) g5 _ HV5.out HM5.out hg2).mono ?_; rintro e w6 ⟨v6, rfl, ρ6, D6, hgo6⟩
                         have H8 := Lib.hid (HX5.out.goes hgo6)
                         have HF7 := Lib.hid (HY5.out.goes hgo6)
                         have HP8 := Lib.hid (HPX5.out.goes hgo6)
                         have HE8 := Lib.hid (HEX5.out.goes hgo6)
                         have HQ8 := Lib.hid (HQX5.out.goes hgo6)
                         have HK8 := Lib.hid (HKX5.out.goes hgo6)
                         have s1 := (HC.out.fix HF7.out rfl).c1
                         have s2 := (HC.out.fix HF7.out rfl).c2
                         clear hgo6 hg2 HX5 HY5 HV5 HM5)))
                  all_goals
                    have hl1 := writeI_load t7 o.block (full (octet o.fill))
                    go_wp2_with fail
                    go_roundw
                    case rel => exact ⟨k + 1, _, _, writeI t7 o.block (full (octet o.fill)), by omega, by omega, by go_num, H8.out, HLAT7.out.write o.block (full (octet o.fill)), by omega, HP8.out, HE8.out, HQ8.out, HK8.out⟩
                    case measure => simp [RowKit.intOf]; omega
                · go_wp2_with fail
                  generalize wr.alloc (.cells #[.int .i64 o.what, .int .i64 o.block, .int .i64 o.fill] 55) = W2 at *
                  generalize wr.heap.size = go at *
                  have H6d := Lib.hid (H6.out.drewN 1)
                  have HF6d := Lib.hid (HF6.out.drewN 1)
                  have HP6d := Lib.hid (HP6.out.below (below_drewN (Below.refl _ _) 1))
                  have HE6d := Lib.hid (HE6.out.below (below_drewN (Below.refl _ _) 1))
                  have HQ6d := Lib.hid (HQ6.out.below (below_drewN (Below.refl _ _) 1))
                  have HK6d := Lib.hid (HK6.out.below (below_drewN (Below.refl _ _) 1))
                  have r1' := HC.out.c1
                  have r2' := HC.out.c2
                  go_region_held3 (fun w' => w'.cell? ⟨go, 1, none⟩ = some (.int .i64 o.block) ∧ w'.cell? ⟨go, 2, none⟩ = some (.int .i64 o.fill)) (go_keep)
                    ((first
                      | (go_at_call 13; refine (filled_at o.fill _).mono ?_; rintro e w5 ⟨g5, rfl, hv, hg1, hg2, hb5⟩
                         have HM5 := Lib.hid (live_not H6d.out hg1)
                         have HV5 := Lib.hid hv
                         have HX5 := Lib.hid (H6d.out.go hb5)
                         have HY5 := Lib.hid (HF6d.out.below hb5)
                         have HPX5 := Lib.hid (HP6d.out.below hb5)
                         have HEX5 := Lib.hid (HE6d.out.below hb5)
                         have HQX5 := Lib.hid (HQ6d.out.below hb5)
                         have HKX5 := Lib.hid (HK6d.out.below hb5)
                         have t1 := (HC.out.fix HY5.out rfl).c1
                         have t2 := (HC.out.fix HY5.out rfl).c2
                         clear hv hb5 hg1)
                      | (go_at_call 12; refine (b_write HX5.out o.block (by omega) g5 _ HV5.out HM5.out hg2).mono ?_; rintro e w6 ⟨v6, rfl, ρ6, D6, hgo6⟩
                         have H8 := Lib.hid (HX5.out.goes hgo6)
                         have HF7 := Lib.hid (HY5.out.goes hgo6)
                         have HP8 := Lib.hid (HPX5.out.goes hgo6)
                         have HE8 := Lib.hid (HEX5.out.goes hgo6)
                         have HQ8 := Lib.hid (HQX5.out.goes hgo6)
                         have HK8 := Lib.hid (HKX5.out.goes hgo6)
                         have s1 := (HC.out.fix HF7.out rfl).c1
                         have s2 := (HC.out.fix HF7.out rfl).c2
                         clear hgo6 hg2 HX5 HY5 HV5 HM5)))
                  all_goals
                    have hl1 := writeI_load t7 o.block (full (octet o.fill))
                    go_wp2_with fail
                    go_roundw
                    case rel => exact ⟨k + 1, _, _, writeI t7 o.block (full (octet o.fill)), by omega, by omega, by go_num, H8.out, HLAT7.out.write o.block (full (octet o.fill)), by omega, HP8.out, HE8.out, HQ8.out, HK8.out⟩
                    case measure => simp [RowKit.intOf]; omega
                · go_wp2_with fail
                  generalize wr.alloc (.cells #[.int .i64 o.what, .int .i64 o.block, .int .i64 o.fill] 55) = W2 at *
                  generalize wr.heap.size = go at *
                  refine (b_hold H6.out o.block (by omega)).mono ?_
                  rintro e w5 ⟨v5, rfl, ρ6, D6, g5⟩
                  have H8 := Lib.hid (H6.out.goes g5)
                  have HP8 := Lib.hid (HP6.out.goes g5)
                  have HE8 := Lib.hid (HE6.out.goes g5)
                  have HQ8 := Lib.hid (HQ6.out.goes g5)
                  have HK8 := Lib.hid (HK6.out.goes g5)
                  have hl1 := holdI_load t7 o.block
                  clear g5
                  go_wp2_with fail
                  go_roundw
                  case rel => exact ⟨k + 1, _, _, holdI t7 o.block, by omega, by omega, by go_num, H8.out, HLAT7.out.hold o.block, by omega, HP8.out, HE8.out, HQ8.out, HK8.out⟩
                  case measure => simp [RowKit.intOf]; omega
                · go_wp2_with fail
                  generalize wr.alloc (.cells #[.int .i64 o.what, .int .i64 o.block, .int .i64 o.fill] 55) = W2 at *
                  generalize wr.heap.size = go at *
                  refine (b_read H6.out o.block (by omega)).mono ?_
                  rintro e w5 ⟨u5, v5, rfl, ρ6, D6, g5⟩
                  have H8 := Lib.hid (H6.out.goes g5)
                  have HP8 := Lib.hid (HP6.out.goes g5)
                  have HE8 := Lib.hid (HE6.out.goes g5)
                  have HQ8 := Lib.hid (HQ6.out.goes g5)
                  have HK8 := Lib.hid (HK6.out.goes g5)
                  have hl1 := readI_load t7 o.block
                  clear g5
                  go_wp2_with fail
                  go_roundw
                  case rel => exact ⟨k + 1, _, _, readI t7 o.block, by omega, by omega, by go_num, H8.out, HLAT7.out.read o.block, by omega, HP8.out, HE8.out, HQ8.out, HK8.out⟩
                  case measure => simp [RowKit.intOf]; omega
              · have hends2 : ((later.length : Int) ≤ (k : Int)) ∨ ((k : Int) < (later.length : Int) ∧ (300 : Int) ≤ (k : Int)) := by omega
                clear hlt
                have hN7 : t7.N = 128 := HLAT7.out.N.trans hN
                have hle := HLAT7.out.le
                obtain ⟨L1, L2, L3⟩ := HLAT7.out.back
                have HL1 := Lib.hid L1
                have HL2 := Lib.hid L2
                have HL3 := Lib.hid L3
                have hl7 := Sto.load_back t7 s.acts.length
                clear L1 L2 L3 HLAT7
                rcases hends2 with he1 | ⟨he1, he2⟩
                all_goals
                  go_wp2_with fail
                  refine (Back_own H7.out.own (show s.acts.length ≤ t7.acts.length from hle) (by omega)).mono ?_
                  rintro e w8 ⟨rfl, hgo8⟩
                  have H8 := Lib.hid (H7.out.goes hgo8)
                  have HP8 := Lib.hid (HP7.out.goes hgo8)
                  have HE8 := Lib.hid (HE7.out.goes hgo8)
                  have HQ8 := Lib.hid (HQ7.out.goes hgo8)
                  have HK8 := Lib.hid (HK7.out.goes hgo8)
                  have hld8 : (t7.back s.acts.length).load ≤ 728 := by omega
                  clear hgo8 H7 HP7 HE7 HQ7 HK7 hl7 hle hN7 hld7
                  generalize t7.back s.acts.length = t8 at *
                  go_wp2_with fail
                  go_loopw [22] (fun i wr => ∃ (n : Nat) (ρ9 : Ro) (t9 : Sto), n ≤ 128 ∧ i = .int .i64 n ∧ Live w0 wr ρ9 D b db t9 ∧ Later s t9 ∧ t9.now = s.now ∧ t9.acts = s.acts ∧ t9.load ≤ 728 + n ∧ KR w0.heap.size wr ρ9 D 34 u14 128 vs ∧ KE wr ρ9 D vs s.val ∧ KR w0.heap.size wr ρ9 D 4 u15 128 ((List.range 128).map fun i => .bool (s.now.hld i)) ∧ KR w0.heap.size wr ρ9 D 3 Cv (numsOf s.now.chg s.N).length ((numsOf s.now.chg s.N).map natv)) (fun i _ => 128 - (RowKit.intOf i).toNat)
                  case atStart => exact ⟨0, ρ, t8, Nat.zero_le _, rfl, H8.out, HL1.out, HL2.out, HL3.out, by omega, HP8.out, HE8.out, HQ8.out, HK8.out⟩
                  case round =>
                    obtain ⟨n9, ρ9, t9, hn9, rfl, h9, hlat9, hnow9, hact9, hld9, hp9, he9, hq9, hk9⟩ := hrel
                    have H9 := Lib.hid h9
                    have HLAT9 := Lib.hid hlat9
                    have HNOW9 := Lib.hid hnow9
                    have HACT9 := Lib.hid hact9
                    have HP9 := Lib.hid hp9
                    have HE9 := Lib.hid he9
                    have HQ9 := Lib.hid hq9
                    have HK9 := Lib.hid hk9
                    have hN9 : t9.N = 128 := hlat9.N.trans hN
                    clear h9 hlat9 hnow9 hact9 hp9 he9 hq9 hk9 H8 HP8 HE8 HQ8 HK8 HL1 HL2 HL3
                    by_cases hn8 : n9 < 128
                    · have hn0 : (0 : Int) ≤ (n9 : Int) := Int.natCast_nonneg _
                      have hn1 : (n9 : Int) < 128 := by omega
                      go_wp2_with fail
                      refine (a_read H9.out n9 n9 rfl (by omega) (by omega)).mono ?_
                      rintro e w10 ⟨u, rfl, ρ10, hgo, hu⟩
                      rw [HLAT9.out.val HNOW9.out n9] at hu
                      have H10 := Lib.hid (H9.out.goes hgo)
                      have HP10 := Lib.hid (HP9.out.goes hgo)
                      have HE10 := Lib.hid (HE9.out.goes hgo)
                      have HQ10 := Lib.hid (HQ9.out.goes hgo)
                      have HK10 := Lib.hid (HK9.out.goes hgo)
                      have HU := Lib.hid hu
                      have HLT := Lib.hid (HLAT9.out.readN n9)
                      have HNW : Hid ((t9.read n9).now = s.now) := Lib.hid ((read_now t9 n9).trans HNOW9.out)
                      have HAC : Hid ((t9.read n9).acts = s.acts) := Lib.hid ((read_acts t9 n9).trans HACT9.out)
                      have hld10 := Sto.load_read t9 n9
                      clear hgo hu
                      generalize t9.read n9 = t10 at *
                      obtain ⟨A1, cap1, e14, hc1, hall1⟩ := own_cell1 (S := fun _ => True) ⟨own_base HP10.out.own (fun _ _ => Nat.zero_le _), fun _ _ => trivial⟩
                      obtain ⟨A3, cap3, e15, hc3, hall3⟩ := own_cell1 (S := fun _ => True) ⟨own_base HQ10.out.own (fun _ _ => Nat.zero_le _), fun _ _ => trivial⟩
                      have hx : vs[n9]? = some (vs[n9]'(by rw [HVa.out]; exact hn8)) := List.getElem?_eq_getElem _
                      obtain ⟨x, hx2⟩ : ∃ x, x = vs[n9]'(by rw [HVa.out]; exact hn8) := ⟨_, rfl⟩
                      rw [← hx2] at hx
                      obtain ⟨g1, rfl, -, d1⟩ := hall1 n9 x hx
                      obtain ⟨q0, hq0⟩ : ∃ q0, s.now.hld n9 = q0 := ⟨_, rfl⟩
                      obtain ⟨g3, rfl, -, d3⟩ := hall3 n9 (.bool q0) (by rw [List.getElem?_map, List.getElem?_range hn8, ← hq0]; rfl)
                      have lg1 : g1 < w10.heap.size := own_lt HP10.out.own g1 (by rw [e14]; rfl)
                      have lg3 : g3 < w10.heap.size := own_lt HQ10.out.own g3 (by rw [e15]; rfl)
                      have HX := Lib.hid (HE10.out.each n9 x hx)
                      have HQQ := Lib.hid hq0
                      clear hall1 hall3 hx hx2 hq0
                      subst e14 e15
                      go_wp2_with fail
                      go_region_held3 (fun w' => w'.cell? ⟨g1, n9, none⟩ = some x ∧ w'.cell? ⟨g3, n9, none⟩ = some (.bool q0)) (go_keep)
                        ((first
                          | (go_at_call 25; refine (Same_blk (s.val n9) _ _ _ _ _ (HU.out.keep (w' := w10.drew) (fun _ _ _ _ => rfl)) (HX.out.keep (w' := w10.drew) (fun _ _ _ _ => rfl))).mono ?_; rintro e w11 ⟨rfl, nd, rfl⟩
                             have H11 := Lib.hid (H10.out.drewN (1 + nd))
                             have t1 : (w10.drewN (1 + nd)).cell? ⟨g1, n9, none⟩ = some x := d1
                             have t3 : (w10.drewN (1 + nd)).cell? ⟨g3, n9, none⟩ = some (.bool q0) := d3)
                          | (go_at_call 17; refine (b_held H11.out n9 (by omega) q0 (by rw [HNW.out]; exact HQQ.out)).mono ?_; rintro e w12 ⟨rfl, hb12⟩
                             have H12 := Lib.hid (H11.out.go hb12)
                             have HP12 := Lib.hid ((HP10.out.below (below_drewN (Below.refl _ _) (1 + nd))).below hb12)
                             have HE12 := Lib.hid ((HE10.out.below (below_drewN (Below.refl _ _) (1 + nd))).below hb12)
                             have HQ12 := Lib.hid ((HQ10.out.below (below_drewN (Below.refl _ _) (1 + nd))).below hb12)
                             have HK12 := Lib.hid ((HK10.out.below (below_drewN (Below.refl _ _) (1 + nd))).below hb12)
                             have f1 : w12.cell? ⟨g1, n9, none⟩ = some x := (World.cell?_of_block (a := ⟨g1, n9, none⟩) (hb12.block g1 lg1)).trans t1
                             have f3 : w12.cell? ⟨g3, n9, none⟩ = some (.bool q0) := (World.cell?_of_block (a := ⟨g3, n9, none⟩) (hb12.block g3 lg3)).trans t3
                             clear hb12)))
                      all_goals
                        go_wp2_with fail
                        go_roundw
                        case rel => exact ⟨n9 + 1, ρ10, t10, by omega, by go_num, H12.out, HLT.out, HNW.out, HAC.out, by omega, HP12.out, HE12.out, HQ12.out, HK12.out⟩
                        case measure => simp [RowKit.intOf]; omega
                    · have hge : (128 : Int) ≤ (n9 : Int) := by omega
                      have hlen : (numsOf s.now.chg s.N).length ≤ 1073741824 := by have := nums_len s.now.chg s.N; omega
                      have hac : s.acts.length ≤ 1073741824 := by have h1 := HACT9.out; rw [← h1]; unfold Sto.load at hld9; omega
                      clear hn8
                      go_wp2_with fail
                      clear hge
                      refine (l_mark H9.out s.acts.length (by rw [HACT9.out]) (by rw [HACT9.out]; exact hac)).mono ?_
                      rintro e w' ⟨rfl, rfl⟩
                      go_wp2_with fail
                      refine (Changed_own H9.out.own).mono ?_
                      rintro e w10 ⟨v, rfl, hCo, hb⟩
                      rw [HNOW9.out, HLAT9.out.N] at hCo
                      have H10 := Lib.hid (H9.out.go hb)
                      have HK10 := Lib.hid (HK9.out.below hb)
                      obtain ⟨A1, cap1, rfl, -, -⟩ := own_cell1 (S := fun _ => True) ⟨own_base hCo (fun _ _ => Nat.zero_le _), fun _ _ => trivial⟩
                      obtain ⟨A3, cap3, e3, -, -⟩ := own_cell1 (S := fun _ => True) ⟨own_base HK10.out.own (fun _ _ => Nat.zero_le _), fun _ _ => trivial⟩
                      subst e3
                      have HS1 := Lib.hid (own_sl hCo)
                      have HS3 := Lib.hid (own_sl HK10.out.own)
                      clear hCo hb
                      generalize numsOf s.now.chg s.N = nl at *
                      go_wp2_with fail
                      refine (sameInts_yes nl _ _ A1 A3 cap1 cap3 w10 hlen HS1.out HS3.out).mono ?_
                      rintro e w11 ⟨rfl, nd, rfl⟩
                      have H11 := Lib.hid (H10.out.drewN nd)
                      go_wp2_with fail
                      go_ret
                      exact ⟨rfl, HB0.out.trans (H11.out.below.mono HB0.out.size)⟩
end Go.Proofs.Ytphfidenjihgeaa.ELBack
