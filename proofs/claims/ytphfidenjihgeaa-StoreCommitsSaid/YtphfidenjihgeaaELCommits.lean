/- The law StoreCommits: a commit answers just the blocks that were changed since the last one. -/
import Derived.Test.YtphfidenjihgeaaESame
import Derived.Deep.RegionHeld3
namespace Go.Proofs.Ytphfidenjihgeaa.ELCommits
open DPlain hiding OpV low7 low7_lt
open Go.RowKit WMem WPlain WAppend Ext Map DMem Mk DBase DRead DWrite EPlain EMem ECache EFace EUnwrite EPush EWrite EHold ERead EHome EWrites ECommit EBack EFill EAny EFix EAwM EAwake EScript EBits ELaw ESame

set_option maxHeartbeats 4000000 in
set_option maxRecDepth 100000 in
theorem commits_true (ops : List OpV) (A : Option Addr) (c : Nat) (w : World) (hA : OpsIn w w.heap.size A ops) (_hl : ops.length ≤ 140737488355328) :
    Calls Try.prog 7 #[.slice A ops.length c] w fun e w' => e = .returned (.bool true) ∧ Below w.heap.size w w' := by
  have HA := Lib.hid hA
  have hmk := make_lst
  clear hA
  go_enter Try.func7, Try.ntmps7
  go_wp2_with fail
  refine (awake_any w).mono ?_
  rintro e w0 ⟨rfl, hb0⟩
  have HB0 := Lib.hid hb0
  clear hb0
  go_wp2_with fail
  refine (a_new (w := w0)).mono ?_
  rintro e w1 ⟨db, rfl, hd, hb⟩
  have HD1 := Lib.hid hd
  have HB1 := Lib.hid hb
  clear hd hb
  go_wp2_with fail
  refine (l_store HD1.out (by show (St.new 128).L.length = 128; simp [St.new])).mono ?_
  rintro e w2 ⟨b, ρ0, rfl, hs, hm, hb2⟩
  have H0 : Hid (Live w0 w2 ρ0 (Made w0 w1) b db (fresh d0 4 8)) := live_new HD1.out (fun q hq => hq.1) HB1.out hs hm hb2
  clear hs hm hb2
  go_wp2_with fail
  have hal : Below w2.heap.size w2 (w2.alloc (.cells nrow 34)) := (Below.refl _ _).alloc (Nat.le_refl _) _
  have H1 := Lib.hid (H0.out.go hal)
  have HL1 : Hid (Lst (w2.alloc (.cells nrow 34)) ρ0 (Made w0 w1) w2.heap.size (fresh d0 4 8).now.chg) := lst_new H0.out.own.there
  have HG0 : w0.heap.size ≤ w2.heap.size := H0.out.below.size
  clear H0 hal hmk HD1 HB1
  generalize w2.alloc (.cells nrow 34) = W at *
  generalize w2.heap.size = gl at *
  generalize Made w0 w1 = D0 at *
  go_loopw [9] (fun i wr => ∃ (k : Nat) (ρ : Ro) (D : Nat → Prop) (s : Sto), k ≤ ops.length ∧ k ≤ 300 ∧ i = .int .i64 k ∧ Live w0 wr ρ D b db s ∧ Lst wr ρ D gl s.now.chg ∧ s.N = 128 ∧ s.load ≤ k) (fun i _ => ops.length - (RowKit.intOf i).toNat)
  case atStart => exact ⟨0, ρ0, D0, fresh d0 4 8, Nat.zero_le _, Nat.zero_le _, rfl, H1.out, HL1.out, s0_N, Nat.le_refl _⟩
  case round =>
    obtain ⟨k, ρ, D, s, hk, hk3, rfl, hl, hL, hN, hld⟩ := hrel
    have H2 := Lib.hid hl
    have HL2 := Lib.hid hL
    have HLT := hL.lt
    clear hl hL
    by_cases hlt : k < ops.length ∧ k < 300
    · obtain ⟨hlt1, hlt2⟩ := hlt
      have hbw : Below w.heap.size w wr := HB0.out.trans (H2.out.below.mono HB0.out.size)
      obtain ⟨a, rfl, hab, hop, hfk⟩ := op_at HA.out hbw hlt1
      clear hbw
      have hk0 : (0 : Int) ≤ (k : Int) := Int.natCast_nonneg _
      have hk1 : (k : Int) < (ops.length : Int) := by omega
      have hk2 : (k : Int) < 300 := by omega
      generalize ops[k] = o at *
      have r0 := hop.c0
      have r1 := hop.c1
      have r2 := hop.c2
      clear hop
      go_wp2_with fail
      have hal := (Below.refl wr.heap.size wr).alloc (Nat.le_refl _) (.cells #[.int .i64 o.what, .int .i64 o.block, .int .i64 o.fill] 55)
      have hcop := cop_new wr o (T := 55)
      have hth := H2.out.own.there
      have hgo : ∀ q, q = wr.heap.size → ¬ All ρ D q ∧ q < (wr.alloc (.cells #[.int .i64 o.what, .int .i64 o.block, .int .i64 o.fill] 55)).heap.size := fun q hq => by
        subst hq
        exact ⟨fun h1 => by have := hth _ h1; omega, by simp⟩
      have H3 := Lib.hid ((H2.out.go hal).drewN 1)
      have HL3 := Lib.hid ((HL2.out.below hal).below (below_drewN (Below.refl _ _) 1))
      have HF3 := Lib.hid ((Fix.refl hgo).drewN 1)
      clear r0 r1 r2 hgo hth hal H2 HL2
      generalize wr.alloc (.cells #[.int .i64 o.what, .int .i64 o.block, .int .i64 o.fill] 55) = W2 at *
      have hgg : wr.heap.size ≠ gl := by have := HLT; omega
      generalize wr.heap.size = go at *
      have HC := Lib.hid hcop
      have r1 := hcop.c1
      have r2 := hcop.c2
      clear hcop
      cases hq : inN s o.block
      case' false =>
        have HQ := Lib.hid hq
        clear hq
        go_region_held3 (fun w' => w'.cell? ⟨go, 1, none⟩ = some (.int .i64 o.block) ∧ w'.cell? ⟨go, 2, none⟩ = some (.int .i64 o.fill)) (go_keep)
          ((first
            | (go_at_call 13; refine (filled_at o.fill _).mono ?_; rintro e w5 ⟨g, rfl, hv, hg1, hg2, hb5⟩
               have H4 := Lib.hid (H3.out.go hb5)
               have HL4 := Lib.hid (HL3.out.below hb5)
               have HF4 := Lib.hid (HF3.out.below hb5)
               have t1 := (HC.out.fix HF4.out rfl).c1
               have t2 := (HC.out.fix HF4.out rfl).c2
               clear hv hb5)
            | (go_at_call 12; refine (l_write_no H4.out o.block HQ.out _).mono ?_; rintro e w6 ⟨rfl, rfl⟩)))
        all_goals
          have T : ∃ ρ' D' s', Live w0 w5 ρ' D' b db s' ∧ Lst w5 ρ' D' gl s'.now.chg ∧ s'.N = 128 ∧ s'.load ≤ k + 1 ∧ w5.cell? ⟨go, 0, none⟩ = some (.int .i64 o.what) := ⟨_, _, _, H4.out, HL4.out, hN, by omega, (HC.out.fix HF4.out rfl).c0⟩
          clear HQ H3 HL3 HF3 H4 HL4 HF4 HC hg1 hg2 t1 t2 r1 r2
          generalize w5 = X at *
      case' true =>
        obtain ⟨hn0, hn1⟩ := inN_yes hq
        obtain ⟨n, hn⟩ := Int.eq_ofNat_of_zero_le hn0
        rw [hn] at hq hn0 hn1 r1
        have hn2 : (n : Int) < 128 := by omega
        have hn3 : n < 128 := by omega
        have HQ := Lib.hid hq
        have HN := Lib.hid hn
        clear hq hn hn1
        go_region_held3 (fun w' => w'.cell? ⟨go, 1, none⟩ = some (.int .i64 (n : Int)) ∧ w'.cell? ⟨go, 2, none⟩ = some (.int .i64 o.fill)) (go_keep)
          ((first
            | (go_at_call 13; refine (filled_at o.fill _).mono ?_; rintro e w5 ⟨g, rfl, hv, hg1, hg2, hb5⟩
               have H4 := Lib.hid (H3.out.go hb5)
               have HL4 := Lib.hid (HL3.out.below hb5)
               have HF4 := Lib.hid (HF3.out.below hb5)
               have HM := Lib.hid (live_not H3.out hg1)
               have HV := Lib.hid hv
               have t1 := (HC.out.fix HF4.out rfl).c1
               have t2 := (HC.out.fix HF4.out rfl).c2
               rw [HN.out] at t1
               clear hv hb5 hg1)
            | (go_at_call 12; refine (l_write_yes H4.out n HQ.out g _ HV.out HM.out hg2 (by omega)).mono ?_; rintro e w6 ⟨rfl, ρ6, D6, hgo6⟩
               rw [Int.toNat_natCast] at hgo6
               have H5 := Lib.hid (H4.out.goes hgo6)
               have HL5 := Lib.hid (HL4.out.goes hgo6)
               have HF5 := Lib.hid (HF4.out.goes hgo6)
               have s1 := (HC.out.fix HF5.out rfl).c1
               have s2 := (HC.out.fix HF5.out rfl).c2
               rw [HN.out] at s1
               clear hgo6 H4 HL4 HF4 HV HM hg2)))
        all_goals
          clear H3 HL3 HF3
          go_wp2_with fail
          have H6 := Lib.hid (H5.out.drewN 1)
          have HL6 := Lib.hid (HL5.out.below (below_drewN (Below.refl _ _) 1))
          have HF6 := Lib.hid (HF5.out.drewN 1)
          clear H5 HL5 HF5
          go_region_held3 (fun w' => w'.cell? ⟨go, 1, none⟩ = some (.int .i64 (n : Int)) ∧ w'.cell? ⟨go, 2, none⟩ = some (.int .i64 o.fill)) (first | go_keep | exact ⟨(World.cell?_of_block (a := ⟨go, 1, none⟩) (Below.heap_setCell _ _ _ _ hgg)).trans (by assumption), (World.cell?_of_block (a := ⟨go, 2, none⟩) (Below.heap_setCell _ _ _ _ hgg)).trans (by assumption)⟩)
            ((first
              | (go_at_call 13; refine (filled_at o.fill _).mono ?_; rintro e w7 ⟨g7, rfl, hv, hg1, hg2, hb7⟩
                 have H7 := Lib.hid (H6.out.go hb7)
                 have HL7 := Lib.hid (HL6.out.below hb7)
                 have HF7 := Lib.hid (HF6.out.below hb7)
                 have HM := Lib.hid hg1
                 have HV := Lib.hid hv
                 have q1 := (HC.out.fix HF7.out rfl).c1
                 have q2 := (HC.out.fix HF7.out rfl).c2
                 rw [HN.out] at q1
                 obtain ⟨old, hold, -⟩ := HL7.out.at hn3
                 have hfre := HL7.out.free n
                 clear hv hb7 hg1)))
          all_goals
            have HT : Hid (∃ ρ' D' s', Live w0 (w7.setCell ⟨gl, n, none⟩ (.slice (some ⟨g7, 0, none⟩) 256 256)) ρ' D' b db s' ∧ Lst (w7.setCell ⟨gl, n, none⟩ (.slice (some ⟨g7, 0, none⟩) 256 256)) ρ' D' gl s'.now.chg ∧ s'.N = 128 ∧ s'.load ≤ k + 1 ∧ (w7.setCell ⟨gl, n, none⟩ (.slice (some ⟨g7, 0, none⟩) 256 256)).cell? ⟨go, 0, none⟩ = some (.int .i64 o.what)) := by
              have hg7 : w6.heap.size ≤ g7 := HM.out
              refine ⟨ρ6, D6, s.write n (full (octet o.fill)), H7.out.ext ((Ext.refl (fun q => q = gl) w7).setCell (.inl rfl) _) (fun q h1 h2 => by subst h1; exact HL7.out.far h2) (fun q hq => by subst hq; exact HG0), ?_, hN, ?_, (World.cell?_of_block (a := ⟨go, 0, none⟩) (Below.heap_setCell _ _ _ _ hgg)).trans (HC.out.fix HF7.out rfl).c0⟩
              · refine HL7.out.set hn3 (fun m hm => if_neg hm) (fun e => ?_) (fun l hl => ?_)
                · simp [Sto.write] at e
                · simp only [Sto.write, if_true] at hl
                  injection hl with hl
                  subst hl
                  refine HV.out.more fun q hq => ?_
                  subst hq
                  have h1 : There (All ρ6 D6) w6 := H6.out.own.there
                  have h2 : gl < w6.heap.size := HL6.out.lt
                  exact ⟨⟨fun h3 => by have := h1 _ h3; omega, hg2⟩, by omega⟩
              · have := Sto.load_write s n (full (octet o.fill)); omega
            clear HQ HN H6 HL6 HF6 H7 HL7 HF7 HC HM HV hold hfre r1 r2 s1 s2 q1 q2 hg2
            generalize w7.setCell ⟨gl, n, none⟩ (.slice (some ⟨g7, 0, none⟩) 256 256) = X at *
            have T := HT.out
            clear HT
      all_goals
        obtain ⟨ρ9, D9, s9, h9, hL9, hN9, hld9, q0⟩ := T
        have H9 := Lib.hid h9
        have HL9 := Lib.hid hL9
        clear h9 hL9
        have hand := and7 o.what
        have h7 := low7_lt o.what
        generalize low7 o.what = lo at *
        generalize o.what = wh at *
        by_cases h71 : lo = 1
        · subst h71
          go_wp2_with fail
          refine (Commit_own H9.out.own).mono ?_
          rintro e wc ⟨v, ys, rfl, hgot, hgo9⟩
          rw [hN9] at hgot
          obtain ⟨A1, c1, rfl⟩ := got_len hgot
          have HLc := Lib.hid (HL9.out.goes hgo9)
          have Hc : Hid (Live w0 wc ρ9 D9 b db s9.commit) := H9.out.goes hgo9
          have HLX := Lib.hid (show gl < X.heap.size from HL9.out.lt)
          have HGX := Lib.hid HG0
          have HS9 := Lib.hid (show s9.commit.now.chg = fun _ => none from rfl)
          have HA9 := Lib.hid (show s9.commit.acts.length = 0 from rfl)
          have HN10 := Lib.hid (show s9.commit.N = 128 from hN9)
          have HD10 := Lib.hid (show s9.commit.load ≤ k + 1 by have := Sto.load_commit s9; omega)
          rw [wrs_cnt] at *
          generalize s9.commit = s10 at *
          generalize s9.now.chg = f at *
          have HG := Lib.hid hgot
          clear hgot hgo9 H9 HL9 q0 hN9 hld9 hand h7
          have hm := cnt_le f 128
          generalize hcm : cnt f 128 = m at *
          go_wp2_with fail
          go_loopw [12, 13] (fun i j wr => ∃ n : Nat, n ≤ 128 ∧ i = .int .i64 (cnt f n : Nat) ∧ j = .int .i64 n ∧ Live w0 wr ρ9 D9 b db s10 ∧ Lst wr ρ9 D9 gl (fun q => if q < n then none else f q) ∧ Got X wr (wrs f 128) (.slice A1 m c1) ys) (fun _ j _ => 128 - (RowKit.intOf j).toNat)
          case atStart => exact ⟨0, Nat.zero_le _, rfl, rfl, Hc.out, HLc.out.congr (fun q _ => if_neg (Nat.not_lt_zero q)), HG.out⟩
          case round =>
            obtain ⟨n, hn, rfl, rfl, hl, hL, hg⟩ := hrel
            have H11 := Lib.hid hl
            have HL11 := Lib.hid hL
            have HG11 := Lib.hid hg
            clear hl hL hg Hc HLc HG
            by_cases hnl : n < 128
            · obtain ⟨v, hv, hv0, hv1⟩ := HL11.out.at hnl
              have hn0 : (0 : Int) ≤ (n : Int) := Int.natCast_nonneg _
              have hn2 : (n : Int) < 128 := by omega
              cases hfn : f n with
              | none =>
                have := hv0 (by simp [hfn])
                subst this
                have HC2 := Lib.hid (cnt_no hfn)
                clear hv0 hv1
                go_wp2_with fail
                go_roundw
                case rel => exact ⟨n + 1, by omega, by rw [HC2.out], by go_num, H11.out, HL11.out.congr (fun q hq => by
                  by_cases e : q = n
                  · subst e; simp [hfn]
                  · have : (q < n + 1) = (q < n) := by simp; omega
                    simp only [this]), HG11.out⟩
                case measure => simp [RowKit.intOf]; omega
              | some l =>
                obtain ⟨gb, cb, rb, rfl, hsb, hlb, hcb, hrb⟩ := hv1 l (by simp [hfn])
                have HV := Lib.hid (show IsBlk wr (fun q => (¬ All ρ9 D9 q ∧ q < wr.heap.size) ∧ q ≠ gl) (.slice (some ⟨gb, 0, none⟩) 256 cb) l from ⟨gb, cb, rb, rfl, hsb, hlb, hcb, hrb⟩)
                obtain ⟨gw, uw, rfl, hgw1, hgw2, hw0, hw1, hwb⟩ := got_at HG11.out (wrs_get hfn hnl)
                have HW := Lib.hid hwb
                have HC2 := Lib.hid (cnt_yes hfn)
                have hcl := cnt_lt hfn hnl
                rw [hcm] at hcl
                have HFN := Lib.hid hfn
                have hfre := HL11.out.free n
                clear hv0 hv1 hsb hlb hcb hrb hwb hfn
                generalize cnt f n = ct at *
                have hct0 : (0 : Int) ≤ (ct : Int) := Int.natCast_nonneg _
                have hct1 : (ct : Int) < (m : Int) := by omega
                have HSB := fun m : Nat => Lib.hid (Same_blk l _ _ _ _ (wr.drewN m) (HW.out.keep (w' := wr.drewN m) (fun _ _ _ _ => rfl)) (HV.out.keep (w' := wr.drewN m) (fun _ _ _ _ => rfl)))
                have hge : decide ((m : Int) ≤ (ct : Int)) = false := by simp; omega
                have hne : ((n : Int) != (n : Int)) = false := by simp
                go_wp2_with fail
                go_quiet ((go_at_call 25; exact quiet_one (HSB _).out))
                go_wp2_with fail
                go_roundw
                case rel =>
                  have hsz : ((wr.drewN nq).setCell ⟨gl, n, none⟩ (.slice none 0 0)).heap.size = wr.heap.size := by simp [World.setCell]
                  have hgX := HLX.out
                  refine ⟨n + 1, by omega, by rw [HC2.out]; go_num, by go_num, (H11.out.drewN nq).ext ((Ext.refl (fun q => q = gl) _).setCell (.inl rfl) _) (fun q h1 h2 => by subst h1; exact HL11.out.far h2) (fun q hq => by subst hq; exact HGX.out),
                    (HL11.out.below (below_drewN (Below.refl _ _) nq)).set hnl (fun q hq => ?_) (fun _ => rfl) (fun l' hl' => ?_), HG11.out.keep (fun q h1 h2 => Below.heap_setCell _ _ _ _ (fun e => ?_)) (by rw [hsz]; exact Nat.le_refl _)⟩
                  · have : (q < n + 1) = (q < n) := by simp; omega
                    simp only [this]
                  · rw [if_pos (Nat.lt_succ_self n)] at hl'; cases hl'
                  · have e2 : q = gl := e
                    omega
                case measure => simp [RowKit.intOf]; omega
            · obtain rfl : n = 128 := by omega
              have HL12 : Hid (Lst wr ρ9 D9 gl s10.now.chg) := HL11.out.congr (fun q hq => by rw [HS9.out]; exact (if_pos hq).symm)
              have hne : ((m : Int) != (m : Int)) = false := by simp
              rw [hcm]
              clear HL11 HG11 hnl
              go_wp2_with fail
              refine (l_changed H11.out HS9.out).mono ?_
              rintro e w7 ⟨A7, c7, rfl, hb7⟩
              have H13 := Lib.hid (H11.out.go hb7)
              have HL14 := Lib.hid (HL12.out.below hb7)
              clear hb7
              go_wp2_with fail
              refine (l_mark H13.out 0 (by rw [HA9.out]; rfl) (by rw [HA9.out]; decide)).mono ?_
              rintro e w8 ⟨rfl, rfl⟩
              go_wp2_with fail
              go_roundw
              case rel => exact ⟨k + 1, ρ9, D9, s10, by omega, by omega, by go_num, H13.out, HL14.out, HN10.out, HD10.out⟩
              case measure => simp [RowKit.intOf]; omega
        · have h72 : ((lo : Int) = 1) = False := by simp; omega
          go_wp2_with fail
          go_roundw
          case rel => exact ⟨k + 1, ρ9, D9, s9, by omega, by omega, by go_num, H9.out, HL9.out, hN9, hld9⟩
          case measure => simp [RowKit.intOf]; omega
    · have hends : ((ops.length : Int) ≤ (k : Int)) ∨ ((k : Int) < (ops.length : Int) ∧ (300 : Int) ≤ (k : Int)) := by omega
      clear hlt
      rcases hends with hd1 | ⟨hd1, hd2⟩
      all_goals
        go_wp2_with fail
        go_ret
        exact ⟨rfl, HB0.out.trans (H2.out.below.mono HB0.out.size)⟩
end Go.Proofs.Ytphfidenjihgeaa.ELCommits
