/- LocksAlone holds: whatever the script. -/
import Derived.Test.YtfaahhipddlmgaaKAPlain
import Derived.Deep.RegionHeld3
import Derived.Deep.DeepMust
import Derived.Deep.DeepFit
namespace Go.Proofs.Ytfaahhipddlmgaa.KLAlone
open Go.RowKit WMem Ext KMap KPlain KMem KAsk KLeave KClaims KLaw KScript KBits KAPlain

/-- what is done, by the lowest bit -/
def done7 (R : Rw) (T K : Int) (al : Bool) (q : Nat) : Rw := if q = 0 then askd R T K al else leavd R T K
theorem done7_uniq {R : Rw} (h : Uniq R) (T K : Int) (al : Bool) (q : Nat) : Uniq (done7 R T K al q) := by
  unfold done7
  split
  · exact h.ask _ _ _
  · exact h.leave _ _
theorem done7_goes {R : Rw} (h : Uniq R) (T K : Int) (al : Bool) (q : Nat) {i : Nat} (hi : i < (R K).length) (hh : holdsAt (R K) i = true) (hne : q ≠ 0 → (at_ (R K) i).1 ≠ T) : holdd (done7 R T K al q) (at_ (R K) i).1 K = true := by
  unfold done7
  split
  · refine goes_on h (.inl ⟨al, rfl⟩) hi hh (fun e => ?_)
    rename_i hq
    intro e2
    -- a claim cannot be asked for that stands: so nothing has turned, or another row
    have hhas : has (R K) T = true := has_mem.2 ⟨at_ (R K) i, by rw [at_get _ hi]; exact List.getElem_mem hi, e2⟩
    have h1 : has (leavd R T K K) T = true := by
      rw [← e]
      unfold askd
      split
      · rw [put_same, has_append, hhas]; rfl
      · exact hhas
    exact ((leave_has h T K T K).1 h1).2 ⟨rfl, rfl⟩
  · rename_i hq
    exact goes_on h (.inr rfl) hi hh (fun _ => hne hq)

set_option maxHeartbeats 8000000 in
set_option maxRecDepth 100000 in
theorem alone_true (ops : List OpV) (A : Option Addr) (c : Nat) (w : World) (hA : OpsIn w w.heap.size A ops) (_hl : ops.length ≤ 140737488355328) :
    Calls Try.prog 5 #[.slice A ops.length c] w fun e w' => e = .returned (.bool true) ∧ Below w.heap.size w w' := by
  have HA := Lib.hid hA
  clear hA
  go_enter Try.func5, Try.ntmps5
  go_wp2_with fail
  refine (awake_any w).mono ?_
  rintro e w1 ⟨rfl, hb1⟩
  have HB1 := Lib.hid hb1
  clear hb1
  go_wp2_with fail
  refine (New_own w1).mono ?_
  rintro e w2 ⟨b, rfl, S0, o2⟩
  have O2 := Lib.hid (o2.base HB1.out)
  clear o2
  go_wp2_with fail
  go_loopw [5] (fun i wr => ∃ (j : Nat) (S : Nat → Prop) (R : Rw), j ≤ ops.length ∧ j ≤ 1000 ∧ i = .int .i64 j ∧ OwnT w wr S b R j ∧ Uniq R) (fun i _ => ops.length - (intOf i).toNat)
  case atStart => exact ⟨0, S0, _, Nat.zero_le _, Nat.zero_le _, rfl, O2.out, fun k => List.nodup_nil⟩
  case round =>
    clear O2
    obtain ⟨j, S, R, hj, hj2, rfl, ho, hu⟩ := hrel
    have O3 := Lib.hid ho
    have HU := Lib.hid hu
    have hsr := ho.below.size
    clear ho hu
    by_cases hlt : j < ops.length ∧ j < 1000
    · obtain ⟨hlt1, hlt2⟩ := hlt
      obtain ⟨a, rfl, hab, hop, hfk⟩ := op_at HA.out O3.out.below hlt1
      have hk0 : (0 : Int) ≤ (j : Int) := Int.natCast_nonneg _
      have hk1 : (j : Int) < (ops.length : Int) := by omega
      have hk2 : (j : Int) < 1000 := by omega
      generalize ops[j] = o at *
      have r0 := hop.c0
      have r1 := hop.c1
      have r2 := hop.c2
      have r3 := hop.c3
      have ha7 := and7 o.key
      have hl7 := low7_lt o.key
      have hb7 := and7 o.th
      have hm7 := low7_lt o.th
      have hc1 := and1 o.what
      have hq : low1 o.what = 0 ∨ low1 o.what = 1 := by have := low1_lt o.what; omega
      generalize low7 o.key = K at *
      generalize low7 o.th = T at *
      clear hop hfk
      have HK : Hid (Fits (K : Int)) := fits_small (by omega) (by omega)
      have HBX : Hid (RowV (wr.alloc (.cells #[.int .i64 o.what, .int .i64 o.th, .int .i64 o.key, .bool o.al] 31)) wr.heap.size 31 [.int .i64 o.what, .int .i64 o.th, .int .i64 o.key, .bool o.al]) := row_new _ _
      have O4 := Lib.hid (O3.out.go ((Below.refl _ _).alloc (Nat.le_refl _) (.cells #[.int .i64 o.what, .int .i64 o.th, .int .i64 o.key, .bool o.al] 31)))
      have HSZ : Hid (wr.heap.size < (wr.alloc (.cells #[.int .i64 o.what, .int .i64 o.th, .int .i64 o.key, .bool o.al] 31)).heap.size) := by show _ < _; simp
      have HTH : Hid (∀ q, S q → q < wr.heap.size) := O3.out.tab.there
      go_wp2_with fail
      generalize wr.alloc (.cells #[.int .i64 o.what, .int .i64 o.th, .int .i64 o.key, .bool o.al] 31) = W1 at *
      generalize wr.heap.size = hs0 at *
      obtain ⟨n1, hn1⟩ : ∃ n1, (R K).length = n1 := ⟨_, rfl⟩
      have HN1 := Lib.hid hn1
      have hn1b : n1 ≤ 1000 := by rw [← hn1]; exact Nat.le_trans (O4.out.len HK.out) hj2
      clear hn1 r0 r1 r2 r3
      refine (O4.out.claims (K : Int) HK.out (by omega) n1 HN1.out).mono ?_
      rintro e w3 ⟨A1, c1, rfl, hr1, o5, hb3⟩
      have O5 := Lib.hid o5
      have HR1 := Lib.hid hr1
      have HBX3 := Lib.hid (HBX.out.keep hb3 HSZ.out)
      have x0 : w3.cell? ⟨hs0, 0, none⟩ = some (.int .i64 o.what) := HBX3.out.cell (i := 0) (by simp)
      have x1 : w3.cell? ⟨hs0, 1, none⟩ = some (.int .i64 o.th) := HBX3.out.cell (i := 1) (by simp)
      have x3 : w3.cell? ⟨hs0, 3, none⟩ = some (.bool o.al) := HBX3.out.cell (i := 3) (by simp)
      have HGE : Hid (W1.heap.size ≤ w3.heap.size) := hb3.size
      clear o5 hr1 hb3
      have HDONE : Hid (Calls Try.prog 12 #[.pointer (some ⟨b, 0, none⟩), .int .i64 (1 + (T : Int)), .int .i64 (K : Int), .bool o.al] w3 (fun e w' => ∃ q, e = .returned (.int .i64 q) ∧ ∃ S', OwnT w w' S' b (askd R (1 + (T : Int)) K o.al) (j + 1) ∧ Ext S w3 w')) := by
        refine (O5.out.ask (1 + (T : Int)) K o.al HK.out (by omega) _ rfl).mono ?_
        rintro e w' ⟨rfl, S', h, h'⟩
        exact ⟨_, rfl, S', h, h'⟩
      have HDONE2 : Hid (Calls Try.prog 14 #[.pointer (some ⟨b, 0, none⟩), .int .i64 (1 + (T : Int)), .int .i64 (K : Int)] w3 (fun e w' => ∃ q, e = .returned (.int .i64 q) ∧ ∃ S', OwnT w w' S' b (leavd R (1 + (T : Int)) K) (j + 1) ∧ Ext S w3 w')) := by
        refine (O5.out.leave (1 + (T : Int)) K HK.out (by omega) _ rfl).mono ?_
        rintro e w' ⟨rfl, S', h, h'⟩
        exact ⟨_, rfl, S', h, h'⟩
      obtain ⟨q1, hq1⟩ : ∃ q1, low1 o.what = q1 := ⟨_, rfl⟩
      rw [hq1] at hc1 hq
      clear hq1
      obtain ⟨R', hR'⟩ : ∃ R', done7 R (1 + (T : Int)) K o.al q1 = R' := ⟨_, rfl⟩
      have HU' : Hid (Uniq R') := by rw [← hR']; exact done7_uniq HU.out _ _ _ _
      have HGO : Hid (∀ i, i < n1 → holdsAt (R K) i = true → (q1 ≠ 0 → (at_ (R K) i).1 ≠ 1 + (T : Int)) → holdd R' (at_ (R K) i).1 K = true) := fun i hi hh hne => by
        rw [← hR']
        exact done7_goes HU.out _ _ _ _ (by rw [HN1.out]; exact hi) hh hne
      have HDN := Lib.hid hR'
      clear hR'
      obtain ⟨n2, hn2⟩ : ∃ n2, (R' K).length = n2 := ⟨_, rfl⟩
      have HN2 := Lib.hid hn2
      clear hn2
      rcases hq with rfl | rfl
      all_goals
        go_wp2_with (first
          | (go_at_call 12; refine HDONE.out.mono ?_; rintro e w4 ⟨q, rfl, S4, ho4, he4⟩; have HE4 := Lib.hid he4; have O6 : Hid (OwnT w w4 S4 b R' (j + 1)) := (by rw [← HDN.out]; exact ho4); clear ho4 he4)
          | (go_at_call 14; refine HDONE2.out.mono ?_; rintro e w4 ⟨q, rfl, S4, ho4, he4⟩; have HE4 := Lib.hid he4; have O6 : Hid (OwnT w w4 S4 b R' (j + 1)) := (by rw [← HDN.out]; exact ho4); clear ho4 he4))
        have hn2b : n2 ≤ 1001 := by rw [← HN2.out]; exact Nat.le_trans (O6.out.len HK.out) (by omega)
        refine (O6.out.claims (K : Int) HK.out (by omega) n2 HN2.out).mono ?_
        rintro e w5 ⟨A2, c2, rfl, hr2, o7, hb5⟩
        have O7 := Lib.hid o7
        have HR2 := Lib.hid hr2
        have HR3 : Hid (Row3 W1 w5 (R K) A1 c1) := own_same HR1.out (fun g hg => (hb5.block g (Nat.lt_of_lt_of_le (own_lt HR1.out g hg) HE4.out.size)).trans (HE4.out.block g (own_lt HR1.out g hg) (fun hs => by have h1 := HTH.out g hs; have h2 := own_ge HR1.out g hg; have h3 := HSZ.out; omega)))
        have HBX5 : Hid (w5.heap[hs0]? = w3.heap[hs0]?) := (hb5.block _ (Nat.lt_of_lt_of_le (Nat.lt_of_lt_of_le HSZ.out HGE.out) HE4.out.size)).trans (HE4.out.block _ (Nat.lt_of_lt_of_le HSZ.out HGE.out) (fun hs => by have h1 := HTH.out _ hs; omega))
        have HBX6 : Hid (RowV w5 hs0 31 [.int .i64 o.what, .int .i64 o.th, .int .i64 o.key, .bool o.al]) := HBX5.out.trans HBX3.out
        have HLT5 : Hid (hs0 < w5.heap.size) := HBX6.out.lt
        clear o7 hr2 hb5 x0 x1 x3
        go_wp2_with fail
        go_loopw [10, 11] (fun h i wr' => ∃ (k m : Nat), k ≤ n2 ∧ m ≤ k ∧ (0 < k → 0 < m) ∧ h = .int .i64 m ∧ i = .int .i64 k ∧ Below w5.heap.size w5 wr') (fun _ i _ => n2 - (intOf i).toNat)
        case atStart => exact ⟨0, 0, Nat.zero_le _, Nat.zero_le _, fun h => h, rfl, rfl, Below.refl _ _⟩
        case round =>
          obtain ⟨k, m, hk, hm, hkm, rfl, rfl, hb⟩ := hrel
          have HBK := Lib.hid hb
          clear hb
          by_cases hlt2 : k < n2
          · obtain ⟨g2, hA2, _, _, p0, p1, p2⟩ := row3_at HR2.out HBK.out (by rw [HN2.out]; exact hlt2)
            subst hA2
            have hk3 : (k : Int) < (n2 : Int) := by omega
            cases k with
            | zero =>
              rw [Nat.zero_mul] at p0
              rw [Nat.zero_mul, Nat.zero_add] at p1 p2
              rw [hold_first] at p2
              clear p0
              go_wp2_with fail
              go_roundw
              case rel => exact ⟨1, m + 1, by omega, by omega, fun _ => Nat.succ_pos _, by go_num, by go_num, HBK.out⟩
              case measure => simp [intOf]; omega
            | succ k =>
              obtain ⟨g3, hA3, _, _, _, _, s2⟩ := row3_at HR2.out HBK.out (i := k) (by rw [HN2.out]; omega)
              obtain ⟨g4, hA4, _, _, _, t1, _⟩ := row3_at HR2.out HBK.out (i := 0) (by rw [HN2.out]; omega)
              cases hA3
              cases hA4
              rw [Nat.zero_mul, Nat.zero_add] at t1
              have hm0 := hkm (Nat.succ_pos k)
              clear p0 hkm
              cases hh : holdsAt (R' K) (k + 1)
              · rw [hh] at p2
                clear p1 s2 t1
                go_wp2_with fail
                go_roundw
                case rel => exact ⟨k + 1 + 1, m, by omega, by omega, fun _ => hm0, by go_num, by go_num, HBK.out⟩
                case measure => simp [intOf]; omega
              · obtain ⟨z1, z2, z3⟩ := hold_back (by rw [HN2.out]; exact hlt2) hh
                rw [hh] at p2
                rw [z1] at s2
                rw [z2] at p1
                rw [z3] at t1
                clear z1 z2 z3
                go_wp2_with fail
                go_roundw
                case rel => exact ⟨k + 1 + 1, m + 1, by omega, by omega, fun _ => Nat.succ_pos _, by go_num, by go_num, HBK.out⟩
                case measure => simp [intOf]; omega
          · have hend : (n2 : Int) ≤ (k : Int) := by omega
            have hcase : (n2 = 0) ∨ (0 < n2 ∧ 0 < m) := by
              rcases Nat.eq_zero_or_pos n2 with h | h
              · exact .inl h
              · exact .inr ⟨h, hkm (by omega)⟩
            have O8 := Lib.hid (O7.out.go HBK.out)
            clear hlt2 hkm
            rcases hcase with h0 | ⟨h0, h1⟩
            all_goals
              first
                | (have h00 : (n2 : Int) ≤ 0 := by omega
                   clear h0)
                | (have h00 : (0 : Int) < (n2 : Int) := by omega
                   have h01 : ((m : Int) == 0) = false := by rw [beq_eq_false_iff_ne]; omega
                   clear h0 h1)
              go_wp2_with fail
              go_loopw [12] (fun i wr' => ∃ (k : Nat), k ≤ n1 ∧ i = .int .i64 k ∧ OwnT w wr' S4 b R' (j + 1) ∧ Below w5.heap.size w5 wr') (fun i _ => n1 - (intOf i).toNat)
              case atStart => exact ⟨0, Nat.zero_le _, rfl, O8.out, HBK.out⟩
              case round =>
                clear O8
                obtain ⟨k3, hk3, rfl, ho, hb⟩ := hrel
                have O9 := Lib.hid ho
                have HBL := Lib.hid hb
                clear ho hb
                by_cases hlt3 : k3 < n1
                · obtain ⟨g5, hA5, _, _, p0, p1, p2⟩ := row3_at HR3.out HBL.out (i := k3) (by rw [HN1.out]; exact hlt3)
                  subst hA5
                  have y0 : wr.cell? ⟨hs0, 0, none⟩ = some (.int .i64 o.what) := (HBX6.out.keep HBL.out HLT5.out).cell (i := 0) (by simp)
                  have y1 : wr.cell? ⟨hs0, 1, none⟩ = some (.int .i64 o.th) := (HBX6.out.keep HBL.out HLT5.out).cell (i := 1) (by simp)
                  have hk4 : (k3 : Int) < (n1 : Int) := by omega
                  have O9d := Lib.hid (O9.out.go ((Below.refl _ _).drew))
                  have HBLd : Hid (Below w5.heap.size w5 wr.drew) := HBL.out.drew
                  have HG := HGO.out k3 hlt3
                  have HGH := Lib.hid HG
                  clear HG p1
                  generalize (at_ (R K) k3).1 = t3 at *
                  generalize holdsAt (R K) k3 = h3 at *
                  cases hl : t3 == 1 + (T : Int)
                  all_goals
                    cases h3
                    all_goals
                      first
                        | have HT : Hid (holdd R' t3 (K : Int) = true) := HGH.out rfl (fun hq _ => absurd rfl hq)
                        | have HT : Hid (holdd R' t3 (K : Int) = true) := HGH.out rfl (fun _ e => Bool.noConfusion (hl.symm.trans (beq_iff_eq.2 e)))
                        | have HT : True := trivial
                      go_wp2_with fail
                      go_region
                      all_goals
                        go_wp2_with (go_at_call 16; refine (O9d.out.holds t3 (K : Int) HK.out (by omega) true HT.out).mono ?_; rintro e w9 ⟨rfl, ho9, hb9⟩; have O10 := Lib.hid ho9; have HB10 := Lib.hid (HBLd.out.trans (hb9.mono HBLd.out.size)); clear ho9 hb9)
                        try go_roundw
                        all_goals first
                          | exact ⟨⟨k3 + 1, by omega, by go_num, O9d.out, HBLd.out⟩, by simp [intOf]; omega⟩
                          | exact ⟨⟨k3 + 1, by omega, by go_num, O10.out, HB10.out⟩, by simp [intOf]; omega⟩
                          | exact ⟨k3 + 1, by omega, by go_num, O9d.out, HBLd.out⟩
                          | exact ⟨k3 + 1, by omega, by go_num, O10.out, HB10.out⟩
                          | (simp [intOf]; omega)
                · have hend3 : (n1 : Int) ≤ (k3 : Int) := by omega
                  go_wp2_with fail
                  go_roundw
                  case rel => exact ⟨j + 1, S4, R', by omega, by omega, by go_num, O9.out, HU'.out⟩
                  case measure => simp [intOf]; omega
    · have hends : ((ops.length : Int) ≤ (j : Int)) ∨ ((j : Int) < (ops.length : Int) ∧ (1000 : Int) ≤ (j : Int)) := by omega
      clear hlt
      rcases hends with hd1 | ⟨hd1, hd2⟩
      all_goals
        go_wp2_with fail
        go_ret
        exact ⟨rfl, O3.out.below⟩
end Go.Proofs.Ytfaahhipddlmgaa.KLAlone
