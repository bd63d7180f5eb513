/- LocksApart holds: whatever the script, the operation and the other key. -/
import Derived.Test.YtfaahhipddlmgaaKBits
import Derived.Deep.RegionHeld3
import Derived.Deep.DeepMust
import Derived.Deep.DeepFit
import Derived.Deep.DeepCutAuto
import Derived.StillTailTactics
namespace Go.Proofs.Ytfaahhipddlmgaa.KLApart
open Go.RowKit WMem Ext KMap KPlain KMem KAsk KLeave KClaims KLaw KScript KBits

theorem len_ask (R : Rw) (th k : Int) (al : Bool) (j : Int) : ((askd R th k al) j).length = (R j).length ∨ ((askd R th k al) j).length = (R j).length + 1 := by
  unfold askd
  split
  · by_cases e : j = k
    · subst e; right; rw [put_same]; simp
    · left; rw [put_other _ _ e]
  · exact .inl rfl
theorem len_leave (R : Rw) (th k : Int) (j : Int) : ((leavd R th k) j).length = (R j).length ∨ ((leavd R th k) j).length + 1 = (R j).length := by
  unfold leavd
  split
  · rename_i h
    by_cases e : j = k
    · subst e
      right
      rw [put_same]
      obtain ⟨c, hc, h1⟩ := has_mem.1 h
      rw [List.length_eraseP_of_mem hc (by simpa [isT] using h1)]
      have := List.length_pos_of_mem hc
      omega
    · left; rw [put_other _ _ e]
  · exact .inl rfl
theorem other_ask (R : Rw) (th k : Int) (al : Bool) {j : Int} (h : j ≠ k) : (askd R th k al) j = R j := by
  unfold askd
  split
  · exact put_other _ _ h
  · rfl
theorem other_leave (R : Rw) (th k : Int) {j : Int} (h : j ≠ k) : (leavd R th k) j = R j := by
  unfold leavd
  split
  · exact put_other _ _ h
  · rfl
/-- what is done, by the lowest bit -/
def done (R : Rw) (o : OpV) : Rw := if low1 o.what = 0 then askd R o.th o.key o.al else leavd R o.th o.key
theorem done_len (R : Rw) (o : OpV) (j : Int) : (R j).length ≤ ((done R o) j).length + 1 ∧ ((done R o) j).length ≤ (R j).length + 1 := by
  unfold done
  split
  · rcases len_ask R o.th o.key o.al j with h | h <;> omega
  · rcases len_leave R o.th o.key j with h | h <;> omega
theorem done_other (R : Rw) (o : OpV) {j : Int} (h : j ≠ o.key) : (done R o) j = R j := by
  unfold done
  split
  · exact other_ask _ _ _ _ h
  · exact other_leave _ _ _ h

set_option maxHeartbeats 4000000 in
set_option maxRecDepth 100000 in
theorem apart_true (ops : List OpV) (A : Option Addr) (c : Nat) (o : OpV) (other : Int) (w : World) (hA : OpsIn w w.heap.size A ops) (_hl : ops.length ≤ 140737488355328) (hko : Fits o.key) (hkx : Fits other) :
    Calls Try.prog 8 #[.slice A ops.length c, .agg #[.int .i64 o.what, .int .i64 o.th, .int .i64 o.key, .bool o.al], .int .i64 other] w fun e w' => e = .returned (.bool true) ∧ Below w.heap.size w w' := by
  have HA := Lib.hid hA
  have HKO := Lib.hid hko
  have HKX := Lib.hid hkx
  clear hA hko hkx
  go_enter Try.func8, Try.ntmps8
  go_wp2_with fail
  have HBX : Hid (RowV (w.alloc (.cells #[.int .i64 o.what, .int .i64 o.th, .int .i64 o.key, .bool o.al] 31)) w.heap.size 31 [.int .i64 o.what, .int .i64 o.th, .int .i64 o.key, .bool o.al]) := row_new _ _
  have HBW : Hid (Below w.heap.size w (w.alloc (.cells #[.int .i64 o.what, .int .i64 o.th, .int .i64 o.key, .bool o.al] 31))) := (Below.refl _ _).alloc (Nat.le_refl _) _
  have HSZ : Hid ((w.alloc (.cells #[.int .i64 o.what, .int .i64 o.th, .int .i64 o.key, .bool o.al] 31)).heap.size = w.heap.size + 1) := by show _ = _; simp
  generalize w.alloc (.cells #[.int .i64 o.what, .int .i64 o.th, .int .i64 o.key, .bool o.al] 31) = W0 at *
  refine (awake_any W0).mono ?_
  rintro e w1 ⟨rfl, hb1⟩
  have HB1 := Lib.hid hb1
  clear hb1
  go_wp2_with fail
  refine (New_own w1).mono ?_
  rintro e w2 ⟨b, rfl, S0, o2⟩
  have O2 := Lib.hid (o2.base HB1.out)
  clear o2
  go_wp2_with fail
  go_loopw [9] (fun i wr => ∃ (j : Nat) (S : Nat → Prop) (R : Rw), j ≤ ops.length ∧ j ≤ 300 ∧ i = .int .i64 j ∧ OwnT W0 wr S b R j) (fun i _ => ops.length - (intOf i).toNat)
  case atStart => exact ⟨0, S0, _, Nat.zero_le _, Nat.zero_le _, rfl, O2.out⟩
  case round =>
    obtain ⟨j, S, R, hj, hj2, rfl, ho⟩ := hrel
    have O3 := Lib.hid ho
    have hsr := ho.below.size
    clear ho
    by_cases hlt : j < ops.length ∧ j < 300
    · obtain ⟨hlt1, hlt2⟩ := hlt
      have hww : Below w.heap.size w wr := below_up HBW.out O3.out.below HBW.out.size
      obtain ⟨a, rfl, hab, hop, hfk⟩ := op_at HA.out hww hlt1
      clear hww
      have hk0 : (0 : Int) ≤ (j : Int) := Int.natCast_nonneg _
      have hk1 : (j : Int) < (ops.length : Int) := by omega
      have hk2 : (j : Int) < 300 := by omega
      generalize ops[j] = p at *
      have HOP := Lib.hid hop.drew
      obtain ⟨q, hq⟩ : ∃ q, (if askOk R p.th p.key = true then (0 : Int) else 22) = q := ⟨_, rfl⟩
      have HQ := Lib.hid hq
      clear hq
      have O3d := Lib.hid (O3.out.go ((Below.refl _ _).drew))
      have HK := Lib.hid hfk
      have hab0 : a.block < W0.heap.size := by have := HSZ.out; omega
      have r1 := hop.c1
      have r2 := hop.c2
      have r3 := hop.c3
      clear hop hfk
      go_wp2_with fail
      go_region_held3 (fun w' => w'.cell? ⟨(a.add (j * 4)).block, (a.add (j * 4)).off + 1, none⟩ = some (.int .i64 p.th) ∧ w'.cell? ⟨(a.add (j * 4)).block, (a.add (j * 4)).off + 2, none⟩ = some (.int .i64 p.key) ∧ w'.cell? ⟨(a.add (j * 4)).block, (a.add (j * 4)).off + 3, none⟩ = some (.bool p.al)) (go_keep)
        ((first
          | (go_at_call 12
             refine (O3d.out.ask p.th p.key p.al HK.out (by omega) q HQ.out).mono ?_
             rintro e w6 ⟨rfl, S6, ho6, he6⟩
             have hbb : OpAt w6 a j p := (HOP.out.below (he6.below O3d.out.below.size O3d.out.new) hab0)
             have t1 := hbb.c1
             have t2 := hbb.c2
             have t3 := hbb.c3
             have O6 := Lib.hid ho6
             clear ho6 he6 hbb)))
      all_goals
        go_wp2_with fail
        go_roundw
        case rel => exact ⟨j + 1, S6, _, by omega, by omega, by go_num, O6.out⟩
        case measure => simp [intOf]; omega
    · have hends : ((ops.length : Int) ≤ (j : Int)) ∨ ((j : Int) < (ops.length : Int) ∧ (300 : Int) ≤ (j : Int)) := by omega
      clear hlt O2
      rcases hends with hd1 | ⟨hd1, hd2⟩
      all_goals
        go_wp2_with fail
        clear hd1
        try clear hd2
        obtain ⟨n1, hn1⟩ : ∃ n1, (R other).length = n1 := ⟨_, rfl⟩
        have HN1 := Lib.hid hn1
        have HTH := Lib.hid O3.out.tab.there
        have hn1b : n1 ≤ 300 := by rw [← hn1]; exact Nat.le_trans (O3.out.len HKX.out) hj2
        clear hn1
        refine (O3.out.claims other HKX.out (by omega) n1 HN1.out).mono ?_
        rintro e w3 ⟨A1, c1, rfl, hr1, o3, hb3⟩
        have O4 := Lib.hid o3
        have HR1 := Lib.hid hr1
        have HB3 := Lib.hid hb3
        have hbx := HBX.out.keep (below_up (Below.refl _ _) o3.below (Nat.le_refl _)) (by have := HSZ.out; omega)
        have x0 : w3.cell? ⟨w.heap.size, 0, none⟩ = some (.int .i64 o.what) := hbx.cell (i := 0) (by simp)
        have x1 : w3.cell? ⟨w.heap.size, 1, none⟩ = some (.int .i64 o.th) := hbx.cell (i := 1) (by simp)
        have x2 : w3.cell? ⟨w.heap.size, 2, none⟩ = some (.int .i64 o.key) := hbx.cell (i := 2) (by simp)
        have x3 : w3.cell? ⟨w.heap.size, 3, none⟩ = some (.bool o.al) := hbx.cell (i := 3) (by simp)
        clear o3 hr1 hb3 hbx O3
        have hand := and1 o.what
        have HDONE : Hid (Calls Try.prog 12 #[.pointer (some ⟨b, 0, none⟩), .int .i64 o.th, .int .i64 o.key, .bool o.al] w3 (fun e w' => ∃ q, e = .returned (.int .i64 q) ∧ ∃ S', OwnT W0 w' S' b (askd R o.th o.key o.al) (j + 1) ∧ Ext S w3 w')) := by
          refine (O4.out.ask o.th o.key o.al HKO.out (by omega) _ rfl).mono ?_
          rintro e w' ⟨rfl, S', h, h'⟩
          exact ⟨_, rfl, S', h, h'⟩
        have HDONE2 : Hid (Calls Try.prog 14 #[.pointer (some ⟨b, 0, none⟩), .int .i64 o.th, .int .i64 o.key] w3 (fun e w' => ∃ q, e = .returned (.int .i64 q) ∧ ∃ S', OwnT W0 w' S' b (leavd R o.th o.key) (j + 1) ∧ Ext S w3 w')) := by
          refine (O4.out.leave o.th o.key HKO.out (by omega) _ rfl).mono ?_
          rintro e w' ⟨rfl, S', h, h'⟩
          exact ⟨_, rfl, S', h, h'⟩
        obtain ⟨n2, hn2⟩ : ∃ n2, ((done R o) other).length = n2 := ⟨_, rfl⟩
        have hle := done_len R o other
        rw [hn2, HN1.out] at hle
        obtain ⟨hle1, hle2⟩ := hle
        have HN2 := Lib.hid hn2
        have HOTH : Hid (other ≠ o.key → (done R o) other = R other) := fun h => done_other R o h
        have hq : low1 o.what = 0 ∨ low1 o.what = 1 := by have := low1_lt o.what; omega
        clear hn2
        rcases hq with hq | hq
        all_goals
          have HDN : Hid (done R o = if low1 o.what = 0 then askd R o.th o.key o.al else leavd R o.th o.key) := rfl
          have HDN2 := Lib.hid hq
          rw [hq] at hand
          clear hq
          go_wp2_with (first
            | (go_at_call 12; refine HDONE.out.mono ?_; rintro e w4 ⟨q, rfl, S4, ho4, he4⟩; have HE4 := Lib.hid he4; have O5 : Hid (OwnT W0 w4 S4 b (done R o) (j + 1)) := (by rw [HDN.out, if_pos HDN2.out]; exact ho4); clear ho4 he4)
            | (go_at_call 14; refine HDONE2.out.mono ?_; rintro e w4 ⟨q, rfl, S4, ho4, he4⟩; have HE4 := Lib.hid he4; have O5 : Hid (OwnT W0 w4 S4 b (done R o) (j + 1)) := (by rw [HDN.out, if_neg (by rw [HDN2.out]; decide)]; exact ho4); clear ho4 he4))
          refine (O5.out.claims other HKX.out (by omega) n2 HN2.out).mono ?_
          rintro e w5 ⟨A2, c2, rfl, hr2, o6, hb5⟩
          have O6 := Lib.hid o6
          have HR2 := Lib.hid hr2
          have HR3 : Hid (Row3 wr w5 (R other) A1 c1) := own_same HR1.out (fun g hg => (hb5.block g (Nat.lt_of_lt_of_le (own_lt HR1.out g hg) HE4.out.size)).trans (HE4.out.block g (own_lt HR1.out g hg) (fun hs => by have h1 := HTH.out g hs; have h2 := own_ge HR1.out g hg; omega)))
          have hbx := HBX.out.keep (below_up (Below.refl _ _) o6.below (Nat.le_refl _)) (by have := HSZ.out; omega)
          have y2 : w5.cell? ⟨w.heap.size, 2, none⟩ = some (.int .i64 o.key) := hbx.cell (i := 2) (by simp)
          clear o6 hr2 hb5 hbx x0 x1 x2 x3
          by_cases hkey : o.key = other
          · subst hkey
            go_wp2
            go_ret
            exact ⟨congrArg (fun q => Ending.returned (Value.bool q)) (decide_eq_true (by omega)), below_up HBW.out O6.out.below HBW.out.size⟩
          · have HEQ : Hid ((done R o) other = R other) := HOTH.out (fun e => hkey e.symm)
            have hnn : n2 = n1 := by rw [← HN2.out, ← HN1.out, HEQ.out]
            subst hnn
            have hkey' : (o.key == other) = false := by rw [beq_eq_false_iff_ne]; exact hkey
            have HL2 : Hid ((R other).length = n2) := HN1.out
            have HR4 : Hid (Row3 w4 w5 (R other) A2 c2) := by have h := HR2.out; rw [HEQ.out] at h; exact h
            clear hkey hle1 hle2 hand
            go_wp2_with fail
            go_loopw [12] (fun i wr' => ∃ (k : Nat), k ≤ n2 ∧ i = .int .i64 k ∧ Below w5.heap.size w5 wr') (fun i _ => n2 - (intOf i).toNat)
            case atStart => exact ⟨0, Nat.zero_le _, rfl, Below.refl _ _⟩
            case round =>
              obtain ⟨k, hk, rfl, hb⟩ := hrel
              have HBK := Lib.hid hb
              clear hb
              by_cases hlt : k < n2
              · obtain ⟨g1, hA1, _, _, p0, p1, p2⟩ := row3_at HR3.out HBK.out (by rw [HL2.out]; exact hlt)
                obtain ⟨g2, hA2, _, _, q0, q1, q2⟩ := row3_at HR4.out HBK.out (by rw [HL2.out]; exact hlt)
                subst hA1
                subst hA2
                have hk0 : (0 : Int) ≤ (k : Int) := Int.natCast_nonneg _
                have hk1 : (k : Int) < (n2 : Int) := by omega
                go_wp2_with fail
                go_region
                all_goals
                  go_wp2_with fail
                  go_roundw
                  case rel => exact ⟨k + 1, by omega, by go_num, by first | exact HBK.out | exact HBK.out.drew | exact below_drewN HBK.out _⟩
                  case measure => simp [intOf]; omega
              · have hends : (n2 : Int) ≤ (k : Int) := by omega
                clear hlt
                go_wp2_with fail
                go_ret
                exact ⟨rfl, below_up HBW.out (O6.out.below.trans (HBK.out.mono O6.out.below.size)) HBW.out.size⟩
end Go.Proofs.Ytfaahhipddlmgaa.KLApart
