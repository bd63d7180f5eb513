/- LocksShare holds: whatever the key and the numbers. -/
import Derived.Test.YtfaahhipddlmgaaKBits
import Derived.Deep.RegionHeld3
import Derived.Deep.DeepMust
import Derived.Deep.DeepFit
namespace Go.Proofs.Ytfaahhipddlmgaa.KLShare
open Go.RowKit WMem Ext KMap KPlain KMem KAsk KLeave KClaims KLaw KScript KBits

/-- claims of the threads a, a + 1, .., together -/
def run (a m : Nat) : List Cl := (List.range m).map fun i => (((a + i : Nat) : Int), false)
theorem run_succ (a m : Nat) : run a (m + 1) = run a m ++ [(((a + m : Nat) : Int), false)] := by simp [run, List.range_succ]
theorem run_cons (a m : Nat) : run a (m + 1) = ((a : Int), false) :: run (a + 1) m := by
  unfold run
  rw [List.range_succ_eq_map, List.map_cons, List.map_map]
  congr 1
  apply List.map_congr_left
  intro i _
  simp
  omega
theorem run_has {a m : Nat} {t : Int} : has (run a m) t = true ↔ (a : Int) ≤ t ∧ t < (a : Int) + (m : Int) := by
  rw [has_mem]
  constructor
  · rintro ⟨c, hc, rfl⟩
    obtain ⟨i, hi, rfl⟩ := List.mem_map.1 hc
    rw [List.mem_range] at hi
    constructor <;> simp <;> omega
  · rintro ⟨h1, h2⟩
    refine ⟨(t, false), List.mem_map.2 ⟨(t - a).toNat, List.mem_range.2 (by omega), ?_⟩, rfl⟩
    simp
    omega
theorem run_no {a m : Nat} {t : Int} (h : t < (a : Int) ∨ (a : Int) + (m : Int) ≤ t) : has (run a m) t = false := by
  cases hh : has (run a m) t with
  | false => rfl
  | true =>
    have := run_has.1 hh
    omega
theorem run_all (a m : Nat) : (run a m).all (fun c => !c.2) = true := by
  rw [List.all_eq_true]
  intro c hc
  obtain ⟨i, _, rfl⟩ := List.mem_map.1 hc
  rfl
theorem run_split (a m : Nat) {i : Nat} (hi : i < m) : run a m = run a i ++ ((((a + i : Nat) : Int), false) :: run (a + i + 1) (m - (i + 1))) := by
  induction i generalizing a m with
  | zero =>
    obtain ⟨m', rfl⟩ : ∃ m', m = m' + 1 := ⟨m - 1, by omega⟩
    rw [run_cons]
    simp [run]
  | succ i ih =>
    obtain ⟨m', rfl⟩ : ∃ m', m = m' + 1 := ⟨m - 1, by omega⟩
    rw [run_cons, ih (a + 1) m' (by omega), run_cons, List.cons_append]
    rw [show a + 1 + i = a + (i + 1) by omega, show m' + 1 - (i + 1 + 1) = m' - (i + 1) by omega]
/-- does a claim hold of which it is known what stands ahead of it? -/
theorem hold_split {R : Rw} {th k : Int} {l1 l2 : List Cl} {al : Bool} (h : R k = l1 ++ (th, al) :: l2) (hn : has l1 th = false) : holdd R th k = (l1.isEmpty || (l1.all (fun c => !c.2) && !al)) := by
  have hp : place (R k) th = some l1.length := by
    rw [place_some, h]
    refine ⟨by simp, by simp, fun j hj => ?_⟩
    rw [List.getElem_append_left hj]
    intro e
    have : has l1 th = true := has_mem.2 ⟨_, List.getElem_mem hj, e⟩
    rw [this] at hn
    cases hn
  unfold holdd
  rw [hp]
  unfold holdsAt sharedTo
  rw [h]
  have e1 : (l1 ++ (th, al) :: l2).take (l1.length + 1) = l1 ++ [(th, al)] := by
    rw [List.take_append, List.take_of_length_le (Nat.le_succ _)]
    simp
  show (l1.length == 0 || ((l1 ++ (th, al) :: l2).take (l1.length + 1)).all fun c => !c.2) = _
  rw [e1, List.all_append]
  cases l1 with
  | nil => simp
  | cons c r => simp
theorem ask_row {R : Rw} {th k : Int} {l : List Cl} (al : Bool) (h : R k = l) (h1 : 1 ≤ th) (h2 : th ≤ 64) (h3 : 0 ≤ k) (hn : has l th = false) : askOk R th k = true ∧ askd R th k al k = l ++ [(th, al)] := by
  have ha : askOk R th k = true := by simp [askOk, h1, h2, h3, h, hn]
  refine ⟨ha, ?_⟩
  unfold askd
  rw [if_pos ha, put_same, h]
theorem leave_row {R : Rw} {th k : Int} {l : List Cl} {al : Bool} (h : R k = (th, al) :: l) : leavd R th k k = l := by
  unfold leavd
  rw [if_pos (by rw [h]; simp [has, isT]), put_same, h, List.eraseP_cons_of_pos (by simp [isT])]

/-- the row when all have asked -/
def full (N j : Nat) : List Cl := run 1 (N + 1) ++ (1 + (N : Int) + 1, true) :: run (N + 3) j
theorem full_succ (N j : Nat) : full N (j + 1) = full N j ++ [(1 + (N : Int) + 2 + (j : Int), false)] := by
  unfold full
  rw [run_succ (N + 3) j, List.append_assoc, List.cons_append, show ((N + 3 + j : Nat) : Int) = 1 + (N : Int) + 2 + (j : Int) by omega]
theorem full_no (N j : Nat) : has (full N j) (1 + (N : Int) + 2 + (j : Int)) = false := by
  unfold full
  rw [has_append, run_no (by omega)]
  have e : has ((1 + (N : Int) + 1, true) :: run (N + 3) j) (1 + (N : Int) + 2 + (j : Int)) = ((1 + (N : Int) + 1 == 1 + (N : Int) + 2 + (j : Int)) || has (run (N + 3) j) (1 + (N : Int) + 2 + (j : Int))) := by simp [has, isT]
  rw [e, run_no (by omega), beq_eq_false_iff_ne.2 (by omega)]
  rfl
theorem full_holds {R : Rw} {K : Int} {N M : Nat} (h : R K = full N (M + 1)) : (∀ j, j < N + 1 → holdd R ((j : Int) + 1) K = true) ∧ holdd R (1 + (N : Int) + 1) K = false ∧ holdd R (1 + (N : Int) + 2) K = false := by
  refine ⟨fun j hj => ?_, ?_, ?_⟩
  · have e : R K = run 1 j ++ (((j : Int) + 1, false) :: (run (1 + j + 1) (N + 1 - (j + 1)) ++ (1 + (N : Int) + 1, true) :: run (N + 3) (M + 1))) := by
      rw [h]
      unfold full
      rw [run_split 1 (N + 1) hj, List.append_assoc, List.cons_append, show ((1 + j : Nat) : Int) = (j : Int) + 1 by omega]
    rw [hold_split e (run_no (by omega)), run_all]
    simp
  · rw [hold_split h (run_no (by omega)), run_cons]
    simp
  · have e : R K = (run 1 (N + 1) ++ [(1 + (N : Int) + 1, true)]) ++ ((1 + (N : Int) + 2, false) :: run (N + 3 + 1) M) := by
      rw [h]
      unfold full
      rw [run_cons (N + 3) M, List.append_assoc, show ((N + 3 : Nat) : Int) = 1 + (N : Int) + 2 by omega]
      rfl
    rw [hold_split e (by rw [has_append, run_no (by omega), has_one, beq_eq_false_iff_ne.2 (by omega)]; rfl), List.all_append, run_cons]
    simp
/-- the row when the first have left -/
theorem left_holds {R : Rw} {K : Int} {N M : Nat} (h : R K = (1 + (N : Int) + 1, true) :: run (N + 3) (M + 1)) : holdd R (1 + (N : Int) + 1) K = true ∧ holdd R (1 + (N : Int) + 2) K = false := by
  constructor
  · rw [hold_split (l1 := []) h rfl]
    rfl
  · have e : R K = [(1 + (N : Int) + 1, true)] ++ ((1 + (N : Int) + 2, false) :: run (N + 3 + 1) M) := by
      rw [h, run_cons (N + 3) M, show ((N + 3 : Nat) : Int) = 1 + (N : Int) + 2 by omega]
      rfl
    rw [hold_split e (by rw [has_one, beq_eq_false_iff_ne.2 (by omega)])]
    simp
theorem last_holds {R : Rw} {K : Int} {N M : Nat} (h : R K = run (N + 3) (M + 1)) {j : Nat} (hj : j < M + 1) : holdd R (1 + (N : Int) + 2 + (j : Int)) K = true := by
  have e := h
  rw [run_split _ _ hj, show ((N + 3 + j : Nat) : Int) = 1 + (N : Int) + 2 + (j : Int) by omega] at e
  rw [hold_split e (run_no (by omega)), run_all]
  simp

set_option maxHeartbeats 4000000 in
set_option maxRecDepth 100000 in
theorem share_true (key0 n0 more : Int) (w : World) : Calls Try.prog 7 #[.int .i64 key0, .int .i64 n0, .int .i64 more] w fun e w' => e = .returned (.bool true) ∧ Below w.heap.size w w' := by
  have ha1 := and65535 key0
  have ha2 := and31 n0
  have ha3 := and15 more
  have hl1 := low65535_lt key0
  have hl2 := low31_lt n0
  have hl3 := low15_lt more
  generalize low65535 key0 = K at *
  generalize low31 n0 = N at *
  generalize low15 more = M at *
  have HK : Hid (Fits (K : Int)) := fits_small (by omega) (by omega)
  go_enter Try.func7, Try.ntmps7
  go_wp2_with fail
  refine (awake_any w).mono ?_
  rintro e w1 ⟨rfl, hb1⟩
  have HB1 := Lib.hid hb1
  clear hb1
  go_wp2_with fail
  refine (New_own w1).mono ?_
  rintro e w2 ⟨b, rfl, S0, o2⟩
  have O2 := Lib.hid (o2.base HB1.out)
  clear o2
  go_wp2_with fail
  go_loopw [10] (fun i wr => ∃ (j : Nat) (S : Nat → Prop) (R : Rw), j ≤ N + 1 ∧ i = .int .i64 ((j : Int) + 1) ∧ OwnT w wr S b R j ∧ R K = run 1 j) (fun i _ => N + 2 - (intOf i).toNat)
  case atStart => exact ⟨0, S0, _, Nat.zero_le _, rfl, O2.out, rfl⟩
  case round =>
    obtain ⟨j, S, R, hj, rfl, ho, hr⟩ := hrel
    have O3 := Lib.hid ho
    have HR := Lib.hid hr
    clear ho hr
    by_cases hlt : j < N + 1
    · obtain ⟨hok, hrow⟩ := ask_row (R := R) (th := (j : Int) + 1) (k := (K : Int)) false HR.out (by omega) (by omega) (by omega) (run_no (by omega))
      have HQ : Hid ((if askOk R ((j : Int) + 1) (K : Int) = true then (0 : Int) else 22) = 0) := if_pos hok
      have HROW : Hid (askd R ((j : Int) + 1) (K : Int) false K = run 1 (j + 1)) := by show _ = _; rw [hrow, run_succ]; congr 3; omega
      have hi1 : (j : Int) + 1 ≤ 1 + (N : Int) := by omega
      clear hok hrow
      go_wp2_with fail
      refine (O3.out.ask ((j : Int) + 1) (K : Int) false HK.out (by omega) 0 HQ.out).mono ?_
      rintro e w6 ⟨rfl, S6, ho6, _⟩
      have O6 := Lib.hid ho6
      clear ho6
      go_wp2_with fail
      go_roundw
      case rel => exact ⟨j + 1, S6, _, by omega, by go_num, O6.out, HROW.out⟩
      case measure => simp [intOf]; omega
    · have HJ : Hid (j = N + 1) := by show _ = _; omega
      have hend0 : 1 + (N : Int) < (j : Int) + 1 := by omega
      have O3 := Lib.hid (O3.out.mono (n' := N + 1) (by omega))
      have HR : Hid (R K = run 1 (N + 1)) := by have h := HR.out; rw [HJ.out] at h; exact h
      clear hlt O2 hj
      obtain ⟨hok, hrow⟩ := ask_row (R := R) (th := 1 + (N : Int) + 1) (k := (K : Int)) true HR.out (by omega) (by omega) (by omega) (run_no (by omega))
      have HQ : Hid ((if askOk R (1 + (N : Int) + 1) (K : Int) = true then (0 : Int) else 22) = 0) := if_pos hok
      have HROW : Hid (askd R (1 + (N : Int) + 1) (K : Int) true K = full N 0) := hrow
      clear hok hrow
      go_wp2_with fail
      refine (O3.out.ask (1 + (N : Int) + 1) (K : Int) true HK.out (by omega) 0 HQ.out).mono ?_
      rintro e w3 ⟨rfl, S3, ho3, _⟩
      have O4 := Lib.hid ho3
      clear ho3 O3 HR HQ
      generalize askd R (1 + (N : Int) + 1) (K : Int) true = R1 at *
      go_wp2_with fail
      go_loopw [12] (fun i wr => ∃ (j : Nat) (S : Nat → Prop) (R : Rw), j ≤ M + 1 ∧ i = .int .i64 (j : Int) ∧ OwnT w wr S b R (N + 1 + 1 + j) ∧ R K = full N j) (fun i _ => M + 2 - (intOf i).toNat)
      case atStart => exact ⟨0, S3, _, Nat.zero_le _, rfl, O4.out, HROW.out⟩
      case round =>
        clear O4 HROW
        obtain ⟨j, S, R, hj, rfl, ho, hr⟩ := hrel
        have O5 := Lib.hid ho
        have HR := Lib.hid hr
        clear ho hr
        by_cases hlt : j < M + 1
        · obtain ⟨hok, hrow⟩ := ask_row (R := R) (th := 1 + (N : Int) + 2 + (j : Int)) (k := (K : Int)) false HR.out (by omega) (by omega) (by omega) (full_no N j)
          obtain ⟨q, hq⟩ : ∃ q, (if askOk R (1 + (N : Int) + 2 + (j : Int)) (K : Int) = true then (0 : Int) else 22) = q := ⟨_, rfl⟩
          have HQ := Lib.hid hq
          have HROW : Hid (askd R (1 + (N : Int) + 2 + (j : Int)) (K : Int) false K = full N (j + 1)) := by show _ = _; rw [hrow, full_succ]
          have hi1 : (j : Int) < 1 + (M : Int) := by omega
          clear hok hrow hq
          go_wp2_with fail
          refine (O5.out.ask (1 + (N : Int) + 2 + (j : Int)) (K : Int) false HK.out (by omega) q HQ.out).mono ?_
          rintro e w6 ⟨rfl, S6, ho6, _⟩
          have O6 := Lib.hid ho6
          clear ho6
          go_wp2_with fail
          go_roundw
          case rel => exact ⟨j + 1, S6, _, by omega, by go_num, O6.out, HROW.out⟩
          case measure => simp [intOf]; omega
        · have HJ2 : Hid (j = M + 1) := by show _ = _; omega
          have hend : 1 + (M : Int) ≤ (j : Int) := by omega
          have O5 := Lib.hid (O5.out.mono (n' := N + 1 + 1 + (M + 1)) (by omega))
          have HR : Hid (R K = full N (M + 1)) := by have h := HR.out; rw [HJ2.out] at h; exact h
          have HH := Lib.hid (full_holds HR.out)
          clear hlt hj
          go_wp2_with fail
          go_loopw [13] (fun i wr => ∃ (j : Nat), j ≤ N + 1 ∧ i = .int .i64 ((j : Int) + 1) ∧ OwnT w wr S b R (N + 1 + 1 + (M + 1))) (fun i _ => N + 2 - (intOf i).toNat)
          case atStart => exact ⟨0, Nat.zero_le _, rfl, O5.out⟩
          case round =>
            clear O5
            obtain ⟨j, hj, rfl, ho⟩ := hrel
            have O6 := Lib.hid ho
            clear ho
            by_cases hlt : j < N + 1
            · have hi1 : (j : Int) + 1 ≤ 1 + (N : Int) := by omega
              have HJ := Lib.hid (HH.out.1 j hlt)
              go_wp2_with fail
              refine (O6.out.holds ((j : Int) + 1) (K : Int) HK.out (by omega) true HJ.out).mono ?_
              rintro e w7 ⟨rfl, ho7, _⟩
              have O7 := Lib.hid ho7
              clear ho7
              go_wp2_with fail
              refine (O7.out.holds (1 + (N : Int) + 1) (K : Int) HK.out (by omega) false HH.out.2.1).mono ?_
              rintro e w8 ⟨rfl, ho8, _⟩
              have O8 := Lib.hid ho8
              clear ho8
              go_wp2_with fail
              refine (O8.out.holds (1 + (N : Int) + 2) (K : Int) HK.out (by omega) false HH.out.2.2).mono ?_
              rintro e w9 ⟨rfl, ho9, _⟩
              have O9 := Lib.hid ho9
              clear ho9
              go_wp2_with fail
              go_roundw
              case rel => exact ⟨j + 1, by omega, by go_num, O9.out⟩
              case measure => simp [intOf]; omega
            · have hend2 : 1 + (N : Int) < (j : Int) + 1 := by omega
              clear hlt hj
              go_wp2_with fail
              go_loopw [14] (fun i wr => ∃ (j : Nat) (S : Nat → Prop) (R : Rw), j ≤ N + 1 ∧ i = .int .i64 ((j : Int) + 1) ∧ OwnT w wr S b R (N + 1 + 1 + (M + 1) + j) ∧ R K = run (1 + j) (N + 1 - j) ++ (1 + (N : Int) + 1, true) :: run (N + 3) (M + 1)) (fun i _ => N + 2 - (intOf i).toNat)
              case atStart => exact ⟨0, S, R, Nat.zero_le _, rfl, O6.out, HR.out⟩
              case round =>
                clear O6 HR HH
                obtain ⟨j, S, R, hj, rfl, ho, hr⟩ := hrel
                have O7 := Lib.hid ho
                have HR := Lib.hid hr
                clear ho hr
                by_cases hlt : j < N + 1
                · have HROW : Hid (leavd R ((j : Int) + 1) (K : Int) K = run (1 + (j + 1)) (N + 1 - (j + 1)) ++ (1 + (N : Int) + 1, true) :: run (N + 3) (M + 1)) := by
                    refine leave_row (al := false) ?_
                    rw [HR.out]
                    obtain ⟨r, hr⟩ : ∃ r, N + 1 - j = r + 1 := ⟨N - j, by omega⟩
                    rw [hr, run_cons, show N + 1 - (j + 1) = r by omega, show ((1 + j : Nat) : Int) = (j : Int) + 1 by omega, show 1 + j + 1 = 1 + (j + 1) by omega, List.cons_append]
                  obtain ⟨q, hq⟩ : ∃ q, (if has (R (K : Int)) ((j : Int) + 1) = true then (0 : Int) else 22) = q := ⟨_, rfl⟩
                  have HQ := Lib.hid hq
                  have hi1 : (j : Int) + 1 ≤ 1 + (N : Int) := by omega
                  clear hq
                  go_wp2_with fail
                  refine (O7.out.leave ((j : Int) + 1) (K : Int) HK.out (by omega) q HQ.out).mono ?_
                  rintro e w8 ⟨rfl, S8, ho8, _⟩
                  have O8 := Lib.hid ho8
                  clear ho8
                  go_wp2_with fail
                  go_roundw
                  case rel => exact ⟨j + 1, S8, _, by omega, by go_num, O8.out, HROW.out⟩
                  case measure => simp [intOf]; omega
                · have HJ4 : Hid (j = N + 1) := by show _ = _; omega
                  have hend3 : 1 + (N : Int) < (j : Int) + 1 := by omega
                  have O7 := Lib.hid (O7.out.mono (n' := N + 1 + 1 + (M + 1) + (N + 1)) (by omega))
                  have HR0 : Hid (R K = (1 + (N : Int) + 1, true) :: run (N + 3) (M + 1)) := by
                    have h := HR.out
                    rw [HJ4.out, Nat.sub_self] at h
                    exact h
                  have HH := Lib.hid (left_holds HR0.out)
                  clear hlt hj
                  go_wp2_with fail
                  refine (O7.out.holds (1 + (N : Int) + 1) (K : Int) HK.out (by omega) true HH.out.1).mono ?_
                  rintro e w8 ⟨rfl, ho8, _⟩
                  have O8 := Lib.hid ho8
                  clear ho8 O7
                  go_wp2_with fail
                  refine (O8.out.holds (1 + (N : Int) + 2) (K : Int) HK.out (by omega) false HH.out.2).mono ?_
                  rintro e w9 ⟨rfl, ho9, _⟩
                  have O9 := Lib.hid ho9
                  clear ho9 O8
                  have HROW : Hid (leavd R (1 + (N : Int) + 1) (K : Int) K = run (N + 3) (M + 1)) := leave_row HR0.out
                  obtain ⟨q, hq⟩ : ∃ q, (if has (R (K : Int)) (1 + (N : Int) + 1) = true then (0 : Int) else 22) = q := ⟨_, rfl⟩
                  have HQ := Lib.hid hq
                  clear hq
                  go_wp2_with fail
                  refine (O9.out.leave (1 + (N : Int) + 1) (K : Int) HK.out (by omega) q HQ.out).mono ?_
                  rintro e w10 ⟨rfl, S10, ho10, _⟩
                  have O10 := Lib.hid ho10
                  clear ho10 O9
                  generalize leavd R (1 + (N : Int) + 1) (K : Int) = R2 at *
                  go_wp2_with fail
                  go_loopw [15] (fun i wr => ∃ (j : Nat), j ≤ M + 1 ∧ i = .int .i64 (j : Int) ∧ OwnT w wr S10 b R2 (N + 1 + 1 + (M + 1) + (N + 1) + 1)) (fun i _ => M + 2 - (intOf i).toNat)
                  case atStart => exact ⟨0, Nat.zero_le _, rfl, O10.out⟩
                  case round =>
                    clear O10
                    obtain ⟨j, hj, rfl, ho⟩ := hrel
                    have O11 := Lib.hid ho
                    clear ho
                    by_cases hlt : j < M + 1
                    · have hi1 : (j : Int) < 1 + (M : Int) := by omega
                      have HJ := Lib.hid (last_holds HROW.out hlt)
                      go_wp2_with fail
                      refine (O11.out.holds (1 + (N : Int) + 2 + (j : Int)) (K : Int) HK.out (by omega) true HJ.out).mono ?_
                      rintro e w12 ⟨rfl, ho12, _⟩
                      have O12 := Lib.hid ho12
                      clear ho12
                      go_wp2_with fail
                      go_roundw
                      case rel => exact ⟨j + 1, by omega, by go_num, O12.out⟩
                      case measure => simp [intOf]; omega
                    · have hend4 : 1 + (M : Int) ≤ (j : Int) := by omega
                      clear hlt hj
                      go_wp2_with fail
                      go_ret
                      exact ⟨rfl, O11.out.below⟩
end Go.Proofs.Ytfaahhipddlmgaa.KLShare
