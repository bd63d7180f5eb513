/- The law BitsGoal. -/
import Derived.Test.YtlpipnpcgancmaaDoorTAwake
import Derived.Test.YtlpipnpcgancmaaDoorTFacts
namespace Go.Proofs.YtlpipnpcgancmaaDoor.TGoal
open Go.RowKit WMem WPlain WAppend WCrc WSeal WAny TPlain TBits TSet TWalk TOrd TCut TBud TTurn TFace TTurnF TFind TAwake TFacts

theorem tstB_in {l : List UInt8} {k : Nat} (h : k < 2016) : tstB l (k : Int) = !fr l k := by
  have hp : placeB (k : Int) = true := by simp [placeB]; omega
  simp [tstB, hp]
theorem tstE_in {k : Nat} (h : k < 2016) : tstE (k : Int) = 0 := by
  have hp : placeB (k : Int) = true := by simp [placeB]; omega
  simp [tstE, hp]
theorem tstB_big {l : List UInt8} {k : Nat} (h : 2016 ≤ k) : tstB l (k : Int) = false := by
  have hp : placeB (k : Int) = false := by simp [placeB]; omega
  simp [tstB, hp]
theorem tstE_big {k : Nat} (h : 2016 ≤ k) : tstE (k : Int) = 22 := by
  have hp : placeB (k : Int) = false := by simp [placeB]; omega
  simp [tstE, hp]
section
variable (l : List UInt8) (len : Nat) (hlen : l.length = len) (B : Nat) (A : Option Addr) (c : Nat) (goal want : Int) (w : World) (hl : len ≤ 140737488355328) (hB : B ≤ w.heap.size) (hA : Sl w B A (l.map u8v)) (hT : Tab w) (x y : Int) (q : Bool) (hv : findV l goal want = .tuple #[.int .i64 x, .int .i64 y, .bool q])
include hlen hl hB hA hT hv
set_option maxHeartbeats 1000000 in
set_option maxRecDepth 100000 in
theorem goal_e (h1 : tstB l goal = false) (h2 : tstE goal = 22) :
    Calls Tryd.prog 7 #[.slice A len c, .int .i64 goal, .int .i64 want] w fun e w' => e = .returned (.bool true) ∧ Below w.heap.size w w' := by
  have ht := Tab.lt hT
  have HL := Lib.hid hlen
  have HA := Lib.hid hA
  have HB := Lib.hid hB
  have HT := Lib.hid hT
  have HV := Lib.hid hv
  have H1 := Lib.hid h1
  have H2 := Lib.hid h2
  clear hlen hA hB hT hv h1 h2
  go_enter Tryd.func7, Tryd.ntmps7
  go_wp2_with fail
  refine (awake_any w HT.out).mono ?_
  rintro e w1 ⟨rfl, hb1⟩
  have B1 := Lib.hid hb1
  have s1 := hb1.size
  have S1 := Lib.hid (HA.out.below_le hb1 HB.out)
  clear hb1
  go_wp2_with fail
  refine (Find_any l len HL.out B A c goal want w1 (by have := HB.out; omega) hl S1.out).mono ?_
  rintro e w2 ⟨rfl, hb2⟩
  rw [HV.out]
  have B2 := Lib.hid (B1.out.trans (hb2.mono s1))
  have S2 := Lib.hid (HA.out.below_le B2.out HB.out)
  have T1 := Lib.hid (Test_any l len HL.out B A c goal w2 hl S2.out)
  rw [H1.out, H2.out] at T1
  clear hb2
  go_wp2_with fail
  refine T1.out.mono ?_
  rintro e w' ⟨rfl, rfl⟩
  go_wp2
  go_ret
  exact ⟨rfl, B2.out⟩
set_option maxHeartbeats 1000000 in
set_option maxRecDepth 100000 in
theorem goal_t (h1 : tstB l goal = true) (h2 : tstE goal = 0) :
    Calls Tryd.prog 7 #[.slice A len c, .int .i64 goal, .int .i64 want] w fun e w' => e = .returned (.bool true) ∧ Below w.heap.size w w' := by
  have ht := Tab.lt hT
  have HL := Lib.hid hlen
  have HA := Lib.hid hA
  have HB := Lib.hid hB
  have HT := Lib.hid hT
  have HV := Lib.hid hv
  have H1 := Lib.hid h1
  have H2 := Lib.hid h2
  clear hlen hA hB hT hv h1 h2
  go_enter Tryd.func7, Tryd.ntmps7
  go_wp2_with fail
  refine (awake_any w HT.out).mono ?_
  rintro e w1 ⟨rfl, hb1⟩
  have B1 := Lib.hid hb1
  have s1 := hb1.size
  have S1 := Lib.hid (HA.out.below_le hb1 HB.out)
  clear hb1
  go_wp2_with fail
  refine (Find_any l len HL.out B A c goal want w1 (by have := HB.out; omega) hl S1.out).mono ?_
  rintro e w2 ⟨rfl, hb2⟩
  rw [HV.out]
  have B2 := Lib.hid (B1.out.trans (hb2.mono s1))
  have S2 := Lib.hid (HA.out.below_le B2.out HB.out)
  have T1 := Lib.hid (Test_any l len HL.out B A c goal w2 hl S2.out)
  rw [H1.out, H2.out] at T1
  clear hb2
  go_wp2_with fail
  refine T1.out.mono ?_
  rintro e w' ⟨rfl, rfl⟩
  go_wp2
  go_ret
  exact ⟨rfl, B2.out⟩
set_option maxHeartbeats 1000000 in
set_option maxRecDepth 100000 in
theorem goal_w (h1 : tstB l goal = false) (h2 : tstE goal = 0) (hw : want < 1) :
    Calls Tryd.prog 7 #[.slice A len c, .int .i64 goal, .int .i64 want] w fun e w' => e = .returned (.bool true) ∧ Below w.heap.size w w' := by
  have ht := Tab.lt hT
  have HL := Lib.hid hlen
  have HA := Lib.hid hA
  have HB := Lib.hid hB
  have HT := Lib.hid hT
  have HV := Lib.hid hv
  have H1 := Lib.hid h1
  have H2 := Lib.hid h2
  clear hlen hA hB hT hv h1 h2
  go_enter Tryd.func7, Tryd.ntmps7
  go_wp2_with fail
  refine (awake_any w HT.out).mono ?_
  rintro e w1 ⟨rfl, hb1⟩
  have B1 := Lib.hid hb1
  have s1 := hb1.size
  have S1 := Lib.hid (HA.out.below_le hb1 HB.out)
  clear hb1
  go_wp2_with fail
  refine (Find_any l len HL.out B A c goal want w1 (by have := HB.out; omega) hl S1.out).mono ?_
  rintro e w2 ⟨rfl, hb2⟩
  rw [HV.out]
  have B2 := Lib.hid (B1.out.trans (hb2.mono s1))
  have S2 := Lib.hid (HA.out.below_le B2.out HB.out)
  have T1 := Lib.hid (Test_any l len HL.out B A c goal w2 hl S2.out)
  rw [H1.out, H2.out] at T1
  clear hb2
  go_wp2_with fail
  refine T1.out.mono ?_
  rintro e w' ⟨rfl, rfl⟩
  go_wp2
  go_ret
  exact ⟨rfl, B2.out⟩
set_option maxHeartbeats 1000000 in
set_option maxRecDepth 100000 in
theorem goal_all (h1 : tstB l goal = false) (h2 : tstE goal = 0) (hw : ¬ want < 1) (gn n : Nat) (hg : goal = (gn : Int)) (hx : x = goal) (hy : y = (n : Int)) (hq : q = true) (hn1 : 1 ≤ n) (hn2 : (n : Int) ≤ want) (hgn : gn + n ≤ 2016) (hnw : (n : Int) = want) :
    Calls Tryd.prog 7 #[.slice A len c, .int .i64 goal, .int .i64 want] w fun e w' => e = .returned (.bool true) ∧ Below w.heap.size w w' := by
  subst hg hx hy hq
  have ht := Tab.lt hT
  have HL := Lib.hid hlen
  have HA := Lib.hid hA
  have HB := Lib.hid hB
  have HT := Lib.hid hT
  have HV := Lib.hid hv
  have H1 := Lib.hid h1
  have H2 := Lib.hid h2
  have d1 : ((gn : Int) == (gn : Int)) = true := by simp
  have d2 : decide ((n : Int) < 1) = false := by simp; omega
  have d2' : decide (n < 1) = false := by simp; omega
  have d3 : decide (want < (n : Int)) = false := by simp; omega
  have d4 : ((n : Int) == want) = true := by rw [beq_iff_eq]; exact hnw
  clear hnw
  clear hlen hA hB hT hv h1 h2
  go_enter Tryd.func7, Tryd.ntmps7
  go_wp2_with fail
  refine (awake_any w HT.out).mono ?_
  rintro e w1 ⟨rfl, hb1⟩
  have B1 := Lib.hid hb1
  have s1 := hb1.size
  have S1 := Lib.hid (HA.out.below_le hb1 HB.out)
  clear hb1
  go_wp2_with fail
  refine (Find_any l len HL.out B A c (gn : Int) want w1 (by have := HB.out; omega) hl S1.out).mono ?_
  rintro e w2 ⟨rfl, hb2⟩
  rw [HV.out]
  have B2 := Lib.hid (B1.out.trans (hb2.mono s1))
  have S2 := Lib.hid (HA.out.below_le B2.out HB.out)
  have T1 := Lib.hid (Test_any l len HL.out B A c (gn : Int) w2 hl S2.out)
  rw [H1.out, H2.out] at T1
  clear hb2
  go_wp2_with fail
  refine T1.out.mono ?_
  rintro e w' ⟨rfl, rfl⟩
  have T2 := Lib.hid (Test_any l len HL.out B A c ((gn : Int) + (n : Int)) w2 hl S2.out)
  generalize tstB l ((gn : Int) + (n : Int)) = t2 at T2
  generalize tstE ((gn : Int) + (n : Int)) = e2 at T2
  go_wp2_with (go_at_call 16; refine T2.out.mono ?_; rintro e w' ⟨rfl, rfl⟩)
  go_ret
  exact ⟨rfl, B2.out⟩
set_option maxHeartbeats 1000000 in
set_option maxRecDepth 100000 in
theorem goal_end (h1 : tstB l goal = false) (h2 : tstE goal = 0) (hw : ¬ want < 1) (gn n : Nat) (hg : goal = (gn : Int)) (hx : x = goal) (hy : y = (n : Int)) (hq : q = true) (hn1 : 1 ≤ n) (hn2 : (n : Int) ≤ want) (hgn : gn + n ≤ 2016) (hnw : (n : Int) < want) (h3 : tstB l ((gn : Int) + (n : Int)) = true) (h4 : tstE ((gn : Int) + (n : Int)) = 0) :
    Calls Tryd.prog 7 #[.slice A len c, .int .i64 goal, .int .i64 want] w fun e w' => e = .returned (.bool true) ∧ Below w.heap.size w w' := by
  subst hg hx hy hq
  have ht := Tab.lt hT
  have HL := Lib.hid hlen
  have HA := Lib.hid hA
  have HB := Lib.hid hB
  have HT := Lib.hid hT
  have HV := Lib.hid hv
  have H1 := Lib.hid h1
  have H2 := Lib.hid h2
  have d1 : ((gn : Int) == (gn : Int)) = true := by simp
  have d2 : decide ((n : Int) < 1) = false := by simp; omega
  have d2' : decide (n < 1) = false := by simp; omega
  have d3 : decide (want < (n : Int)) = false := by simp; omega
  have d4 : ((n : Int) == want) = false := by rw [beq_eq_false_iff_ne]; omega
  have H3 := Lib.hid h3
  have H4 := Lib.hid h4
  clear hlen hA hB hT hv h1 h2 h3 h4
  go_enter Tryd.func7, Tryd.ntmps7
  go_wp2_with fail
  refine (awake_any w HT.out).mono ?_
  rintro e w1 ⟨rfl, hb1⟩
  have B1 := Lib.hid hb1
  have s1 := hb1.size
  have S1 := Lib.hid (HA.out.below_le hb1 HB.out)
  clear hb1
  go_wp2_with fail
  refine (Find_any l len HL.out B A c (gn : Int) want w1 (by have := HB.out; omega) hl S1.out).mono ?_
  rintro e w2 ⟨rfl, hb2⟩
  rw [HV.out]
  have B2 := Lib.hid (B1.out.trans (hb2.mono s1))
  have S2 := Lib.hid (HA.out.below_le B2.out HB.out)
  have T1 := Lib.hid (Test_any l len HL.out B A c (gn : Int) w2 hl S2.out)
  rw [H1.out, H2.out] at T1
  clear hb2
  go_wp2_with fail
  refine T1.out.mono ?_
  rintro e w' ⟨rfl, rfl⟩
  have T2 := Lib.hid (Test_any l len HL.out B A c ((gn : Int) + (n : Int)) w2 hl S2.out)
  rw [H3.out, H4.out] at T2
  go_wp2_with (go_at_call 16; refine T2.out.mono ?_; rintro e w' ⟨rfl, rfl⟩)
  go_ret
  exact ⟨rfl, B2.out⟩
set_option maxHeartbeats 1000000 in
set_option maxRecDepth 100000 in
theorem goal_out (h1 : tstB l goal = false) (h2 : tstE goal = 0) (hw : ¬ want < 1) (gn n : Nat) (hg : goal = (gn : Int)) (hx : x = goal) (hy : y = (n : Int)) (hq : q = true) (hn1 : 1 ≤ n) (hn2 : (n : Int) ≤ want) (hgn : gn + n ≤ 2016) (hnw : (n : Int) < want) (h3 : tstB l ((gn : Int) + (n : Int)) = false) (h4 : tstE ((gn : Int) + (n : Int)) = 22) :
    Calls Tryd.prog 7 #[.slice A len c, .int .i64 goal, .int .i64 want] w fun e w' => e = .returned (.bool true) ∧ Below w.heap.size w w' := by
  subst hg hx hy hq
  have ht := Tab.lt hT
  have HL := Lib.hid hlen
  have HA := Lib.hid hA
  have HB := Lib.hid hB
  have HT := Lib.hid hT
  have HV := Lib.hid hv
  have H1 := Lib.hid h1
  have H2 := Lib.hid h2
  have d1 : ((gn : Int) == (gn : Int)) = true := by simp
  have d2 : decide ((n : Int) < 1) = false := by simp; omega
  have d2' : decide (n < 1) = false := by simp; omega
  have d3 : decide (want < (n : Int)) = false := by simp; omega
  have d4 : ((n : Int) == want) = false := by rw [beq_eq_false_iff_ne]; omega
  have H3 := Lib.hid h3
  have H4 := Lib.hid h4
  clear hlen hA hB hT hv h1 h2 h3 h4
  go_enter Tryd.func7, Tryd.ntmps7
  go_wp2_with fail
  refine (awake_any w HT.out).mono ?_
  rintro e w1 ⟨rfl, hb1⟩
  have B1 := Lib.hid hb1
  have s1 := hb1.size
  have S1 := Lib.hid (HA.out.below_le hb1 HB.out)
  clear hb1
  go_wp2_with fail
  refine (Find_any l len HL.out B A c (gn : Int) want w1 (by have := HB.out; omega) hl S1.out).mono ?_
  rintro e w2 ⟨rfl, hb2⟩
  rw [HV.out]
  have B2 := Lib.hid (B1.out.trans (hb2.mono s1))
  have S2 := Lib.hid (HA.out.below_le B2.out HB.out)
  have T1 := Lib.hid (Test_any l len HL.out B A c (gn : Int) w2 hl S2.out)
  rw [H1.out, H2.out] at T1
  clear hb2
  go_wp2_with fail
  refine T1.out.mono ?_
  rintro e w' ⟨rfl, rfl⟩
  have T2 := Lib.hid (Test_any l len HL.out B A c ((gn : Int) + (n : Int)) w2 hl S2.out)
  rw [H3.out, H4.out] at T2
  go_wp2_with (go_at_call 16; refine T2.out.mono ?_; rintro e w' ⟨rfl, rfl⟩)
  go_ret
  exact ⟨rfl, B2.out⟩
end
theorem goal (l : List UInt8) (B : Nat) (A : Option Addr) (c : Nat) (goal want : Int) (w : World) (hw64 : want ≤ 9223372036854775807) (hl : l.length ≤ 140737488355328) (hB : B ≤ w.heap.size) (hA : Sl w B A (l.map u8v)) (hT : Tab w) :
    Calls Tryd.prog 7 #[.slice A l.length c, .int .i64 goal, .int .i64 want] w fun e w' => e = .returned (.bool true) ∧ Below w.heap.size w w' := by
  cases hp : placeB goal with
  | false => exact goal_e l _ rfl B A c goal want w hl hB hA hT _ _ _ rfl (by simp [tstB, hp]) (by simp [tstE, hp])
  | true =>
    have h2 : 0 ≤ goal ∧ goal < 2016 := by simpa [placeB] using hp
    obtain ⟨gn, rfl⟩ := Int.eq_ofNat_of_zero_le h2.1
    have hE : tstE (gn : Int) = 0 := by simp [tstE, hp]
    cases hf : fr l gn with
    | false => exact goal_t l _ rfl B A c _ want w hl hB hA hT _ _ _ rfl (by simp [tstB, hp, hf]) hE
    | true =>
      have hB1 : tstB l (gn : Int) = false := by simp [tstB, hp, hf]
      by_cases hw : want < 1
      · exact goal_w l _ rfl B A c _ want w hl hB hA hT _ _ _ rfl hB1 hE hw
      · obtain ⟨m, rfl⟩ := Int.eq_ofNat_of_zero_le (show 0 ≤ want by omega)
        have hv := findV_goal (l := l) (goal := (gn : Int)) (want := (m : Int)) hw (by unfold goalB; rw [hp, Int.toNat_natCast, hf]; rfl)
        rw [Int.toNat_natCast, Int.toNat_natCast] at hv
        have hfree := run_free (fr l) m gn
        have hle := run_le (fr l) m gn
        have hend := run_end (fr l) m gn
        have h1r : 1 ≤ run (fr l) gn m := by
          cases m with
          | zero => omega
          | succ m => simp only [run]; rw [if_pos hf]; omega
        generalize run (fr l) gn m = n at *
        have hgn : gn + n ≤ 2016 := by
          have := free_lt (hfree (n - 1) (by omega))
          omega
        by_cases hnw : n = m
        · exact goal_all l _ rfl B A c _ _ w hl hB hA hT _ _ _ hv hB1 hE hw gn n rfl rfl rfl rfl h1r (by omega) hgn (by omega)
        · have he := hend (by omega)
          have ec : (gn : Int) + (n : Int) = ((gn + n : Nat) : Int) := by omega
          by_cases h16 : gn + n < 2016
          · refine goal_end l _ rfl B A c _ _ w hl hB hA hT _ _ _ hv hB1 hE hw gn n rfl rfl rfl rfl h1r (by omega) hgn (by omega) ?_ ?_
            · rw [ec, tstB_in h16, he]; rfl
            · rw [ec, tstE_in h16]
          · refine goal_out l _ rfl B A c _ _ w hl hB hA hT _ _ _ hv hB1 hE hw gn n rfl rfl rfl rfl h1r (by omega) hgn (by omega) ?_ ?_
            · rw [ec, tstB_big (by omega)]
            · rw [ec, tstE_big (by omega)]
end Go.Proofs.YtlpipnpcgancmaaDoor.TGoal
