/- The document's Find. -/
import Derived.Test.YtlpipnpcgancmaaDoorTRefSum
import Derived.Test.YtlpipnpcgancmaaDoorTFind
namespace Go.Proofs.YtlpipnpcgancmaaDoor.TRefFind
open Go.RowKit WMem WPlain TPlain TBits TSet TWalk TOrd TCut TBud TFind TNext TRefOrd TRefSum

theorem goalB_frI (l : List UInt8) (goal : Int) : goalB l goal = frI l goal := by
  unfold goalB frI placeB
  by_cases h : 0 ≤ goal
  · by_cases h2 : goal < 2016
    · simp [h, h2]
    · rw [fr_big (by omega)]; simp
  · simp [h]
theorem zer_none {F : Nat → Bool} {N : Nat} (h : zer F N = 0) : ∀ i, i < N → F i = false := by
  induction N with
  | zero => intro i hi; omega
  | succ n ih =>
    simp only [zer] at h
    intro i hi
    by_cases e : i = n
    · subst e
      cases hf : F i with
      | false => rfl
      | true => rw [hf] at h; simp at h
    · exact ih (by omega) i (by omega)
theorem cnt_zero {F : Nat → Bool} {k N : Nat} (h : ∀ i, i < N → F i = false) : cnt F k N = 0 := by
  induction N with
  | zero => rfl
  | succ n ih =>
    simp only [cnt]
    rw [ih fun i hi => h i (by omega), bud_free (h n (by omega))]
    rfl
theorem pick_none {l : List UInt8} {want : Int} (h : ∀ j, j ≤ 10 → ordN l j = 0) : pick l want = -1 := by
  have ho := ordOf_le want
  exact chs_none (fun i _ h2 => by simp [hasB, h i (by omega)]) (fun i h2 => by simp [hasB, h i (by omega)])
theorem findV_empty {l : List UInt8} {goal want : Int} (h : zeros l = 0) : findV l goal want = .tuple #[.int .i64 0, .int .i64 0, .bool false] := by
  by_cases hw : want < 1
  · exact findV_small hw
  · have hz : ∀ i, fr l i = false := fun i => by
      by_cases hi : i < 2016
      · exact zer_none h i hi
      · exact fr_big (by omega)
    refine findV_none hw (by simp [goalB, hz]) ?_
    rw [pick_none fun j _ => cnt_zero fun i _ => hz i]
    omega
theorem tup_run {g a b : Nat} (h : a = b) : Value.tuple #[.int .i64 (g : Nat), .int .i64 (b : Nat), .bool true] = Value.tuple #[.int .i64 (g : Nat), .int .i64 (a : Nat), .bool true] := by rw [h]
set_option maxHeartbeats 1000000 in
set_option maxRecDepth 100000 in
theorem refFind_small (len : Nat) (A : Option Addr) (c : Nat) (goal want : Int) (w : World) (h : want < 1) :
    Calls Tryd.prog 22 #[.slice A len c, .int .i64 goal, .int .i64 want] w fun e w' => e = .returned (.tuple #[.int .i64 0, .int .i64 0, .bool false]) ∧ Below w.heap.size w w' := by
  have d0 : decide (want < 1) = true := by simpa using h
  clear h
  go_enter Tryd.func22, Tryd.ntmps22
  go_wp2
  go_ret3
  exact ⟨rfl, Below.refl _ _⟩
set_option maxHeartbeats 1000000 in
set_option maxRecDepth 100000 in
theorem refFind_empty (l : List UInt8) (len : Nat) (hlen : l.length = len) (B : Nat) (A : Option Addr) (c : Nat) (goal want : Int) (w : World) (h : ¬ want < 1) (hz : zeros l = 0) (hl : len ≤ 140737488355328) (hA : Sl w B A (l.map u8v)) :
    Calls Tryd.prog 22 #[.slice A len c, .int .i64 goal, .int .i64 want] w fun e w' => e = .returned (.tuple #[.int .i64 0, .int .i64 0, .bool false]) ∧ Below w.heap.size w w' := by
  have HZ := Lib.hid (refZeros_any l len hlen B A c w hl hA)
  rw [hz] at HZ
  have d0 : decide (want < 1) = false := by simpa using h
  clear hz hA hlen h
  go_enter Tryd.func22, Tryd.ntmps22
  go_wp2_with (go_at_call 24; refine HZ.out.mono ?_; rintro e w' ⟨rfl, rfl⟩)
  go_ret3
  exact ⟨rfl, Below.refl _ _⟩
set_option maxHeartbeats 1000000 in
set_option maxRecDepth 100000 in
theorem refFind_goal (l : List UInt8) (len : Nat) (hlen : l.length = len) (B : Nat) (A : Option Addr) (c goal want : Nat) (w : World) (hg : goal < 2016) (hf : fr l goal = true) (h : 1 ≤ want) (hwl : want ≤ 9223372036854775807) (z : Nat) (hz : zeros l = z) (hz0 : z ≠ 0) (hl : len ≤ 140737488355328) (hA : Sl w B A (l.map u8v)) :
    Calls Tryd.prog 22 #[.slice A len c, .int .i64 goal, .int .i64 want] w fun e w' => e = .returned (.tuple #[.int .i64 goal, .int .i64 (run (fr l) goal want : Nat), .bool true]) ∧ Below w.heap.size w w' := by
  have HL := Lib.hid hlen
  have HA := Lib.hid hA
  have HF := Lib.hid hf
  have HZ := Lib.hid (refZeros_any l len hlen B A c w hl hA)
  rw [hz] at HZ
  have d0 : decide ((want : Int) < 1) = false := by simp; omega
  have d1 : ((z : Int) == 0) = false := by rw [beq_eq_false_iff_ne]; omega
  clear hz hA hlen hf hz0
  go_enter Tryd.func22, Tryd.ntmps22
  go_wp2_with (first
    | (go_at_call 24; refine HZ.out.mono ?_; rintro e w' ⟨rfl, rfl⟩)
    | (go_at_call 33; refine (refSet_nat l len HL.out B A c goal _ rfl true HF.out _ hl HA.out).mono ?_; rintro e w' ⟨rfl, rfl⟩))
  go_loop [9] (fun v => ∃ m : Nat, m ≤ want ∧ goal + m ≤ 2016 ∧ v = .int .i64 m ∧ ∀ j, j < m → fr l (goal + j) = true) (fun v => 2016 - (intOf v).toNat)
  case atStart => exact ⟨0, Nat.zero_le _, by omega, rfl, fun j hj => by omega⟩
  case round =>
    obtain ⟨m, hm, hgm, rfl, hall⟩ := hrel
    have H := Lib.hid hall
    clear hall
    by_cases hlt : m < want
    · have e0 : decide ((m : Int) < (want : Int)) = true := by simp; omega
      have e0' : decide (m < want) = true := by simp; omega
      cases hq : fr l (goal + m) with
      | true =>
        have h16 : goal + m < 2016 := by
          refine Nat.lt_of_not_le fun h2 => ?_
          rw [fr_big h2] at hq; cases hq
        have HQ := Lib.hid hq
        clear hq
        go_wp2_with (go_at_call 33; refine (refSet_nat l len HL.out B A c (goal + m) _ (by omega) true HQ.out _ hl HA.out).mono ?_; rintro e w' ⟨rfl, rfl⟩)
        go_round
        case rel =>
          refine ⟨m + 1, by omega, by omega, by go_num, fun j hj => ?_⟩
          by_cases e : j = m
          · subst e; exact HQ.out
          · exact H.out j (by omega)
        case measure => simp [intOf]; omega
      | false =>
        have HQ := Lib.hid hq
        clear hq
        go_wp2_with (go_at_call 33; refine (refSet_nat l len HL.out B A c (goal + m) _ (by omega) false HQ.out _ hl HA.out).mono ?_; rintro e w' ⟨rfl, rfl⟩)
        go_ret3
        exact ⟨ret_v (tup_run (run_is (fr l) goal want m hm H.out (.inr HQ.out))), Below.refl _ _⟩
    · obtain rfl : m = want := by omega
      go_wp2
      go_ret3
      exact ⟨ret_v (tup_run (run_is (fr l) goal m m hm H.out (.inl rfl))), Below.refl _ _⟩
theorem firstI_yes {l : List UInt8} {k : Nat} (h : hasB (ordN l) k = true) : firstI l k = (firN l k : Nat) := by
  have : 0 < ordN l k := by simpa [hasB] using h
  simp [firstI, this]
theorem firstI_no {l : List UInt8} {k : Nat} (h : hasB (ordN l) k = false) : firstI l k = -1 := by
  have : ¬ 0 < ordN l k := by simpa [hasB] using h
  simp [firstI]; omega
theorem findV_up {l : List UInt8} {goal want want' : Int} {k j : Nat} (h : ¬ want < 1) (hg : goalB l goal = false) (hw : want' = min want 1024) (hk : ordOf want = k) (hk2 : want' ≤ ((2 ^ k : Nat) : Int)) (hkj : k ≤ j) (hj : j ≤ 10) (hn : ∀ i, k ≤ i → i < j → hasB (ordN l) i = false) (hp : hasB (ordN l) j = true) (hk3 : 1024 < want → k = 10) :
    findV l goal want = .tuple #[.int .i64 (firN l j : Nat), .int .i64 want', .bool true] := by
  have e : pick l want = (j : Int) := by unfold pick; rw [hk]; exact chs_up hkj hj hn hp
  rw [findV_some h hg (by omega), e, Int.toNat_natCast]
  have h2 : 2 ^ k ≤ 2 ^ j := Nat.pow_le_pow_right (by decide) hkj
  have h3 : min want ((2 ^ j : Nat) : Int) = want' := by
    by_cases hb : 1024 < want
    · have := hk3 hb
      obtain rfl : j = 10 := by omega
      rw [hw]; rfl
    · generalize 2 ^ j = x at *
      generalize 2 ^ k = y at *
      omega
  rw [h3]
theorem findV_down {l : List UInt8} {goal want : Int} {k j : Nat} (h : ¬ want < 1) (hg : goalB l goal = false) (hk : ordOf want = k) (hjk : j < k) (hn : ∀ i, k ≤ i → i < 11 → hasB (ordN l) i = false) (hm : ∀ i, j < i → i < k → hasB (ordN l) i = false) (hp : hasB (ordN l) j = true) (hj : ((2 ^ j : Nat) : Int) < want) (q : Nat) (hq : 2 ^ j = q) :
    findV l goal want = .tuple #[.int .i64 (firN l j : Nat), .int .i64 (q : Int), .bool true] := by
  have e : pick l want = (j : Int) := by unfold pick; rw [hk]; exact chs_down hn hjk hm hp
  rw [findV_some h hg (by omega), e, Int.toNat_natCast, Int.min_eq_right (by omega), hq]
theorem findV_nil {l : List UInt8} {goal want : Int} {k : Nat} (h : ¬ want < 1) (hg : goalB l goal = false) (hk : ordOf want = k) (hn : ∀ i, k ≤ i → i < 11 → hasB (ordN l) i = false) (hm : ∀ i, i < k → hasB (ordN l) i = false) :
    findV l goal want = .tuple #[.int .i64 0, .int .i64 0, .bool false] := by
  refine findV_none h hg ?_
  unfold pick
  rw [hk, chs_none hn hm]
  omega
/-! Where the goal is not free. -/
theorem shl_wrap {k q : Nat} (hk : k ≤ 10) (hq : 2 ^ k = q) : IntKind.i64.wrap (2 ^ k) = (q : Int) := by
  have hp := pow10 hk
  rw [hq] at hp
  have e1 : (2 ^ k : Int) = (q : Int) := by rw [← hq]; push_cast; rfl
  rw [e1, IntKind.wrap_i64]
  omega
set_option maxHeartbeats 1000000 in
set_option maxRecDepth 100000 in
theorem refFind_low (l : List UInt8) (len : Nat) (hlen : l.length = len) (B : Nat) (A : Option Addr) (c : Nat) (goal : Int) (want : Nat) (h1 : 1 ≤ want) (h2 : want ≤ 1024) (w : World) (hg : goalB l goal = false) (z : Nat) (hz : zeros l = z) (hz0 : z ≠ 0) (hl : len ≤ 140737488355328) (hA : Sl w B A (l.map u8v)) :
    Calls Tryd.prog 22 #[.slice A len c, .int .i64 goal, .int .i64 want] w fun e w' => e = .returned (findV l goal want) ∧ Below w.heap.size w w' := by
  have HL := Lib.hid hlen
  have HA := Lib.hid hA
  have HG := Lib.hid hg
  have HZ := Lib.hid (refZeros_any l len hlen B A c w hl hA)
  rw [hz] at HZ
  have HS := Lib.hid (refSet_any l len hlen B A c goal false (by rw [← goalB_frI]; exact hg) w hl hA)
  have hnw : ¬ ((want : Int) < 1) := by omega
  have HNW := Lib.hid hnw
  have d0 : decide ((want : Int) < 1) = false := by simp; omega
  have d1 : ((z : Int) == 0) = false := by rw [beq_eq_false_iff_ne]; omega
  have hmin : ¬ ((1024 : Int) < (want : Int)) := by omega
  clear hz hA hlen hg hz0 hnw
  go_enter Tryd.func22, Tryd.ntmps22
  go_wp2_with (first
    | (go_at_call 24; refine HZ.out.mono ?_; rintro e w' ⟨rfl, rfl⟩)
    | (go_at_call 33; refine HS.out.mono ?_; rintro e w' ⟨rfl, rfl⟩))
  go_loop [10] (fun v => ∃ k : Nat, k ≤ 10 ∧ v = .int .i64 k ∧ ∀ j, j < k → ((2 ^ j : Nat) : Int) < (want : Int)) (fun v => 10 - (intOf v).toNat)
  case atStart => exact ⟨0, Nat.zero_le _, rfl, fun j hj => by omega⟩
  case round =>
    obtain ⟨k, hk, rfl, hsm⟩ := hrel
    have HK := Lib.hid hsm
    clear hsm
    obtain ⟨q, hq⟩ : ∃ q, 2 ^ k = q := ⟨_, rfl⟩
    have hw := shl_go hk hq
    by_cases hlt : q < want
    · have e0 : decide ((q : Int) < (want : Int)) = true := by simp; omega
      have hk10 : k < 10 := by
        refine Nat.lt_of_not_le fun h10 => ?_
        obtain rfl : k = 10 := by omega
        have : (2 : Nat) ^ 10 = 1024 := rfl
        omega
      have HQ : Hid (((2 ^ k : Nat) : Int) < (want : Int)) := Lib.hid (by rw [hq]; omega)
      clear hq
      go_wp2
      go_round
      case rel =>
        refine ⟨k + 1, by omega, by go_num, fun j hj => ?_⟩
        by_cases e : j = k
        · subst e; exact HQ.out
        · exact HK.out j (by omega)
      case measure => simp [intOf]; omega
    · have e0 : decide ((q : Int) < (want : Int)) = false := by simp; omega
      have hpq := pow10 hk
      rw [hq] at hpq
      have HK2 : Hid (1024 < (want : Int) → k = 10) := Lib.hid (by
        intro hb
        omega)
      have HO : Hid (ordOf want = k) := Lib.hid (ordOf_is (fun j hj => by have := HK.out j hj; omega) (by
        by_cases h10 : k = 10
        · exact .inr h10
        · exact .inl ⟨by omega, by rw [hq]; have := HK2.out; omega⟩))
      have HQ : Hid ((want : Int) ≤ ((2 ^ k : Nat) : Int)) := Lib.hid (by rw [hq]; omega)
      have HM : Hid ((want : Int) = min (want : Int) 1024) := Lib.hid (by omega)
      clear hq
      have hk1 : wrap64 ((k : Int) - 1) = (k : Int) - 1 := IntWalk.wrap64_in _ ⟨by omega, by omega⟩
      go_wp2
      go_loop [11] (fun v => ∃ j : Nat, k ≤ j ∧ j ≤ 11 ∧ v = .int .i64 j ∧ ∀ i, k ≤ i → i < j → hasB (ordN l) i = false) (fun v => 11 - (intOf v).toNat)
      case atStart => exact ⟨k, Nat.le_refl _, by omega, rfl, fun i h1 h2 => by omega⟩
      case round =>
        obtain ⟨j, hkj, hj, rfl, hno⟩ := hrel
        have HN := Lib.hid hno
        clear hno
        by_cases hlt2 : j < 11
        · have f0 : decide ((j : Int) ≤ 10) = true := by simp; omega
          have HX := Lib.hid (first_any l len HL.out B A c j w (by omega) hl HA.out)
          cases hb : hasB (ordN l) j with
          | true =>
            rw [firstI_yes hb] at HX
            have HV := Lib.hid (findV_up (want := want) (want' := (want : Int)) (by have := HNW.out; omega) HG.out HM.out HO.out HQ.out hkj (by omega) HN.out hb HK2.out)
            obtain ⟨x, hx⟩ : ∃ x, firN l j = x := ⟨_, rfl⟩
            rw [hx] at HX HV
            clear hx hb
            go_wp2_with (go_at_call 42; refine HX.out.mono ?_; rintro e w' ⟨rfl, rfl⟩)
            go_ret3
            exact ⟨ret_v HV.out.symm, Below.refl _ _⟩
          | false =>
            rw [firstI_no hb] at HX
            have HB := Lib.hid hb
            clear hb
            go_wp2_with (go_at_call 42; refine HX.out.mono ?_; rintro e w' ⟨rfl, rfl⟩)
            go_round
            case rel =>
              refine ⟨j + 1, by omega, by omega, by go_num, fun i h1 h2 => ?_⟩
              by_cases e : i = j
              · subst e; exact HB.out
              · exact HN.out i h1 (by omega)
            case measure => simp [intOf]; omega
        · obtain rfl : j = 11 := by omega
          have f0 : decide (((11 : Nat) : Int) ≤ 10) = false := by decide
          go_wp2
          go_loopw [13] (fun v wr => ∃ (j n : Nat), j ≤ k ∧ v = .int .i64 ((j : Int) - 1) ∧ (∀ i, j ≤ i → i < k → hasB (ordN l) i = false) ∧ wr = w.drewN n) (fun v _ => (intOf v + 1).toNat)
          case atStart => exact ⟨k, 0, Nat.le_refl _, rfl, fun i h1 h2 => by omega, rfl⟩
          case round =>
            obtain ⟨j, n, hjk, rfl, hno, rfl⟩ := hrel
            have HY := Lib.hid hno
            clear hno
            rcases j with _ | j
            · rw [show (((0 : Nat) : Int) - 1) = -1 by omega]
              go_wp2
              go_ret3
              exact ⟨ret_v (findV_nil (want := want) (by have := HNW.out; omega) HG.out HO.out HN.out fun i h => HY.out i (by omega) h).symm, below_drewN (Below.refl _ _) n⟩
            · rw [show (((j + 1 : Nat) : Int) - 1) = (j : Int) by omega]
              have HX := Lib.hid (first_any l len HL.out B A c j (w.drewN n) (by omega) hl (HA.out.drewN n))
              have hjw : wrap64 ((j : Int) - 1) = (j : Int) - 1 := IntWalk.wrap64_in _ ⟨by omega, by omega⟩
              cases hb : hasB (ordN l) j with
              | true =>
                rw [firstI_yes hb] at HX
                obtain ⟨y, hy⟩ : ∃ y, 2 ^ j = y := ⟨_, rfl⟩
                have HV := Lib.hid (findV_down (want := want) (by have := HNW.out; omega) HG.out HO.out (by omega) HN.out (fun i h1 h2 => HY.out i (by omega) h2) hb (by have := HK.out j (by omega); omega) y hy)
                obtain ⟨x, hx⟩ : ∃ x, firN l j = x := ⟨_, rfl⟩
                rw [hx] at HX HV
                have hwy2 := shl_wrap (show j ≤ 10 by omega) hy
                clear hx hb hy
                go_wp2_with (go_at_call 42; refine HX.out.mono ?_; rintro e w' ⟨rfl, rfl⟩)
                go_quiet (fail)
                go_wp2
                go_ret3
                exact ⟨ret_v HV.out.symm, below_drewN (below_drewN (Below.refl _ _) n) _⟩
              | false =>
                rw [firstI_no hb] at HX
                have HB := Lib.hid hb
                clear hb
                go_wp2_with (go_at_call 42; refine HX.out.mono ?_; rintro e w' ⟨rfl, rfl⟩)
                go_roundw
                case rel =>
                  refine ⟨j, n, by omega, rfl, fun i h1 h2 => ?_, rfl⟩
                  by_cases e : i = j
                  · subst e; exact HB.out
                  · exact HY.out i (by omega) h2
                case measure => simp [intOf]
set_option maxHeartbeats 1000000 in
set_option maxRecDepth 100000 in
theorem refFind_high (l : List UInt8) (len : Nat) (hlen : l.length = len) (B : Nat) (A : Option Addr) (c : Nat) (goal : Int) (want : Int) (h2 : 1024 < want) (w : World) (hg : goalB l goal = false) (z : Nat) (hz : zeros l = z) (hz0 : z ≠ 0) (hl : len ≤ 140737488355328) (hA : Sl w B A (l.map u8v)) :
    Calls Tryd.prog 22 #[.slice A len c, .int .i64 goal, .int .i64 want] w fun e w' => e = .returned (findV l goal want) ∧ Below w.heap.size w w' := by
  have HL := Lib.hid hlen
  have HA := Lib.hid hA
  have HG := Lib.hid hg
  have HZ := Lib.hid (refZeros_any l len hlen B A c w hl hA)
  rw [hz] at HZ
  have HS := Lib.hid (refSet_any l len hlen B A c goal false (by rw [← goalB_frI]; exact hg) w hl hA)
  have hnw : ¬ ((want : Int) < 1) := by omega
  have HNW := Lib.hid hnw
  have d0 : decide ((want : Int) < 1) = false := by simp; omega
  have d1 : ((z : Int) == 0) = false := by rw [beq_eq_false_iff_ne]; omega
  clear hz hA hlen hg hz0 hnw
  go_enter Tryd.func22, Tryd.ntmps22
  go_wp2_with (first
    | (go_at_call 24; refine HZ.out.mono ?_; rintro e w' ⟨rfl, rfl⟩)
    | (go_at_call 33; refine HS.out.mono ?_; rintro e w' ⟨rfl, rfl⟩))
  go_loop [10] (fun v => ∃ k : Nat, k ≤ 10 ∧ v = .int .i64 k ∧ ∀ j, j < k → ((2 ^ j : Nat) : Int) < (1024 : Int)) (fun v => 10 - (intOf v).toNat)
  case atStart => exact ⟨0, Nat.zero_le _, rfl, fun j hj => by omega⟩
  case round =>
    obtain ⟨k, hk, rfl, hsm⟩ := hrel
    have HK := Lib.hid hsm
    clear hsm
    obtain ⟨q, hq⟩ : ∃ q, 2 ^ k = q := ⟨_, rfl⟩
    have hw := shl_go hk hq
    by_cases hlt : q < 1024
    · have e0 : decide ((q : Int) < (1024 : Int)) = true := by simp; omega
      have hk10 : k < 10 := by
        refine Nat.lt_of_not_le fun h10 => ?_
        obtain rfl : k = 10 := by omega
        have : (2 : Nat) ^ 10 = 1024 := rfl
        omega
      have HQ : Hid (((2 ^ k : Nat) : Int) < (1024 : Int)) := Lib.hid (by rw [hq]; omega)
      clear hq
      go_wp2
      go_round
      case rel =>
        refine ⟨k + 1, by omega, by go_num, fun j hj => ?_⟩
        by_cases e : j = k
        · subst e; exact HQ.out
        · exact HK.out j (by omega)
      case measure => simp [intOf]; omega
    · have e0 : decide ((q : Int) < (1024 : Int)) = false := by simp; omega
      have hpq := pow10 hk
      rw [hq] at hpq
      have HK2 : Hid (1024 < (want : Int) → k = 10) := Lib.hid (by
        intro hb
        refine Classical.byContradiction fun h9 => ?_
        have h512 : 2 ^ k ≤ 2 ^ 9 := Nat.pow_le_pow_right (by decide) (by omega)
        rw [hq] at h512
        have : (2 : Nat) ^ 9 = 512 := rfl
        omega)
      have HO : Hid (ordOf want = k) := Lib.hid (ordOf_is (fun j hj => by have := HK.out j hj; omega) (by
        by_cases h10 : k = 10
        · exact .inr h10
        · exact .inl ⟨by omega, by rw [hq]; have := HK2.out; omega⟩))
      have HQ : Hid ((1024 : Int) ≤ ((2 ^ k : Nat) : Int)) := Lib.hid (by rw [hq]; omega)
      have HM : Hid ((1024 : Int) = min (want : Int) 1024) := Lib.hid (by omega)
      clear hq
      have hk1 : wrap64 ((k : Int) - 1) = (k : Int) - 1 := IntWalk.wrap64_in _ ⟨by omega, by omega⟩
      go_wp2
      go_loop [11] (fun v => ∃ j : Nat, k ≤ j ∧ j ≤ 11 ∧ v = .int .i64 j ∧ ∀ i, k ≤ i → i < j → hasB (ordN l) i = false) (fun v => 11 - (intOf v).toNat)
      case atStart => exact ⟨k, Nat.le_refl _, by omega, rfl, fun i h1 h2 => by omega⟩
      case round =>
        obtain ⟨j, hkj, hj, rfl, hno⟩ := hrel
        have HN := Lib.hid hno
        clear hno
        by_cases hlt2 : j < 11
        · have f0 : decide ((j : Int) ≤ 10) = true := by simp; omega
          have HX := Lib.hid (first_any l len HL.out B A c j w (by omega) hl HA.out)
          cases hb : hasB (ordN l) j with
          | true =>
            rw [firstI_yes hb] at HX
            have HV := Lib.hid (findV_up (want := want) (want' := (1024 : Int)) (by have := HNW.out; omega) HG.out HM.out HO.out HQ.out hkj (by omega) HN.out hb HK2.out)
            obtain ⟨x, hx⟩ : ∃ x, firN l j = x := ⟨_, rfl⟩
            rw [hx] at HX HV
            clear hx hb
            go_wp2_with (go_at_call 42; refine HX.out.mono ?_; rintro e w' ⟨rfl, rfl⟩)
            go_ret3
            exact ⟨ret_v HV.out.symm, Below.refl _ _⟩
          | false =>
            rw [firstI_no hb] at HX
            have HB := Lib.hid hb
            clear hb
            go_wp2_with (go_at_call 42; refine HX.out.mono ?_; rintro e w' ⟨rfl, rfl⟩)
            go_round
            case rel =>
              refine ⟨j + 1, by omega, by omega, by go_num, fun i h1 h2 => ?_⟩
              by_cases e : i = j
              · subst e; exact HB.out
              · exact HN.out i h1 (by omega)
            case measure => simp [intOf]; omega
        · obtain rfl : j = 11 := by omega
          have f0 : decide (((11 : Nat) : Int) ≤ 10) = false := by decide
          go_wp2
          go_loopw [13] (fun v wr => ∃ (j n : Nat), j ≤ k ∧ v = .int .i64 ((j : Int) - 1) ∧ (∀ i, j ≤ i → i < k → hasB (ordN l) i = false) ∧ wr = w.drewN n) (fun v _ => (intOf v + 1).toNat)
          case atStart => exact ⟨k, 0, Nat.le_refl _, rfl, fun i h1 h2 => by omega, rfl⟩
          case round =>
            obtain ⟨j, n, hjk, rfl, hno, rfl⟩ := hrel
            have HY := Lib.hid hno
            clear hno
            rcases j with _ | j
            · rw [show (((0 : Nat) : Int) - 1) = -1 by omega]
              go_wp2
              go_ret3
              exact ⟨ret_v (findV_nil (want := want) (by have := HNW.out; omega) HG.out HO.out HN.out fun i h => HY.out i (by omega) h).symm, below_drewN (Below.refl _ _) n⟩
            · rw [show (((j + 1 : Nat) : Int) - 1) = (j : Int) by omega]
              have HX := Lib.hid (first_any l len HL.out B A c j (w.drewN n) (by omega) hl (HA.out.drewN n))
              have hjw : wrap64 ((j : Int) - 1) = (j : Int) - 1 := IntWalk.wrap64_in _ ⟨by omega, by omega⟩
              cases hb : hasB (ordN l) j with
              | true =>
                rw [firstI_yes hb] at HX
                obtain ⟨y, hy⟩ : ∃ y, 2 ^ j = y := ⟨_, rfl⟩
                have HV := Lib.hid (findV_down (want := want) (by have := HNW.out; omega) HG.out HO.out (by omega) HN.out (fun i h1 h2 => HY.out i (by omega) h2) hb (by have := HK.out j (by omega); omega) y hy)
                obtain ⟨x, hx⟩ : ∃ x, firN l j = x := ⟨_, rfl⟩
                rw [hx] at HX HV
                have hwy2 := shl_wrap (show j ≤ 10 by omega) hy
                clear hx hb hy
                go_wp2_with (go_at_call 42; refine HX.out.mono ?_; rintro e w' ⟨rfl, rfl⟩)
                go_quiet (fail)
                go_wp2
                go_ret3
                exact ⟨ret_v HV.out.symm, below_drewN (below_drewN (Below.refl _ _) n) _⟩
              | false =>
                rw [firstI_no hb] at HX
                have HB := Lib.hid hb
                clear hb
                go_wp2_with (go_at_call 42; refine HX.out.mono ?_; rintro e w' ⟨rfl, rfl⟩)
                go_roundw
                case rel =>
                  refine ⟨j, n, by omega, rfl, fun i h1 h2 => ?_, rfl⟩
                  by_cases e : i = j
                  · subst e; exact HB.out
                  · exact HY.out i (by omega) h2
                case measure => simp [intOf]
theorem refFind_any (l : List UInt8) (len : Nat) (hlen : l.length = len) (B : Nat) (A : Option Addr) (c : Nat) (goal want : Int) (w : World) (hw : want ≤ 9223372036854775807) (hl : len ≤ 140737488355328) (hA : Sl w B A (l.map u8v)) :
    Calls Tryd.prog 22 #[.slice A len c, .int .i64 goal, .int .i64 want] w fun e w' => e = .returned (findV l goal want) ∧ Below w.heap.size w w' := by
  by_cases h : want < 1
  · rw [findV_small h]
    exact refFind_small len A c goal want w h
  · by_cases hz : zeros l = 0
    · rw [findV_empty hz]
      exact refFind_empty l len hlen B A c goal want w h hz hl hA
    · cases hg : goalB l goal with
      | true =>
        rw [findV_goal h hg]
        have hg2 : (0 ≤ goal ∧ goal < 2016) ∧ fr l goal.toNat = true := by simpa [goalB, placeB] using hg
        obtain ⟨gn, rfl⟩ := Int.eq_ofNat_of_zero_le hg2.1.1
        obtain ⟨wn, rfl⟩ := Int.eq_ofNat_of_zero_le (show 0 ≤ want by omega)
        rw [Int.toNat_natCast, Int.toNat_natCast]
        exact refFind_goal l len hlen B A c gn wn w (by omega) (by simpa using hg2.2) (by omega) (by omega) _ rfl hz hl hA
      | false =>
        by_cases hb : 1024 < want
        · exact refFind_high l len hlen B A c goal want hb w hg _ rfl hz hl hA
        · obtain ⟨wn, rfl⟩ := Int.eq_ofNat_of_zero_le (show 0 ≤ want by omega)
          exact refFind_low l len hlen B A c goal wn (by omega) (by omega) w hg _ rfl hz hl hA
end Go.Proofs.YtlpipnpcgancmaaDoor.TRefFind
