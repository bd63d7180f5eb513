/- clock.From, clock.Resolve. -/
import Derived.Test.YthhihcmkjkofhaaFNano
namespace Go.Proofs.Ythhihcmkjkofhaa.FFrom
open Go.RowKit FPlain FWord FNear FBits FMath FExp FLd FCut FNano

def timeOf (x : Nat) : Int := if sk x < 0 then -(fromN (rg x) : Int) else (fromN (rg x) : Int)
def fromE (x : Nat) : Int := if nanW x then 22 else if 4755801206503243776 ≤ rg x then 34 else 0
def fromT (x : Nat) : Int := if nanW x then 0 else if 4755801206503243776 ≤ rg x then 0 else timeOf x

theorem ret_ii {a b c d : Int} (h : a = c) (h2 : b = d) : Ending.returned (.tuple #[.int .i64 a, .int .i64 b]) = .returned (.tuple #[.int .i64 c, .int .i64 d]) := by rw [h, h2]
theorem pos_gt {a b : Nat} (ha : a ≤ 9218868437227405312) (hb : b ≤ 9218868437227405312) : (FloatKind.f64.format.order a b == some .gt) = decide (b < a) := by
  show (Ieee.double.order a b == some .gt) = _
  rw [order_num (by omega) (by omega) (nan_pos ha) (nan_pos hb), cmp_gt, sk_pos (by omega), sk_pos (by omega), Bool.eq_iff_iff]
  simp
theorem lt_zero {x : Nat} (h : x < 18446744073709551616) (hn : nanW x = false) : (FloatKind.f64.format.order x 0 == some .lt) = decide (sk x < 0) := by
  show (Ieee.double.order x 0 == some .lt) = _
  have e : sk 0 = 0 := by rw [sk_pos (by omega)]; rfl
  rw [order_num h (by omega) hn (nan_pos (by omega)), cmp_lt, e]
theorem nan_lt {x : Nat} (h : x < 18446744073709551616) (hn : nanW x = true) : (FloatKind.f64.format.order x 0 == some .lt) = false := by
  show (Ieee.double.order x 0 == some .lt) = _
  rw [order_nan h (by omega) (.inl hn)]; rfl
theorem rg_le {x : Nat} (hn : nanW x = false) : rg x ≤ 9218868437227405312 := by
  unfold nanW at hn
  simp only [decide_eq_false_iff_not] at hn
  omega
/-- one contract for all floats -/
def FromIs (x : Nat) (w : World) (e : Ending) (w' : World) : Prop := e = .returned (.tuple #[.int .i64 (fromT x), .int .i64 (fromE x)]) ∧ Drew w w'
set_option maxHeartbeats 400000 in
theorem From_nan (x : Nat) (h : x < 18446744073709551616) (hn : nanW x = true) (w : World) : Calls Try.prog 14 #[.float .f64 x] w (FromIs x w) := by
  have t1 : fromT x = 0 := by unfold fromT; rw [if_pos hn]
  have t2 : fromE x = 22 := by unfold fromE; rw [if_pos hn]
  unfold FromIs
  rw [t1, t2]
  have hN := fun w => IsNaN_any x h w
  rw [hn] at hN
  have HN := Lib.hid hN
  clear hN hn t1 t2 h
  go_enter Try.func14, Try.ntmps14
  go_wp2_with (go_at_call 28; refine (HN.out _).mono ?_; rintro e w' ⟨rfl, rfl⟩)
  go_ret2
  exact ⟨rfl, Drew.refl _⟩
set_option maxHeartbeats 400000 in
theorem From_far (x : Nat) (h : x < 18446744073709551616) (hn : nanW x = false) (hf : 4755801206503243776 ≤ rg x) (w : World) : Calls Try.prog 14 #[.float .f64 x] w (FromIs x w) := by
  have t1 : fromT x = 0 := by unfold fromT; rw [if_neg (by rw [hn]; decide), if_pos hf]
  have t2 : fromE x = 34 := by unfold fromE; rw [if_neg (by rw [hn]; decide), if_pos hf]
  unfold FromIs
  rw [t1, t2]
  have c1 := pos_gt (a := rg x) (b := 4755801206503243776) (rg_le hn) (by omega)
  have c2 := pos_eq (a := rg x) (b := 4755801206503243776) (rg_le hn) (by omega)
  have c3 : (FloatKind.f64.format.order (rg x) 4755801206503243776 == some .gt || FloatKind.f64.format.order (rg x) 4755801206503243776 == some .eq) = true := by
    rw [c1, c2, ← Bool.decide_or]; simp; omega
  have hN := fun w => IsNaN_any x h w
  rw [hn] at hN
  have HN := Lib.hid hN
  have HA := Lib.hid (fun w => Abs_any x h w)
  clear hN hn t1 t2 h c1 c2
  go_enter Try.func14, Try.ntmps14
  go_wp2_with (first
    | (go_at_call 28; refine (HN.out _).mono ?_; rintro e w' ⟨rfl, rfl⟩)
    | (go_at_call 29; refine (HA.out _).mono ?_; rintro e w' ⟨rfl, rfl⟩))
  go_ret2
  exact ⟨rfl, Drew.refl _⟩
set_option maxHeartbeats 400000 in
theorem From_near (x : Nat) (h : x < 18446744073709551616) (hf : rg x < 4755801206503243776) (w : World) : Calls Try.prog 14 #[.float .f64 x] w (FromIs x w) := by
  have hn : nanW x = false := by unfold nanW; simp; omega
  have t1 : fromT x = timeOf x := by unfold fromT; rw [if_neg (by rw [hn]; decide), if_neg (by omega)]
  have t2 : fromE x = 0 := by unfold fromE; rw [if_neg (by rw [hn]; decide), if_neg (by omega)]
  unfold FromIs
  rw [t1, t2]
  have c1 := pos_gt (a := rg x) (b := 4755801206503243776) (rg_le hn) (by omega)
  have c2 := pos_eq (a := rg x) (b := 4755801206503243776) (rg_le hn) (by omega)
  have c3 : (FloatKind.f64.format.order (rg x) 4755801206503243776 == some .gt || FloatKind.f64.format.order (rg x) 4755801206503243776 == some .eq) = false := by
    rw [c1, c2, ← Bool.decide_or]; simp; omega
  have c4 := lt_zero h hn
  have hN := fun w => IsNaN_any x h w
  rw [hn] at hN
  have HN := Lib.hid hN
  have HA := Lib.hid (fun w => Abs_any x h w)
  have hO := fun w => nanoseconds_any (rg x) hf w
  have hle := fromN_le hf
  unfold timeOf
  obtain ⟨z, hz⟩ : ∃ z, z = fromN (rg x) := ⟨_, rfl⟩
  rw [← hz] at hle hO ⊢
  have HO := Lib.hid hO
  by_cases hs : sk x < 0
  · have d : decide (sk x < 0) = true := by simpa using hs
    rw [d] at c4
    rw [if_pos hs]
    clear hN hn t1 t2 h c1 c2 hf hO hz hs d
    go_enter Try.func14, Try.ntmps14
    go_wp2_with (first
      | (go_at_call 28; refine (HN.out _).mono ?_; rintro e w' ⟨rfl, rfl⟩)
      | (go_at_call 29; refine (HA.out _).mono ?_; rintro e w' ⟨rfl, rfl⟩)
      | (go_at_call 30; refine (HO.out _).mono ?_; rintro e w' ⟨rfl, hw⟩))
    go_ret2
    exact ⟨rfl, hw⟩
  · have d : decide (sk x < 0) = false := by simpa using hs
    rw [d] at c4
    rw [if_neg hs]
    clear hN hn t1 t2 h c1 c2 hf hO hz hs d
    go_enter Try.func14, Try.ntmps14
    go_wp2_with (first
      | (go_at_call 28; refine (HN.out _).mono ?_; rintro e w' ⟨rfl, rfl⟩)
      | (go_at_call 29; refine (HA.out _).mono ?_; rintro e w' ⟨rfl, rfl⟩)
      | (go_at_call 30; refine (HO.out _).mono ?_; rintro e w' ⟨rfl, hw⟩))
    go_ret2
    exact ⟨rfl, hw⟩
theorem From_any (x : Nat) (h : x < 18446744073709551616) (w : World) : Calls Try.prog 14 #[.float .f64 x] w (FromIs x w) := by
  cases hn : nanW x
  · rcases Nat.lt_or_ge (rg x) 4755801206503243776 with hf | hf
    · exact From_near x h hf w
    · exact From_far x h hn hf w
  · exact From_nan x h hn w

def resE (x : Nat) : Int := if nanW x then 0 else if x = 9218868437227405312 then 0 else if sk x < 0 then 22 else fromE x
def resT (x : Nat) (old now : Int) : Int := if nanW x then old else if x = 9218868437227405312 then now else if sk x < 0 then 0 else fromT x
def ResIs (x : Nat) (old now : Int) (w : World) (e : Ending) (w' : World) : Prop := e = .returned (.tuple #[.int .i64 (resT x old now), .int .i64 (resE x)]) ∧ Drew w w'
theorem inf_is {x : Nat} (h : x < 18446744073709551616) : (!sg x && decide (rg x = 9218868437227405312)) = decide (x = 9218868437227405312) := by
  unfold sg rg
  rw [Bool.eq_iff_iff]
  simp only [Bool.and_eq_true, Bool.not_eq_true', decide_eq_true_eq, decide_eq_false_iff_not]
  omega
set_option maxHeartbeats 400000 in
theorem Resolve_any (x : Nat) (h : x < 18446744073709551616) (old now : Int) (w : World) : Calls Try.prog 16 #[.float .f64 x, .int .i64 old, .int .i64 now] w (ResIs x old now w) := by
  have hN := fun w => IsNaN_any x h w
  have hI := fun w => IsInf_one x h w
  have hF := fun w => From_any x h w
  simp only [inf_is h] at hI
  unfold FromIs at hF
  have HF := Lib.hid hF
  unfold ResIs resE resT
  cases hn : nanW x
  · have c4 := lt_zero h hn
    rw [hn] at hN
    have HN := Lib.hid hN
    by_cases hi : x = 9218868437227405312
    · have d : decide (x = 9218868437227405312) = true := by simpa using hi
      rw [d] at hI
      have HI := Lib.hid hI
      rw [if_pos hi, if_pos hi]
      clear hN hI hF hn c4 d hi h
      go_enter Try.func16, Try.ntmps16
      go_wp2_with (first
        | (go_at_call 28; refine (HN.out _).mono ?_; rintro e w' ⟨rfl, rfl⟩)
        | (go_at_call 23; refine (HI.out _).mono ?_; rintro e w' ⟨rfl, rfl⟩))
      go_ret2
      exact ⟨rfl, Drew.refl _⟩
    · have d : decide (x = 9218868437227405312) = false := by simpa using hi
      rw [d] at hI
      have HI := Lib.hid hI
      rw [if_neg hi, if_neg hi]
      by_cases hs : sk x < 0
      · have d2 : decide (sk x < 0) = true := by simpa using hs
        rw [d2] at c4
        rw [if_pos hs, if_pos hs]
        clear hN hI hF hn d d2 hi h hs
        go_enter Try.func16, Try.ntmps16
        go_wp2_with (first
          | (go_at_call 28; refine (HN.out _).mono ?_; rintro e w' ⟨rfl, rfl⟩)
          | (go_at_call 23; refine (HI.out _).mono ?_; rintro e w' ⟨rfl, rfl⟩))
        go_ret2
        exact ⟨rfl, Drew.refl _⟩
      · have d2 : decide (sk x < 0) = false := by simpa using hs
        rw [d2] at c4
        rw [if_neg hs, if_neg hs]
        generalize fromT x = ft at *
        generalize fromE x = fe at *
        clear hN hI hF hn d d2 hi h hs
        go_enter Try.func16, Try.ntmps16
        go_wp2_with (first
          | (go_at_call 28; refine (HN.out _).mono ?_; rintro e w' ⟨rfl, rfl⟩)
          | (go_at_call 23; refine (HI.out _).mono ?_; rintro e w' ⟨rfl, rfl⟩)
          | (go_at_call 14; refine (HF.out _).mono ?_; rintro e w' ⟨rfl, hw⟩))
        go_ret2
        exact ⟨rfl, hw⟩
  · rw [hn] at hN
    have HN := Lib.hid hN
    clear hN hI hF hn h
    go_enter Try.func16, Try.ntmps16
    go_wp2_with (go_at_call 28; refine (HN.out _).mono ?_; rintro e w' ⟨rfl, rfl⟩)
    go_ret2
    exact ⟨rfl, Drew.refl _⟩
end Go.Proofs.Ythhihcmkjkofhaa.FFrom
