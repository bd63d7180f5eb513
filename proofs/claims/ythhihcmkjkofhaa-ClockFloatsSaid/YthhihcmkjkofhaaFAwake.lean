/- The document's examples. -/
import Derived.Test.YthhihcmkjkofhaaFSec
namespace Go.Proofs.Ythhihcmkjkofhaa.FAwake
open Go.RowKit FPlain FWord FNear FBits FMath FExp FLd FCut FNano FFrom FCmp FDiv FSec

theorem From_at (x : Nat) (q1 q2 : Int) (hx : x < 18446744073709551616) (h1 : fromT x = q1) (h2 : fromE x = q2) (b w : World) (hb : Drew b w) : Calls Try.prog 14 #[.float .f64 x] w fun e w' => e = .returned (.tuple #[.int .i64 q1, .int .i64 q2]) ∧ Drew b w' := by
  refine (From_any x hx w).mono ?_
  rintro e w' ⟨rfl, h⟩
  rw [h1, h2]
  exact ⟨rfl, hb.trans h⟩
theorem Resolve_at (x : Nat) (q1 q2 : Int) (hx : x < 18446744073709551616) (old now : Int) (h1 : resT x old now = q1) (h2 : resE x = q2) (b w : World) (hb : Drew b w) : Calls Try.prog 16 #[.float .f64 x, .int .i64 old, .int .i64 now] w fun e w' => e = .returned (.tuple #[.int .i64 q1, .int .i64 q2]) ∧ Drew b w' := by
  refine (Resolve_any x hx old now w).mono ?_
  rintro e w' ⟨rfl, h⟩
  rw [h1, h2]
  exact ⟨rfl, hb.trans h⟩
theorem To_at (ns : Int) (q : Nat) (h1 : -9223372036854775808 ≤ ns) (h2 : ns < 9223372036854775808) (h : toW ns = q) (b w : World) (hb : Drew b w) : Calls Try.prog 19 #[.int .i64 ns] w fun e w' => e = .returned (.float .f64 q) ∧ Drew b w' := by
  refine (To_any ns h1 h2 w).mono ?_
  rintro e w' ⟨rfl, h3⟩
  rw [h]
  exact ⟨rfl, hb.trans h3⟩
theorem Compare_at (x y : Nat) (q : Int) (hx : x < 18446744073709551616) (hy : y < 18446744073709551616) (h : cmpV x y = q) (w : World) : Calls Try.prog 21 #[.float .f64 x, .float .f64 y] w fun e w' => e = .returned (.int .i64 q) ∧ w = w' := by
  rw [← h]; exact Compare_any x y hx hy w
theorem small_ld (w : World) : Calls Try.prog 26 #[.float .f64 4607182418800017408, .int .i64 (-29)] w fun e w' => e = .returned (.float .f64 4476578029606273024) ∧ w = w' :=
  Ldexp_pos _ _ _ w (ldexp_norm 4607182418800017408 1023 0 994 4476578029606273024 (-29) (by decide +kernel) (by decide) (by decide) (by decide) (by decide) (by decide) (by decide) (by decide +kernel) w)
theorem v1 : fromT 4609434218613702656 = 1500000000 := by decide +kernel
theorem v1e : fromE 4609434218613702656 = 0 := by decide +kernel
theorem v2 : fromT 9223372036854775808 = 0 := by decide +kernel
theorem v2e : fromE 9223372036854775808 = 0 := by decide +kernel
theorem v3 : fromT 9221120237041090561 = 0 := by decide +kernel
theorem v3e : fromE 9221120237041090561 = 22 := by decide +kernel
theorem v4 : fromT 4755801206503243776 = 0 := by decide +kernel
theorem v4e : fromE 4755801206503243776 = 34 := by decide +kernel
theorem v5 : fromT 4476578029606273024 = 2 := by decide +kernel
theorem v5e : fromE 4476578029606273024 = 0 := by decide +kernel
theorem r1 : resT 9221120237041090561 7 9 = 7 := by decide +kernel
theorem r1e : resE 9221120237041090561 = 0 := by decide +kernel
theorem r2 : resT 9218868437227405312 7 9 = 9 := by decide +kernel
theorem r2e : resE 9218868437227405312 = 0 := by decide +kernel
theorem r3 : resT 13830554455654793216 7 9 = 0 := by decide +kernel
theorem r3e : resE 13830554455654793216 = 22 := by decide +kernel
theorem r4 : resT 9223372036854775808 7 9 = 0 := by decide +kernel
theorem r4e : resE 9223372036854775808 = 0 := by decide +kernel
theorem t1 : toW 1500000000 = 4609434218613702656 := by decide +kernel
theorem c1 : cmpV 9223372036854775808 0 = -1 := by decide +kernel
theorem c2 : cmpV 9221120237041090561 9218868437227405312 = 1 := by decide +kernel
theorem c3 : cmpV 9221120237041090561 9221120237041090561 = 0 := by decide +kernel
theorem eq_15 : (FloatKind.f64.format.order 4609434218613702656 4609434218613702656 == some .eq) = true := by decide +kernel
set_option maxHeartbeats 1000000 in
set_option maxRecDepth 100000 in
theorem awake_any (w : World) : Calls Try.prog 12 #[] w fun e w' => e = .returned (.bool true) ∧ Drew w w' := by
  have hw := Drew.refl w
  have e15 := eq_15
  go_enter Try.func12, Try.ntmps12
  go_wp2_with (first
    | (go_at_call 24; (with_reducible refine (Copysign_is _).mono ?_); rintro e w' ⟨rfl, rfl⟩)
    | (go_at_call 25; (with_reducible refine (NaN_is _).mono ?_); rintro e w' ⟨rfl, rfl⟩)
    | (go_at_call 27; (with_reducible refine (Inf_is _).mono ?_); rintro e w' ⟨rfl, rfl⟩)
    | (go_at_call 26; (with_reducible refine (small_ld _).mono ?_); rintro e w' ⟨rfl, rfl⟩)
    | (go_at_call 14; (with_reducible refine (From_at 4609434218613702656 _ _ (by decide) v1 v1e w _ hw).mono ?_); clear hw; rintro e w' ⟨rfl, hw⟩)
    | (go_at_call 14; (with_reducible refine (From_at 9223372036854775808 _ _ (by decide) v2 v2e w _ hw).mono ?_); clear hw; rintro e w' ⟨rfl, hw⟩)
    | (go_at_call 14; (with_reducible refine (From_at 9221120237041090561 _ _ (by decide) v3 v3e w _ hw).mono ?_); clear hw; rintro e w' ⟨rfl, hw⟩)
    | (go_at_call 14; (with_reducible refine (From_at 4755801206503243776 _ _ (by decide) v4 v4e w _ hw).mono ?_); clear hw; rintro e w' ⟨rfl, hw⟩)
    | (go_at_call 14; (with_reducible refine (From_at 4476578029606273024 _ _ (by decide) v5 v5e w _ hw).mono ?_); clear hw; rintro e w' ⟨rfl, hw⟩)
    | (go_at_call 16; (with_reducible refine (Resolve_at 9221120237041090561 _ _ (by decide) 7 9 r1 r1e w _ hw).mono ?_); clear hw; rintro e w' ⟨rfl, hw⟩)
    | (go_at_call 16; (with_reducible refine (Resolve_at 9218868437227405312 _ _ (by decide) 7 9 r2 r2e w _ hw).mono ?_); clear hw; rintro e w' ⟨rfl, hw⟩)
    | (go_at_call 16; (with_reducible refine (Resolve_at 13830554455654793216 _ _ (by decide) 7 9 r3 r3e w _ hw).mono ?_); clear hw; rintro e w' ⟨rfl, hw⟩)
    | (go_at_call 16; (with_reducible refine (Resolve_at 9223372036854775808 _ _ (by decide) 7 9 r4 r4e w _ hw).mono ?_); clear hw; rintro e w' ⟨rfl, hw⟩)
    | (go_at_call 19; (with_reducible refine (To_at 1500000000 _ (by decide) (by decide) t1 w _ hw).mono ?_); clear hw; rintro e w' ⟨rfl, hw⟩)
    | (go_at_call 21; (with_reducible refine (Compare_at 9223372036854775808 0 _ (by decide) (by decide) c1 _).mono ?_); rintro e w' ⟨rfl, rfl⟩)
    | (go_at_call 21; (with_reducible refine (Compare_at 9221120237041090561 9218868437227405312 _ (by decide) (by decide) c2 _).mono ?_); rintro e w' ⟨rfl, rfl⟩)
    | (go_at_call 21; (with_reducible refine (Compare_at 9221120237041090561 9221120237041090561 _ (by decide) (by decide) c3 _).mono ?_); rintro e w' ⟨rfl, rfl⟩))
  go_ret
  exact ⟨rfl, hw⟩
end Go.Proofs.Ythhihcmkjkofhaa.FAwake
