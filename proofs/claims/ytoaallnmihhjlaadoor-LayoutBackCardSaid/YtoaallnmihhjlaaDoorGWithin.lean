/- The variadic helper of layout: is none of some numbers below the least one or above the most? -/
import Derived.Test.YtoaallnmihhjlaaDoorProg
import Derived.Test.YtoaallnmihhjlaaDoorWMem
import Derived.Test.YtoaallnmihhjlaaDoorGPlain
import Derived.WalkKit
import Derived.WalkSpells
import Derived.WalkLawsBesides
import Derived.Handy
import Derived.Outline
namespace Go.Proofs.YtoaallnmihhjlaaDoor.GWithin
open Go.RowKit WMem GPlain

set_option maxHeartbeats 400000 in
theorem within_any (lo hi : Int) (l : List Int) (B : Nat) (A : Option Addr) (c : Nat) (w : World) (hA : Sl w B A (l.map i64v)) (hl : l.length ≤ 140737488355328) :
    Calls Tryd.prog 35 #[.int .i64 lo, .int .i64 hi, .slice A l.length c] w fun e w' => e = .returned (.bool (allIn lo hi l)) ∧ w = w' := by
  have HA := Lib.hid hA
  clear hA
  go_enter Tryd.func35, Tryd.ntmps35
  go_wp2
  go_loop [11] (fun i => ∃ k : Nat, k ≤ l.length ∧ i = .int .i64 k ∧ Hid (allIn lo hi (l.take k) = true)) (fun i => l.length - (intOf i).toNat)
  case atStart => exact ⟨0, Nat.zero_le _, rfl, Lib.hid rfl⟩
  case round =>
    obtain ⟨k, hk, rfl, HK⟩ := hrel
    by_cases hlt : k < l.length
    · obtain ⟨a, rfl, _, hc⟩ := HA.out.i64 hlt
      have HS := Lib.hid (allIn_take lo hi l k hlt)
      have HN := Lib.hid (allIn_no lo hi l k hlt)
      generalize l[k] = x at *
      by_cases h1 : lo ≤ x
      · have d1 : decide (x < lo) = false := by simpa using h1
        by_cases h2 : x ≤ hi
        · have d2 : decide (hi < x) = false := by simpa using h2
          have HX := Lib.hid (inB_true.2 ⟨h1, h2⟩)
          go_wp2
          go_round
          case rel => exact ⟨k + 1, by omega, by go_num, Lib.hid (by rw [HS.out, HK.out, HX.out]; rfl)⟩
          case measure => simp [intOf]; omega
        · have d2 : decide (hi < x) = true := by simpa using h2
          have HX := Lib.hid (HN.out (inB_false.2 (.inr (by omega))))
          clear h2
          go_wp2
          go_ret
          exact ⟨by rw [HX.out]; rfl, rfl⟩
      · have d1 : decide (x < lo) = true := by simpa using h1
        have HX := Lib.hid (HN.out (inB_false.2 (.inl (by omega))))
        clear h1
        go_wp2
        go_ret
        exact ⟨by rw [HX.out]; rfl, rfl⟩
    · obtain rfl : k = l.length := by omega
      have HX := Lib.hid (show allIn lo hi l = true by have := HK.out; rwa [List.take_length] at this)
      go_wp2
      go_ret
      exact ⟨by rw [HX.out]; rfl, rfl⟩

/-- one number -/
theorem within_one (lo hi x : Int) (a : Addr) (c : Nat) (w : World) (ha : w.cell? a = some (.int .i64 x)) :
    Calls Tryd.prog 35 #[.int .i64 lo, .int .i64 hi, .slice (some a) 1 c] w fun e w' => e = .returned (.bool (inB lo hi x)) ∧ w = w' := by
  have h := within_any lo hi [x] (a.block + 1) (some a) c w (fun k u hu => by
    match k with
    | 0 => simp at hu; subst hu; exact ⟨a, rfl, by omega, by simpa [Addr.add, i64v] using ha⟩
    | k + 1 => simp at hu) (by simp)
  refine h.mono ?_
  rintro e w' ⟨rfl, rfl⟩
  exact ⟨by simp [allIn], rfl⟩
end Go.Proofs.YtoaallnmihhjlaaDoor.GWithin
