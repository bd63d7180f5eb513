/- The document's rows of bits: half. -/
import Derived.Test.YthhihcmkjkofhaaFRef3
namespace Go.Proofs.Ythhihcmkjkofhaa.FRef4
open Go.RowKit WMem WAppend FPlain FRows FMath FCmp FExp FNano FRef1 FRef2 FRef3

theorem Sl.drop {w : World} {B : Nat} {a : Addr} {l : List Bool} (h : Sl w B (some a) (l.map Value.bool)) (n : Nat) : Sl w B (some (a.add n)) ((l.drop n).map Value.bool) := fun k u hu => by
  rw [List.map_drop, List.getElem?_drop] at hu
  obtain ⟨a', e, hb, hc⟩ := h (n + k) u hu
  injection e with e
  subst e
  exact ⟨_, rfl, by rw [addr_add_block]; exact hb, by rw [addr_add_add]; exact hc⟩
theorem rest_more (x k : Nat) : decide (x % 2 ^ (k + 1) ≠ 0) = (decide (x % 2 ^ k ≠ 0) || bit x k) := by
  have p := Nat.two_pow_pos k
  rw [mod_more x k, Bool.eq_iff_iff]
  generalize x % 2 ^ k = m
  cases bit x k <;> simp <;> try omega
/-- the rounding, as the document reckons it -/
theorem half_num (x n : Nat) (hn : 1 ≤ n) : rnd x (2 ^ n) = x / 2 ^ n + (if bit x (n - 1) = true ∧ (x % 2 ^ (n - 1) ≠ 0 ∨ x / 2 ^ n % 2 = 1) then 1 else 0) := by
  obtain ⟨k, rfl⟩ : ∃ k, n = k + 1 := ⟨n - 1, by omega⟩
  have p := Nat.two_pow_pos k
  have h := mod_more x k
  have b := Nat.mod_lt x p
  unfold rnd
  rw [show k + 1 - 1 = k by omega, h, Nat.pow_succ]
  generalize x / (2 ^ k * 2) = q
  generalize x % 2 ^ k = m at *
  generalize 2 ^ k = P at *
  congr 1
  cases bit x k <;> simp <;> (repeat' split) <;> omega
set_option maxHeartbeats 1000000 in
theorem half_any (l : List Bool) (B : Nat) (A : Option Addr) (c n : Nat) (w : World) (hl : l.length ≤ 100000) (hc : l.length ≤ c) (hn : 1 ≤ n) (hn2 : n ≤ 5000) (hB : B ≤ w.heap.size) (hA : Sl w B A (l.map Value.bool)) (hx : num l / 2 ^ n < 9223372036854775808) :
    Calls Try.prog 33 #[.slice A l.length c, .int .i64 n] w fun e w' => e = .returned (.int .u64 (rnd (num l) (2 ^ n) : Nat)) ∧ Below w.heap.size w w' := by
  have d0 : decide (n = 0) = false := by simp; omega
  have hA1 : Sl (w.alloc (.cells #[] 4)) B A (l.map Value.bool) := hA.keep fun q hq => World.cell?_alloc_lt w _ q (by omega)
  have HA := Lib.hid hA1
  obtain ⟨n1, hn1⟩ : ∃ n1, n1 + 1 = n := ⟨n - 1, by omega⟩
  have e1 : (n : Int) - 1 = (n1 : Int) := by omega
  obtain ⟨z, hz⟩ : ∃ z, z = rnd (num l) (2 ^ n) := ⟨_, rfl⟩
  have hf := half_num (num l) n hn
  rw [← hz, show n - 1 = n1 by omega] at hf
  rw [← hz]
  obtain ⟨X, hX⟩ : ∃ X, X = num l / 2 ^ n := ⟨_, rfl⟩
  rw [← hX] at hx hf
  have HF := Lib.hid hf
  by_cases h : n < l.length
  · have d1' : decide (n < l.length) = true := by simpa using h
    obtain ⟨a, rfl, _, _⟩ := hA 0 (.bool (bit (num l) 0)) (by rw [List.getElem?_map, List.getElem?_eq_getElem (by omega), get_bit l 0 (by omega)]; rfl)
    have hnum := number_any (l.drop n) B (some (a.add n)) (c - n) (w.alloc (.cells #[] 4)) (by rw [List.length_drop]; omega) (Sl.drop HA.out n)
    rw [List.length_drop, (num_cut l n).2, ← hX, Nat.mod_eq_of_lt (by omega)] at hnum
    have HN := Lib.hid hnum
    clear hA hA1 hnum hX hz hf hn1
    go_enter Try.func33, Try.ntmps33
    go_wp2_with (go_at_call 50; (with_reducible refine HN.out.mono ?_); rintro e w' ⟨rfl, rfl⟩)
    go_loop [7, 8] (fun r i => ∃ k : Nat, k ≤ n1 ∧ i = .int .i64 (k : Int) ∧ r = .bool (decide (num l % 2 ^ k ≠ 0))) (fun _ i => n1 - (intOf i).toNat)
    case atStart => exact ⟨0, Nat.zero_le _, rfl, by simp [Nat.mod_one]⟩
    case round =>
      obtain ⟨k, hk, rfl, rfl⟩ := hrel
      have hm := rest_more (num l) k
      obtain ⟨q, hq⟩ : ∃ q, q = decide (num l % 2 ^ k ≠ 0) := ⟨_, rfl⟩
      rw [← hq] at hm ⊢
      by_cases hlt : k < n1
      · have d2 : decide (k < n1) = true := by simpa using hlt
        have HC := Lib.hid (at_any l B (some a) c k (w.alloc (.cells #[] 4)) hl (by omega) HA.out)
        have HM := Lib.hid hm
        clear hm hq
        generalize bit (num l) k = b at *
        cases q
        · go_wp2_with (go_at_call 51; (with_reducible refine HC.out.mono ?_); rintro e w' ⟨rfl, rfl⟩)
          exact ⟨⟨k + 1, by omega, rfl, by rw [HM.out]; rfl⟩, by simp only [intOf]; omega⟩
        · go_wp2
          exact ⟨⟨k + 1, by omega, rfl, by rw [HM.out]; rfl⟩, by simp only [intOf]; omega⟩
      · have hk2 : k = n1 := by omega
        subst hk2
        have d2 : decide (k < k) = false := by simp
        have HC := Lib.hid (at_any l B (some a) c k (w.alloc (.cells #[] 4)) hl (by omega) HA.out)
        have hf := HF.out
        have hq2 : (num l % 2 ^ k ≠ 0) ↔ q = true := by rw [hq]; simp
        simp only [hq2] at hf
        clear hm hq hq2 hlt
        generalize bit (num l) k = b at *
        have hbw : Below w.heap.size w (w.alloc (.cells #[] 4)) := (Below.refl _ _).alloc (Nat.le_refl _) _
        have HW := Lib.hid hbw
        clear hbw
        by_cases ho : X % 2 = 1
        · have d3 : ((X : Int) % 2 == 1) = true := by rw [beq_iff_eq]; omega
          have hx1 : IntKind.u64.wrap ((X : Int) + 1) = (X : Int) + 1 := by rw [IntKind.wrap_u64]; omega
          have HX1 := Lib.hid hx1
          cases b
          · have HZ : Hid ((X : Int) = ((z : Nat) : Int)) := Lib.hid (by rw [hf]; simp)
            clear hf ho hx1
            go_wp2_with (go_at_call 51; (with_reducible refine HC.out.mono ?_); rintro e w' ⟨rfl, rfl⟩)
            go_ret
            exact ⟨ret_u HZ.out, HW.out⟩
          · have HZ : Hid ((X : Int) + 1 = ((z : Nat) : Int)) := Lib.hid (by rw [hf, if_pos ⟨rfl, .inr ho⟩]; omega)
            clear hf ho
            cases q
            · go_wp2_with (go_at_call 51; (with_reducible refine HC.out.mono ?_); rintro e w' ⟨rfl, rfl⟩)
              go_ret
              exact ⟨ret_u HZ.out, HW.out⟩
            · go_wp2_with (go_at_call 51; (with_reducible refine HC.out.mono ?_); rintro e w' ⟨rfl, rfl⟩)
              go_ret
              exact ⟨ret_u HZ.out, HW.out⟩
        · have d3 : ((X : Int) % 2 == 1) = false := by rw [beq_eq_false_iff_ne]; omega
          have hx1 : IntKind.u64.wrap ((X : Int) + 1) = (X : Int) + 1 := by rw [IntKind.wrap_u64]; omega
          cases b
          · have HZ : Hid ((X : Int) = ((z : Nat) : Int)) := Lib.hid (by rw [hf]; simp)
            clear hf ho hx1
            go_wp2_with (go_at_call 51; (with_reducible refine HC.out.mono ?_); rintro e w' ⟨rfl, rfl⟩)
            go_ret
            exact ⟨ret_u HZ.out, HW.out⟩
          · cases q
            · have HZ : Hid ((X : Int) = ((z : Nat) : Int)) := Lib.hid (by rw [hf, if_neg (by rintro ⟨_, h | h⟩; exact absurd h (by decide); exact ho h)]; simp)
              clear hf ho hx1
              go_wp2_with (go_at_call 51; (with_reducible refine HC.out.mono ?_); rintro e w' ⟨rfl, rfl⟩)
              go_ret
              exact ⟨ret_u HZ.out, HW.out⟩
            · have HZ : Hid ((X : Int) + 1 = ((z : Nat) : Int)) := Lib.hid (by rw [hf, if_pos ⟨rfl, .inl rfl⟩]; omega)
              clear hf ho
              go_wp2_with (go_at_call 51; (with_reducible refine HC.out.mono ?_); rintro e w' ⟨rfl, rfl⟩)
              go_ret
              exact ⟨ret_u HZ.out, HW.out⟩
  · have d1' : decide (n < l.length) = false := by simpa using h
    have h0 : X = 0 := by
      rw [hX]
      exact Nat.div_eq_of_lt (Nat.lt_of_lt_of_le (num_lt l) (Nat.pow_le_pow_right (by decide) (by omega)))
    have hnum := number_any [] (w.heap.size + 1) (some ⟨w.heap.size, 0, none⟩) 0 (w.alloc (.cells #[] 4)) (by simp) (Sl.nil _ _ _)
    rw [show num [] % 18446744073709551616 = X by rw [h0]; rfl] at hnum
    simp only [List.length_nil] at hnum
    have HN := Lib.hid hnum
    clear hA hA1 hnum hX hz hf hn1 h0
    go_enter Try.func33, Try.ntmps33
    go_wp2_with (go_at_call 50; (with_reducible refine HN.out.mono ?_); rintro e w' ⟨rfl, rfl⟩)
    go_loop [7, 8] (fun r i => ∃ k : Nat, k ≤ n1 ∧ i = .int .i64 (k : Int) ∧ r = .bool (decide (num l % 2 ^ k ≠ 0))) (fun _ i => n1 - (intOf i).toNat)
    case atStart => exact ⟨0, Nat.zero_le _, rfl, by simp [Nat.mod_one]⟩
    case round =>
      obtain ⟨k, hk, rfl, rfl⟩ := hrel
      have hm := rest_more (num l) k
      obtain ⟨q, hq⟩ : ∃ q, q = decide (num l % 2 ^ k ≠ 0) := ⟨_, rfl⟩
      rw [← hq] at hm ⊢
      by_cases hlt : k < n1
      · have d2 : decide (k < n1) = true := by simpa using hlt
        have HC := Lib.hid (at_any l B A c k (w.alloc (.cells #[] 4)) hl (by omega) HA.out)
        have HM := Lib.hid hm
        clear hm hq
        generalize bit (num l) k = b at *
        cases q
        · go_wp2_with (go_at_call 51; (with_reducible refine HC.out.mono ?_); rintro e w' ⟨rfl, rfl⟩)
          exact ⟨⟨k + 1, by omega, rfl, by rw [HM.out]; rfl⟩, by simp only [intOf]; omega⟩
        · go_wp2
          exact ⟨⟨k + 1, by omega, rfl, by rw [HM.out]; rfl⟩, by simp only [intOf]; omega⟩
      · have hk2 : k = n1 := by omega
        subst hk2
        have d2 : decide (k < k) = false := by simp
        have HC := Lib.hid (at_any l B A c k (w.alloc (.cells #[] 4)) hl (by omega) HA.out)
        have hf := HF.out
        have hq2 : (num l % 2 ^ k ≠ 0) ↔ q = true := by rw [hq]; simp
        simp only [hq2] at hf
        clear hm hq hq2 hlt
        generalize bit (num l) k = b at *
        have hbw : Below w.heap.size w (w.alloc (.cells #[] 4)) := (Below.refl _ _).alloc (Nat.le_refl _) _
        have HW := Lib.hid hbw
        clear hbw
        by_cases ho : X % 2 = 1
        · have d3 : ((X : Int) % 2 == 1) = true := by rw [beq_iff_eq]; omega
          have hx1 : IntKind.u64.wrap ((X : Int) + 1) = (X : Int) + 1 := by rw [IntKind.wrap_u64]; omega
          have HX1 := Lib.hid hx1
          cases b
          · have HZ : Hid ((X : Int) = ((z : Nat) : Int)) := Lib.hid (by rw [hf]; simp)
            clear hf ho hx1
            go_wp2_with (go_at_call 51; (with_reducible refine HC.out.mono ?_); rintro e w' ⟨rfl, rfl⟩)
            go_ret
            exact ⟨ret_u HZ.out, HW.out⟩
          · have HZ : Hid ((X : Int) + 1 = ((z : Nat) : Int)) := Lib.hid (by rw [hf, if_pos ⟨rfl, .inr ho⟩]; omega)
            clear hf ho
            cases q
            · go_wp2_with (go_at_call 51; (with_reducible refine HC.out.mono ?_); rintro e w' ⟨rfl, rfl⟩)
              go_ret
              exact ⟨ret_u HZ.out, HW.out⟩
            · go_wp2_with (go_at_call 51; (with_reducible refine HC.out.mono ?_); rintro e w' ⟨rfl, rfl⟩)
              go_ret
              exact ⟨ret_u HZ.out, HW.out⟩
        · have d3 : ((X : Int) % 2 == 1) = false := by rw [beq_eq_false_iff_ne]; omega
          have hx1 : IntKind.u64.wrap ((X : Int) + 1) = (X : Int) + 1 := by rw [IntKind.wrap_u64]; omega
          cases b
          · have HZ : Hid ((X : Int) = ((z : Nat) : Int)) := Lib.hid (by rw [hf]; simp)
            clear hf ho hx1
            go_wp2_with (go_at_call 51; (with_reducible refine HC.out.mono ?_); rintro e w' ⟨rfl, rfl⟩)
            go_ret
            exact ⟨ret_u HZ.out, HW.out⟩
          · cases q
            · have HZ : Hid ((X : Int) = ((z : Nat) : Int)) := Lib.hid (by rw [hf, if_neg (by rintro ⟨_, h | h⟩; exact absurd h (by decide); exact ho h)]; simp)
              clear hf ho hx1
              go_wp2_with (go_at_call 51; (with_reducible refine HC.out.mono ?_); rintro e w' ⟨rfl, rfl⟩)
              go_ret
              exact ⟨ret_u HZ.out, HW.out⟩
            · have HZ : Hid ((X : Int) + 1 = ((z : Nat) : Int)) := Lib.hid (by rw [hf, if_pos ⟨rfl, .inl rfl⟩]; omega)
              clear hf ho
              go_wp2_with (go_at_call 51; (with_reducible refine HC.out.mono ?_); rintro e w' ⟨rfl, rfl⟩)
              go_ret
              exact ⟨ret_u HZ.out, HW.out⟩
end Go.Proofs.Ythhihcmkjkofhaa.FRef4
