/- The law BitsBuddies. -/
import Derived.Test.YtlpipnpcgancmaaDoorTGoal
import Derived.Test.YtlpipnpcgancmaaDoorTRefOrd
namespace Go.Proofs.YtlpipnpcgancmaaDoor.TBuddies
open Go.RowKit WMem WPlain WAppend WCrc WSeal WAny TPlain TBits TSet TWalk TOrd TCut TBud TTurn TFace TTurnF TFind TRefOrd TAwake TFacts TGoal

/-- the bits of the chunks of the orders below k -/
def part (f : Nat → Nat) (k : Nat) : Nat := sumTo (fun k => f k * 2 ^ k) k
theorem part_next (f : Nat → Nat) (k : Nat) : part f (k + 1) = part f k + f k * 2 ^ k := rfl
theorem part_le (l : List UInt8) : ∀ k, k ≤ 11 → part (ordN l) k ≤ 2016 := by
  have hz := zer_le (fr l) 2016
  have hs := sum_zeros l
  have up : ∀ n k, k + n = 11 → part (ordN l) k ≤ part (ordN l) 11 := by
    intro n
    induction n with
    | zero =>
      intro k h
      have hk : k = 11 := by omega
      rw [hk]
      exact Nat.le_refl _
    | succ n ih =>
      intro k h
      have h1 := ih (k + 1) (by omega)
      rw [part_next] at h1
      omega
  intro k hk
  have := up (11 - k) k (by omega)
  unfold part at *
  unfold zeros at hs
  omega
section
variable (l : List UInt8) (len : Nat) (hlen : l.length = len) (B : Nat) (A : Option Addr) (c : Nat) (goal want : Int) (w : World) (hl : len ≤ 140737488355328) (hB : B ≤ w.heap.size) (hA : Sl w B A (l.map u8v)) (hT : Tab w)
include hlen hl hB hA hT
set_option maxHeartbeats 1000000 in
set_option maxRecDepth 100000 in
theorem buddies_none (z : Nat) (hz : zeros l = z) (f : Nat → Nat) (hf : ordN l = f) (hv : findV l goal want = .tuple #[.int .i64 0, .int .i64 0, .bool false]) (hw : want < 1) :
    Calls Tryd.prog 5 #[.slice A len c, .int .i64 goal, .int .i64 want] w fun e w' => e = .returned (.bool true) ∧ Below w.heap.size w w' := by
  have ht := Tab.lt hT
  have HL := Lib.hid hlen
  have HA := Lib.hid hA
  have HB := Lib.hid hB
  have HT := Lib.hid hT
  have HV := Lib.hid hv
  have HZ := Lib.hid hz
  have HF := Lib.hid hf
  have HP : Hid (∀ k, k ≤ 11 → part f k ≤ 2016) := Lib.hid (by rw [← hf]; exact part_le l)
  have HS : Hid (part f 11 = z) := Lib.hid (by rw [← hf, ← hz]; exact sum_zeros l)
  have d6 : decide (want < 1) = true := by simpa using hw
  clear hlen hA hB hT hv hz hf hw
  go_enter Tryd.func5, Tryd.ntmps5
  go_wp2_with fail
  refine (awake_any w HT.out).mono ?_
  rintro e w1 ⟨rfl, hb1⟩
  have B1 := Lib.hid hb1
  have s1 := hb1.size
  have S1 := Lib.hid (HA.out.below_le hb1 HB.out)
  clear hb1
  have O1 := Lib.hid (Orders_any l len HL.out B A c w1 (by have := HB.out; omega) hl S1.out)
  rw [HF.out] at O1
  go_wp2_with (first
    | (go_at_call 25; refine O1.out.mono ?_; rintro e w3 ⟨rfl, hb3⟩
       have B3 := Lib.hid (B1.out.trans (hb3.mono s1))
       have s3 := B3.out.size
       clear hb3)
    | (refine wpList_store_row rfl 38 (.tmp 8) (.tmp 19) rfl w3.heap.size (arrC f) rfl rfl 38 zeros11 (row_new w3 _) (infoA' _) rfl (oneA _) ?_))
  have hR4 : ((w3.alloc (.cells zeros11 38)).setRow w3.heap.size (arrC f)).heap[w3.heap.size]? = some (.cells (arrC f) 38 (0, 0)) := setRow_heap _ _ _ _ _ _ (row_new w3 _)
  have B4 := Lib.hid (below_setRow (B3.out.alloc s3 (.cells zeros11 38)) s3 (arrC f))
  generalize (w3.alloc (.cells zeros11 38)).setRow w3.heap.size (arrC f) = w4 at *
  generalize w3.heap.size = o at *
  have HR := Lib.hid hR4
  have s4 := B4.out.size
  have S4 := Lib.hid (HA.out.below_le B4.out HB.out)
  clear hR4
  go_loop [9, 10] (fun v i => ∃ k : Nat, k ≤ 11 ∧ i = .int .i64 k ∧ v = .int .i64 (part f k : Nat)) (fun _ i => 11 - (intOf i).toNat)
  case atStart => exact ⟨0, by omega, rfl, rfl⟩
  case round =>
    obtain ⟨k, hk, rfl, hv⟩ := hrel
    have hpl := HP.out k hk
    obtain ⟨p, hp⟩ : ∃ p, part f k = p := ⟨_, rfl⟩
    rw [hp] at hv hpl
    subst hv
    by_cases hlt : k < 11
    · have hcell := oarr HR.out hlt
      have hpn := HP.out (k + 1) (by omega)
      have hnext := part_next f k
      rw [hp] at hnext
      obtain ⟨u, hu⟩ : ∃ u, f k = u := ⟨_, rfl⟩
      rw [hu] at hcell hnext
      obtain ⟨q, hq⟩ : ∃ q, u * 2 ^ k = q := ⟨_, rfl⟩
      rw [hq] at hnext
      rw [hnext] at hpn
      have hwq : wrap64 ((u : Int) * 2 ^ k) = (q : Int) := by
        rw [show (u : Int) * 2 ^ k = (q : Int) by rw [← hq]; push_cast; rfl]
        exact IntWalk.wrap64_in _ ⟨by omega, by omega⟩
      have hwpq : wrap64 ((p : Int) + (q : Int)) = ((p + q : Nat) : Int) := by rw [IntWalk.wrap64_in _ ⟨by omega, by omega⟩]; omega
      have HG := Lib.hid hnext
      clear hu hq hp hnext hpn hpl
      go_wp2
      go_round
      case rel => exact ⟨k + 1, by omega, by go_num, by rw [HG.out]; first | go_num | rw [hwpq] | (rw [hwq, hwpq])⟩
      case measure => simp [intOf]; omega
    · obtain rfl : k = 11 := by omega
      obtain rfl : p = z := by rw [← hp]; exact HS.out
      have Z1 := Lib.hid (Zeros_any l len HL.out B A c w4 hl S4.out)
      rw [HZ.out] at Z1
      have d5 : ((p : Int) == (p : Int)) = true := by simp
      clear hp
      go_wp2_with (first
        | (go_at_call 23; refine Z1.out.mono ?_; rintro e w' ⟨rfl, rfl⟩)
        | (go_at_call 21; refine (Find_any l len HL.out B A c goal want w4 (by have := HB.out; omega) hl S4.out).mono ?_; rintro e w5 ⟨rfl, hb5⟩
           rw [HV.out]
           have B5 := Lib.hid (B4.out.trans (hb5.mono s4))
           have S5 := Lib.hid (HA.out.below_le B5.out HB.out)
           clear hb5))
      go_ret
      exact ⟨rfl, B5.out⟩
set_option maxHeartbeats 1000000 in
set_option maxRecDepth 100000 in
theorem buddies_full (z : Nat) (hz : zeros l = z) (f : Nat → Nat) (hf : ordN l = f) (hv : findV l goal want = .tuple #[.int .i64 0, .int .i64 0, .bool false]) (hw : ¬ want < 1) (hz0 : z = 0) :
    Calls Tryd.prog 5 #[.slice A len c, .int .i64 goal, .int .i64 want] w fun e w' => e = .returned (.bool true) ∧ Below w.heap.size w w' := by
  have ht := Tab.lt hT
  have HL := Lib.hid hlen
  have HA := Lib.hid hA
  have HB := Lib.hid hB
  have HT := Lib.hid hT
  have HV := Lib.hid hv
  have HZ := Lib.hid hz
  have HF := Lib.hid hf
  have HP : Hid (∀ k, k ≤ 11 → part f k ≤ 2016) := Lib.hid (by rw [← hf]; exact part_le l)
  have HS : Hid (part f 11 = z) := Lib.hid (by rw [← hf, ← hz]; exact sum_zeros l)
  have d6 : decide (want < 1) = false := by simpa using hw
  have d7 : ((z : Int) == 0) = true := by rw [beq_iff_eq]; omega
  clear hlen hA hB hT hv hz hf hw hz0
  go_enter Tryd.func5, Tryd.ntmps5
  go_wp2_with fail
  refine (awake_any w HT.out).mono ?_
  rintro e w1 ⟨rfl, hb1⟩
  have B1 := Lib.hid hb1
  have s1 := hb1.size
  have S1 := Lib.hid (HA.out.below_le hb1 HB.out)
  clear hb1
  have O1 := Lib.hid (Orders_any l len HL.out B A c w1 (by have := HB.out; omega) hl S1.out)
  rw [HF.out] at O1
  go_wp2_with (first
    | (go_at_call 25; refine O1.out.mono ?_; rintro e w3 ⟨rfl, hb3⟩
       have B3 := Lib.hid (B1.out.trans (hb3.mono s1))
       have s3 := B3.out.size
       clear hb3)
    | (refine wpList_store_row rfl 38 (.tmp 8) (.tmp 19) rfl w3.heap.size (arrC f) rfl rfl 38 zeros11 (row_new w3 _) (infoA' _) rfl (oneA _) ?_))
  have hR4 : ((w3.alloc (.cells zeros11 38)).setRow w3.heap.size (arrC f)).heap[w3.heap.size]? = some (.cells (arrC f) 38 (0, 0)) := setRow_heap _ _ _ _ _ _ (row_new w3 _)
  have B4 := Lib.hid (below_setRow (B3.out.alloc s3 (.cells zeros11 38)) s3 (arrC f))
  generalize (w3.alloc (.cells zeros11 38)).setRow w3.heap.size (arrC f) = w4 at *
  generalize w3.heap.size = o at *
  have HR := Lib.hid hR4
  have s4 := B4.out.size
  have S4 := Lib.hid (HA.out.below_le B4.out HB.out)
  clear hR4
  go_loop [9, 10] (fun v i => ∃ k : Nat, k ≤ 11 ∧ i = .int .i64 k ∧ v = .int .i64 (part f k : Nat)) (fun _ i => 11 - (intOf i).toNat)
  case atStart => exact ⟨0, by omega, rfl, rfl⟩
  case round =>
    obtain ⟨k, hk, rfl, hv⟩ := hrel
    have hpl := HP.out k hk
    obtain ⟨p, hp⟩ : ∃ p, part f k = p := ⟨_, rfl⟩
    rw [hp] at hv hpl
    subst hv
    by_cases hlt : k < 11
    · have hcell := oarr HR.out hlt
      have hpn := HP.out (k + 1) (by omega)
      have hnext := part_next f k
      rw [hp] at hnext
      obtain ⟨u, hu⟩ : ∃ u, f k = u := ⟨_, rfl⟩
      rw [hu] at hcell hnext
      obtain ⟨q, hq⟩ : ∃ q, u * 2 ^ k = q := ⟨_, rfl⟩
      rw [hq] at hnext
      rw [hnext] at hpn
      have hwq : wrap64 ((u : Int) * 2 ^ k) = (q : Int) := by
        rw [show (u : Int) * 2 ^ k = (q : Int) by rw [← hq]; push_cast; rfl]
        exact IntWalk.wrap64_in _ ⟨by omega, by omega⟩
      have hwpq : wrap64 ((p : Int) + (q : Int)) = ((p + q : Nat) : Int) := by rw [IntWalk.wrap64_in _ ⟨by omega, by omega⟩]; omega
      have HG := Lib.hid hnext
      clear hu hq hp hnext hpn hpl
      go_wp2
      go_round
      case rel => exact ⟨k + 1, by omega, by go_num, by rw [HG.out]; first | go_num | rw [hwpq] | (rw [hwq, hwpq])⟩
      case measure => simp [intOf]; omega
    · obtain rfl : k = 11 := by omega
      obtain rfl : p = z := by rw [← hp]; exact HS.out
      have Z1 := Lib.hid (Zeros_any l len HL.out B A c w4 hl S4.out)
      rw [HZ.out] at Z1
      have d5 : ((p : Int) == (p : Int)) = true := by simp
      clear hp
      go_wp2_with (first
        | (go_at_call 23; refine Z1.out.mono ?_; rintro e w' ⟨rfl, rfl⟩)
        | (go_at_call 21; refine (Find_any l len HL.out B A c goal want w4 (by have := HB.out; omega) hl S4.out).mono ?_; rintro e w5 ⟨rfl, hb5⟩
           rw [HV.out]
           have B5 := Lib.hid (B4.out.trans (hb5.mono s4))
           have S5 := Lib.hid (HA.out.below_le B5.out HB.out)
           clear hb5))
      go_ret
      exact ⟨rfl, B5.out⟩
set_option maxHeartbeats 1000000 in
set_option maxRecDepth 100000 in
theorem buddies_some (z : Nat) (hz : zeros l = z) (f : Nat → Nat) (hf : ordN l = f) (i n : Nat) (hv : findV l goal want = .tuple #[.int .i64 (i : Nat), .int .i64 (n : Nat), .bool true]) (hn1 : 1 ≤ n) (hn2 : (n : Int) ≤ want) (hin : i + n ≤ 2016) (hfree : ∀ j, j < n → fr l (i + j) = true) :
    Calls Tryd.prog 5 #[.slice A len c, .int .i64 goal, .int .i64 want] w fun e w' => e = .returned (.bool true) ∧ Below w.heap.size w w' := by
  have ht := Tab.lt hT
  have HL := Lib.hid hlen
  have HA := Lib.hid hA
  have HB := Lib.hid hB
  have HT := Lib.hid hT
  have HV := Lib.hid hv
  have HZ := Lib.hid hz
  have HF := Lib.hid hf
  have HP : Hid (∀ k, k ≤ 11 → part f k ≤ 2016) := Lib.hid (by rw [← hf]; exact part_le l)
  have HS : Hid (part f 11 = z) := Lib.hid (by rw [← hf, ← hz]; exact sum_zeros l)
  have d6 : decide ((1 : Int) ≤ (n : Int)) = true := by simp; omega
  have d6' : decide (1 ≤ n) = true := by simp; omega
  have d7 : decide ((n : Int) ≤ want) = true := by simpa using hn2
  have HFR := Lib.hid hfree
  clear hlen hA hB hT hv hz hf hfree
  go_enter Tryd.func5, Tryd.ntmps5
  go_wp2_with fail
  refine (awake_any w HT.out).mono ?_
  rintro e w1 ⟨rfl, hb1⟩
  have B1 := Lib.hid hb1
  have s1 := hb1.size
  have S1 := Lib.hid (HA.out.below_le hb1 HB.out)
  clear hb1
  have O1 := Lib.hid (Orders_any l len HL.out B A c w1 (by have := HB.out; omega) hl S1.out)
  rw [HF.out] at O1
  go_wp2_with (first
    | (go_at_call 25; refine O1.out.mono ?_; rintro e w3 ⟨rfl, hb3⟩
       have B3 := Lib.hid (B1.out.trans (hb3.mono s1))
       have s3 := B3.out.size
       clear hb3)
    | (refine wpList_store_row rfl 38 (.tmp 8) (.tmp 19) rfl w3.heap.size (arrC f) rfl rfl 38 zeros11 (row_new w3 _) (infoA' _) rfl (oneA _) ?_))
  have hR4 : ((w3.alloc (.cells zeros11 38)).setRow w3.heap.size (arrC f)).heap[w3.heap.size]? = some (.cells (arrC f) 38 (0, 0)) := setRow_heap _ _ _ _ _ _ (row_new w3 _)
  have B4 := Lib.hid (below_setRow (B3.out.alloc s3 (.cells zeros11 38)) s3 (arrC f))
  generalize (w3.alloc (.cells zeros11 38)).setRow w3.heap.size (arrC f) = w4 at *
  generalize w3.heap.size = o at *
  have HR := Lib.hid hR4
  have s4 := B4.out.size
  have S4 := Lib.hid (HA.out.below_le B4.out HB.out)
  clear hR4
  go_loop [9, 10] (fun v i => ∃ k : Nat, k ≤ 11 ∧ i = .int .i64 k ∧ v = .int .i64 (part f k : Nat)) (fun _ i => 11 - (intOf i).toNat)
  case atStart => exact ⟨0, by omega, rfl, rfl⟩
  case round =>
    obtain ⟨k, hk, rfl, hv⟩ := hrel
    have hpl := HP.out k hk
    obtain ⟨p, hp⟩ : ∃ p, part f k = p := ⟨_, rfl⟩
    rw [hp] at hv hpl
    subst hv
    by_cases hlt : k < 11
    · have hcell := oarr HR.out hlt
      have hpn := HP.out (k + 1) (by omega)
      have hnext := part_next f k
      rw [hp] at hnext
      obtain ⟨u, hu⟩ : ∃ u, f k = u := ⟨_, rfl⟩
      rw [hu] at hcell hnext
      obtain ⟨q, hq⟩ : ∃ q, u * 2 ^ k = q := ⟨_, rfl⟩
      rw [hq] at hnext
      rw [hnext] at hpn
      have hwq : wrap64 ((u : Int) * 2 ^ k) = (q : Int) := by
        rw [show (u : Int) * 2 ^ k = (q : Int) by rw [← hq]; push_cast; rfl]
        exact IntWalk.wrap64_in _ ⟨by omega, by omega⟩
      have hwpq : wrap64 ((p : Int) + (q : Int)) = ((p + q : Nat) : Int) := by rw [IntWalk.wrap64_in _ ⟨by omega, by omega⟩]; omega
      have HG := Lib.hid hnext
      clear hu hq hp hnext hpn hpl
      go_wp2
      go_round
      case rel => exact ⟨k + 1, by omega, by go_num, by rw [HG.out]; first | go_num | rw [hwpq] | (rw [hwq, hwpq])⟩
      case measure => simp [intOf]; omega
    · obtain rfl : k = 11 := by omega
      obtain rfl : p = z := by rw [← hp]; exact HS.out
      have Z1 := Lib.hid (Zeros_any l len HL.out B A c w4 hl S4.out)
      rw [HZ.out] at Z1
      have d5 : ((p : Int) == (p : Int)) = true := by simp
      clear hp
      go_wp2_with (first
        | (go_at_call 23; refine Z1.out.mono ?_; rintro e w' ⟨rfl, rfl⟩)
        | (go_at_call 21; refine (Find_any l len HL.out B A c goal want w4 (by have := HB.out; omega) hl S4.out).mono ?_; rintro e w5 ⟨rfl, hb5⟩
           rw [HV.out]
           have B5 := Lib.hid (B4.out.trans (hb5.mono s4))
           have S5 := Lib.hid (HA.out.below_le B5.out HB.out)
           clear hb5))
      go_loop [14, 15, 16] (fun v _ _ => ∃ k : Nat, k ≤ n ∧ v = .int .i64 ((i + k : Nat) : Int)) (fun v _ _ => i + n - (intOf v).toNat)
      case atStart => exact ⟨0, by omega, rfl⟩
      case round =>
        obtain ⟨k, hk, rfl⟩ := hrel
        obtain ⟨x, hx⟩ : ∃ x, i + k = x := ⟨_, rfl⟩
        rw [hx]
        by_cases hlt2 : x < i + n
        · have hfx := HFR.out k (by omega)
          rw [hx] at hfx
          have T1 := Lib.hid (Test_any l len HL.out B A c (x : Int) w5 hl S5.out)
          rw [tstB_in (by omega), tstE_in (by omega), hfx] at T1
          clear hfx
          go_wp2_with (go_at_call 16; refine T1.out.mono ?_; rintro e w' ⟨rfl, rfl⟩)
          go_round
          case rel => exact ⟨k + 1, by omega, by rw [← hx]; go_num⟩
          case measure => simp [intOf]; omega
        · go_wp2
          go_ret
          exact ⟨rfl, B5.out⟩
end
theorem buddies (l : List UInt8) (B : Nat) (A : Option Addr) (c : Nat) (goal want : Int) (w : World) (_hw64 : want ≤ 9223372036854775807) (hl : l.length ≤ 140737488355328) (hB : B ≤ w.heap.size) (hA : Sl w B A (l.map u8v)) (hT : Tab w) :
    Calls Tryd.prog 5 #[.slice A l.length c, .int .i64 goal, .int .i64 want] w fun e w' => e = .returned (.bool true) ∧ Below w.heap.size w w' := by
  cases hq : fOk l goal want with
  | false =>
    obtain ⟨h1, h2, h3⟩ := not_found hq
    have hv : findV l goal want = .tuple #[.int .i64 0, .int .i64 0, .bool false] := by unfold findV; rw [h1, h2, hq]
    by_cases hw : want < 1
    · exact buddies_none l _ rfl B A c goal want w hl hB hA hT _ rfl _ rfl hv hw
    · exact buddies_full l _ rfl B A c goal want w hl hB hA hT _ rfl _ rfl hv hw (by rcases h3 with h | h; exact absurd h hw; exact h)
  | true =>
    obtain ⟨i, n, h1, h2, h3, h4, h5, h6⟩ := found hq
    have hv : findV l goal want = .tuple #[.int .i64 (i : Nat), .int .i64 (n : Nat), .bool true] := by unfold findV; rw [h1, h2, hq]
    exact buddies_some l _ rfl B A c goal want w hl hB hA hT _ rfl _ rfl i n hv h3 h4 h5 h6
end Go.Proofs.YtlpipnpcgancmaaDoor.TBuddies
