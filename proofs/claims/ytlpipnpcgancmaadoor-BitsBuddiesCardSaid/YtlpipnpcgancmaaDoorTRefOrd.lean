/- The document's answers: free, Buddy, Orders, first. -/
import Derived.Test.YtlpipnpcgancmaaDoorTNext
import Derived.Test.YtlpipnpcgancmaaDoorTBud
namespace Go.Proofs.YtlpipnpcgancmaaDoor.TRefOrd
open Go.RowKit WMem WPlain TPlain TBits TSet TWalk TOrd TCut TBud TNext

theorem shl_go {k q : Nat} (hk : k ≤ 10) (hq : 2 ^ k = q) : wrap64 (2 ^ k) = (q : Int) := by
  have hp := pow10 hk
  rw [hq] at hp
  have e1 : (2 ^ k : Int) = (q : Int) := by rw [← hq]; push_cast; rfl
  rw [e1, IntWalk.wrap64_in _ ⟨by omega, by omega⟩]
theorem frBig (l : List UInt8) : ∀ j, 2016 ≤ j → fr l j = false := fun _ h => fr_big h
set_option maxHeartbeats 400000 in
set_option maxRecDepth 100000 in
theorem free_any (l : List UInt8) (len : Nat) (hlen : l.length = len) (B : Nat) (A : Option Addr) (c a k : Nat) (w : World) (ha : a ≤ 2016) (hk : k ≤ 10) (hl : len ≤ 140737488355328) (hA : Sl w B A (l.map u8v)) :
    Calls Tryd.prog 51 #[.slice A len c, .int .i64 a, .int .i64 k] w fun e w' => e = .returned (.bool (chunk (fr l) a k)) ∧ w = w' := by
  have HL := Lib.hid hlen
  have HA := Lib.hid hA
  have hp := pow10 hk
  obtain ⟨q, hq⟩ : ∃ q, 2 ^ k = q := ⟨_, rfl⟩
  have hw := shl_go hk hq
  rw [hq] at hp
  have HQ := Lib.hid hq
  clear hlen hA hq
  go_enter Tryd.func51, Tryd.ntmps51
  go_wp2
  go_loop [7] (fun i => ∃ m : Nat, m ≤ q ∧ i = .int .i64 ((a + m : Nat) : Int) ∧ ∀ j, j < m → fr l (a + j) = true) (fun i => a + q - (intOf i).toNat)
  case atStart => exact ⟨0, Nat.zero_le _, rfl, fun j hj => by omega⟩
  case round =>
    obtain ⟨m, hm, rfl, hall⟩ := hrel
    have H := Lib.hid hall
    clear hall
    obtain ⟨x, hx⟩ : ∃ x, a + m = x := ⟨_, rfl⟩
    rw [hx]
    by_cases hlt : x < a + q
    · cases hf : fr l x with
      | true =>
        have HF := Lib.hid hf
        clear hf
        go_wp2_with (go_at_call 33; refine (refSet_nat l len HL.out B A c x _ rfl true HF.out _ hl HA.out).mono ?_; rintro e w' ⟨rfl, rfl⟩)
        go_round
        case rel =>
          refine ⟨m + 1, by omega, by rw [← hx]; go_num, fun j hj => ?_⟩
          by_cases e : j = m
          · subst e; rw [hx]; exact HF.out
          · exact H.out j (by omega)
        case measure => simp [intOf]; omega
      | false =>
        have HF := Lib.hid hf
        clear hf
        go_wp2_with (go_at_call 33; refine (refSet_nat l len HL.out B A c x _ rfl false HF.out _ hl HA.out).mono ?_; rintro e w' ⟨rfl, rfl⟩)
        go_ret
        exact ⟨ret_bool (chunk_no (j := m) (by rw [HQ.out]; omega) (by rw [hx]; exact HF.out)).symm, rfl⟩
    · go_wp2
      go_ret
      exact ⟨ret_bool (chunk_iff.2 fun j hj => H.out j (by rw [HQ.out] at hj; omega)).symm, rfl⟩

theorem bud_no {F : Nat → Bool} {a k : Nat} (h : chunk F a k = false) : bud F a k = false := by simp [bud, h]
theorem bud_ten {F : Nat → Bool} {a : Nat} (ha : a % 2 ^ 10 = 0) (h : chunk F a 10 = true) : bud F a 10 = true := by
  simp only [bud, h, ha]; rfl
theorem bud_par {F : Nat → Bool} {a k : Nat} (ha : a % 2 ^ k = 0) (hk : k < 10) (h : chunk F a k = true) : bud F a k = !chunk F (a - a % 2 ^ (k + 1)) (k + 1) := by
  have e : decide (k = 10) = false := by simp; omega
  simp [bud, h, ha, e]
set_option maxHeartbeats 400000 in
set_option maxRecDepth 100000 in
theorem Buddy_any (l : List UInt8) (len : Nat) (hlen : l.length = len) (B : Nat) (A : Option Addr) (c a k : Nat) (w : World) (ha : a ≤ 2016) (hk : k ≤ 10) (hm : a % 2 ^ k = 0) (hl : len ≤ 140737488355328) (hA : Sl w B A (l.map u8v)) :
    Calls Tryd.prog 43 #[.slice A len c, .int .i64 a, .int .i64 k] w fun e w' => e = .returned (.bool (bud (fr l) a k)) ∧ w = w' := by
  have hp := pow10 hk
  obtain ⟨q, hq⟩ : ∃ q, 2 ^ k = q := ⟨_, rfl⟩
  have hw := shl_go hk hq
  have h2q : 2 ^ (k + 1) = 2 * q := by rw [Nat.pow_succ, hq]; omega
  rw [hq] at hp
  by_cases hbig : 2016 < a + q
  · have hb : bud (fr l) a k = false := bud_no (big_chunk (N := 2016) (frBig l) (by rw [hq]; exact hbig))
    rw [hb]
    have d1 : decide ((2016 : Int) < (a : Int) + (q : Int)) = true := by simp; omega
    clear hb hq hm h2q hA hlen hbig
    go_enter Tryd.func43, Tryd.ntmps43
    go_wp2
    go_ret
    exact ⟨rfl, rfl⟩
  · have d1 : decide ((2016 : Int) < (a : Int) + (q : Int)) = false := by simp; omega
    have HF := Lib.hid (free_any l len hlen B A c a k w ha hk hl hA)
    cases hch : chunk (fr l) a k with
    | false =>
      rw [hch] at HF
      rw [bud_no hch]
      clear hq hm h2q hA hlen hbig hch
      go_enter Tryd.func43, Tryd.ntmps43
      go_wp2_with (go_at_call 51; refine HF.out.mono ?_; rintro e w' ⟨rfl, rfl⟩)
      go_ret
      exact ⟨rfl, rfl⟩
    | true =>
      rw [hch] at HF
      by_cases h10 : k = 10
      · subst h10
        rw [bud_ten hm hch]
        have hq1 : q = 1024 := by rw [← hq]
        have d3 : decide ((2016 : Int) < (a : Int) + 1024) = false := by simp; omega
        subst hq1
        clear d1 hq hm h2q hA hlen hbig hch
        go_enter Tryd.func43, Tryd.ntmps43
        go_wp2_with (go_at_call 51; refine HF.out.mono ?_; rintro e w' ⟨rfl, rfl⟩)
        go_ret
        exact ⟨rfl, rfl⟩
      · have hk9 : k < 10 := by omega
        have hp2 := pow10 (show k + 1 ≤ 10 by omega)
        rw [bud_par hm hk9 hch]
        obtain ⟨b, hb⟩ : ∃ b, a - a % 2 ^ (k + 1) = b := ⟨_, rfl⟩
        have hml := Nat.mod_le a (2 ^ (k + 1))
        have hbI : (a : Int) - (a : Int) % (2 * (q : Int)) = (b : Int) := by
          rw [h2q] at hb hml
          have e : (a : Int) % (2 * (q : Int)) = ((a % (2 * q) : Nat) : Int) := by push_cast; rfl
          rw [e]
          omega
        have hwq : wrap64 (2 * (q : Int)) = 2 * (q : Int) := IntWalk.wrap64_in _ ⟨by omega, by omega⟩
        have hba : b ≤ a := by omega
        rw [hb]
        have d0 : ((k : Int) == 10) = false := by rw [beq_eq_false_iff_ne]; omega
        by_cases hpar : 2016 < b + 2 * q
        · have d2 : decide ((2016 : Int) < (b : Int) + 2 * (q : Int)) = true := by simp; omega
          rw [big_chunk (N := 2016) (frBig l) (by rw [h2q]; exact hpar)]
          clear hq hm h2q hA hlen hbig hch hb hml hpar h10 hp2
          go_enter Tryd.func43, Tryd.ntmps43
          go_wp2_with (go_at_call 51; refine HF.out.mono ?_; rintro e w' ⟨rfl, rfl⟩)
          go_ret
          exact ⟨rfl, rfl⟩
        · have d2 : decide ((2016 : Int) < (b : Int) + 2 * (q : Int)) = false := by simp; omega
          have HG := Lib.hid (free_any l len hlen B A c b (k + 1) w (by omega) (by omega) hl hA)
          rw [show ((k + 1 : Nat) : Int) = (k : Int) + 1 by push_cast; rfl] at HG
          obtain ⟨r, hr⟩ : ∃ r, chunk (fr l) b (k + 1) = r := ⟨_, rfl⟩
          rw [hr] at HG ⊢
          clear hq hm h2q hA hlen hbig hch hb hml hpar h10 hp2 hr
          go_enter Tryd.func43, Tryd.ntmps43
          go_wp2_with (first
            | (go_at_call 51; (with_reducible refine HF.out.mono ?_); rintro e w' ⟨rfl, rfl⟩)
            | (go_at_call 51; (with_reducible refine HG.out.mono ?_); rintro e w' ⟨rfl, rfl⟩))
          go_ret
          exact ⟨rfl, rfl⟩
end Go.Proofs.YtlpipnpcgancmaaDoor.TRefOrd
