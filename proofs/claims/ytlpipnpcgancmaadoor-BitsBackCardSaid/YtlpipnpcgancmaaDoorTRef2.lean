/- The document's answers: Check, Test, Turn. -/
import Derived.Test.YtlpipnpcgancmaaDoorTRef
namespace Go.Proofs.YtlpipnpcgancmaaDoor.TRef2
open Go.RowKit WMem WPlain WAppend WCrc WSeal WAny WRefSeal TPlain TBits TSet TWalk TOrd TCut TTurn TFace TTurnF TSame TRef

theorem refSealed_256 (l : List UInt8) (hl : l.length = 256) (q : Bool) (seed : Nat) (hq : sealB l seed = q) (B : Nat) (A : Option Addr) (c : Nat) (w : World) (hs : seed < 4294967296) (hc : 256 ≤ c) (hA : Sl w B A (l.map u8v)) :
    Calls Tryd.prog 37 #[.slice A 256 c, .int .u32 seed] w fun e w' => e = .returned (.bool q) ∧ w = w' := by
  have h := refSealed_any l B A c seed w hs (by omega) (by omega) hA
  rw [hl, hq] at h
  exact h
set_option maxHeartbeats 1000000 in
set_option maxRecDepth 100000 in
theorem refCheck_no (len : Nat) (A : Option Addr) (c : Nat) (n : Int) (seed : Nat) (w : World) (h : sizeB n = false) :
    Calls Tryd.prog 20 #[.slice A len c, .int .i64 n, .int .u32 seed] w fun e w' => e = .returned (.int .i64 22) ∧ w = w' := by
  have h2 : ¬ (0 ≤ n ∧ n ≤ 2016) := by simpa [sizeB] using h
  clear h
  by_cases h0 : n < 0
  · have d0 : decide (n < 0) = true := by simpa using h0
    clear h2 h0
    go_enter Tryd.func20, Tryd.ntmps20
    go_wp2
    go_ret
    exact ⟨rfl, rfl⟩
  · have d0 : decide (n < 0) = false := by simp; omega
    have d1 : decide ((2016 : Int) < n) = true := by simp; omega
    clear h2 h0
    go_enter Tryd.func20, Tryd.ntmps20
    go_wp2
    go_ret
    exact ⟨rfl, rfl⟩
set_option maxHeartbeats 1000000 in
set_option maxRecDepth 100000 in
theorem refCheck_len (len : Nat) (A : Option Addr) (c n : Nat) (seed : Nat) (w : World) (hn : n ≤ 2016) (hl : len ≠ 256) :
    Calls Tryd.prog 20 #[.slice A len c, .int .i64 n, .int .u32 seed] w fun e w' => e = .returned (.int .i64 117) ∧ w = w' := by
  have d0 : decide ((n : Int) < 0) = false := by simp
  have d1 : decide ((2016 : Int) < (n : Int)) = false := by simp; omega
  have d2 : ((len : Int) == 256) = false := by rw [beq_eq_false_iff_ne]; omega
  have d3 : ((len : Int) != 256) = true := by rw [bne, d2]; rfl
  clear hl
  go_enter Tryd.func20, Tryd.ntmps20
  go_wp2
  go_ret
  exact ⟨rfl, rfl⟩
set_option maxHeartbeats 1000000 in
set_option maxRecDepth 100000 in
theorem refCheck_seal (l : List UInt8) (hl : l.length = 256) (B : Nat) (A : Option Addr) (c n seed : Nat) (w : World) (hn : n ≤ 2016) (hs : seed < 4294967296) (hc : 256 ≤ c) (hq : sealB l seed = false) (hA : Sl w B A (l.map u8v)) :
    Calls Tryd.prog 20 #[.slice A 256 c, .int .i64 n, .int .u32 seed] w fun e w' => e = .returned (.int .i64 117) ∧ w = w' := by
  have d0 : decide ((n : Int) < 0) = false := by simp
  have d1 : decide ((2016 : Int) < (n : Int)) = false := by simp; omega
  have HS := Lib.hid (refSealed_256 l hl false seed hq B A c w hs hc hA)
  clear hl hq hA
  go_enter Tryd.func20, Tryd.ntmps20
  go_wp2_with (go_at_call 37; refine HS.out.mono ?_; rintro e w' ⟨rfl, rfl⟩)
  go_ret
  exact ⟨rfl, rfl⟩
def bitsE (l : List UInt8) (n : Nat) : Int := if allB l n (2016 - n) true = true then 0 else 117
set_option maxHeartbeats 1000000 in
set_option maxRecDepth 100000 in
theorem refCheck_bits (l : List UInt8) (hl : l.length = 256) (B : Nat) (A : Option Addr) (c n seed : Nat) (w : World) (hn : n ≤ 2016) (hs : seed < 4294967296) (hc : 256 ≤ c) (hq : sealB l seed = true) (hA : Sl w B A (l.map u8v)) :
    Calls Tryd.prog 20 #[.slice A 256 c, .int .i64 n, .int .u32 seed] w fun e w' => e = .returned (.int .i64 (bitsE l n)) ∧ w = w' := by
  have d0 : decide ((n : Int) < 0) = false := by simp
  have d1 : decide ((2016 : Int) < (n : Int)) = false := by simp; omega
  have HS := Lib.hid (refSealed_256 l hl true seed hq B A c w hs hc hA)
  have HL := Lib.hid hl
  have HA := Lib.hid hA
  clear hl hq hA
  go_enter Tryd.func20, Tryd.ntmps20
  go_wp2_with (go_at_call 37; refine HS.out.mono ?_; rintro e w' ⟨rfl, rfl⟩)
  go_loop [7] (fun i => ∃ k : Nat, n ≤ k ∧ k ≤ 2016 ∧ i = .int .i64 k ∧ ∀ j, n ≤ j → j < k → fr l j = false) (fun i => 2016 - (intOf i).toNat)
  case atStart => exact ⟨n, Nat.le_refl _, hn, rfl, fun j h1 h2 => by omega⟩
  case round =>
    obtain ⟨k, hnk, hk, rfl, hall⟩ := hrel
    have H := Lib.hid hall
    clear hall
    by_cases hlt : k < 2016
    · cases hq : fr l k with
      | true =>
        have HQ := Lib.hid hq
        clear hq
        go_wp2_with (go_at_call 33; refine (refSet_nat l 256 HL.out B A c k _ rfl true HQ.out _ (by omega) HA.out).mono ?_; rintro e w' ⟨rfl, rfl⟩)
        go_ret
        refine ⟨ret_i ?_, rfl⟩
        have : allB l n (2016 - n) true = false := allB_no (j := k - n) (by omega) (by rw [show n + (k - n) = k by omega, HQ.out]; simp)
        simp [bitsE, this]
      | false =>
        have HQ := Lib.hid hq
        clear hq
        go_wp2_with (go_at_call 33; refine (refSet_nat l 256 HL.out B A c k _ rfl false HQ.out _ (by omega) HA.out).mono ?_; rintro e w' ⟨rfl, rfl⟩)
        go_round
        case rel =>
          refine ⟨k + 1, by omega, by omega, by go_num, fun j h1 h2 => ?_⟩
          by_cases e : j = k
          · subst e; exact HQ.out
          · exact H.out j h1 (by omega)
        case measure => simp [intOf]; omega
    · obtain rfl : k = 2016 := by omega
      go_wp2
      go_ret
      refine ⟨ret_i ?_, rfl⟩
      have : allB l n (2016 - n) true = true := allB_iff.2 fun j hj => by rw [H.out (n + j) (by omega) (by omega)]; rfl
      simp [bitsE, this]
theorem refCheck_any (l : List UInt8) (len : Nat) (hlen : l.length = len) (B : Nat) (A : Option Addr) (c : Nat) (n : Int) (seed : Nat) (w : World) (hs : seed < 4294967296) (hc : len ≤ c) (hA : Sl w B A (l.map u8v)) :
    Calls Tryd.prog 20 #[.slice A len c, .int .i64 n, .int .u32 seed] w fun e w' => e = .returned (.int .i64 (chkE l n seed)) ∧ w = w' := by
  subst hlen
  cases h : sizeB n with
  | false => rw [chkE_no h]; exact refCheck_no _ A c n seed w h
  | true =>
    obtain ⟨m, rfl, hm⟩ := sizeB_nat h
    by_cases hl : l.length = 256
    · rw [hl]
      cases hq : sealB l seed with
      | false =>
        rw [chkE_not h (by simp [isMap, hq])]
        exact refCheck_seal l hl B A c m seed w hm hs (by omega) hq hA
      | true =>
        have e : chkE l (m : Int) seed = bitsE l m := by simp [chkE, h, isMap, hl, hq, bitsE]
        rw [e]
        exact refCheck_bits l hl B A c m seed w hm hs (by omega) hq hA
    · rw [chkE_not h (by simp [isMap, hl])]
      exact refCheck_len _ A c m seed w hm hl
set_option maxHeartbeats 400000 in
set_option maxRecDepth 100000 in
theorem refTest_any (l : List UInt8) (len : Nat) (hlen : l.length = len) (B : Nat) (A : Option Addr) (c : Nat) (i : Int) (w : World) (hl : len ≤ 140737488355328) (hA : Sl w B A (l.map u8v)) :
    Calls Tryd.prog 17 #[.slice A len c, .int .i64 i] w fun e w' => e = .returned (.tuple #[.bool (tstB l i), .int .i64 (tstE i)]) ∧ w = w' := by
  cases h : placeB i with
  | false =>
    have e1 : tstB l i = false := by simp [tstB, h]
    have e2 : tstE i = 22 := by simp [tstE, h]
    rw [e1, e2]
    have h2 : ¬ (0 ≤ i ∧ i < 2016) := by simpa [placeB] using h
    clear e1 e2 h hA
    by_cases h0 : i < 0
    · have d0 : decide (i < 0) = true := by simpa using h0
      clear h0 h2
      go_enter Tryd.func17, Tryd.ntmps17
      go_wp2
      go_ret2
      exact ⟨rfl, rfl⟩
    · have d0 : decide (i < 0) = false := by simp; omega
      have d1 : decide ((2016 : Int) ≤ i) = true := by simp; omega
      clear h0 h2
      go_enter Tryd.func17, Tryd.ntmps17
      go_wp2
      go_ret2
      exact ⟨rfl, rfl⟩
  | true =>
    have hp : 0 ≤ i ∧ i < 2016 := by simpa [placeB] using h
    obtain ⟨m, rfl⟩ := Int.eq_ofNat_of_zero_le hp.1
    have e1 : tstB l (m : Int) = !fr l m := by simp [tstB, h]
    have e2 : tstE (m : Int) = 0 := by simp [tstE, h]
    rw [e1, e2]
    clear e1 e2 h
    have hm : m < 2016 := by omega
    have d0 : decide ((m : Int) < 0) = false := by simp
    have d1 : decide ((2016 : Int) ≤ (m : Int)) = false := by simp; omega
    obtain ⟨q, hq⟩ : ∃ q, fr l m = q := ⟨_, rfl⟩
    have HS := Lib.hid (refSet_nat l len hlen B A c m _ rfl q hq w hl hA)
    rw [hq]
    clear hq hA hlen
    go_enter Tryd.func17, Tryd.ntmps17
    go_wp2_with (go_at_call 33; refine HS.out.mono ?_; rintro e w' ⟨rfl, rfl⟩)
    go_ret2
    exact ⟨rfl, rfl⟩
end Go.Proofs.YtlpipnpcgancmaaDoor.TRef2
