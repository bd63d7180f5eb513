/- The face Turn. -/
import Derived.Test.YtlpipnpcgancmaaDoorTFace
namespace Go.Proofs.YtlpipnpcgancmaaDoor.TTurnF
open Go.RowKit WMem WPlain WAppend WCrc WSeal WAny TPlain TBits TSet TWalk TOrd TCut TTurn TFace

def rangeB (n a k : Int) : Bool := decide (1 ≤ k ∧ 0 ≤ a ∧ a + k ≤ n)
/-- Turn's error -/
def turnE (l : List UInt8) (n a k : Int) (on : Bool) (seed : Nat) : Int :=
  if chkE l n seed = 0 then (if rangeB n a k = true then (if allB l a.toNat k.toNat (!on) = true then 0 else 117) else 22) else chkE l n seed
/-- the bitmap that it answers -/
def turnL (l : List UInt8) (a k : Int) (seed : Nat) : List UInt8 := sealL (flips l a.toNat k.toNat) seed
theorem chkE_zero {l : List UInt8} {n : Int} {seed : Nat} (h : chkE l n seed = 0) : ∃ m : Nat, n = (m : Int) ∧ m ≤ 2016 ∧ l.length = 256 ∧ sealB l seed = true ∧ allB l m (2016 - m) true = true := by
  unfold chkE at h
  split at h
  · rename_i h1
    obtain ⟨m, rfl, hm⟩ := sizeB_nat h1
    split at h
    · rename_i h2
      rw [Int.toNat_natCast] at h2
      simp only [isMap, Bool.and_eq_true, decide_eq_true_eq] at h2
      exact ⟨m, rfl, hm, h2.1, h2.2.1, h2.2.2⟩
    · omega
  · omega
theorem drew_below {w w' : World} (h : Drew w w') : Below w.heap.size w w' := by
  obtain ⟨n, rfl⟩ := h
  exact below_drewN (Below.refl _ _) n
set_option maxHeartbeats 400000 in
set_option maxRecDepth 100000 in
theorem Turn_chk (len : Nat) (A : Option Addr) (c : Nat) (n a k e0 : Int) (on : Bool) (seed : Nat) (w : World) (h0 : e0 ≠ 0)
    (H : Calls Tryd.prog 19 #[.slice A len c, .int .i64 n, .int .u32 seed] w fun e w' => e = .returned (.int .i64 e0) ∧ Drew w w') :
    Calls Tryd.prog 14 #[.slice A len c, .int .i64 n, .int .i64 a, .int .i64 k, .bool on, .int .u32 seed] w fun e w' => e = .returned (.tuple #[.slice none 0 0, .int .i64 e0]) ∧ Below w.heap.size w w' := by
  have HC := Lib.hid H
  have d1 : (e0 == 0) = false := by rw [beq_eq_false_iff_ne]; exact h0
  have d2 : (e0 != 0) = true := by rw [bne, d1]; rfl
  clear H h0
  go_enter Tryd.func14, Tryd.ntmps14
  go_wp2_with (go_at_call 19; refine HC.out.mono ?_; rintro e w1 ⟨rfl, hd⟩)
  go_ret2
  exact ⟨rfl, (drew_below hd)⟩
set_option maxHeartbeats 400000 in
set_option maxRecDepth 100000 in
theorem Turn_range (len : Nat) (A : Option Addr) (c n : Nat) (a k : Int) (on : Bool) (seed : Nat) (w : World) (hn : n ≤ 2016) (ha : a ≤ 9223372036854775807) (hr : rangeB n a k = false)
    (H : Calls Tryd.prog 19 #[.slice A len c, .int .i64 n, .int .u32 seed] w fun e w' => e = .returned (.int .i64 0) ∧ Drew w w') :
    Calls Tryd.prog 14 #[.slice A len c, .int .i64 n, .int .i64 a, .int .i64 k, .bool on, .int .u32 seed] w fun e w' => e = .returned (.tuple #[.slice none 0 0, .int .i64 22]) ∧ Below w.heap.size w w' := by
  have HC := Lib.hid H
  have hr2 : ¬ (1 ≤ k ∧ 0 ≤ a ∧ a + k ≤ n) := by simpa [rangeB] using hr
  clear H hr
  by_cases h1 : k < 1
  · have d1 : decide (k < 1) = true := by simpa using h1
    clear hr2 h1
    go_enter Tryd.func14, Tryd.ntmps14
    go_wp2_with (go_at_call 19; refine HC.out.mono ?_; rintro e w1 ⟨rfl, hd⟩)
    go_ret2
    exact ⟨rfl, (drew_below hd)⟩
  · have d1 : decide (k < 1) = false := by simp; omega
    by_cases h2 : a < 0
    · have d2 : decide (a < 0) = true := by simpa using h2
      clear hr2 h1 h2
      go_enter Tryd.func14, Tryd.ntmps14
      go_wp2_with (go_at_call 19; refine HC.out.mono ?_; rintro e w1 ⟨rfl, hd⟩)
      go_ret2
      exact ⟨rfl, (drew_below hd)⟩
    · have d2 : decide (a < 0) = false := by simp; omega
      obtain ⟨y, hy⟩ : ∃ y : Int, (n : Int) - a = y := ⟨_, rfl⟩
      have hw : wrap64 y = y := IntWalk.wrap64_in _ ⟨by omega, by omega⟩
      have d3 : decide (y < k) = true := by simp; omega
      clear hr2 h1 h2
      go_enter Tryd.func14, Tryd.ntmps14
      go_wp2_with (go_at_call 19; refine HC.out.mono ?_; rintro e w1 ⟨rfl, hd⟩)
      go_ret2
      exact ⟨rfl, (drew_below hd)⟩
theorem tab_drew {w w' : World} (h : Tab w) (hd : Drew w w') : Tab w' := by
  obtain ⟨n, rfl⟩ := hd
  exact Tab.drewN h n
set_option maxHeartbeats 1000000 in
set_option maxRecDepth 100000 in
theorem Turn_bits (l : List UInt8) (hl : l.length = 256) (B : Nat) (A : Option Addr) (c n a k : Nat) (on : Bool) (seed : Nat) (w : World) (hB : B ≤ w.heap.size) (hn : n ≤ 2016) (hk : 1 ≤ k) (hak : a + k ≤ n) (hb : allB l a k (!on) = false) (hA : Sl w B A (l.map u8v))
    (H : Calls Tryd.prog 19 #[.slice A 256 c, .int .i64 n, .int .u32 seed] w fun e w' => e = .returned (.int .i64 0) ∧ Drew w w') :
    Calls Tryd.prog 14 #[.slice A 256 c, .int .i64 n, .int .i64 a, .int .i64 k, .bool on, .int .u32 seed] w fun e w' => e = .returned (.tuple #[.slice none 0 0, .int .i64 117]) ∧ Below w.heap.size w w' := by
  have HC := Lib.hid H
  have HA := Lib.hid (fun W (h : Sl W B A (l.map u8v)) => allAre_any l 256 hl B A c a k (a : Int) (k : Int) rfl rfl (!on) W (by omega) (by omega) h)
  rw [hb] at HA
  have HS := Lib.hid hA
  have HB := Lib.hid hB
  have hw : wrap64 ((n : Int) - (a : Int)) = ((n - a : Nat) : Int) := by rw [IntWalk.wrap64_in _ ⟨by omega, by omega⟩]; omega
  have hw2 : (n : Int) - (a : Int) = ((n - a : Nat) : Int) := by omega
  have d1 : decide ((k : Int) < 1) = false := by simp; omega
  have d2 : decide ((a : Int) < 0) = false := by simp
  have d3 : decide (((n - a : Nat) : Int) < (k : Int)) = false := by simp; omega
  have d4 : decide (n - a < k) = false := by simp; omega
  clear H hb hA hB hl
  go_enter Tryd.func14, Tryd.ntmps14
  go_wp2_with (first
    | (go_at_call 19; refine HC.out.mono ?_; rintro e w1 ⟨rfl, hd⟩
       have HS1 : Hid (Sl w1 B A (l.map u8v)) := Lib.hid (HS.out.below_le (drew_below hd) HB.out)
       have HD := Lib.hid hd
       clear hd)
    | (go_at_call 31; refine (HA.out _ HS1.out).mono ?_; rintro e w' ⟨rfl, rfl⟩))
  go_ret2
  exact ⟨rfl, (drew_below HD.out)⟩
set_option maxHeartbeats 1000000 in
set_option maxRecDepth 100000 in
theorem Turn_yes (l : List UInt8) (hl : l.length = 256) (B : Nat) (A : Option Addr) (c n a k : Nat) (on : Bool) (seed : Nat) (w : World) (hs : seed < 4294967296) (hB : B ≤ w.heap.size) (hn : n ≤ 2016) (hk : 1 ≤ k) (hak : a + k ≤ n) (hb : allB l a k (!on) = true) (hA : Sl w B A (l.map u8v)) (hT : Tab w)
    (H : Calls Tryd.prog 19 #[.slice A 256 c, .int .i64 n, .int .u32 seed] w fun e w' => e = .returned (.int .i64 0) ∧ Drew w w') :
    Calls Tryd.prog 14 #[.slice A 256 c, .int .i64 n, .int .i64 a, .int .i64 k, .bool on, .int .u32 seed] w fun e w' => ∃ g cap rest, e = .returned (.tuple #[.slice (some ⟨g, 0, none⟩) 256 cap, .int .i64 0]) ∧ w.heap.size ≤ g ∧ 256 ≤ cap ∧ Row w' g (sealL (flips l a k) seed) rest ∧ Below w.heap.size w w' := by
  have HC := Lib.hid H
  have HA := Lib.hid (fun W (h : Sl W B A (l.map u8v)) => allAre_any l 256 hl B A c a k (a : Int) (k : Int) rfl rfl (!on) W (by omega) (by omega) h)
  rw [hb] at HA
  have HS := Lib.hid hA
  have HB := Lib.hid hB
  have HL := Lib.hid hl
  have HT := Lib.hid hT
  have hlt := Tab.lt hT
  have HK : Hid (a + k ≤ 2016) := Lib.hid (by omega)
  have hw : wrap64 ((n : Int) - (a : Int)) = ((n - a : Nat) : Int) := by rw [IntWalk.wrap64_in _ ⟨by omega, by omega⟩]; omega
  have hw2 : (n : Int) - (a : Int) = ((n - a : Nat) : Int) := by omega
  have d1 : decide ((k : Int) < 1) = false := by simp; omega
  have d2 : decide ((a : Int) < 0) = false := by simp
  have d3 : decide (((n - a : Nat) : Int) < (k : Int)) = false := by simp; omega
  have d4 : decide (n - a < k) = false := by simp; omega
  clear H hb hA hB hl hT
  go_enter Tryd.func14, Tryd.ntmps14
  go_wp2_with (first
    | (go_at_call 19; refine HC.out.mono ?_; rintro e w1 ⟨rfl, hd⟩
       have HS1 : Hid (Sl w1 B A (l.map u8v)) := Lib.hid (HS.out.below_le (drew_below hd) HB.out)
       have HT1 := Lib.hid (tab_drew HT.out hd)
       have HD := Lib.hid (drew_below hd)
       have hsz1 := (drew_below hd).size
       clear hd)
    | (go_at_call 31; refine (HA.out _ HS1.out).mono ?_; rintro e w' ⟨rfl, rfl⟩)
    | (go_at_call 32; refine (Clone_256 l HL.out B A c _ (by have := HB.out; omega) HS1.out).mono ?_; rintro e w2 ⟨g, cap, rest, rfl, hg, hcap, hR2, hb2⟩
       have HR2 := Lib.hid hR2
       have HB2 := Lib.hid (HD.out.trans (hb2.mono hsz1))
       have HT2 := Lib.hid (Tab.below HT1.out hb2 (by omega))
       clear hR2 hb2)
    | (go_at_call 28; refine (turn_any l rest g cap a k _ HL.out HK.out HR2.out).mono ?_; rintro e w3 ⟨rfl, hR3, hG3⟩
       have HR3 := Lib.hid hR3
       have HT3 := Lib.hid (Tab.grown HT2.out hG3 (by intro e; injection e with e; omega))
       have HG3 := Lib.hid hG3
       clear hR3 hG3)
    | (go_at_call 29; refine (sealed_any (flips l a k) rest g cap seed _ hs (by rw [flips_len]; exact HL.out) hcap HR3.out HT3.out).mono ?_; rintro e w4 ⟨rfl, hR4, hG4⟩
       have HR4 := Lib.hid hR4
       have HG4 := Lib.hid hG4
       clear hR4 hG4))
  go_ret2
  exact ⟨g, cap, rest, rfl, by omega, hcap, HR4.out, HB2.out.grown (grown_trans HG3.out HG4.out) HB2.out.size (by intro i hi; injection hi with hi; omega)⟩
end Go.Proofs.YtlpipnpcgancmaaDoor.TTurnF
