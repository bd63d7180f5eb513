/- The document's examples in plain mathematics. -/
import Derived.Test.YtlpipnpcgancmaaDoorTSame
import Derived.Test.YtlpipnpcgancmaaDoorTTurnF
import Derived.Test.YtlpipnpcgancmaaDoorTFind
import Derived.Test.YtlpipnpcgancmaaDoorTNext
import Derived.Test.YtlpipnpcgancmaaDoorWTurn
namespace Go.Proofs.YtlpipnpcgancmaaDoor.TAwM
open WPlain WAny WSeal TPlain TBits TSet TTurn TFace TTurnF TSame TFind TNext TOrd

def b0 : List UInt8 := newB 10 7
def c0 : List UInt8 := turnL b0 3 1 7
theorem b0_len : b0.length = 256 := newB_len 10 7
theorem c0_len : c0.length = 256 := by unfold c0 turnL; rw [sealL_len, flips_len, b0_len]
theorem fr_newB {n seed : Nat} (hn : n ≤ 2016) (i : Nat) : fr (newB n seed) i = decide (i < n) := by
  have hl : (flips (List.replicate 256 0) n (2016 - n)).length = 256 := by rw [flips_len, List.length_replicate]
  unfold newB
  rw [fr_seal hl]
  by_cases hi : i < 2016
  · rw [fr_flips (List.length_replicate ..) hi (2016 - n) (by omega), fr_blank hi]
    have e : decide (n ≤ i ∧ i < n + (2016 - n)) = !decide (i < n) := by rw [Bool.eq_iff_iff]; simp; omega
    rw [e]
    cases decide (i < n) <;> rfl
  · rw [fr_big (by omega)]
    exact (decide_eq_false (by omega)).symm
theorem fr_turnL {l : List UInt8} (hl : l.length = 256) {a k : Nat} (h : a + k ≤ 2016) (seed i : Nat) : fr (turnL l (a : Int) (k : Int) seed) i = (fr l i != decide (a ≤ i ∧ i < a + k)) := by
  unfold turnL
  rw [Int.toNat_natCast, Int.toNat_natCast, fr_seal (by rw [flips_len]; exact hl)]
  by_cases hi : i < 2016
  · exact fr_flips hl hi k h
  · rw [fr_big (by omega), fr_big (by omega)]
    have e : decide (a ≤ i ∧ i < a + k) = false := decide_eq_false (by omega)
    rw [e]
    rfl
def FB (i : Nat) : Bool := decide (i < 10)
def FC (i : Nat) : Bool := decide (i < 10) && decide (i ≠ 3)
theorem fr_b0 : fr b0 = FB := funext fun i => fr_newB (by decide) i
theorem fr_c0 : fr c0 = FC := funext fun i => by
  have h := fr_turnL b0_len (a := 3) (k := 1) (by decide) 7 i
  show fr (turnL b0 ((3 : Nat) : Int) ((1 : Nat) : Int) 7) i = _
  rw [h, fr_b0]
  unfold FB FC
  by_cases h1 : i < 10 <;> by_cases h2 : i = 3
  · subst h2; rfl
  · have e : decide (3 ≤ i ∧ i < 3 + 1) = false := decide_eq_false (by omega)
    rw [e]; simp [h1, h2]
  · omega
  · have e : decide (3 ≤ i ∧ i < 3 + 1) = false := decide_eq_false (by omega)
    rw [e]; simp [h1]
theorem zer_end {F : Nat → Bool} {N i : Nat} (hN : ∀ j, N ≤ j → F j = false) (h : N ≤ i) : zer F i = zer F N := by
  obtain ⟨n, rfl⟩ : ∃ n, i = N + n := ⟨i - N, by omega⟩
  induction n with
  | zero => rfl
  | succ n ih => rw [← Nat.add_assoc]; simp only [zer]; rw [hN _ (by omega), ih (by omega)]; rfl
theorem FB_end : ∀ j, 16 ≤ j → FB j = false := fun j h => decide_eq_false (by omega)
theorem FC_end : ∀ j, 16 ≤ j → FC j = false := fun j h => by
  unfold FC
  rw [decide_eq_false (show ¬ j < 10 by omega)]; rfl
theorem ord_b0 (k : Nat) : ordN b0 k = cnt FB k 16 := by unfold ordN; rw [fr_b0, (cnt_end FB_end (by decide)).1]
theorem fir_b0 (k : Nat) : firN b0 k = fst FB k 16 := by unfold firN; rw [fr_b0, (cnt_end FB_end (by decide)).2]
theorem ord_c0 (k : Nat) : ordN c0 k = cnt FC k 16 := by unfold ordN; rw [fr_c0, (cnt_end FC_end (by decide)).1]
theorem fir_c0 (k : Nat) : firN c0 k = fst FC k 16 := by unfold firN; rw [fr_c0, (cnt_end FC_end (by decide)).2]
theorem zeros_c0 : zeros c0 = 9 := by unfold zeros; rw [fr_c0, zer_end FC_end (by decide)]; decide
theorem pick_b0 : pick b0 3 = 3 := by
  unfold pick
  rw [show ordN b0 = fun k => cnt FB k 16 from funext ord_b0]
  decide +kernel
theorem pick_c0 : pick c0 2 = 1 := by
  unfold pick
  rw [show ordN c0 = fun k => cnt FC k 16 from funext ord_c0]
  decide +kernel
theorem find1 : findV b0 (-1) 3 = .tuple #[.int .i64 0, .int .i64 3, .bool true] := by
  rw [findV_want (r := 3) (q := 8) (by decide) (by rfl) pick_b0 rfl (by decide), fir_b0]
  rfl
theorem find2 : findV b0 8 5 = .tuple #[.int .i64 8, .int .i64 2, .bool true] := by
  rw [findV_goal (by decide) (by unfold goalB; rw [fr_b0]; rfl), fr_b0]
  rfl
theorem find3 : findV c0 3 2 = .tuple #[.int .i64 0, .int .i64 2, .bool true] := by
  rw [findV_want (r := 1) (q := 2) (by decide) (by unfold goalB; rw [fr_c0]; rfl) pick_c0 rfl (by decide), fir_c0]
  rfl
theorem map_of {l : List UInt8} (hl : l.length = 256) {n seed : Nat} (hs : sealB l seed = true) (h : ∀ i, n ≤ i → fr l i = false) (hn : n ≤ 2016) : chkE l (n : Int) seed = 0 := by
  refine chkE_ok (by simp [sizeB]; omega) ?_
  rw [Int.toNat_natCast]
  simp only [isMap, hs, Bool.true_and, Bool.and_eq_true, decide_eq_true_eq]
  exact ⟨hl, allB_iff.2 fun j hj => by rw [h (n + j) (by omega)]; rfl⟩
theorem seal_b0 : sealB b0 7 = true := by
  unfold b0 newB
  exact WTurn.sealed_sealL _ _ (by rw [flips_len, List.length_replicate]; omega)
theorem seal_c0 : sealB c0 7 = true := by
  unfold c0 turnL
  exact WTurn.sealed_sealL _ _ (by rw [flips_len, b0_len]; omega)
theorem chk_b0 : chkE b0 10 7 = 0 := map_of (n := 10) b0_len seal_b0 (fun i hi => by rw [fr_b0]; exact decide_eq_false (by omega)) (by decide)
theorem chk_c0 : chkE c0 10 7 = 0 := map_of (n := 10) c0_len seal_c0 (fun i hi => by
  rw [fr_c0]
  unfold FC
  rw [decide_eq_false (show ¬ i < 10 by omega)]; rfl) (by decide)
theorem turn1 : turnE b0 10 3 1 true 7 = 0 := by
  unfold turnE
  rw [if_pos chk_b0, if_pos (by decide)]
  unfold allB
  rw [fr_b0]
  rfl
theorem turn2 : turnE c0 10 3 1 true 7 = 117 := by
  unfold turnE
  rw [if_pos chk_c0, if_pos (by decide)]
  unfold allB
  rw [fr_c0]
  rfl
theorem turn3 : turnE c0 10 9 2 true 7 = 22 := by
  unfold turnE
  rw [if_pos chk_c0, if_neg (by decide)]
theorem o3 : ordN b0 3 = 1 := by rw [ord_b0]; decide +kernel
theorem o1 : ordN b0 1 = 1 := by rw [ord_b0]; decide +kernel
theorem o0 : ordN b0 0 = 0 := by rw [ord_b0]; decide +kernel
end Go.Proofs.YtlpipnpcgancmaaDoor.TAwM
