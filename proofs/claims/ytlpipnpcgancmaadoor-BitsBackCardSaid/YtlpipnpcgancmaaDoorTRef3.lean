/- The document's Turn. -/
import Derived.Test.YtlpipnpcgancmaaDoorTRef2
import Derived.Test.YtlpipnpcgancmaaDoorWHelp
namespace Go.Proofs.YtlpipnpcgancmaaDoor.TRef3
open Go.RowKit WMem WPlain WAppend WCrc WSeal WAny WRefSeal TPlain TBits TSet TWalk TOrd TCut TTurn TFace TTurnF TSame TRef TRef2

set_option maxHeartbeats 1000000 in
set_option maxRecDepth 100000 in
theorem refTurn_chk (len : Nat) (A : Option Addr) (c : Nat) (n a k e0 : Int) (on : Bool) (seed : Nat) (w : World) (h0 : e0 ≠ 0)
    (H : Calls Tryd.prog 20 #[.slice A len c, .int .i64 n, .int .u32 seed] w fun e w' => e = .returned (.int .i64 e0) ∧ w = w') :
    Calls Tryd.prog 15 #[.slice A len c, .int .i64 n, .int .i64 a, .int .i64 k, .bool on, .int .u32 seed] w fun e w' => e = .returned (.tuple #[.slice none 0 0, .int .i64 e0]) ∧ Below w.heap.size w w' := by
  have HC := Lib.hid H
  have d1 : (e0 == 0) = false := by rw [beq_eq_false_iff_ne]; exact h0
  have d2 : (e0 != 0) = true := by rw [bne, d1]; rfl
  clear H h0
  go_enter Tryd.func15, Tryd.ntmps15
  go_wp2_with (go_at_call 20; refine HC.out.mono ?_; rintro e w1 ⟨rfl, rfl⟩)
  go_ret2
  exact ⟨rfl, Below.refl _ _⟩
set_option maxHeartbeats 1000000 in
set_option maxRecDepth 100000 in
theorem refTurn_range (len : Nat) (A : Option Addr) (c n : Nat) (a k : Int) (on : Bool) (seed : Nat) (w : World) (hn : n ≤ 2016) (hr : rangeB n a k = false)
    (H : Calls Tryd.prog 20 #[.slice A len c, .int .i64 n, .int .u32 seed] w fun e w' => e = .returned (.int .i64 0) ∧ w = w') :
    Calls Tryd.prog 15 #[.slice A len c, .int .i64 n, .int .i64 a, .int .i64 k, .bool on, .int .u32 seed] w fun e w' => e = .returned (.tuple #[.slice none 0 0, .int .i64 22]) ∧ Below w.heap.size w w' := by
  have HC := Lib.hid H
  have hr2 : ¬ (1 ≤ k ∧ 0 ≤ a ∧ a + k ≤ n) := by simpa [rangeB] using hr
  clear H hr
  by_cases h1 : k < 1
  · have d1 : decide (k < 1) = true := by simpa using h1
    clear hr2 h1
    go_enter Tryd.func15, Tryd.ntmps15
    go_wp2_with (go_at_call 20; refine HC.out.mono ?_; rintro e w1 ⟨rfl, rfl⟩)
    go_ret2
    exact ⟨rfl, Below.refl _ _⟩
  · have d1 : decide (k < 1) = false := by simp; omega
    by_cases h2 : 2016 < k
    · have d2 : decide ((2016 : Int) < k) = true := by simpa using h2
      clear hr2 h1 h2
      go_enter Tryd.func15, Tryd.ntmps15
      go_wp2_with (go_at_call 20; refine HC.out.mono ?_; rintro e w1 ⟨rfl, rfl⟩)
      go_ret2
      exact ⟨rfl, Below.refl _ _⟩
    · have d2 : decide ((2016 : Int) < k) = false := by simp; omega
      by_cases h3 : a < 0
      · have d3 : decide (a < 0) = true := by simpa using h3
        clear hr2 h1 h2 h3
        go_enter Tryd.func15, Tryd.ntmps15
        go_wp2_with (go_at_call 20; refine HC.out.mono ?_; rintro e w1 ⟨rfl, rfl⟩)
        go_ret2
        exact ⟨rfl, Below.refl _ _⟩
      · have d3 : decide (a < 0) = false := by simp; omega
        by_cases h4 : n < a
        · have d4 : decide ((n : Int) < a) = true := by simpa using h4
          clear hr2 h1 h2 h3 h4
          go_enter Tryd.func15, Tryd.ntmps15
          go_wp2_with (go_at_call 20; refine HC.out.mono ?_; rintro e w1 ⟨rfl, rfl⟩)
          go_ret2
          exact ⟨rfl, Below.refl _ _⟩
        · have d4 : decide ((n : Int) < a) = false := by simp; omega
          obtain ⟨y, hy⟩ : ∃ y : Int, a + k = y := ⟨_, rfl⟩
          have hw : wrap64 y = y := IntWalk.wrap64_in _ ⟨by omega, by omega⟩
          have d5 : decide ((n : Int) < y) = true := by simp; omega
          clear hr2 h1 h2 h3 h4
          go_enter Tryd.func15, Tryd.ntmps15
          go_wp2_with (go_at_call 20; refine HC.out.mono ?_; rintro e w1 ⟨rfl, rfl⟩)
          go_ret2
          exact ⟨rfl, Below.refl _ _⟩
/-- a bit's new value: is it set? -/
def newP (l : List UInt8) (a k : Nat) (on : Bool) (i : Nat) : Bool := if a ≤ i ∧ i < a + k then on else !fr l i
def RefTurned (l : List UInt8) (a k : Nat) (on : Bool) (seed : Nat) (w : World) (e : Ending) (w' : World) : Prop :=
  if allB l a k (!on) = true then ∃ g cap rest, e = .returned (.tuple #[.slice (some ⟨g, 0, none⟩) 256 cap, .int .i64 0]) ∧ w.heap.size ≤ g ∧ 256 ≤ cap ∧ Row w' g (sealL (flips l a k) seed) rest ∧ Below w.heap.size w w'
  else e = .returned (.tuple #[.slice none 0 0, .int .i64 117]) ∧ Below w.heap.size w w'
theorem turned_lay {l : List UInt8} (hl : l.length = 256) {a k : Nat} {on : Bool} (hk : a + k ≤ 2016) (h : allB l a k (!on) = true) (seed : Nat) : sealL (lay (newP l a k on) 2016) seed = sealL (flips l a k) seed := by
  refine seal_same (lay_len _ _) (by rw [flips_len]; exact hl) (fun i hi => ?_) seed
  rw [fr_lay _ hi 2016 (Nat.le_refl _), fr_flips hl hi k hk]
  have e1 : decide (i < 2016) = true := by simpa using hi
  rw [e1]
  unfold newP
  by_cases hin : a ≤ i ∧ i < a + k
  · have e2 : decide (a ≤ i ∧ i < a + k) = true := by simpa using hin
    rw [if_pos hin, e2]
    have := allB_iff.1 h (i - a) (by omega)
    rw [show a + (i - a) = i by omega] at this
    revert this
    cases fr l i <;> cases on <;> simp
  · have e2 : decide (a ≤ i ∧ i < a + k) = false := by simpa using hin
    rw [if_neg hin, e2]
    simp
theorem elemB : Elem Tryd.prog 48 4 1 := ⟨by kernel_rfl, by
  obtain ⟨i, h1, h2, h3, h4⟩ := info_parts (P := Tryd.prog) (e := 4) (z := .bool false) (size := 1) (bytes := 1) (by kernel_rfl)
  exact ⟨i, _, h1, h2, h3, h4, rfl⟩⟩
theorem one_bv (P : Nat → Bool) (n : Nat) : ∀ u ∈ bv P n, u.oneCell' = true := by
  intro u hu
  simp only [bv, List.mem_map] at hu
  obtain ⟨x, _, rfl⟩ := hu
  rfl
theorem own_ge {w : World} {base : Nat} {e : TypeId} {size : Nat} {v : Value} {n : Nat} {xs : List Value} (h : w.ownsRow base e size v n xs) : ∀ k, v.ownBlock = some k → base ≤ k := by
  intro k hk
  rcases h.2 with ⟨rfl, _⟩ | ⟨g, cap, cur, rfl, hb, _⟩
  · simp [Value.ownBlock] at hk
  · simp [Value.ownBlock] at hk
    omega
set_option maxHeartbeats 1000000 in
set_option maxRecDepth 100000 in
theorem refTurn_main (l : List UInt8) (hl : l.length = 256) (B : Nat) (A : Option Addr) (c n a k : Nat) (on : Bool) (seed : Nat) (w : World) (hs : seed < 4294967296) (hB : B ≤ w.heap.size) (hn : n ≤ 2016) (hk : 1 ≤ k) (hak : a + k ≤ n) (hA : Sl w B A (l.map u8v))
    (H : Calls Tryd.prog 20 #[.slice A 256 c, .int .i64 n, .int .u32 seed] w fun e w' => e = .returned (.int .i64 0) ∧ w = w') :
    Calls Tryd.prog 15 #[.slice A 256 c, .int .i64 n, .int .i64 a, .int .i64 k, .bool on, .int .u32 seed] w (RefTurned l a k on seed w) := by
  have HC := Lib.hid H
  have HA := Lib.hid hA
  have HB := Lib.hid hB
  have HL := Lib.hid hl
  have d1 : decide ((k : Int) < 1) = false := by simp; omega
  have d2 : decide ((2016 : Int) < (k : Int)) = false := by simp; omega
  have d3 : decide ((a : Int) < 0) = false := by simp
  have d4 : decide ((n : Int) < (a : Int)) = false := by simp; omega
  have d4' : decide (n < a) = false := by simp; omega
  have d5 : decide ((n : Int) < (a : Int) + (k : Int)) = false := by simp; omega
  clear H hA hB hl
  go_enter Tryd.func15, Tryd.ntmps15
  go_wp2_with (go_at_call 20; refine HC.out.mono ?_; rintro e w1 ⟨rfl, rfl⟩)
  go_loopw [15, 16] (fun v i wr => ∃ m : Nat, m ≤ 2016 ∧ i = .int .i64 m ∧ wr.ownsRow w.heap.size 4 1 v m (bv (newP l a k on) m) ∧ Below w.heap.size w wr ∧ ∀ j, a ≤ j → j < a + k → j < m → (!fr l j) = !on) (fun _ i _ => 2016 - (intOf i).toNat)
  case atStart => exact ⟨0, Nat.zero_le _, rfl, World.ownsRow_nil _ _ _ _, Below.refl _ _, fun j h1 h2 h3 => by omega⟩
  case round =>
    obtain ⟨m, hm, rfl, hown, hb, hall⟩ := hrel
    have HO := Lib.hid hown
    have HG := Lib.hid hb
    have HF := Lib.hid hall
    have hsz := hb.size
    have HS : Hid (Sl wr B A (l.map u8v)) := Lib.hid (HA.out.below_le hb HB.out)
    clear hown hb hall
    by_cases hlt : m < 2016
    · obtain ⟨q, hq⟩ : ∃ q, fr l m = q := ⟨_, rfl⟩
      have HQ := Lib.hid hq
      clear hq
      by_cases hin : a ≤ m ∧ m < a + k
      · have g1 : decide ((a : Int) ≤ (m : Int)) = true := by simp; omega
        have g1' : decide (a ≤ m) = true := by simp; omega
        have g2 : decide ((m : Int) < (a : Int) + (k : Int)) = true := by simp; omega
        by_cases hs2 : (!q) = on
        · have g3 : ((!q) == on) = true := by rw [hs2]; simp
          have HN := Lib.hid hs2
          clear hs2
          go_wp2_with (go_at_call 33; refine (refSet_nat l 256 HL.out B A c m _ rfl q HQ.out _ (by omega) HS.out).mono ?_; rintro e w' ⟨rfl, rfl⟩)
          go_ret2
          have hno : allB l a k (!on) = false := allB_no (j := m - a) (by omega) (by
            rw [show a + (m - a) = m by omega, HQ.out, HN.out]
            cases on <;> simp)
          unfold RefTurned
          rw [if_neg (by rw [hno]; simp)]
          exact ⟨rfl, HG.out⟩
        · have g3 : ((!q) == on) = false := by simpa using hs2
          have HN : Hid ((!q) = !on) := Lib.hid (by revert hs2; cases q <;> cases on <;> simp)
          have HP : Hid (newP l a k on m = on) := Lib.hid (by unfold newP; rw [if_pos hin])
          clear hs2
          have HX : Hid (Sl (wr.alloc (.cells #[.bool on] 4)) (wr.heap.size + 1) (some ⟨wr.heap.size, 0, none⟩) [.bool on]) := Lib.hid (Sl.of_row (n := 1) (row_new _ _) (by omega) rfl)
          have HU : Hid (∀ x, u15.ownBlock = some x → w.heap.size ≤ x) := Lib.hid (own_ge HO.out)
          go_wp2_with (first
            | (go_at_call 33; refine (refSet_nat l 256 HL.out B A c m _ rfl q HQ.out _ (by omega) HS.out).mono ?_; rintro e w' ⟨rfl, rfl⟩)
            | (at_builtin; refine wl_append rfl (.tmp 68) (.tmp 70) 48 rfl w.heap.size 4 1 elemB u15 m (bv (newP l a k on) m) rfl (HO.out.alloc _) (wr.heap.size + 1) (some ⟨wr.heap.size, 0, none⟩) 1 1 [.bool on] rfl rfl HX.out (by simp [Value.oneCell']) (by omega) (by unfold maxLen; omega) (by simp; omega) ?_; intro v1 w1 h1 h2 h3
               have H1 : Hid (w1.ownsRow w.heap.size 4 1 v1 (m + 1) (bv (newP l a k on) (m + 1))) := Lib.hid (by rw [bv_snoc, HP.out]; exact h1)
               have H2 : Hid (Below w.heap.size w w1) := Lib.hid ((HG.out.alloc hsz _).grown h2 (by simp; omega) HU.out)
               clear h1 h2 h3))
          go_roundw
          case rel =>
            refine ⟨m + 1, by omega, by go_num, H1.out, H2.out, fun j j1 j2 j3 => ?_⟩
            by_cases e : j = m
            · subst e; rw [HQ.out]; exact HN.out
            · exact HF.out j j1 j2 (by omega)
          case measure => simp [intOf]; omega
      · have HI := Lib.hid hin
        have HP : Hid (newP l a k on m = !q) := Lib.hid (by unfold newP; rw [if_neg hin, HQ.out])
        by_cases hin2 : a ≤ m
        · have g1 : decide ((a : Int) ≤ (m : Int)) = true := by simp; omega
          have g1' : decide (a ≤ m) = true := by simp; omega
          have g2 : decide ((m : Int) < (a : Int) + (k : Int)) = false := by simp; omega
          clear hin hin2
          have HX : Hid (Sl (wr.alloc (.cells #[.bool (!q)] 4)) (wr.heap.size + 1) (some ⟨wr.heap.size, 0, none⟩) [.bool (!q)]) := Lib.hid (Sl.of_row (n := 1) (row_new _ _) (by omega) rfl)
          have HU : Hid (∀ x, u15.ownBlock = some x → w.heap.size ≤ x) := Lib.hid (own_ge HO.out)
          go_wp2_with (first
            | (go_at_call 33; refine (refSet_nat l 256 HL.out B A c m _ rfl q HQ.out _ (by omega) HS.out).mono ?_; rintro e w' ⟨rfl, rfl⟩)
            | (at_builtin; refine wl_append rfl (.tmp 68) (.tmp 70) 48 rfl w.heap.size 4 1 elemB u15 m (bv (newP l a k on) m) rfl (HO.out.alloc _) (wr.heap.size + 1) (some ⟨wr.heap.size, 0, none⟩) 1 1 [.bool (!q)] rfl rfl HX.out (by simp [Value.oneCell']) (by omega) (by unfold maxLen; omega) (by simp; omega) ?_; intro v1 w1 h1 h2 h3
               have H1 : Hid (w1.ownsRow w.heap.size 4 1 v1 (m + 1) (bv (newP l a k on) (m + 1))) := Lib.hid (by rw [bv_snoc, HP.out]; exact h1)
               have H2 : Hid (Below w.heap.size w w1) := Lib.hid ((HG.out.alloc hsz _).grown h2 (by simp; omega) HU.out)
               clear h1 h2 h3))
          go_roundw
          case rel =>
            refine ⟨m + 1, by omega, by go_num, H1.out, H2.out, fun j j1 j2 j3 => ?_⟩
            by_cases e : j = m
            · subst e; exact absurd ⟨j1, j2⟩ HI.out
            · exact HF.out j j1 j2 (by omega)
          case measure => simp [intOf]; omega
        · have g1 : decide ((a : Int) ≤ (m : Int)) = false := by simp; omega
          have g1' : decide (a ≤ m) = false := by simp; omega
          clear hin hin2
          have HX : Hid (Sl (wr.alloc (.cells #[.bool (!q)] 4)) (wr.heap.size + 1) (some ⟨wr.heap.size, 0, none⟩) [.bool (!q)]) := Lib.hid (Sl.of_row (n := 1) (row_new _ _) (by omega) rfl)
          have HU : Hid (∀ x, u15.ownBlock = some x → w.heap.size ≤ x) := Lib.hid (own_ge HO.out)
          go_wp2_with (first
            | (go_at_call 33; refine (refSet_nat l 256 HL.out B A c m _ rfl q HQ.out _ (by omega) HS.out).mono ?_; rintro e w' ⟨rfl, rfl⟩)
            | (at_builtin; refine wl_append rfl (.tmp 68) (.tmp 70) 48 rfl w.heap.size 4 1 elemB u15 m (bv (newP l a k on) m) rfl (HO.out.alloc _) (wr.heap.size + 1) (some ⟨wr.heap.size, 0, none⟩) 1 1 [.bool (!q)] rfl rfl HX.out (by simp [Value.oneCell']) (by omega) (by unfold maxLen; omega) (by simp; omega) ?_; intro v1 w1 h1 h2 h3
               have H1 : Hid (w1.ownsRow w.heap.size 4 1 v1 (m + 1) (bv (newP l a k on) (m + 1))) := Lib.hid (by rw [bv_snoc, HP.out]; exact h1)
               have H2 : Hid (Below w.heap.size w w1) := Lib.hid ((HG.out.alloc hsz _).grown h2 (by simp; omega) HU.out)
               clear h1 h2 h3))
          go_roundw
          case rel =>
            refine ⟨m + 1, by omega, by go_num, H1.out, H2.out, fun j j1 j2 j3 => ?_⟩
            by_cases e : j = m
            · subst e; exact absurd ⟨j1, j2⟩ HI.out
            · exact HF.out j j1 j2 (by omega)
          case measure => simp [intOf]; omega
    · obtain rfl : m = 2016 := by omega
      have hyes : allB l a k (!on) = true := allB_iff.2 fun j hj => HF.out (a + j) (by omega) (by omega) (by omega)
      have HE := Lib.hid (turned_lay HL.out (by omega) hyes seed)
      have HY := Lib.hid hyes
      clear hyes
      obtain ⟨A2, c2, rfl, hA2, hc2⟩ := WHelp.own_sl HO.out
      have HA2 := Lib.hid hA2
      clear hA2
      go_wp2_with (go_at_call 30; refine (refBytes_any (newP l a k on) _ rfl _ A2 c2 seed _ hs (Nat.le_refl _) HA2.out).mono ?_; rintro e w2 ⟨g, rfl, hg, ⟨rest, hR2⟩, hb2⟩
                   have HR2 := Lib.hid hR2
                   have HG2 := Lib.hid hb2
                   clear hR2 hb2)
      go_ret2
      unfold RefTurned
      rw [if_pos HY.out, ← HE.out]
      exact ⟨g, 256, rest, rfl, by omega, Nat.le_refl _, HR2.out, HG.out.trans (HG2.out.mono hsz)⟩
end Go.Proofs.YtlpipnpcgancmaaDoor.TRef3
