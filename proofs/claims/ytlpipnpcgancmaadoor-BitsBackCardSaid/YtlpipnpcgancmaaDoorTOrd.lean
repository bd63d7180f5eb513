/- Orders: orderAt, orderOf, choose. -/
import Derived.Test.YtlpipnpcgancmaaDoorTWalk
import Derived.IntWalk
namespace Go.Proofs.YtlpipnpcgancmaaDoor.TOrd
open Go.RowKit WMem WPlain TPlain TBits TSet TWalk

def SomeOrd (p d : Nat) (w : World) (e : Ending) (w' : World) : Prop := ∃ k : Nat, e = .returned (.int .i64 (k : Int)) ∧ OrdAt p d k ∧ w = w'
theorem pow10 {k : Nat} (h : k ≤ 10) : 2 ^ k ≤ 1024 ∧ 0 < 2 ^ k := ⟨by have := Nat.pow_le_pow_right (show 0 < 2 by decide) h; simpa using this, Nat.two_pow_pos _⟩
set_option maxHeartbeats 400000 in
set_option maxRecDepth 100000 in
theorem orderAt_any (p e : Nat) (w : World) (hpe : p < e) (he : e ≤ 2016) :
    Calls Tryd.prog 59 #[.int .i64 p, .int .i64 e] w (SomeOrd p (e - p) w) := by
  go_enter Tryd.func59, Tryd.ntmps59
  go_wp2
  go_loop [5] (fun v => ∃ k : Nat, k ≤ 10 ∧ v = .int .i64 k ∧ p % 2 ^ k = 0 ∧ 2 ^ k ≤ e - p) (fun v => 10 - (intOf v).toNat)
  case atStart => exact ⟨0, by omega, rfl, Nat.mod_one _, by omega⟩
  case round =>
    obtain ⟨k, hk, rfl, h1, h2⟩ := hrel
    have hp := pow10 hk
    by_cases hlt : k < 10
    · have d0 : decide ((k : Int) < 10) = true := by simp; omega
      have hq2 : 2 ^ (k + 1) ≤ 1024 ∧ 0 < 2 ^ (k + 1) := pow10 (by omega)
      obtain ⟨q, hq⟩ : ∃ q, 2 ^ (k + 1) = q := ⟨_, rfl⟩
      have hw : wrap64 (2 * 2 ^ k) = (q : Int) := by
        have e1 : (2 * 2 ^ k : Int) = (q : Int) := by rw [← hq, Nat.pow_succ]; push_cast; omega
        rw [e1, IntWalk.wrap64_in _ ⟨by omega, by omega⟩]
      rw [hq] at hq2
      have H1 := Lib.hid h1
      have H2 := Lib.hid h2
      have HQ := Lib.hid hq
      obtain ⟨hq3, hq4⟩ := hq2
      clear h1 h2 hq
      by_cases t1 : p % q = 0
      · have g1 : ((p : Int) % (q : Int) == 0) = true := by rw [beq_iff_eq]; omega
        by_cases t2 : q ≤ e - p
        · have g2 : decide ((q : Int) ≤ (e : Int) - (p : Int)) = true := by simp; omega
          have T1 := Lib.hid t1
          have T2 := Lib.hid t2
          clear t1 t2
          go_wp2
          go_round
          case rel => exact ⟨k + 1, by omega, by go_num, by rw [HQ.out]; exact T1.out, by rw [HQ.out]; exact T2.out⟩
          case measure => simp [intOf]; omega
        · have g2 : decide ((q : Int) ≤ (e : Int) - (p : Int)) = false := by simp; omega
          have T2 := Lib.hid t2
          clear t1 t2
          go_wp2
          go_ret
          exact ⟨k, rfl, ⟨hk, H1.out, H2.out, .inr (.inr (by rw [HQ.out]; have := T2.out; omega))⟩, rfl⟩
      · have g1 : ((p : Int) % (q : Int) == 0) = false := by rw [beq_eq_false_iff_ne]; omega
        have T1 := Lib.hid t1
        clear t1
        go_wp2
        go_ret
        exact ⟨k, rfl, ⟨hk, H1.out, H2.out, .inr (.inl (by rw [HQ.out]; exact T1.out))⟩, rfl⟩
    · obtain rfl : k = 10 := by omega
      have H1 := Lib.hid h1
      have H2 := Lib.hid h2
      clear h1 h2 hp
      go_wp2
      go_ret
      exact ⟨10, rfl, ⟨hk, H1.out, H2.out, .inl rfl⟩, rfl⟩
theorem ordOf_is {want : Int} {k : Nat} (h : ∀ j, j < k → ((2 ^ j : Nat) : Int) < want) (hk : k < 10 ∧ want ≤ ((2 ^ k : Nat) : Int) ∨ k = 10) : ordOf want = k := by
  unfold ordOf
  cases e : upFrom (fun j => decide (want ≤ ((2 ^ j : Nat) : Int))) 0 10 with
  | none =>
    have h2 := upFrom_none e
    rcases hk with ⟨h3, h4⟩ | h3
    · have := h2 k (by omega) (by omega); simp at this; simp at h4; omega
    · simp [h3]
  | some r =>
    obtain ⟨h1, h2, h3, h4⟩ := upFrom_some e
    simp only [decide_eq_true_eq, decide_eq_false_iff_not] at h3 h4
    simp only [Option.getD_some]
    rcases Nat.lt_trichotomy r k with hl | hl | hl
    · have := h r hl; omega
    · exact hl
    · rcases hk with ⟨h5, h6⟩ | h5
      · exact absurd h6 (h4 k (by omega) hl)
      · omega
set_option maxHeartbeats 400000 in
set_option maxRecDepth 100000 in
theorem orderOf_any (want : Int) (w : World) :
    Calls Tryd.prog 41 #[.int .i64 want] w fun e w' => e = .returned (.int .i64 (ordOf want : Nat)) ∧ w = w' := by
  go_enter Tryd.func41, Tryd.ntmps41
  go_wp2
  go_loop [4] (fun v => ∃ k : Nat, k ≤ 10 ∧ v = .int .i64 k ∧ ∀ j, j < k → ((2 ^ j : Nat) : Int) < want) (fun v => 10 - (intOf v).toNat)
  case atStart => exact ⟨0, by omega, rfl, fun j hj => by omega⟩
  case round =>
    obtain ⟨k, hk, rfl, h1⟩ := hrel
    have H1 := Lib.hid h1
    clear h1
    by_cases hlt : k < 10
    · have hp := pow10 hk
      obtain ⟨q, hq⟩ : ∃ q, 2 ^ k = q := ⟨_, rfl⟩
      have hw : wrap64 (2 ^ k) = (q : Int) := by
        have e1 : (2 ^ k : Int) = (q : Int) := by rw [← hq]; push_cast; rfl
        rw [e1, IntWalk.wrap64_in _ ⟨by omega, by omega⟩]
      rw [hq] at hp
      have HQ := Lib.hid hq
      clear hq
      by_cases t1 : want ≤ q
      · have T1 := Lib.hid t1
        go_wp2
        go_ret
        exact ⟨ret_i (by rw [ordOf_is H1.out (.inl ⟨hlt, by rw [HQ.out]; exact T1.out⟩)]), rfl⟩
      · have T1 := Lib.hid t1
        go_wp2
        go_round
        case rel =>
          refine ⟨k + 1, by omega, by go_num, fun j hj => ?_⟩
          by_cases e : j = k
          · subst e; rw [HQ.out]; have := T1.out; omega
          · exact H1.out j (by omega)
        case measure => simp [intOf]; omega
    · obtain rfl : k = 10 := by omega
      go_wp2
      go_ret
      exact ⟨ret_i (by rw [ordOf_is H1.out (.inr rfl)]; rfl), rfl⟩
/-- eleven counts as an array -/
abbrev arr (f : Nat → Nat) : Value := .agg #[.int .i64 (f 0 : Nat), .int .i64 (f 1 : Nat), .int .i64 (f 2 : Nat), .int .i64 (f 3 : Nat), .int .i64 (f 4 : Nat), .int .i64 (f 5 : Nat), .int .i64 (f 6 : Nat), .int .i64 (f 7 : Nat), .int .i64 (f 8 : Nat), .int .i64 (f 9 : Nat), .int .i64 (f 10 : Nat)]
/-- its cells -/
def vals (f : Nat → Nat) (n : Nat) : List Value := (List.range n).map fun k => .int .i64 (f k : Nat)
theorem vals_len (f : Nat → Nat) (n : Nat) : (vals f n).length = n := by simp [vals]
theorem vals_at (f : Nat → Nat) {n k : Nat} (hk : k < n) : (vals f n)[k]? = some (.int .i64 (f k : Nat)) := by
  simp [vals, List.getElem?_map, List.getElem?_range hk]
/-- is there a chunk of that order? -/
def hasB (f : Nat → Nat) (j : Nat) : Bool := decide (0 < f j)
theorem chs_up {P : Nat → Bool} {k j : Nat} (hkj : k ≤ j) (hj : j ≤ 10) (hn : ∀ i, k ≤ i → i < j → P i = false) (hp : P j = true) : chs P k = j := by
  unfold chs chsO
  cases e : upFrom P k (11 - k) with
  | none => rw [upFrom_none e j hkj (by omega)] at hp; cases hp
  | some r =>
    obtain ⟨h1, h2, h3, h4⟩ := upFrom_some e
    have : r = j := by
      rcases Nat.lt_trichotomy r j with hl | hl | hl
      · rw [hn r h1 hl] at h3; cases h3
      · exact hl
      · rw [h4 j hkj hl] at hp; cases hp
    subst this
    rfl
theorem up_none {P : Nat → Bool} {k : Nat} (hn : ∀ i, k ≤ i → i < 11 → P i = false) : upFrom P k (11 - k) = none := by
  cases e : upFrom P k (11 - k) with
  | none => rfl
  | some r =>
    obtain ⟨h1, h2, h3, h4⟩ := upFrom_some e
    rw [hn r h1 (by omega)] at h3; cases h3
theorem chs_down {P : Nat → Bool} {k j : Nat} (hn : ∀ i, k ≤ i → i < 11 → P i = false) (hjk : j < k) (hm : ∀ i, j < i → i < k → P i = false) (hp : P j = true) : chs P k = j := by
  unfold chs chsO
  rw [up_none hn]
  cases e : downFrom P k with
  | none => rw [downFrom_none e j hjk] at hp; cases hp
  | some r =>
    obtain ⟨h1, h3, h4⟩ := downFrom_some e
    have : r = j := by
      rcases Nat.lt_trichotomy r j with hl | hl | hl
      · rw [h4 j hl hjk] at hp; cases hp
      · exact hl
      · rw [hm r hl h1] at h3; cases h3
    subst this
    rfl
theorem chs_none {P : Nat → Bool} {k : Nat} (hn : ∀ i, k ≤ i → i < 11 → P i = false) (hm : ∀ i, i < k → P i = false) : chs P k = -1 := by
  unfold chs chsO
  rw [up_none hn]
  cases e : downFrom P k with
  | none => rfl
  | some r =>
    obtain ⟨h1, h3, h4⟩ := downFrom_some e
    rw [hm r h1] at h3; cases h3
set_option maxHeartbeats 400000 in
set_option maxRecDepth 100000 in
theorem choose_any (f : Nat → Nat) (k : Nat) (hk : k ≤ 10) (w : World) :
    Calls Tryd.prog 40 #[arr f, .int .i64 k] w fun e w' => e = .returned (.int .i64 (chs (hasB f) k)) ∧ Below w.heap.size w w' := by
  have hrow : RowV (w.alloc (.cells #[.int .i64 (f 0 : Nat), .int .i64 (f 1 : Nat), .int .i64 (f 2 : Nat), .int .i64 (f 3 : Nat), .int .i64 (f 4 : Nat), .int .i64 (f 5 : Nat), .int .i64 (f 6 : Nat), .int .i64 (f 7 : Nat), .int .i64 (f 8 : Nat), .int .i64 (f 9 : Nat), .int .i64 (f 10 : Nat)] 38)) w.heap.size 38 (vals f 11) := row_new w _
  have HR := Lib.hid hrow
  clear hrow
  go_enter Tryd.func40, Tryd.ntmps40
  go_wp2
  go_loopw [5] (fun v wr => ∃ j : Nat, k ≤ j ∧ j ≤ 11 ∧ v = .int .i64 j ∧ (∀ i, k ≤ i → i < j → hasB f i = false) ∧ RowV wr w.heap.size 38 (vals f 11) ∧ Below w.heap.size w wr) (fun v _ => 11 - (intOf v).toNat)
  case atStart => exact ⟨k, Nat.le_refl _, by omega, rfl, fun i h1 h2 => by omega, HR.out, (Below.refl _ _).alloc (Nat.le_refl _) _⟩
  case round =>
    obtain ⟨j, hkj, hj, rfl, hno, hR, hb⟩ := hrel
    have HN := Lib.hid hno
    have HR := Lib.hid hR
    have HB := Lib.hid hb
    clear hno hR hb
    by_cases hlt : j < 11
    · have hcell : wr.cell? ⟨w.heap.size, j, none⟩ = some (.int .i64 (f j : Nat)) := (row_cell HR.out j).trans (by rw [List.getElem?_toArray]; exact vals_at f hlt)
      obtain ⟨q, hq⟩ : ∃ q, f j = q := ⟨_, rfl⟩
      rw [hq] at hcell
      have hd0 : decide ((j : Int) ≤ 10) = true := by simp; omega
      by_cases hz : 0 < q
      · have hd : decide ((0 : Int) < (q : Int)) = true := by simp; omega
        have HQ := Lib.hid hq
        clear hq
        go_wp2
        go_ret
        exact ⟨ret_i (chs_up hkj (by omega) HN.out (by unfold hasB; rw [HQ.out]; simpa using hz)).symm, HB.out⟩
      · have hd : decide ((0 : Int) < (q : Int)) = false := by simp; omega
        have HQ : Hid (hasB f j = false) := Lib.hid (by unfold hasB; rw [hq]; simp; omega)
        clear hq
        go_wp2
        go_roundw
        case rel =>
          refine ⟨j + 1, by omega, by omega, by go_num, fun i h1 h2 => ?_, HR.out, HB.out⟩
          by_cases e : i = j
          · subst e; exact HQ.out
          · exact HN.out i h1 (by omega)
        case measure => simp [intOf]; omega
    · obtain rfl : j = 11 := by omega
      have hd0 : decide (((11 : Nat) : Int) ≤ 10) = false := by decide
      obtain ⟨wo, rfl⟩ : ∃ wo : World, wo = wr := ⟨_, rfl⟩
      have hk1 : wrap64 ((k : Int) - 1) = (k : Int) - 1 := IntWalk.wrap64_in _ ⟨by omega, by omega⟩
      go_wp2
      go_loopw [6] (fun v wr => ∃ j : Nat, j ≤ k ∧ v = .int .i64 ((j : Int) - 1) ∧ (∀ i, j ≤ i → i < k → hasB f i = false) ∧ RowV wr w.heap.size 38 (vals f 11) ∧ Below w.heap.size w wr) (fun v _ => (intOf v + 1).toNat)
      case atStart => exact ⟨k, Nat.le_refl _, rfl, fun i h1 h2 => by omega, HR.out, HB.out⟩
      case round =>
        obtain ⟨j, hjk, rfl, hno, hR, hb⟩ := hrel
        have HM := Lib.hid hno
        have HS := Lib.hid hR
        have HC := Lib.hid hb
        clear hno hR hb
        rcases j with _ | j
        · rw [show (((0 : Nat) : Int) - 1) = -1 by omega]
          go_wp2
          go_ret
          exact ⟨ret_i (chs_none HN.out fun i h => HM.out i (by omega) h).symm, HC.out⟩
        · rw [show (((j + 1 : Nat) : Int) - 1) = (j : Int) by omega]
          have hcell : wr.cell? ⟨w.heap.size, j, none⟩ = some (.int .i64 (f j : Nat)) := (row_cell HS.out j).trans (by rw [List.getElem?_toArray]; exact vals_at f (by omega))
          obtain ⟨q, hq⟩ : ∃ q, f j = q := ⟨_, rfl⟩
          rw [hq] at hcell
          by_cases hz : 0 < q
          · have hd : ((q : Int) == 0) = false := by rw [beq_eq_false_iff_ne]; omega
            have HQ := Lib.hid hq
            clear hq
            go_wp2
            go_ret
            exact ⟨ret_i (chs_down HN.out (by omega) (fun i h1 h2 => HM.out i (by omega) h2) (by unfold hasB; rw [HQ.out]; simpa using hz)).symm, HC.out⟩
          · have hd : ((q : Int) == 0) = true := by rw [beq_iff_eq]; omega
            have HQ : Hid (hasB f j = false) := Lib.hid (by unfold hasB; rw [hq]; simp; omega)
            clear hq
            go_wp2
            go_roundw
            case rel =>
              refine ⟨j, by omega, rfl, fun i h1 h2 => ?_, HS.out, HC.out⟩
              by_cases e : i = j
              · subst e; exact HQ.out
              · exact HM.out i (by omega) h2
            case measure => simp [intOf]
end Go.Proofs.YtlpipnpcgancmaaDoor.TOrd
