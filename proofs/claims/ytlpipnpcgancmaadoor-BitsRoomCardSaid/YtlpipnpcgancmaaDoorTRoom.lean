/- The law BitsRoom. -/
import Derived.Test.YtlpipnpcgancmaaDoorTAwake
import Derived.Test.YtlpipnpcgancmaaDoorTFacts
import Derived.Test.YtlpipnpcgancmaaDoorTRefFind
namespace Go.Proofs.YtlpipnpcgancmaaDoor.TRoom
open Go.RowKit WMem WPlain WAppend WCrc WSeal WAny TPlain TBits TSet TWalk TOrd TCut TBud TTurn TFace TTurnF TFind TRefOrd TAwake TFacts

/-- the greatest chunk of the orders below k; 0, if there is none -/
def grt (l : List UInt8) : Nat → Nat
  | 0 => 0
  | k + 1 => if 0 < ordN l k then 2 ^ k else grt l k
theorem grt_le (l : List UInt8) : ∀ k, k ≤ 11 → grt l k ≤ 1024
  | 0, _ => by simp [grt]
  | k + 1, h => by
    simp only [grt]
    split
    · have := pow10 (show k ≤ 10 by omega); omega
    · exact grt_le l k (by omega)
theorem grt_is (l : List UInt8) : ∀ k, (∃ m, m < k ∧ 0 < ordN l m) → ∃ m, m < k ∧ 0 < ordN l m ∧ grt l k = 2 ^ m ∧ ∀ i, m < i → i < k → ordN l i = 0
  | 0, ⟨m, h, _⟩ => by omega
  | k + 1, ⟨m, h, hm⟩ => by
    simp only [grt]
    by_cases h0 : 0 < ordN l k
    · rw [if_pos h0]
      exact ⟨k, by omega, h0, rfl, fun i h1 h2 => by omega⟩
    · rw [if_neg h0]
      have hmk : m < k := by
        refine Nat.lt_of_le_of_ne (by omega) fun e => ?_
        subst e
        exact h0 hm
      obtain ⟨x, h1, h2, h3, h4⟩ := grt_is l k ⟨m, hmk, hm⟩
      refine ⟨x, by omega, h2, h3, fun i i1 i2 => ?_⟩
      by_cases e : i = k
      · subst e; omega
      · exact h4 i i1 (by omega)
theorem ordOf_wide {want : Int} (h : ordOf want < 10) : want ≤ ((2 ^ ordOf want : Nat) : Int) := by
  unfold ordOf at h ⊢
  cases e : upFrom (fun j => decide (want ≤ ((2 ^ j : Nat) : Int))) 0 10 with
  | none => rw [e] at h; simp at h
  | some r =>
    obtain ⟨_, _, h3, _⟩ := upFrom_some e
    simpa using h3
theorem pick_room {l : List UInt8} {want : Int} {r : Nat} (h : pick l want = (r : Int)) : min want ((2 ^ r : Nat) : Int) = min want (grt l 11 : Nat) := by
  obtain ⟨hr, hpos⟩ := pick_has h
  obtain ⟨m, hm, hmp, hg, hmax⟩ := grt_is l 11 ⟨r, by omega, hpos⟩
  rw [hg]
  by_cases e : r = m
  · rw [e]
  · have hrm : r < m := by
      refine Nat.lt_of_le_of_ne (Nat.le_of_not_lt fun h2 => ?_) e
      have := hmax r h2 (by omega)
      omega
    have hro : ordOf want ≤ r := by
      refine Nat.le_of_not_lt fun h2 => ?_
      have hb : ∀ k, hasB (ordN l) k = decide (0 < ordN l k) := fun _ => rfl
      unfold pick chs chsO at h
      cases e1 : upFrom (hasB (ordN l)) (ordOf want) (11 - ordOf want) with
      | some y =>
        rw [e1] at h
        simp [optI] at h
        have := upFrom_some e1
        omega
      | none =>
        rw [e1] at h
        simp at h
        cases e2 : downFrom (hasB (ordN l)) (ordOf want) with
        | none => rw [e2] at h; simp [optI] at h
        | some y =>
          rw [e2] at h
          simp [optI] at h
          obtain rfl : y = r := by omega
          obtain ⟨_, _, h5⟩ := downFrom_some e2
          by_cases h6 : m < ordOf want
          · have := h5 m hrm h6
            rw [hb] at this
            simp at this
            omega
          · have := upFrom_none e1 m (by omega) (by have := ordOf_le want; omega)
            rw [hb] at this
            simp at this
            omega
    have h1 := ordOf_wide (want := want) (by omega)
    have h2 : 2 ^ ordOf want ≤ 2 ^ r := Nat.pow_le_pow_right (by decide) hro
    have h3 : 2 ^ r ≤ 2 ^ m := Nat.pow_le_pow_right (by decide) (by omega)
    generalize 2 ^ ordOf want = a at *
    generalize 2 ^ r = b at *
    generalize 2 ^ m = d at *
    omega
section
variable (l : List UInt8) (len : Nat) (hlen : l.length = len) (B : Nat) (A : Option Addr) (c : Nat) (want : Int) (w : World) (hl : len ≤ 140737488355328) (hB : B ≤ w.heap.size) (hA : Sl w B A (l.map u8v)) (hT : Tab w)
include hlen hl hB hA hT
set_option maxHeartbeats 1000000 in
set_option maxRecDepth 100000 in
theorem room_small (hw : want < 1) (hv : findV l (-1) want = .tuple #[.int .i64 0, .int .i64 0, .bool false]) :
    Calls Tryd.prog 8 #[.slice A len c, .int .i64 want] w fun e w' => e = .returned (.bool true) ∧ Below w.heap.size w w' := by
  have ht := Tab.lt hT
  have HL := Lib.hid hlen
  have HA := Lib.hid hA
  have HB := Lib.hid hB
  have HT := Lib.hid hT
  have HV := Lib.hid hv
  have d0 : decide (want < 1) = true := by simpa using hw
  clear hlen hA hB hT hv hw
  go_enter Tryd.func8, Tryd.ntmps8
  go_wp2_with fail
  refine (awake_any w HT.out).mono ?_
  rintro e w1 ⟨rfl, hb1⟩
  have B1 := Lib.hid hb1
  have s1 := hb1.size
  have S1 := Lib.hid (HA.out.below_le hb1 HB.out)
  clear hb1
  go_wp2_with fail
  refine (Find_any l len HL.out B A c (-1) want w1 (by have := HB.out; omega) hl S1.out).mono ?_
  rintro e w2 ⟨rfl, hb2⟩
  rw [HV.out]
  have B2 := Lib.hid (B1.out.trans (hb2.mono s1))
  have s2 := B2.out.size
  have S2 := Lib.hid (HA.out.below_le B2.out HB.out)
  clear hb2
  go_wp2
  go_ret
  exact ⟨rfl, B2.out⟩
set_option maxHeartbeats 1000000 in
set_option maxRecDepth 100000 in
theorem room_empty (hw : ¬ want < 1) (hz : zeros l = 0) (hv : findV l (-1) want = .tuple #[.int .i64 0, .int .i64 0, .bool false]) :
    Calls Tryd.prog 8 #[.slice A len c, .int .i64 want] w fun e w' => e = .returned (.bool true) ∧ Below w.heap.size w w' := by
  have ht := Tab.lt hT
  have HL := Lib.hid hlen
  have HA := Lib.hid hA
  have HB := Lib.hid hB
  have HT := Lib.hid hT
  have HV := Lib.hid hv
  have d0 : decide (want < 1) = false := by simpa using hw
  have HZ := Lib.hid hz
  clear hlen hA hB hT hv hw hz
  go_enter Tryd.func8, Tryd.ntmps8
  go_wp2_with fail
  refine (awake_any w HT.out).mono ?_
  rintro e w1 ⟨rfl, hb1⟩
  have B1 := Lib.hid hb1
  have s1 := hb1.size
  have S1 := Lib.hid (HA.out.below_le hb1 HB.out)
  clear hb1
  go_wp2_with fail
  refine (Find_any l len HL.out B A c (-1) want w1 (by have := HB.out; omega) hl S1.out).mono ?_
  rintro e w2 ⟨rfl, hb2⟩
  rw [HV.out]
  have B2 := Lib.hid (B1.out.trans (hb2.mono s1))
  have s2 := B2.out.size
  have S2 := Lib.hid (HA.out.below_le B2.out HB.out)
  clear hb2
  have Z1 := Lib.hid (Zeros_any l len HL.out B A c w2 hl S2.out)
  rw [HZ.out] at Z1
  go_wp2_with (go_at_call 23; refine Z1.out.mono ?_; rintro e w' ⟨rfl, rfl⟩)
  go_ret
  exact ⟨rfl, B2.out⟩
set_option maxHeartbeats 1000000 in
set_option maxRecDepth 100000 in
theorem room_main (hw : ¬ want < 1) (z : Nat) (hz : zeros l = z) (hz0 : z ≠ 0) (x y : Int) (hv : findV l (-1) want = .tuple #[.int .i64 x, .int .i64 y, .bool true]) (hy : y = min want (grt l 11 : Nat)) (f : Nat → Nat) (hf : ordN l = f) :
    Calls Tryd.prog 8 #[.slice A len c, .int .i64 want] w fun e w' => e = .returned (.bool true) ∧ Below w.heap.size w w' := by
  have ht := Tab.lt hT
  have HL := Lib.hid hlen
  have HA := Lib.hid hA
  have HB := Lib.hid hB
  have HT := Lib.hid hT
  have HV := Lib.hid hv
  have d0 : decide (want < 1) = false := by simpa using hw
  have d1 : ((z : Int) == 0) = false := by rw [beq_eq_false_iff_ne]; omega
  have HZ := Lib.hid hz
  have HY := Lib.hid hy
  have HF := Lib.hid hf
  clear hlen hA hB hT hv hw hz hz0 hy hf
  go_enter Tryd.func8, Tryd.ntmps8
  go_wp2_with fail
  refine (awake_any w HT.out).mono ?_
  rintro e w1 ⟨rfl, hb1⟩
  have B1 := Lib.hid hb1
  have s1 := hb1.size
  have S1 := Lib.hid (HA.out.below_le hb1 HB.out)
  clear hb1
  go_wp2_with fail
  refine (Find_any l len HL.out B A c (-1) want w1 (by have := HB.out; omega) hl S1.out).mono ?_
  rintro e w2 ⟨rfl, hb2⟩
  rw [HV.out]
  have B2 := Lib.hid (B1.out.trans (hb2.mono s1))
  have s2 := B2.out.size
  have S2 := Lib.hid (HA.out.below_le B2.out HB.out)
  clear hb2
  have Z1 := Lib.hid (Zeros_any l len HL.out B A c w2 hl S2.out)
  rw [HZ.out] at Z1
  have O1 := Lib.hid (Orders_any l len HL.out B A c w2 (by have := HB.out; omega) hl S2.out)
  rw [HF.out] at O1
  go_wp2_with (first
    | (go_at_call 23; refine Z1.out.mono ?_; rintro e w' ⟨rfl, rfl⟩)
    | (go_at_call 25; refine O1.out.mono ?_; rintro e w3 ⟨rfl, hb3⟩
       have B3 := Lib.hid (B2.out.trans (hb3.mono s2))
       have s3 := B3.out.size
       clear hb3)
    | (refine wpList_store_row rfl 38 (.tmp 9) (.tmp 41) rfl w3.heap.size (arrC f) rfl rfl 38 zeros11 (row_new w3 _) (infoA' _) rfl (oneA _) ?_))
  have hR4 : ((w3.alloc (.cells zeros11 38)).setRow w3.heap.size (arrC f)).heap[w3.heap.size]? = some (.cells (arrC f) 38 (0, 0)) := setRow_heap _ _ _ _ _ _ (row_new w3 _)
  have B4 := Lib.hid (below_setRow (B3.out.alloc s3 (.cells zeros11 38)) s3 (arrC f))
  generalize (w3.alloc (.cells zeros11 38)).setRow w3.heap.size (arrC f) = w4 at *
  generalize w3.heap.size = o at *
  have HR := Lib.hid hR4
  clear hR4
  go_loop [10, 11] (fun v i => ∃ k : Nat, k ≤ 11 ∧ i = .int .i64 k ∧ v = .int .i64 (grt l k : Nat)) (fun _ i => 11 - (intOf i).toNat)
  case atStart => exact ⟨0, by omega, rfl, rfl⟩
  case round =>
    obtain ⟨k, hk, rfl, hv⟩ := hrel
    have hgl := grt_le l k hk
    obtain ⟨gv, hgv⟩ : ∃ gv, grt l k = gv := ⟨_, rfl⟩
    rw [hgv] at hv hgl
    subst hv
    by_cases hlt : k < 11
    · have hcell := oarr HR.out hlt
      obtain ⟨u, hu⟩ : ∃ u, f k = u := ⟨_, rfl⟩
      rw [hu] at hcell
      obtain ⟨q, hq⟩ : ∃ q, 2 ^ k = q := ⟨_, rfl⟩
      have hwq := shl_go (show k ≤ 10 by omega) hq
      by_cases hpos : 0 < u
      · have HG : Hid (grt l (k + 1) = q) := Lib.hid (by simp only [grt]; rw [HF.out, hu, if_pos hpos, hq])
        clear hu hq hgv
        go_wp2
        go_round
        case rel => exact ⟨k + 1, by omega, by go_num, by rw [HG.out, hwq]⟩
        case measure => simp [intOf]; omega
      · have HG : Hid (grt l (k + 1) = gv) := Lib.hid (by simp only [grt]; rw [HF.out, hu, if_neg hpos, hgv])
        clear hu hq hgv
        go_wp2
        go_round
        case rel => exact ⟨k + 1, by omega, by go_num, by rw [HG.out]⟩
        case measure => simp [intOf]; omega
    · obtain rfl : k = 11 := by omega
      have HM : Hid (y = min want (gv : Nat)) := Lib.hid (by rw [← hgv]; exact HY.out)
      by_cases hmin : (gv : Int) < want
      · have d2 : (y == (gv : Int)) = true := by rw [beq_iff_eq, HM.out]; omega
        clear hgv
        go_wp2
        go_ret
        exact ⟨rfl, B4.out⟩
      · have d2 : (y == want) = true := by rw [beq_iff_eq, HM.out]; omega
        clear hgv
        go_wp2
        go_ret
        exact ⟨rfl, B4.out⟩
end
theorem room (l : List UInt8) (B : Nat) (A : Option Addr) (c : Nat) (want : Int) (w : World) (_hw64 : want ≤ 9223372036854775807) (hl : l.length ≤ 140737488355328) (hB : B ≤ w.heap.size) (hA : Sl w B A (l.map u8v)) (hT : Tab w) :
    Calls Tryd.prog 8 #[.slice A l.length c, .int .i64 want] w fun e w' => e = .returned (.bool true) ∧ Below w.heap.size w w' := by
  by_cases hw : want < 1
  · exact room_small l _ rfl B A c want w hl hB hA hT hw (findV_small hw)
  · by_cases hz : zeros l = 0
    · exact room_empty l _ rfl B A c want w hl hB hA hT hw hz (TRefFind.findV_empty hz)
    · have hg : goalB l (-1) = false := rfl
      have hp : ¬ pick l want < 0 := fun h => hz (none_zeros (pick_not h))
      obtain ⟨r, hr⟩ := Int.eq_ofNat_of_zero_le (show 0 ≤ pick l want by omega)
      have hv := findV_some hw hg hp
      rw [hr] at hv
      exact room_main l _ rfl B A c want w hl hB hA hT hw _ rfl hz _ _ hv (pick_room hr) _ rfl
end Go.Proofs.YtlpipnpcgancmaaDoor.TRoom
