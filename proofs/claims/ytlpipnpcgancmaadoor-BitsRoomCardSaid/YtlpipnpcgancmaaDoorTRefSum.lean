/- The document's answers: Orders, first. -/
import Derived.Test.YtlpipnpcgancmaaDoorTRefOrd
namespace Go.Proofs.YtlpipnpcgancmaaDoor.TRefSum
open Go.RowKit WMem WPlain TPlain TBits TSet TWalk TOrd TCut TBud TNext TRefOrd

/-- the counts while they are made: orders below k are done, order k up to i -/
def part (l : List UInt8) (k i j : Nat) : Nat := if j < k then ordN l j else if j = k then cnt (fr l) k i else 0
theorem part_set {l : List UInt8} {k i i' : Nat} (hk : k < 11) (x : Nat) (hx : cnt (fr l) k i' = x) : (vals (part l k i) 11).set k (.int .i64 (x : Nat)) = vals (part l k i') 11 := by
  apply List.ext_getElem?
  intro j
  by_cases hj : j < 11
  · by_cases e : j = k
    · subst e
      rw [List.getElem?_set_self (by rw [vals_len]; exact hj), vals_at _ hj]
      simp [part, hx]
    · rw [List.getElem?_set_ne (by omega), vals_at _ hj, vals_at _ hj]
      simp [part, e]
  · rw [List.getElem?_eq_none (by rw [List.length_set, vals_len]; omega), List.getElem?_eq_none (by rw [vals_len]; omega)]
theorem part_same {l : List UInt8} {k i i' : Nat} (h : cnt (fr l) k i' = cnt (fr l) k i) : vals (part l k i') 11 = vals (part l k i) 11 := by
  unfold vals
  apply List.map_congr_left
  intro j _
  simp only [part, h]
theorem part_done {l : List UInt8} {k i : Nat} (hi : 2016 ≤ i) : vals (part l k i) 11 = vals (part l (k + 1) 0) 11 := by
  have h : cnt (fr l) k i = ordN l k := (cnt_end (frBig l) hi).1
  unfold vals
  apply List.map_congr_left
  intro j _
  congr 2
  unfold part
  by_cases h1 : j < k
  · rw [if_pos h1, if_pos (by omega)]
  · by_cases h2 : j = k
    · subst h2
      rw [if_neg h1, if_pos rfl, if_pos (by omega), h]
    · rw [if_neg h1, if_neg h2, if_neg (by omega)]
      split
      · rfl
      · rfl
theorem part_zero (l : List UInt8) : vals (part l 0 0) 11 = zeros11.toList := by
  have h : ∀ j, part l 0 0 j = 0 := fun j => by
    unfold part
    rw [if_neg (by omega)]
    split
    · rfl
    · rfl
  unfold vals
  simp only [h]
  rfl
theorem part_all (l : List UInt8) (i : Nat) : (vals (part l 11 i) 11).toArray = arrC (ordN l) := by
  have h : vals (part l 11 i) 11 = vals (ordN l) 11 := by
    unfold vals
    apply List.map_congr_left
    intro j hj
    have : j < 11 := by simpa using hj
    simp [part, this]
  rw [h]
  rfl
structure Two11 (w wr : World) (xs : List Value) : Prop where
  res : RowV wr w.heap.size 38 zeros11.toList
  own : RowV wr (w.heap.size + 1) 38 xs
  below : Below w.heap.size w wr
theorem Two11.start (w : World) : Two11 w ((w.alloc (.cells zeros11 38)).alloc (.cells zeros11 38)) zeros11.toList :=
  ⟨heap_alloc2_old w _ _, heap_alloc2_new w _ _, ((Below.refl _ _).alloc (Nat.le_refl _) _).alloc (by simp) _⟩
theorem Two11.set {w wr : World} {xs : List Value} (h : Two11 w wr xs) (i : Nat) (u : Value) : Two11 w (wr.setCell ⟨w.heap.size + 1, i, none⟩ u) (xs.set i u) :=
  ⟨h.res.grown (grown_set (grown_refl _ _) i u) (by simp), h.own.set i u, h.below.setCell (by simp) _⟩
set_option maxHeartbeats 1000000 in
set_option maxRecDepth 100000 in
theorem refOrders_any (l : List UInt8) (len : Nat) (hlen : l.length = len) (B : Nat) (A : Option Addr) (c : Nat) (w : World) (hB : B ≤ w.heap.size) (hl : len ≤ 140737488355328) (hA : Sl w B A (l.map u8v)) :
    Calls Tryd.prog 26 #[.slice A len c] w fun e w' => e = .returned (arr (ordN l)) ∧ Below w.heap.size w w' := by
  have HL := Lib.hid hlen
  have HA := Lib.hid hA
  have HB := Lib.hid hB
  clear hlen hA hB
  have HT := Lib.hid (Two11.start w)
  go_enter Tryd.func26, Tryd.ntmps26
  go_wp2
  go_loopw [4] (fun v wr => ∃ k : Nat, k ≤ 11 ∧ v = .int .i64 k ∧ Two11 w wr (vals (part l k 0) 11)) (fun v _ => 11 - (intOf v).toNat)
  case atStart => exact ⟨0, by omega, rfl, by rw [part_zero]; exact HT.out⟩
  case round =>
    obtain ⟨k, hk, rfl, ht⟩ := hrel
    have HW := Lib.hid ht
    clear ht HT
    obtain ⟨wo, rfl⟩ : ∃ wo : World, wo = wr := ⟨_, rfl⟩
    by_cases hlt : k < 11
    · have hd0 : decide ((k : Int) ≤ 10) = true := by simp; omega
      obtain ⟨q, hq⟩ : ∃ q, 2 ^ k = q := ⟨_, rfl⟩
      have hw := shl_go (show k ≤ 10 by omega) hq
      have hp := pow10 (show k ≤ 10 by omega)
      rw [hq] at hp
      have HQ := Lib.hid hq
      clear hq
      go_wp2
      go_loopw [5] (fun v wr => ∃ i : Nat, i ≤ 4000 ∧ i % 2 ^ k = 0 ∧ v = .int .i64 i ∧ Two11 w wr (vals (part l k i) 11)) (fun v _ => 4000 - (intOf v).toNat)
      case atStart => exact ⟨0, by omega, Nat.zero_mod _, rfl, HW.out⟩
      case round =>
        obtain ⟨i, hi, hmod, rfl, ht⟩ := hrel
        have HV := Lib.hid ht
        have HM := Lib.hid hmod
        clear ht hmod
        have HS : Hid (Sl wr B A (l.map u8v)) := Lib.hid (HA.out.below_le HV.out.below HB.out)
        by_cases hi2 : i < 2016
        · have HN : Hid ((i + q) % 2 ^ k = 0) := Lib.hid (by rw [← HQ.out]; exact next_mod HM.out)
          have HC := Lib.hid (cnt_next (F := fr l) HM.out).1
          rw [HQ.out] at HC
          cases hbd : bud (fr l) i k with
          | false =>
            have HBD := Lib.hid hbd
            have HX := Lib.hid (Buddy_any l len HL.out B A c i k wr (by omega) (by omega) HM.out hl HS.out)
            rw [hbd] at HX
            have HP : Hid (vals (part l k (i + q)) 11 = vals (part l k i) 11) := Lib.hid (part_same (by rw [HC.out, hbd]; rfl))
            clear hbd
            go_wp2_with (go_at_call 43; refine HX.out.mono ?_; rintro e w' ⟨rfl, rfl⟩)
            go_roundw
            case rel => exact ⟨i + q, by omega, HN.out, by go_num, by rw [HP.out]; exact HV.out⟩
            case measure => simp [intOf]; omega
          | true =>
            have HX := Lib.hid (Buddy_any l len HL.out B A c i k wr (by omega) (by omega) HM.out hl HS.out)
            rw [hbd] at HX
            have hcl := cnt_le (fr l) k i
            obtain ⟨x, hx⟩ : ∃ x, cnt (fr l) k i = x := ⟨_, rfl⟩
            have HC2 : Hid (cnt (fr l) k (i + q) = x + 1) := Lib.hid (by rw [HC.out, hbd, if_pos rfl, hx])
            have hcell : wr.cell? ⟨w.heap.size + 1, k, none⟩ = some (.int .i64 (x : Nat)) := (row_cell HV.out.own k).trans (by
              rw [List.getElem?_toArray, vals_at _ hlt]
              simp [part, hx])
            have hfr := row_free HV.out.own k
            rw [hx] at hcl
            have HP : Hid (Two11 w (wr.setCell ⟨w.heap.size + 1, k, none⟩ (.int .i64 ((x + 1 : Nat) : Int))) (vals (part l k (i + q)) 11)) := Lib.hid (by
              have := HV.out.set k (.int .i64 ((x + 1 : Nat) : Int))
              rw [part_set hlt (x + 1) HC2.out] at this
              exact this)
            rw [show ((x + 1 : Nat) : Int) = (x : Int) + 1 by push_cast; rfl] at HP
            clear hbd hx
            go_wp2_with (go_at_call 43; refine HX.out.mono ?_; rintro e w' ⟨rfl, rfl⟩)
            go_roundw
            case rel => exact ⟨i + q, by omega, HN.out, by go_num, HP.out⟩
            case measure => simp [intOf]; omega
        · go_wp2
          go_roundw
          case rel => exact ⟨k + 1, by omega, by go_num, by rw [← part_done (show 2016 ≤ i by omega)]; exact HV.out⟩
          case measure => simp [intOf]; omega
    · obtain rfl : k = 11 := by omega
      have hd0 : decide (((11 : Nat) : Int) ≤ 10) = false := by decide
      have HR : Hid (RowV wo (w.heap.size + 1) 38 (arrC (ordN l)).toList) := Lib.hid (by
        have := HW.out.own
        unfold RowV at this ⊢
        rw [part_all] at this
        exact this)
      go_wp2_with (first
        | (refine wpList_load_row rfl 38 (.tmp 3) rfl (w.heap.size + 1) rfl 38 (arrC (ordN l)) (0, 0) _ HR.out underA rfl (infoA' _) ?_)
        | (refine wpList_store_row rfl 38 (.tmp 2) (.tmp 25) rfl w.heap.size (arrC (ordN l)) rfl rfl 38 zeros11 HW.out.res (infoA' _) rfl (oneA _) ?_))
      refine bodyPost_ret (v := arr (ordN l)) ?_ rfl ⟨rfl, ?_⟩
      · exact results_cell_row rfl _ _ w.heap.size 38 _ (0, 0) _ rfl (setRow_heap _ _ _ _ _ _ HW.out.res) underA rfl (infoA' _)
      · exact below_setRow HW.out.below (Nat.le_refl _) _
def firstI (l : List UInt8) (k : Nat) : Int := if 0 < ordN l k then (firN l k : Nat) else -1
set_option maxHeartbeats 1000000 in
set_option maxRecDepth 100000 in
theorem first_any (l : List UInt8) (len : Nat) (hlen : l.length = len) (B : Nat) (A : Option Addr) (c k : Nat) (w : World) (hk : k ≤ 10) (hl : len ≤ 140737488355328) (hA : Sl w B A (l.map u8v)) :
    Calls Tryd.prog 42 #[.slice A len c, .int .i64 k] w fun e w' => e = .returned (.int .i64 (firstI l k)) ∧ w = w' := by
  have HL := Lib.hid hlen
  have HA := Lib.hid hA
  clear hlen hA
  obtain ⟨q, hq⟩ : ∃ q, 2 ^ k = q := ⟨_, rfl⟩
  have hw := shl_go hk hq
  have hp := pow10 hk
  rw [hq] at hp
  have HQ := Lib.hid hq
  clear hq
  go_enter Tryd.func42, Tryd.ntmps42
  go_wp2
  go_loop [5] (fun v => ∃ i : Nat, i ≤ 4000 ∧ i % 2 ^ k = 0 ∧ v = .int .i64 i ∧ cnt (fr l) k i = 0) (fun v => 4000 - (intOf v).toNat)
  case atStart => exact ⟨0, by omega, Nat.zero_mod _, rfl, rfl⟩
  case round =>
    obtain ⟨i, hi, hmod, rfl, h0⟩ := hrel
    have HM := Lib.hid hmod
    have H0 := Lib.hid h0
    clear hmod h0
    by_cases hi2 : i < 2016
    · have HN : Hid ((i + q) % 2 ^ k = 0) := Lib.hid (by rw [← HQ.out]; exact next_mod HM.out)
      have HC := Lib.hid (cnt_next (F := fr l) HM.out).1
      rw [HQ.out] at HC
      have HX := Lib.hid (Buddy_any l len HL.out B A c i k w (by omega) hk HM.out hl HA.out)
      cases hbd : bud (fr l) i k with
      | false =>
        rw [hbd] at HX
        have HP : Hid (cnt (fr l) k (i + q) = 0) := Lib.hid (by rw [HC.out, hbd, H0.out]; rfl)
        clear hbd
        go_wp2_with (go_at_call 43; refine HX.out.mono ?_; rintro e w' ⟨rfl, rfl⟩)
        go_round
        case rel => exact ⟨i + q, by omega, HN.out, by go_num, HP.out⟩
        case measure => simp [intOf]; omega
      | true =>
        rw [hbd] at HX
        have HF := Lib.hid (first_at H0.out hbd hi2)
        clear hbd
        go_wp2_with (go_at_call 43; refine HX.out.mono ?_; rintro e w' ⟨rfl, rfl⟩)
        go_ret
        refine ⟨ret_i ?_, rfl⟩
        unfold firstI ordN firN
        rw [if_pos HF.out.1, HF.out.2]
    · go_wp2
      go_ret
      refine ⟨ret_i ?_, rfl⟩
      unfold firstI ordN
      rw [if_neg (by rw [← (cnt_end (frBig l) (show 2016 ≤ i by omega)).1, H0.out]; omega)]
end Go.Proofs.YtlpipnpcgancmaaDoor.TRefSum
