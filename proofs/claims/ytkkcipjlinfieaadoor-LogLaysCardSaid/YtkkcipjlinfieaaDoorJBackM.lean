/- A block that was made of a record says that record. -/
import Derived.Test.YtkkcipjlinfieaaDoorJSays
namespace Go.Proofs.YtkkcipjlinfieaaDoor.JBackM
open Go.RowKit WMem WPlain WWide WAny SNums JPlain JMem JTold JSays

theorem w_head {kind : Int} {n k : Nat} (h : k < 4) : (nats (recW kind n))[k]? = (nats headW)[k]? := by
  rw [recW, nats_append, List.getElem?_append_left (by simpa [headW, nats] using h)]
theorem w_tail {kind : Int} {n j : Nat} : (nats (recW kind n))[4 + j]? = (nats (bodyW kind n))[j]? := by
  rw [recW, nats_append, List.getElem?_append_right (by simp [headW, nats])]; simp [headW, nats]
theorem n_head {r : Rec} {k : Nat} (h : k < 4) : (recN r)[k]? = (headN r)[k]? := by
  rw [recN, List.getElem?_append_left (by simpa [headN] using h)]
theorem n_tail {r : Rec} {j : Nat} : (recN r)[4 + j]? = (bodyN r)[j]? := by
  rw [recN, List.getElem?_append_right (by simp [headN])]; simp [headN]
theorem tot_head {kind : Int} {n k : Nat} (h : k ≤ 4) : tot ((nats (recW kind n)).take k) = tot ((nats headW).take k) := by
  rw [recW, nats_append, List.take_append_of_le_length (by simpa [headW, nats] using h)]
theorem tot_tail {kind : Int} {n j : Nat} : tot ((nats (recW kind n)).take (4 + j)) = 11 + tot ((nats (bodyW kind n)).take j) := by
  have e : (nats headW).length = 4 := rfl
  rw [recW, nats_append, List.take_append, List.take_of_length_le (by omega), e, tot_append, show 4 + j - 4 = j by omega]
  rfl
theorem altq {n k m : Nat} (h : k < 2 * n) (hm : (alt k).toNat = m) : (nats ((List.range (2 * n)).map alt))[k]? = some m := by
  subst hm
  simp [nats, h]
theorem alt_even (i : Nat) : (alt (2 * i)).toNat = 4 := by unfold alt; rw [if_pos (by omega)]; rfl
theorem alt_odd (i : Nat) : (alt (2 * i + 1)).toNat = 1 := by unfold alt; rw [if_neg (by omega)]; rfl
theorem ents1 (b : List UInt8) (l : List Ent) (h0 : ∀ (i : Nat) (hi : i < l.length), getX b ((11 + 5 * i : Nat) : Int) 4 = l[i].blk.toNat) (h1 : ∀ (i : Nat) (hi : i < l.length), getX b ((11 + 5 * i + 4 : Nat) : Int) 1 = if l[i].esc then 1 else 0) (hb : ∀ x ∈ l, blkOk x = true) : (List.range l.length).map (saysEnt b 1) = l := by
  refine List.ext_getElem (by simp) fun i i1 i2 => ?_
  have k0 := h0 i i2
  have k1 := h1 i i2
  have hbk := blkOk_iff.1 (hb l[i] (List.getElem_mem i2))
  simp only [List.getElem_map, List.getElem_range]
  unfold saysEnt
  rw [if_pos rfl, k0, k1]
  generalize l[i] = x at *
  obtain ⟨n, q⟩ := x
  simp only at hbk ⊢
  rw [Int.toNat_of_nonneg hbk.1]
  cases q <;> rfl
theorem ents3 (b : List UInt8) (l : List Ent) (h0 : ∀ (i : Nat) (hi : i < l.length), getX b ((11 + 4 * i : Nat) : Int) 4 = l[i].blk.toNat) (hb : ∀ x ∈ l, blkOk x = true) (he : l.any (·.esc) = false) : (List.range l.length).map (saysEnt b 3) = l := by
  refine List.ext_getElem (by simp) fun i i1 i2 => ?_
  have k0 := h0 i i2
  have hbk := blkOk_iff.1 (hb l[i] (List.getElem_mem i2))
  have hesc : l[i].esc = false := by
    rw [List.any_eq_false] at he
    simpa using he l[i] (List.getElem_mem i2)
  simp only [List.getElem_map, List.getElem_range]
  unfold saysEnt
  rw [if_neg (by decide), k0]
  generalize l[i] = x at *
  obtain ⟨n, q⟩ := x
  simp only at hbk hesc ⊢
  subst hesc
  rw [Int.toNat_of_nonneg hbk.1]
theorem says_back (r : Rec) (h : recMay r = true) (hs : r.sum < 4294967296) : says (recBytes r) = r := by
  obtain ⟨h1, h2, h3, h4⟩ := recMay_iff.1 h
  have q1 := seqOk_iff.1 h1
  have hkind : 0 ≤ r.kind := by rcases hasOk_cases h2 with e | e | e | e <;> omega
  have eK : saysK (recBytes r) = r.kind := by
    have := recs_at h hs 1 r.kind.toNat 4 1 (by rw [n_head (by omega)]; rfl) (by rw [w_head (by omega)]; rfl) (by rw [tot_head (by omega)]; rfl)
    have e : saysK (recBytes r) = ((getX (recBytes r) ((4 : Nat) : Int) ((1 : Nat) : Int) : Nat) : Int) := rfl
    rw [e, this]
    omega
  have eS : ((getX (recBytes r) 5 4 : Nat) : Int) = r.seq := by
    have := recs_at h hs 2 r.seq.toNat 5 4 (by rw [n_head (by omega)]; rfl) (by rw [w_head (by omega)]; rfl) (by rw [tot_head (by omega)]; rfl)
    have e : ((getX (recBytes r) 5 4 : Nat) : Int) = ((getX (recBytes r) ((5 : Nat) : Int) ((4 : Nat) : Int) : Nat) : Int) := rfl
    rw [e, this]
    omega
  have eL : saysL (recBytes r) = r.ents.length := recs_at h hs 3 r.ents.length 9 2 (by rw [n_head (by omega)]; rfl) (by rw [w_head (by omega)]; rfl) (by rw [tot_head (by omega)]; rfl)
  have hmin : min (saysL (recBytes r)) 61 = r.ents.length := by rw [eL]; rcases hasOk_cases h2 with e | e | e | e <;> omega
  unfold says
  rw [hmin, eK, eS]
  obtain ⟨kind, seq, l, sum, start⟩ := r
  simp only at *
  rcases hasOk_cases h2 with ⟨rfl, g1, g2⟩ | ⟨rfl, g1, g2⟩ | ⟨rfl, g1⟩ | ⟨rfl, g1⟩
  · have hr : sum = 0 ∧ start = 0 := of_decide_eq_true (show decide (sum = 0 ∧ start = 0) = true from h4)
    obtain ⟨rfl, rfl⟩ := hr
    have hb : bodyN ⟨1, seq, l, 0, 0⟩ = l.flatMap ent2 := rfl
    have hw : bodyW 1 l.length = (List.range (2 * l.length)).map alt := rfl
    have k0 : ∀ (i : Nat) (hi : i < l.length), getX (recBytes ⟨1, seq, l, 0, 0⟩) ((11 + 5 * i : Nat) : Int) 4 = l[i].blk.toNat := fun i hi =>
      recs_at h hs (4 + 2 * i) l[i].blk.toNat (11 + 5 * i) 4 (by rw [n_tail, hb]; exact (ent2s_get l i hi).1) (by rw [w_tail, hw]; exact altq (by omega) (alt_even i)) (by rw [tot_tail, hw, alt_take _ _ (by omega), alt_tot])
    have ht : ∀ (i : Nat) (hi : i < l.length), tot ((nats ((List.range (2 * l.length)).map alt)).take (2 * i + 1)) = 5 * i + 4 := fun i hi => by
      have hl : (nats ((List.range (2 * l.length)).map alt)).length = 2 * l.length := by simp [nats]
      rw [tot_take_succ _ _ (by rw [hl]; omega), alt_take _ i (by omega), alt_tot, alt_get]
      unfold alt
      rw [if_pos (by omega)]
      rfl
    have k1 : ∀ (i : Nat) (hi : i < l.length), getX (recBytes ⟨1, seq, l, 0, 0⟩) ((11 + 5 * i + 4 : Nat) : Int) 1 = if l[i].esc then 1 else 0 := fun i hi =>
      recs_at h hs (4 + (2 * i + 1)) (if l[i].esc then 1 else 0) (11 + 5 * i + 4) 1 (by rw [n_tail, hb]; exact (ent2s_get l i hi).2) (by rw [w_tail, hw]; exact altq (by omega) (alt_odd i)) (by rw [tot_tail, hw, ht i hi]; omega)
    rw [ents1 _ l k0 k1 h3, if_neg (by decide), if_neg (by decide)]
  · have hr : sum = 0 ∧ start = 0 := by
      have h5 : (decide (sum = 0 ∧ start = 0) && !l.any (·.esc)) = true := h4
      simp only [Bool.and_eq_true] at h5
      exact of_decide_eq_true h5.1
    have hne : l.any (·.esc) = false := by
      have h5 : (decide (sum = 0 ∧ start = 0) && !l.any (·.esc)) = true := h4
      simp only [Bool.and_eq_true, Bool.not_eq_true'] at h5
      exact h5.2
    obtain ⟨rfl, rfl⟩ := hr
    have hb : bodyN ⟨3, seq, l, 0, 0⟩ = l.map (·.blk.toNat) := rfl
    have hw : bodyW 3 l.length = List.replicate l.length 4 := rfl
    have hfour : nats (List.replicate l.length (4 : Int)) = List.replicate l.length 4 := by simp [nats]
    have k0 : ∀ (i : Nat) (hi : i < l.length), getX (recBytes ⟨3, seq, l, 0, 0⟩) ((11 + 4 * i : Nat) : Int) 4 = l[i].blk.toNat := fun i hi =>
      recs_at h hs (4 + i) l[i].blk.toNat (11 + 4 * i) 4 (by rw [n_tail, hb]; simp [hi]) (by rw [w_tail, hw, hfour]; simp [hi]) (by rw [tot_tail, hw, hfour, List.take_replicate, Nat.min_eq_left (by omega)]; unfold tot; rw [List.sum_replicate_nat]; omega)
    rw [ents3 _ l k0 h3 hne, if_neg (by decide), if_neg (by decide)]
  · have hr : start = 0 := of_decide_eq_true (show decide (start = 0) = true from h4)
    subst hr
    obtain rfl : l = [] := List.eq_nil_of_length_eq_zero g1
    have k0 := recs_at h hs 4 sum 11 4 rfl rfl rfl
    have e : getX (recBytes ⟨2, seq, [], sum, 0⟩) 11 4 = sum := k0
    rw [e, if_pos rfl, if_neg (by decide)]
    rfl
  · have hr : sum = 0 ∧ 0 ≤ start ∧ start ≤ 511 := of_decide_eq_true (show decide (sum = 0 ∧ 0 ≤ start ∧ start ≤ 511) = true from h4)
    obtain ⟨rfl, r1, r2⟩ := hr
    obtain rfl : l = [] := List.eq_nil_of_length_eq_zero g1
    have k0 := recs_at h hs 4 start.toNat 11 4 rfl rfl rfl
    have e : getX (recBytes ⟨4, seq, [], 0, start⟩) 11 4 = start.toNat := k0
    rw [e, if_neg (by decide), if_pos rfl, Int.toNat_of_nonneg r1]
    rfl
theorem back_is (r : Rec) (h : recMay r = true) (hs : r.sum < 4294967296) : isRec (recBytes r) = true := by
  have hl := recBytes_len (recMay_iff.1 h).2.1
  unfold isRec
  rw [says_back r h hs, h, hl]
  simp
theorem unp_back (r : Rec) (h : recMay r = true) (hs : r.sum < 4294967296) : unpR (recBytes r) = r ∧ unpE (recBytes r) = 0 := by
  unfold unpR unpE
  rw [back_is r h hs, says_back r h hs]
  simp
/-- a block of noughts is none -/
theorem zeros_no : isRec (List.replicate 256 0) = false := by
  have hk : saysK (List.replicate 256 0) = 0 := by decide +kernel
  have : recMay (says (List.replicate 256 0)) = false := by
    rw [Bool.eq_false_iff]
    intro hm
    have h2 := (recMay_iff.1 hm).2.1
    rw [show (says (List.replicate 256 0)).kind = saysK (List.replicate 256 0) from rfl, hk] at h2
    rcases hasOk_cases h2 with e | e | e | e <;> omega
  unfold isRec
  rw [this, Bool.and_false, Bool.false_and]
end Go.Proofs.YtkkcipjlinfieaaDoor.JBackM
