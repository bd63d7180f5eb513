/- What read makes of a block's numbers is what the block says. -/
import Derived.Test.YtkkcipjlinfieaaDoorJTold
namespace Go.Proofs.YtkkcipjlinfieaaDoor.JSays
open Go.RowKit WMem WPlain WWide WAny SNums JPlain JMem JTold

/-- the numbers of a head, and of what stands behind it -/
def headX (b : List UInt8) : List UInt64 := unp (nats headW) (b.take 11)
def bodyX (b : List UInt8) (kind : Int) (n : Nat) : List UInt64 := unp (nats (bodyW kind n)) ((b.drop 11).take (bodyT kind n))
theorem headX_len (b : List UInt8) : (headX b).length = 4 := by unfold headX; rw [unp_length]; rfl
theorem bodyX_len (b : List UInt8) (kind : Int) (n : Nat) : (bodyX b kind n).length = (bodyW kind n).length := by unfold bodyX; rw [unp_length, nats_len]
theorem headX_at (b : List UInt8) (hb : 11 ≤ b.length) : ((headX b)[1]'(by rw [headX_len]; decide)).toNat = getX b 4 1 ∧ ((headX b)[2]'(by rw [headX_len]; decide)).toNat = getX b 5 4 ∧ ((headX b)[3]'(by rw [headX_len]; decide)).toNat = getX b 9 2 :=
  ⟨unp_place (nats headW) (nats_fine _ headW_fine) b 11 1 (by decide) (by decide) hb 4 1 (by decide) (by decide), unp_place (nats headW) (nats_fine _ headW_fine) b 11 2 (by decide) (by decide) hb 5 4 (by decide) (by decide), unp_place (nats headW) (nats_fine _ headW_fine) b 11 3 (by decide) (by decide) hb 9 2 (by decide) (by decide)⟩
theorem getX_drop (b : List UInt8) (k p n : Nat) (h : k + p + n ≤ b.length) : getX (b.drop k) (p : Int) (n : Int) = getX b ((k + p : Nat) : Int) (n : Int) := by
  unfold getX
  by_cases hn : 1 ≤ n ∧ n ≤ 8
  · rw [if_pos ⟨by omega, by omega, by omega, by simp; omega⟩, if_pos ⟨by omega, by omega, by omega, by omega⟩]
    simp only [Int.toNat_natCast, List.drop_drop]
  · rw [if_neg (fun h' => hn ⟨by have := h'.1; omega, by have := h'.2.1; omega⟩), if_neg (fun h' => hn ⟨by have := h'.1; omega, by have := h'.2.1; omega⟩)]
theorem bodyX_at (b : List UInt8) (kind : Int) (n : Nat) (hb : b.length = 256) (hok : hasOk kind n = true) (k : Nat) (hk : k < (nats (bodyW kind n)).length) (p m : Nat) (hp : tot ((nats (bodyW kind n)).take k) = p) (hm : (nats (bodyW kind n))[k] = m) (hpm : p + m ≤ bodyT kind n) :
    num_ (bodyX b kind n) k = getX b ((11 + p : Nat) : Int) (m : Int) := by
  have hT := bodyT_le hok
  have ht := bodyW_tot kind n
  have h := unp_place (nats (bodyW kind n)) (nats_fine _ (bodyW_fine kind n)) (b.drop 11) (bodyT kind n) k hk (by omega) (by simp; omega) p m hp hm
  rw [getX_drop b 11 p m (by omega)] at h
  unfold num_
  rw [List.getD_eq_getElem?_getD, List.getElem?_eq_getElem (by rw [bodyX_len, ← nats_len]; exact hk)]
  exact h
theorem alt_take (n i : Nat) (h : i ≤ n) : (nats ((List.range (2 * n)).map alt)).take (2 * i) = nats ((List.range (2 * i)).map alt) := by
  unfold nats
  rw [← List.map_take, ← List.map_take, List.take_range, Nat.min_eq_left (by omega)]
theorem alt_get (n k : Nat) (h : k < (nats ((List.range (2 * n)).map alt)).length) : (nats ((List.range (2 * n)).map alt))[k] = (alt k).toNat := by simp [nats]
theorem pair_says (b : List UInt8) (n i : Nat) (hb : b.length = 256) (hok : hasOk 1 n = true) (hi : i < n) : pairE (bodyX b 1 n) i = saysEnt b 1 i := by
  have hT : bodyT 1 n = 5 * n := rfl
  have hW : bodyW 1 n = (List.range (2 * n)).map alt := rfl
  have hl : (nats ((List.range (2 * n)).map alt)).length = 2 * n := by simp [nats]
  have e0 := bodyX_at b 1 n hb hok (2 * i) (by rw [hW, hl]; omega) (5 * i) 4 (by rw [hW, alt_take n i (by omega), alt_tot]) (by simp only [hW]; rw [alt_get]; unfold alt; rw [if_pos (by omega)]; rfl) (by omega)
  have ht1 : tot ((nats ((List.range (2 * n)).map alt)).take (2 * i + 1)) = 5 * i + 4 := by
    rw [tot_take_succ _ _ (by rw [hl]; omega), alt_take n i (by omega), alt_tot, alt_get]
    unfold alt
    rw [if_pos (by omega)]
    rfl
  have e1 := bodyX_at b 1 n hb hok (2 * i + 1) (by rw [hW, hl]; omega) (5 * i + 4) 1 (by rw [hW]; exact ht1) (by simp only [hW]; rw [alt_get]; unfold alt; rw [if_neg (by omega)]; rfl) (by omega)
  unfold pairE saysEnt
  rw [if_pos rfl, e0, e1]
  rw [show 11 + (5 * i + 4) = 11 + 5 * i + 4 by omega]
  congr 1
  rw [Bool.eq_iff_iff]
  simp
  omega
theorem one_says (b : List UInt8) (n i : Nat) (hb : b.length = 256) (hok : hasOk 3 n = true) (hi : i < n) : oneE (bodyX b 3 n) i = saysEnt b 3 i := by
  have hT : bodyT 3 n = 4 * n := rfl
  have hW : bodyW 3 n = List.replicate n 4 := rfl
  have hl : (nats (List.replicate n (4 : Int))).length = n := by simp [nats]
  have hfour : nats (List.replicate n (4 : Int)) = List.replicate n 4 := by simp [nats]
  have e0 := bodyX_at b 3 n hb hok i (by rw [hW, hl]; omega) (4 * i) 4 (by rw [hW, hfour, List.take_replicate, Nat.min_eq_left (by omega)]; unfold tot; rw [List.sum_replicate_nat]; omega) (by simp [hW, hfour]) (by omega)
  unfold oneE saysEnt
  rw [if_neg (by decide), e0]
  rfl
theorem last_says (b : List UInt8) (kind : Int) (hb : b.length = 256) (h : kind = 2 ∨ kind = 4) : num_ (bodyX b kind 0) 0 = getX b 11 4 := by
  rcases h with rfl | rfl
  · exact bodyX_at b 2 0 hb rfl 0 (by decide) 0 4 rfl rfl (by decide)
  · exact bodyX_at b 4 0 hb rfl 0 (by decide) 0 4 rfl rfl (by decide)
theorem bodyX_small (b : List UInt8) (kind : Int) (n : Nat) : ∀ x ∈ bodyX b kind n, x.toNat < 4294967296 := by
  intro x hx
  obtain ⟨k, hk, rfl⟩ := List.getElem_of_mem hx
  have hk' : k < (nats (bodyW kind n)).length := by rw [bodyX_len, ← nats_len] at hk; exact hk
  have h4 : (nats (bodyW kind n))[k] ≤ 4 := by
    have hm := List.getElem_mem hk'
    generalize (nats (bodyW kind n))[k] = y at *
    obtain ⟨z, hz, rfl⟩ := List.mem_map.1 hm
    unfold bodyW at hz
    split at hz
    · obtain ⟨i, _, rfl⟩ := List.mem_map.1 hz
      unfold alt; split <;> decide
    · split at hz
      · rw [List.eq_of_mem_replicate hz]; decide
      · simp at hz; subst hz; decide
  have hu : (bodyX b kind n)[k] = UInt64.ofNat (num ((((b.drop 11).take (bodyT kind n)).drop (tot ((nats (bodyW kind n)).take k))).take (nats (bodyW kind n))[k])) := unp_get (nats (bodyW kind n)) ((b.drop 11).take (bodyT kind n)) k hk'
  rw [hu, num_u64 _ (Nat.le_trans (List.length_take_le _ _) (by omega))]
  have h := num_lt ((((b.drop 11).take (bodyT kind n)).drop (tot ((nats (bodyW kind n)).take k))).take (nats (bodyW kind n))[k])
  have h3 := List.length_take_le (nats (bodyW kind n))[k] (((b.drop 11).take (bodyT kind n)).drop (tot ((nats (bodyW kind n)).take k)))
  refine Nat.lt_of_lt_of_le h ?_
  have : (2 : Nat) ^ (8 * (List.take (nats (bodyW kind n))[k] (List.drop (tot ((nats (bodyW kind n)).take k)) (List.take (bodyT kind n) (List.drop 11 b)))).length) ≤ 2 ^ 32 := Nat.pow_le_pow_right (by decide) (by omega)
  simpa using this
theorem saysL_min {b : List UInt8} {kind : Int} (h : hasOk kind (saysL b) = true) : min (saysL b) 61 = saysL b := by rcases hasOk_cases h with e | e | e | e <;> omega
end Go.Proofs.YtkkcipjlinfieaaDoor.JSays
