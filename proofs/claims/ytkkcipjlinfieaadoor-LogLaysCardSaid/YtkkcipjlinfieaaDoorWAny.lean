/- The faces and the document's answers for places, numbers and seals, each by one contract for whatever it is called with. -/
import Derived.Test.YtkkcipjlinfieaaDoorWSeal
import Derived.Test.YtkkcipjlinfieaaDoorWRef
namespace Go.Proofs.YtkkcipjlinfieaaDoor.WAny
open Go.RowKit WMem WPlain WGive WGet WPut WAppend WHelp WFace WFace2 WCrc WPack WSeal WRef

abbrev okPlace (len : Nat) (p n : Int) : Prop := 1 ≤ n ∧ n ≤ 8 ∧ 0 ≤ p ∧ p ≤ len - n
def getX (l : List UInt8) (p n : Int) : Nat := if okPlace l.length p n then num ((l.drop p.toNat).take n.toNat) else 0
def getE (l : List UInt8) (p n : Int) : Int := if okPlace l.length p n then 0 else 22
def putE (l : List UInt8) (p n : Int) (x : Nat) : Int := if okPlace l.length p n then (if x < 2 ^ (8 * n.toNat) then 0 else 34) else 22
def putL (l : List UInt8) (p n : Int) (x : Nat) : List UInt8 := if okPlace l.length p n then (if x < 2 ^ (8 * n.toNat) then patch l p.toNat (dig n.toNat x) else l) else l
def sealE (l : List UInt8) : Int := if 4 ≤ l.length then 0 else 22
def sealL (l : List UInt8) (seed : Nat) : List UInt8 := if 4 ≤ l.length then patch l (l.length - 4) (dig 4 (crc seed (l.take (l.length - 4)))) else l

theorem putL_len (l : List UInt8) (p n : Int) (x : Nat) : (putL l p n x).length = l.length := by
  unfold putL
  split
  · rename_i h
    split
    · exact patch_length _ _ _ (by rw [dig_length]; omega)
    · rfl
  · rfl
theorem sealL_len (l : List UInt8) (seed : Nat) : (sealL l seed).length = l.length := by
  unfold sealL
  split
  · exact patch_length _ _ _ (by rw [dig_length]; omega)
  · rfl

/-- a slice of the call's own with just these bytes: nil, or a row -/
def Own (w : World) (base : Nat) (v : Value) (l : List UInt8) : Prop :=
  (v = .slice none 0 0 ∧ l = []) ∨ ∃ g c rest, v = .slice (some ⟨g, 0, none⟩) l.length c ∧ base ≤ g ∧ l.length ≤ c ∧ Row w g l rest
theorem Own.of_row {w : World} {base : Nat} {v : Value} {l : List UInt8} (h : w.ownsRow base 5 1 v l.length (l.map u8v)) : Own w base v l := by
  obtain ⟨hl, h | ⟨g, cap, cur, rfl, hb, hg, hnc, hcm, hcs, ht⟩⟩ := h
  · exact .inl ⟨h.1, List.eq_nil_of_length_eq_zero h.2⟩
  · refine .inr ⟨g, cap, cur.toList.drop l.length, rfl, hb, hnc, ?_⟩
    rw [Nat.mul_one] at ht
    unfold Row
    rw [← ht, List.take_append_drop]
    exact hg
theorem Own.sl {w : World} {base : Nat} {v : Value} {l : List UInt8} (h : Own w base v l) : ∃ A c, v = .slice A l.length c ∧ Sl w w.heap.size A (l.map u8v) ∧ l.length ≤ c := by
  rcases h with ⟨rfl, rfl⟩ | ⟨g, c, rest, rfl, _, hc, hR⟩
  · exact ⟨none, 0, rfl, Sl.nil _ _ _, Nat.le_refl _⟩
  · exact ⟨_, c, rfl, hR.sl hR.lt, hc⟩
theorem Own.at_ {w : World} {base : Nat} {A : Option Addr} {n c : Nat} {l : List UInt8} (h : Own w base (.slice A n c) l) : l.length = n ∧ Sl w w.heap.size A (l.map u8v) ∧ n ≤ c := by
  obtain ⟨A', c', e, h1, h2⟩ := h.sl
  injection e with e1 e2 e3
  subst e1
  subst e2
  subst e3
  exact ⟨rfl, h1, h2⟩
theorem Own.keep {w w' : World} {base : Nat} {v : Value} {l : List UInt8} (h : Own w base v l) (hb : Below w.heap.size w w') : Own w' base v l := by
  rcases h with h | ⟨g, c, rest, rfl, h1, hc, hR⟩
  · exact .inl h
  · exact .inr ⟨g, c, rest, rfl, h1, hc, hR.keep hb hR.lt⟩
theorem Own.grown {w w' : World} {base : Nat} {v : Value} {l : List UInt8} {row : Option Nat} (h : Own w base v l) (hb : w.grownBy w' row) (hr : ∀ k, row = some k → k < base) : Own w' base v l := by
  rcases h with h | ⟨g, c, rest, rfl, h1, hc, hR⟩
  · exact .inl h
  · exact .inr ⟨g, c, rest, rfl, h1, hc, hR.grown hb (fun e => by have := hr g e.symm; omega)⟩
theorem Own.block {w : World} {base : Nat} {v : Value} {l : List UInt8} (h : Own w base v l) : ∀ k, v.ownBlock = some k → base ≤ k ∧ k < w.heap.size := by
  intro k hk
  rcases h with ⟨rfl, _⟩ | ⟨g, c, rest, rfl, h1, _, hR⟩
  · simp [Value.ownBlock] at hk
  · simp [Value.ownBlock] at hk
    subst hk
    exact ⟨h1, hR.lt⟩
theorem Own.drewN {w : World} {base : Nat} {v : Value} {l : List UInt8} (h : Own w base v l) (n : Nat) : Own (w.drewN n) base v l := h

section
variable (l : List UInt8) (B : Nat) (A : Option Addr) (c : Nat) (p n : Int) (w : World)

theorem Get_any (hl : l.length ≤ 140737488355328) (hA : Sl w B A (l.map u8v)) (hB : B ≤ w.heap.size) :
    Calls Tryd.prog 26 #[.slice A l.length c, .int .i64 p, .int .i64 n] w fun e w' => e = .returned (.tuple #[.int .u64 (getX l p n : Nat), .int .i64 (getE l p n)]) ∧ Below w.heap.size w w' := by
  unfold getX getE
  by_cases h : okPlace l.length p n
  · rw [if_pos h, if_pos h]
    obtain ⟨h1, h2, h3, h4⟩ := h
    obtain ⟨p, rfl⟩ := Int.eq_ofNat_of_zero_le h3
    obtain ⟨n, rfl⟩ := Int.eq_ofNat_of_zero_le (show 0 ≤ n by omega)
    exact Get_ok l B A c p n w (by omega) (by omega) (by omega) hl hA hB
  · rw [if_neg h, if_neg h]
    exact Get_no A l.length c p n w h hl
theorem refPut_any (base : Nat) (v : Value) (x : Nat) (hx64 : x < 18446744073709551616) (hl : l.length ≤ 140737488355328) (hO : Own w base v l) :
    Calls Tryd.prog 64 #[v, .int .i64 p, .int .i64 n, .int .u64 x] w fun e w' => e = .returned (.int .i64 (putE l p n x)) ∧ Own w' base v (putL l p n x) ∧ w.grownBy w' v.ownBlock := by
  have hO' := hO
  have hll := putL_len l p n x
  revert hll
  unfold putE putL
  by_cases h : okPlace l.length p n
  · rw [if_pos h, if_pos h]
    obtain ⟨h1, h2, h3, h4⟩ := h
    rcases hO with ⟨_, rfl⟩ | ⟨g, c, rest, rfl, hg, hc, hR⟩
    · simp at h4; omega
    obtain ⟨p, rfl⟩ := Int.eq_ofNat_of_zero_le h3
    obtain ⟨n, rfl⟩ := Int.eq_ofNat_of_zero_le (show 0 ≤ n by omega)
    simp only [Int.toNat_natCast]
    by_cases hx : x < 2 ^ (8 * n)
    · rw [if_pos hx, if_pos hx]
      intro hll
      exact (refPut_ok l.length l rfl rest g c p n x w (by omega) (by omega) (by omega) hl hx hR).mono fun e w' ⟨he, h5, h6⟩ => ⟨he, .inr ⟨g, c, rest, by rw [hll], hg, by rw [hll]; exact hc, h5⟩, h6⟩
    · rw [if_neg hx, if_neg hx]
      intro _
      exact (refPut_big _ l.length c p n x w (by omega) (by omega) (by omega) hl hx64 hx).mono fun e w' ⟨he, hb⟩ => ⟨he, by subst hb; exact hO', by subst hb; exact grown_refl _ _⟩
  · rw [if_neg h, if_neg h]
    intro _
    obtain ⟨A, c, rfl, _, _⟩ := hO.sl
    exact (refPut_place A l.length c x p n w h hl).mono fun e w' ⟨he, hb⟩ => ⟨he, by subst hb; exact hO', by subst hb; exact grown_refl _ _⟩
theorem Get_at (len : Nat) (h : l.length = len) (hl : len ≤ 140737488355328) (hA : Sl w B A (l.map u8v)) (hB : B ≤ w.heap.size) :
    Calls Tryd.prog 26 #[.slice A len c, .int .i64 p, .int .i64 n] w fun e w' => e = .returned (.tuple #[.int .u64 (getX l p n : Nat), .int .i64 (getE l p n)]) ∧ Below w.heap.size w w' := by
  subst h
  exact Get_any l B A c p n w hl hA hB
theorem Seal_any (rest : List Value) (g seed : Nat) (hs : seed < 4294967296) (hl : l.length ≤ 140737488355328) (hc : l.length ≤ c) (hR : Row w g l rest) (hT : Tab w) :
    Calls Tryd.prog 34 #[.slice (some ⟨g, 0, none⟩) l.length c, .int .u32 seed] w fun e w' => e = .returned (.int .i64 (sealE l)) ∧ Row w' g (sealL l seed) rest ∧ w.grownBy w' (some g) := by
  unfold sealE sealL
  by_cases h : 4 ≤ l.length
  · rw [if_pos h, if_pos h]
    exact Seal_ok l rest g c seed w hs h hl hc hR hT
  · rw [if_neg h, if_neg h]
    exact (Seal_no _ l.length c seed w (by omega)).mono fun e w' ⟨he, hb⟩ => ⟨he, hR.keep hb hR.lt, below_grown hb _⟩
end

/-- what stands elsewhere stays -/
theorem apart_getX (l : List UInt8) (p n : Int) (x : Nat) (q m : Int) (h1 : okPlace l.length q m) (h2 : okPlace l.length p n) (h : q + m ≤ p ∨ p + n ≤ q) : getX (putL l p n x) q m = getX l q m := by
  unfold getX
  rw [putL_len, if_pos h1, if_pos h1]
  unfold putL
  rw [if_pos h2]
  split
  · rw [patch_apart _ _ _ (by rw [dig_length]; omega) _ _ (by rw [dig_length]; omega)]
  · rfl
end Go.Proofs.YtkkcipjlinfieaaDoor.WAny
