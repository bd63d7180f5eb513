/- The super block, in plain mathematics. -/
import Derived.Test.YtoaallnmihhjlaaDoorSNums
import Derived.Test.YtoaallnmihhjlaaDoorGPlain
namespace Go.Proofs.YtoaallnmihhjlaaDoor.SPlain
open Go.RowKit WMem WPlain WPack WWide WAny SNums GPlain

def supN (b p n j fb fi oo mo : Int) (cl : Bool) : List Nat := [1213813321, 1, b.toNat, p.toNat, n.toNat, j.toNat, fb.toNat, fi.toNat, oo.toNat, mo.toNat, if cl = true then 1 else 0]
def supW : List Int := [4, 2, 4, 4, 4, 4, 4, 4, 4, 4, 1]
def supMay (b p n j fb fi oo mo : Int) : Bool := mayB b p n j && inB 0 (b - fixedI b p n j) fb && allIn 0 (groupsI b p n j * n) [fi, oo] && inB 0 2147483647 mo
def supBytes (b p n j fb fi oo mo : Int) (cl : Bool) : List UInt8 := blockOf (nums (supN b p n j fb fi oo mo cl)) supW 0
theorem sup_ns : nats supW = [4, 2, 4, 4, 4, 4, 4, 4, 4, 4, 1] := rfl
theorem sup_fine : fineI supW := by unfold fineI supW; decide
theorem sup_packs (l : List Nat) (h : l.length = 11) : packs (nums l) supW 256 := ⟨by rw [nums_len, h]; rfl, sup_fine, by rw [sup_ns]; decide, by decide⟩
structure SMay (b p n j fb fi oo mo : Int) : Prop where
  may : mayB b p n j = true
  b0 : 0 ≤ b
  b1 : b ≤ 4096
  p0 : 0 ≤ p
  p1 : p ≤ 2016
  n0 : 0 ≤ n
  n1 : n ≤ 512
  j0 : 0 ≤ j
  j1 : j ≤ 512
  fb0 : 0 ≤ fb
  fb1 : fb ≤ 4096
  fi0 : 0 ≤ fi
  fi1 : fi ≤ 7168
  oo0 : 0 ≤ oo
  oo1 : oo ≤ 7168
  mo0 : 0 ≤ mo
  mo1 : mo ≤ 2147483647
theorem supMay_of {b p n j fb fi oo mo : Int} (h : supMay b p n j fb fi oo mo = true) : SMay b p n j fb fi oo mo := by
  simp only [supMay, Bool.and_eq_true, inB_true, allIn, List.all_cons, List.all_nil, Bool.and_true] at h
  obtain ⟨⟨⟨h1, h2⟩, h3, h4⟩, h5⟩ := h
  obtain ⟨hb0, hb1, hp0, hp1, hn0, hn1, hev, hj0, hj1, hg0, hg1, hlo, hhi, hf, hl⟩ := may_iff.1 h1
  have hi := inos_bd b p n j
  have hx := fixedI_yes h1
  have hp := prod2_bd (g := gN b p) (by omega) hg1 hn0 hn1
  exact ⟨h1, by omega, by omega, by omega, by omega, by omega, by omega, by omega, by omega, by omega, by omega, by omega, by omega, by omega, by omega, by omega, by omega⟩
theorem ofNat_small {x : Nat} (h : x < 18446744073709551616) : (UInt64.ofNat x).toNat = x := by
  rw [UInt64.toNat_ofNat']; exact Nat.mod_eq_of_lt h
theorem sup_small {b p n j fb fi oo mo : Int} (cl : Bool) (h : SMay b p n j fb fi oo mo) : ∀ x ∈ supN b p n j fb fi oo mo cl, x < 4294967296 := by
  obtain ⟨_, _, _, _, _, _, _, _, _, _, _, _, _, _, _, _, _⟩ := h
  intro x hx
  simp only [supN, List.mem_cons, List.not_mem_nil, or_false] at hx
  rcases hx with hx | hx | hx | hx | hx | hx | hx | hx | hx | hx | hx <;> (subst hx; first | omega | (split <;> omega))
theorem sup_fit {b p n j fb fi oo mo : Int} (cl : Bool) (h : SMay b p n j fb fi oo mo) : fit (nats supW) (nums (supN b p n j fb fi oo mo cl)) := by
  have hs := sup_small cl h
  rw [sup_ns]
  refine fit_of_get _ _ (by rw [nums_len]; rfl) fun k hk => ?_
  have hk' : k < 11 := hk
  have hc : (if cl = true then 1 else 0) < 256 := by split <;> omega
  have e : ∀ (x : Nat), x < 4294967296 → (UInt64.ofNat x).toNat = x := fun x hx => ofNat_small (by omega)
  have hg : ∀ i (hi : i < 11), ((nums (supN b p n j fb fi oo mo cl))[i]'(by rw [nums_len]; exact hi)).toNat = (supN b p n j fb fi oo mo cl)[i]'hi := by
    intro i hi
    simp only [nums, List.getElem_map]
    exact e _ (hs _ (List.getElem_mem _))
  rw [hg k hk']
  have hsm := hs _ (List.getElem_mem (l := supN b p n j fb fi oo mo cl) (n := k) hk')
  match k, hk' with
  | 0, _ => exact hsm
  | 1, _ => exact (show (1 : Nat) < 2 ^ (8 * 2) by decide)
  | 2, _ => exact hsm
  | 3, _ => exact hsm
  | 4, _ => exact hsm
  | 5, _ => exact hsm
  | 6, _ => exact hsm
  | 7, _ => exact hsm
  | 8, _ => exact hsm
  | 9, _ => exact hsm
  | 10, _ => exact hc
theorem supBytes_len (b p n j fb fi oo mo : Int) (cl : Bool) : (supBytes b p n j fb fi oo mo cl).length = 256 := blockOf_len _ _ _ (sup_packs _ rfl)

/-- four bytes as a number -/
def f4 (l : List UInt8) (at_ : Nat) : Int := ((num ((l.drop at_).take 4) : Nat) : Int)
def f1 (l : List UInt8) (at_ : Nat) : Int := ((num ((l.drop at_).take 1) : Nat) : Int)
theorem f4_bd (l : List UInt8) (at_ : Nat) : 0 ≤ f4 l at_ ∧ f4 l at_ < 4294967296 := by
  have h := num_lt ((l.drop at_).take 4)
  have h2 : ((l.drop at_).take 4).length ≤ 4 := List.length_take_le _ _
  have h3 : 2 ^ (8 * ((l.drop at_).take 4).length) ≤ 2 ^ 32 := Nat.pow_le_pow_right (by omega) (by omega)
  unfold f4
  omega
theorem f1_bd (l : List UInt8) (at_ : Nat) : 0 ≤ f1 l at_ ∧ f1 l at_ < 256 := by
  have h := num_lt ((l.drop at_).take 1)
  have h2 : ((l.drop at_).take 1).length ≤ 1 := List.length_take_le _ _
  have h3 : 2 ^ (8 * ((l.drop at_).take 1).length) ≤ 2 ^ 8 := Nat.pow_le_pow_right (by omega) (by omega)
  unfold f1
  omega
/-- what a super block says, if it is one -/
def supSays (l : List UInt8) : List UInt8 := supBytes (f4 l 6) (f4 l 10) (f4 l 14) (f4 l 18) (f4 l 22) (f4 l 26) (f4 l 30) (f4 l 34) (f1 l 38 == 1)
def supIs (l : List UInt8) : Bool := supMay (f4 l 6) (f4 l 10) (f4 l 14) (f4 l 18) (f4 l 22) (f4 l 26) (f4 l 30) (f4 l 34)
def supGood (l : List UInt8) : Bool := supIs l && (supSays l == l)
end Go.Proofs.YtoaallnmihhjlaaDoor.SPlain
