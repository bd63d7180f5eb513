/- The groups' block, in plain mathematics. -/
import Derived.Test.YtoaallnmihhjlaaDoorSPlain
import Derived.Test.YtoaallnmihhjlaaDoorSSays
namespace Go.Proofs.YtoaallnmihhjlaaDoor.QPlain
open Go.RowKit WMem WPlain WPack WWide WAny SNums GPlain SPlain SSays

/-- what a group counts: free blocks, free inodes, directories -/
structure Grp where
  fb : Int
  fi : Int
  dirs : Int
  deriving DecidableEq
def oneMay (x : Grp) : Bool := allIn 0 65535 [x.fb, x.fi, x.dirs]
def grpMay (l : List Grp) : Bool := inB 1 14 l.length && l.all oneMay
def three (x : Grp) : List Nat := [x.fb.toNat, x.fi.toNat, x.dirs.toNat]
def grpN (l : List Grp) : List Nat := l.flatMap three
def grpW (n : Nat) : List Int := List.replicate (3 * n) 4
def grpBytes (l : List Grp) : List UInt8 := blockOf (nums (grpN l)) (grpW l.length) 1
theorem grpN_len (l : List Grp) : (grpN l).length = 3 * l.length := by
  induction l with
  | nil => rfl
  | cons x l ih =>
    simp only [grpN, List.flatMap_cons, List.length_append, List.length_cons]
    unfold grpN at ih
    rw [ih]
    simp [three]
    omega
theorem grpN_snoc (l : List Grp) (x : Grp) : grpN (l ++ [x]) = grpN l ++ three x := by simp [grpN]
theorem grpN_take_succ (l : List Grp) (k : Nat) (h : k < l.length) : grpN (l.take (k + 1)) = grpN (l.take k) ++ three l[k] := by
  rw [List.take_succ_eq_append_getElem h, grpN_snoc]
theorem grp_ns (n : Nat) : nats (grpW n) = List.replicate (3 * n) 4 := by simp [nats, grpW]
theorem grp_fine (n : Nat) : fineI (grpW n) := by
  intro x hx
  have := List.eq_of_mem_replicate hx
  omega
theorem tot_fours (m : Nat) : tot (List.replicate m 4) = 4 * m := by
  unfold tot
  rw [List.sum_replicate_nat]
  omega
theorem grp_tot (n : Nat) : tot (nats (grpW n)) = 12 * n := by rw [grp_ns, tot_fours]; omega
theorem grp_packs (l : List Grp) (h : l.length ≤ 14) : packs (nums (grpN l)) (grpW l.length) 256 :=
  ⟨by rw [nums_len, grpN_len]; simp [grpW], grp_fine _, by rw [grp_tot]; omega, by decide⟩
theorem oneMay_iff {x : Grp} : oneMay x = true ↔ (0 ≤ x.fb ∧ x.fb ≤ 65535) ∧ (0 ≤ x.fi ∧ x.fi ≤ 65535) ∧ (0 ≤ x.dirs ∧ x.dirs ≤ 65535) := by
  simp only [oneMay, allIn, List.all_cons, List.all_nil, Bool.and_eq_true, inB_true, Bool.and_true]
theorem grpMay_iff {l : List Grp} : grpMay l = true ↔ (1 ≤ l.length ∧ l.length ≤ 14) ∧ ∀ x ∈ l, oneMay x = true := by
  simp only [grpMay, Bool.and_eq_true, inB_true, List.all_eq_true]
  constructor
  · rintro ⟨h1, h2⟩; exact ⟨by omega, h2⟩
  · rintro ⟨h1, h2⟩; exact ⟨by omega, h2⟩
theorem grp_small (l : List Grp) (h : ∀ x ∈ l, oneMay x = true) : ∀ y ∈ grpN l, y < 65536 := by
  intro y hy
  obtain ⟨x, hx, hyx⟩ := List.mem_flatMap.1 hy
  have := oneMay_iff.1 (h x hx)
  simp only [three, List.mem_cons, List.not_mem_nil, or_false] at hyx
  rcases hyx with e | e | e <;> omega
theorem grp_fit (l : List Grp) (h : ∀ x ∈ l, oneMay x = true) : fit (nats (grpW l.length)) (nums (grpN l)) := by
  refine fit_of_get _ _ (by rw [nums_len, grpN_len, grp_ns]; simp) fun k hk => ?_
  have hk' : k < (grpN l).length := by rw [grpN_len]; rw [grp_ns] at hk; simpa using hk
  have hs := grp_small l h _ (List.getElem_mem hk')
  simp only [nums, List.getElem_map, grp_ns, List.getElem_replicate]
  rw [ofNat_small (by omega)]
  have : (2 : Nat) ^ (8 * 4) = 4294967296 := by decide
  omega
theorem grpBytes_len (l : List Grp) (h : l.length ≤ 14) : (grpBytes l).length = 256 := blockOf_len _ _ _ (grp_packs l h)

/-- what a block says of n groups -/
def saysOne (b : List UInt8) (i : Nat) : Grp := ⟨f4 b (12 * i), f4 b (12 * i + 4), f4 b (12 * i + 8)⟩
def grpSays (b : List UInt8) (n : Nat) : List Grp := (List.range n).map (saysOne b)
theorem grpSays_len (b : List UInt8) (n : Nat) : (grpSays b n).length = n := by simp [grpSays]
def grpGood (b : List UInt8) (n : Nat) : Bool := grpMay (grpSays b n) && (grpBytes (grpSays b n) == b)
def grpX (b : List UInt8) (n : Nat) : List UInt64 := unp (nats (grpW n)) (b.take (12 * n))
theorem grpX_len (b : List UInt8) (n : Nat) : (grpX b n).length = 3 * n := by unfold grpX; rw [unp_length, grp_ns]; simp
theorem grpX_at (b : List UInt8) (n k : Nat) (hk : k < 3 * n) : (((grpX b n)[k]'(by rw [grpX_len]; exact hk)).toNat : Int) = f4 b (4 * k) ∧ ((grpX b n)[k]'(by rw [grpX_len]; exact hk)).toNat < 4294967296 := by
  have h1 : (nats (grpW n)).length = 3 * n := by rw [grp_ns]; simp
  have h2 : ∀ (hk' : k < (nats (grpW n)).length), (nats (grpW n))[k] = 4 := fun hk' => by simp only [grp_ns, List.getElem_replicate]
  have h3 : tot ((nats (grpW n)).take k) = 4 * k := by rw [grp_ns, List.take_replicate, Nat.min_eq_left (by omega), tot_fours]
  have h := unp_at (nats (grpW n)) b (12 * n) k (by omega) (by rw [h2]; decide) (by rw [h2, h3]; omega)
  refine ⟨?_, h.2⟩
  have h4 := h.1
  rw [h3, h2] at h4
  exact h4
end Go.Proofs.YtoaallnmihhjlaaDoor.QPlain
