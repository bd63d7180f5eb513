/- What is packed says what it was packed of; a turned bit shows. -/
import Derived.Test.YtoaallnmihhjlaaDoorSUnp
import Derived.Test.YtoaallnmihhjlaaDoorQUnp
import Derived.Test.YtoaallnmihhjlaaDoorWTurn
namespace Go.Proofs.YtoaallnmihhjlaaDoor.BPlain
open Go.RowKit WMem WPlain WPack WWide WAny WCrc WSeal WTurn GPlain SNums SPlain SSays QPlain QUnp

/-- is it a super block? -/
def supOk (l : List UInt8) : Bool := decide (l.length = 256) && supGood l
def us (l : List UInt8) (at_ : Nat) : Int := if supOk l = true then f4 l at_ else 0
def uc (l : List UInt8) : Bool := if supOk l = true then (f1 l 38 == 1) else false
def ue (l : List UInt8) : Int := if supOk l = true then 0 else 117
/-- what both answer -/
def unpV (l : List UInt8) : Value := .tuple #[.agg #[.int .i64 (us l 6), .int .i64 (us l 10), .int .i64 (us l 14), .int .i64 (us l 18), .int .i64 (us l 22), .int .i64 (us l 26), .int .i64 (us l 30), .int .i64 (us l 34), .bool (uc l)], .int .i64 (ue l)]
theorem unpV_no {l : List UInt8} (h : supOk l = false) : unpV l = .tuple #[SUnp.NoSup, .int .i64 117] := by
  simp [unpV, us, uc, ue, h, SUnp.NoSup]
theorem unpV_yes {l : List UInt8} (h : supOk l = true) : unpV l = .tuple #[.agg #[.int .i64 (f4 l 6), .int .i64 (f4 l 10), .int .i64 (f4 l 14), .int .i64 (f4 l 18), .int .i64 (f4 l 22), .int .i64 (f4 l 26), .int .i64 (f4 l 30), .int .i64 (f4 l 34), .bool (f1 l 38 == 1)], .int .i64 0] := by
  simp [unpV, us, uc, ue, h]
section
variable (l : List UInt8) (B : Nat) (A : Option Addr) (c : Nat) (w : World)
theorem Unpack_c (hc : l.length ≤ c) (hB : B ≤ w.heap.size) (hA : Sl w B A (l.map u8v)) (hT : Tab w) :
    Calls Tryd.prog 10 #[.slice A l.length c] w fun e w' => e = .returned (unpV l) ∧ Below w.heap.size w w' := by
  by_cases hl : l.length = 256
  · have hc' : 256 ≤ c := by omega
    cases h1 : supIs l with
    | false =>
      rw [unpV_no (by simp only [supOk, supGood, hl, h1]; rfl), hl]
      exact SUnp.UnpackSuper_1 l hl B A c hc' w hB hA hT h1
    | true =>
      cases h2 : (supSays l == l) with
      | false =>
        rw [unpV_no (by simp only [supOk, supGood, hl, h1, h2]; rfl), hl]
        exact SUnp.UnpackSuper_2 l hl B A c hc' w hB hA hT h1 h2
      | true =>
        rw [unpV_yes (by simp only [supOk, supGood, hl, h1, h2]; rfl), hl]
        exact SUnp.UnpackSuper_3 l hl B A c hc' w hB hA hT h1 h2
  · rw [unpV_no (by simp [supOk, hl])]
    exact SUnp.UnpackSuper_len l.length hl A c w
end
/-- a block says the numbers of which it was made -/
theorem block_says (xs : List UInt64) (ws : List Int) (seed : Nat) (h : packs xs ws 256) (hx : fit (nats ws) xs) (ht : tot (nats ws) ≤ 252) :
    unp (nats ws) ((blockOf xs ws seed).take (tot (nats ws))) = xs := by
  have hl := bytesOf_len ws xs 256 h
  have hl' : (bytesOf_ xs ws 256).length = 256 := hl
  have hp : (blockOf xs ws seed).take (tot (nats ws)) = (bytesOf_ xs ws 256).take (tot (nats ws)) := by
    unfold blockOf sealL
    rw [if_pos (by omega), hl']
    have := patch_apart (bytesOf_ xs ws 256) (256 - 4) (dig 4 (crc seed ((bytesOf_ xs ws 256).take (256 - 4)))) (by rw [dig_length]; omega) 0 (tot (nats ws)) (.inl (by omega))
    simpa using this
  rw [hp]
  have hn : (nats ws).length = xs.length := by rw [nats_len]; exact h.1.symm
  have hq : (bytesOf_ xs ws 256).take (tot (nats ws)) = packed (nats ws) xs := by
    have t1 : (nats ws).take (nats ws).length = nats ws := List.take_length
    have t2 : xs.take (nats ws).length = xs := by rw [hn, List.take_length]
    unfold bytesOf_ WPack.part
    rw [t1, t2]
    exact List.take_left' (packed_length (nats ws) xs hn)
  rw [hq]
  exact unp_packed (nats ws) xs hn hx
theorem num_at {xs ys : List UInt64} (h : xs = ys) (k : Nat) (h1 : k < xs.length) (h2 : k < ys.length) : xs[k] = ys[k] := by subst h; rfl
section
variable {b p n j fb fi oo mo : Int} (cl : Bool) (h : SMay b p n j fb fi oo mo)
include h
theorem sup_nums : supX (supBytes b p n j fb fi oo mo cl) = nums (supN b p n j fb fi oo mo cl) :=
  block_says (nums (supN b p n j fb fi oo mo cl)) supW 0 (sup_packs _ rfl) (sup_fit cl h) (by rw [sup_ns]; decide)
theorem sup_num (k : Nat) (hk : k < 11) : (((supX (supBytes b p n j fb fi oo mo cl))[k]'(by rw [supX_len]; exact hk)).toNat : Int) = (((supN b p n j fb fi oo mo cl)[k]'hk : Nat) : Int) := by
  have hk' : k < (supN b p n j fb fi oo mo cl).length := hk
  have e := ofNat_small (Nat.lt_trans (sup_small cl h _ (List.getElem_mem hk')) (by decide))
  have e2 : (nums (supN b p n j fb fi oo mo cl))[k]'(by rw [nums_len]; exact hk') = UInt64.ofNat ((supN b p n j fb fi oo mo cl)[k]'hk') := by simp only [nums, List.getElem_map]
  rw [num_at (sup_nums cl h) k _ (by rw [nums_len]; exact hk'), e2, e]
  rfl
theorem sup_back : let L := supBytes b p n j fb fi oo mo cl
    f4 L 6 = b ∧ f4 L 10 = p ∧ f4 L 14 = n ∧ f4 L 18 = j ∧ f4 L 22 = fb ∧ f4 L 26 = fi ∧ f4 L 30 = oo ∧ f4 L 34 = mo ∧ (f1 L 38 == 1) = cl ∧ f4 L 0 = 1213813321 := by
  intro L
  obtain ⟨a2, a3, a4, a5, a6, a7, a8, a9, a10⟩ := supX_at L
  have a0 := (unp_at [4, 2, 4, 4, 4, 4, 4, 4, 4, 4, 1] L 39 0 (by decide) (by decide) (by decide)).1
  have s := fun k hk => sup_num cl h k hk
  obtain ⟨_, b0, _, p0, _, n0, _, j0, _, fb0, _, fi0, _, oo0, _, mo0, _⟩ := h
  refine ⟨?_, ?_, ?_, ?_, ?_, ?_, ?_, ?_, ?_, ?_⟩
  · rw [← a2, s 2 (by decide)]; exact Int.toNat_of_nonneg b0
  · rw [← a3, s 3 (by decide)]; exact Int.toNat_of_nonneg p0
  · rw [← a4, s 4 (by decide)]; exact Int.toNat_of_nonneg n0
  · rw [← a5, s 5 (by decide)]; exact Int.toNat_of_nonneg j0
  · rw [← a6, s 6 (by decide)]; exact Int.toNat_of_nonneg fb0
  · rw [← a7, s 7 (by decide)]; exact Int.toNat_of_nonneg fi0
  · rw [← a8, s 8 (by decide)]; exact Int.toNat_of_nonneg oo0
  · rw [← a9, s 9 (by decide)]; exact Int.toNat_of_nonneg mo0
  · rw [← a10, s 10 (by decide)]
    cases cl <;> rfl
  · exact a0.symm.trans (s 0 (by decide))
end
/-- a super that may be is told back -/
theorem sup_there {b p n j fb fi oo mo : Int} (cl : Bool) (h : supMay b p n j fb fi oo mo = true) : supOk (supBytes b p n j fb fi oo mo cl) = true ∧
    unpV (supBytes b p n j fb fi oo mo cl) = .tuple #[.agg #[.int .i64 b, .int .i64 p, .int .i64 n, .int .i64 j, .int .i64 fb, .int .i64 fi, .int .i64 oo, .int .i64 mo, .bool cl], .int .i64 0] := by
  obtain ⟨e0, e1, e2, e3, e4, e5, e6, e7, e8, _⟩ := sup_back cl (supMay_of h)
  have hok : supOk (supBytes b p n j fb fi oo mo cl) = true := by
    simp only [supOk, supGood, supIs, supSays, e0, e1, e2, e3, e4, e5, e6, e7, e8, h, supBytes_len, decide_true, beq_self_eq_true, Bool.and_self]
  refine ⟨hok, ?_⟩
  rw [unpV_yes hok, e0, e1, e2, e3, e4, e5, e6, e7, e8]
theorem blockOf_sealed (xs : List UInt64) (ws : List Int) (seed : Nat) (h : packs xs ws 256) : sealB (blockOf xs ws seed) seed = true := by
  have hl : (bytesOf_ xs ws 256).length = 256 := bytesOf_len ws xs 256 h
  exact sealed_sealL _ seed (by omega)
/-- a turned byte shows -/
theorem sup_turned {b p n j fb fi oo mo : Int} (cl : Bool) (i : Nat) (y : UInt8) (hi : i < (supBytes b p n j fb fi oo mo cl).length) (hy : y ≠ (supBytes b p n j fb fi oo mo cl)[i]) : supOk ((supBytes b p n j fb fi oo mo cl).set i y) = false := by
  have h1 := turned _ 0 i y (blockOf_sealed (nums (supN b p n j fb fi oo mo cl)) supW 0 (sup_packs _ rfl)) hi hy
  rw [Bool.eq_false_iff]
  intro hok
  simp only [supOk, supGood, Bool.and_eq_true, beq_iff_eq] at hok
  have h2 : sealB (supSays ((supBytes b p n j fb fi oo mo cl).set i y)) 0 = true := by
    unfold supSays supBytes
    exact blockOf_sealed _ supW 0 (sup_packs _ rfl)
  rw [hok.2.2] at h2
  rw [show (blockOf (nums (supN b p n j fb fi oo mo cl)) supW 0) = supBytes b p n j fb fi oo mo cl from rfl] at h1
  rw [h1] at h2
  cases h2
theorem grpN_at (l : List Grp) : ∀ (i : Nat) (hi : i < l.length), (grpN l)[3 * i]? = some l[i].fb.toNat ∧ (grpN l)[3 * i + 1]? = some l[i].fi.toNat ∧ (grpN l)[3 * i + 2]? = some l[i].dirs.toNat := by
  induction l with
  | nil => intro i hi; cases hi
  | cons x l ih =>
    intro i hi
    have e : grpN (x :: l) = three x ++ grpN l := rfl
    match i with
    | 0 => simp [e, three]
    | i + 1 =>
      have h := ih i (by simpa using hi)
      have g : ∀ k, (grpN (x :: l))[3 * (i + 1) + k]? = (grpN l)[3 * i + k]? := fun k => by
        rw [e, List.getElem?_append_right (by simp [three]; omega)]
        congr 1
        simp [three]
        omega
      have g0 := g 0
      simp only [Nat.add_zero] at g0
      rw [g0, g 1, g 2]
      simpa using h
/-- groups that may be are told back -/
theorem grp_back (l : List Grp) (h : grpMay l = true) : grpSays (grpBytes l) l.length = l := by
  obtain ⟨hl, hall⟩ := grpMay_iff.1 h
  have hx : grpX (grpBytes l) l.length = nums (grpN l) := by
    have := block_says (nums (grpN l)) (grpW l.length) 1 (grp_packs l hl.2) (grp_fit l hall) (by rw [grp_tot]; omega)
    rw [grp_tot] at this
    exact this
  have hf : ∀ k (hk : k < 3 * l.length), f4 (grpBytes l) (4 * k) = (((grpN l)[k]'(by rw [grpN_len]; exact hk) : Nat) : Int) := fun k hk => by
    rw [← (grpX_at (grpBytes l) l.length k hk).1, num_at hx k _ (by rw [nums_len, grpN_len]; exact hk)]
    simp only [nums, List.getElem_map]
    rw [ofNat_small (Nat.lt_trans (grp_small l hall _ (List.getElem_mem (by rw [grpN_len]; exact hk))) (by decide))]
  refine List.ext_getElem (by rw [grpSays_len]) fun i h1 h2 => ?_
  have es : (grpSays (grpBytes l) l.length)[i] = saysOne (grpBytes l) i := by simp [grpSays]
  rw [es]
  obtain ⟨e0, e1, e2⟩ := grpN_at l i h2
  have q : ∀ (k v : Nat), (grpN l)[k]? = some v → f4 (grpBytes l) (4 * k) = (v : Int) := fun k v hk => by
    obtain ⟨hk1, hk2⟩ := List.getElem?_eq_some_iff.1 hk
    rw [hf k (by rw [grpN_len] at hk1; exact hk1), hk2]
  have k0 := q _ _ e0
  have k1 := q _ _ e1
  have k2 := q _ _ e2
  rw [show 4 * (3 * i) = 12 * i by omega] at k0
  rw [show 4 * (3 * i + 1) = 12 * i + 4 by omega] at k1
  rw [show 4 * (3 * i + 2) = 12 * i + 8 by omega] at k2
  have hm := oneMay_iff.1 (hall l[i] (List.getElem_mem h2))
  unfold saysOne
  rw [k0, k1, k2]
  generalize l[i] = x at *
  obtain ⟨fb, fi, dd⟩ := x
  simp only at hm ⊢
  rw [Int.toNat_of_nonneg (by omega), Int.toNat_of_nonneg (by omega), Int.toNat_of_nonneg (by omega)]
theorem grp_there (l : List Grp) (h : grpMay l = true) : anyX (grpBytes l) l.length = l ∧ anyE (grpBytes l) l.length = 0 := by
  obtain ⟨hl, _⟩ := grpMay_iff.1 h
  have hb := grp_back l h
  have hok : grpOk (grpBytes l) l.length = true := by
    simp only [grpOk, grpGood, hb, h, grpBytes_len l hl.2, decide_true, beq_self_eq_true, Bool.and_self]
  obtain ⟨e1, e2⟩ := anyX_yes (b := grpBytes l) (n := l.length) hl.1 hl.2
  rw [e1, e2]
  simp only [unX, unE, hok, if_true, hb]
  exact ⟨trivial, trivial⟩
/-- no bytes are both blocks -/
theorem not_both (b : List UInt8) (n : Nat) (hn : 1 ≤ n) (h1 : supOk b = true) (h2 : grpOk b n = true) : False := by
  simp only [supOk, supGood, Bool.and_eq_true, beq_iff_eq] at h1
  simp only [grpOk, grpGood, Bool.and_eq_true, beq_iff_eq] at h2
  have e1 := (sup_back (f1 b 38 == 1) (supMay_of h1.2.1)).2.2.2.2.2.2.2.2.2
  have e2 : f4 (supSays b) 0 = 1213813321 := e1
  rw [h1.2.2] at e2
  have hm := (grpMay_iff.1 h2.2.1).2 (saysOne b 0) (List.mem_map.2 ⟨0, List.mem_range.2 (by omega), rfl⟩)
  have := (oneMay_iff.1 hm).1.2
  have e3 : (saysOne b 0).fb = f4 b 0 := rfl
  rw [e3, e2] at this
  omega
end Go.Proofs.YtoaallnmihhjlaaDoor.BPlain
