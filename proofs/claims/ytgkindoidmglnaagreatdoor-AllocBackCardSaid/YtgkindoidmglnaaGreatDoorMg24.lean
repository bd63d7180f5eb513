/- The allocator in plain mathematics: a geometry, each group's two bitmaps, and what follows of them: counts, the two first blocks. Nothing of the program. -/
import Derived.Test.YtgkindoidmglnaaGreatDoorMg6
import Derived.Test.YtgkindoidmglnaaGreatDoorMg13
import Derived.Test.YtgkindoidmglnaaGreatDoorMg23
import Derived.Test.YtgkindoidmglnaaGreatDoorMg2
namespace Go.Proofs.YtgkindoidmglnaaGreatDoor.APlain
open WPlain WAny WSeal WTurn EPlain GPlain GPlain3 SPlain QPlain TPlain TBits TSet TTurn TFace TTurnF TSame

structure Al where
  b : Int
  p : Int
  n : Int
  j : Int
  bm : Nat → Bk
  im : Nat → Bk
  dirs : Nat → Int
  oo : Int
  mo : Int
  cl : Bool
namespace Al
variable (A : Al)
/-- how many groups -/
def ng : Nat := (gN A.b A.p).toNat
/-- a group's first block, how many it has, how many of them are fixed, where its bitmaps begin -/
def at_ (i : Nat) : Nat := ((i : Int) * A.p).toNat
def size (i : Nat) : Nat := (endI A.b A.p i - (i : Int) * A.p).toNat
def own (i : Nat) : Nat := (dataI A.p A.n A.j i - (i : Int) * A.p).toNat
def bat (i : Nat) : Nat := (baseI A.p A.j i).toNat
def grp (i : Nat) : Grp := ⟨TBits.zeros (A.bm i), TBits.zeros (A.im i), A.dirs i⟩
def gs : List Grp := (List.range A.ng).map A.grp
def fb : Nat := sumTo (fun i => TBits.zeros (A.bm i)) A.ng
def fi : Nat := sumTo (fun i => TBits.zeros (A.im i)) A.ng
structure Fine : Prop where
  may : May A.b A.p A.n A.j
  bm : ∀ i, i < A.ng → isMap (A.bm i) (A.size i) (A.bat i) = true
  im : ∀ i, i < A.ng → isMap (A.im i) A.n.toNat (A.bat i + 1) = true
  fx : ∀ i, i < A.ng → ∀ k, k < A.own i → fr (A.bm i) k = false
  dirs : ∀ i, 0 ≤ A.dirs i ∧ A.dirs i ≤ 65535
  oo : 0 ≤ A.oo ∧ A.oo ≤ gN A.b A.p * A.n
  mo : 0 ≤ A.mo ∧ A.mo ≤ 2147483647
def sup : Bk := supBytes A.b A.p A.n A.j A.fb A.fi A.oo A.mo A.cl
def grps : Bk := grpBytes A.gs
end Al

/-- where a group lies -/
structure Geo (A : Al) (i : Nat) : Prop where
  a0 : (A.at_ i : Int) = (i : Int) * A.p
  a1 : (A.at_ i + A.size i : Int) = endI A.b A.p i
  a2 : (A.at_ i + A.own i : Int) = dataI A.p A.n A.j i
  a3 : (A.bat i : Int) = baseI A.p A.j i
  a4 : A.at_ i ≤ A.bat i
  a5 : A.bat i + 6 ≤ A.at_ i + A.own i
  a6 : A.own i < A.size i
  a7 : A.size i ≤ 2016
  a8 : (A.at_ i + A.size i : Int) ≤ A.b
  a9 : 32 ≤ A.bat i
  a10 : (A.size i : Int) ≤ A.p
section
variable {A : Al}
theorem ng_is (h : May A.b A.p A.n A.j) : (A.ng : Int) = gN A.b A.p := by
  have := h.g0
  unfold Al.ng
  omega
theorem ng_le (h : May A.b A.p A.n A.j) : 1 ≤ A.ng ∧ A.ng ≤ 14 := by
  have := ng_is h
  have := h.g0
  have := h.g1
  omega
theorem geo (h : May A.b A.p A.n A.j) {i : Nat} (hi : i < A.ng) : Geo A i := by
  have hn := ng_is h
  obtain ⟨g1, g2, g3, g4, g5, g6, g7⟩ := group_in h (k := (i : Int)) (by omega) (by omega)
  have hp0 := h.p0
  have hp1 := h.p1
  have hn0 := h.n0
  have hj0 := h.j0
  have e7 : ((i : Int) + 1) * A.p = (i : Int) * A.p + A.p := by rw [Int.add_mul, Int.one_mul]
  have hb : endI A.b A.p i ≤ A.b := by unfold endI; exact Int.min_le_right _ _
  have h32 : 32 ≤ baseI A.p A.j i := by
    unfold baseI
    split
    · omega
    · rename_i hz
      have h1 : 1 * A.p ≤ (i : Int) * A.p := Int.mul_le_mul_of_nonneg_right (by omega) (by omega)
      omega
  have ht : dataI A.p A.n A.j i = baseI A.p A.j i + 2 + A.n / 2 := rfl
  have h0 : (A.at_ i : Int) = (i : Int) * A.p := by unfold Al.at_; omega
  have h1 : (A.size i : Int) = endI A.b A.p i - (i : Int) * A.p := by unfold Al.size; omega
  have h2 : (A.own i : Int) = dataI A.p A.n A.j i - (i : Int) * A.p := by unfold Al.own; omega
  have h3 : (A.bat i : Int) = baseI A.p A.j i := by unfold Al.bat; omega
  exact ⟨h0, by omega, by omega, h3, by omega, by omega, by omega, by omega, by omega, by omega, by omega⟩
/-- groups lie one behind the other -/
theorem apart (h : May A.b A.p A.n A.j) {i k : Nat} (hik : i < k) (hk : k < A.ng) : A.at_ i + A.size i ≤ A.at_ k := by
  have g1 := geo h (show i < A.ng by omega)
  have g2 := geo h hk
  have h1 : ((i : Int) + 1) * A.p ≤ (k : Int) * A.p := Int.mul_le_mul_of_nonneg_right (by omega) (by have := h.p0; omega)
  have h2 : ((i : Int) + 1) * A.p = (i : Int) * A.p + A.p := by rw [Int.add_mul, Int.one_mul]
  have := g1.a0
  have := g2.a0
  have := g1.a10
  omega
theorem bat_ne (h : May A.b A.p A.n A.j) {i k : Nat} (hi : i < A.ng) (hk : k < A.ng) (hne : i ≠ k) : A.bat i + 1 < A.bat k ∨ A.bat k + 1 < A.bat i := by
  have g1 := geo h hi
  have g2 := geo h hk
  have := g1.a4
  have := g1.a5
  have := g1.a6
  have := g2.a4
  have := g2.a5
  have := g2.a6
  rcases Nat.lt_or_gt_of_ne hne with hlt | hlt
  · have := apart h hlt hk
    omega
  · have := apart h hlt hi
    omega
/-- which group a block lies in -/
theorem in_group (h : May A.b A.p A.n A.j) (x : Nat) (hx : (x : Int) < A.b) : ∃ i, i < A.ng ∧ A.at_ i ≤ x ∧ x < A.at_ i + A.size i ∧ (x : Int) / A.p = i := by
  have hp := h.p0
  have e := Int.mul_ediv_add_emod (x : Int) A.p
  have r0 := Int.emod_nonneg (x : Int) (show A.p ≠ 0 by omega)
  have r1 := Int.emod_lt_of_pos (x : Int) (show 0 < A.p by omega)
  have q0 : 0 ≤ (x : Int) / A.p := Int.ediv_nonneg (by omega) (by omega)
  have hhi := h.hi
  have hg := ng_is h
  have hlt : (x : Int) / A.p < gN A.b A.p := by
    refine Int.lt_of_not_ge fun hc => ?_
    have h1 : gN A.b A.p * A.p ≤ (x : Int) / A.p * A.p := Int.mul_le_mul_of_nonneg_right hc (by omega)
    rw [Int.mul_comm] at e
    omega
  obtain ⟨i, hi⟩ := Int.eq_ofNat_of_zero_le q0
  have hin : i < A.ng := by omega
  have g := geo h hin
  have e0 := g.a0
  have e1 := g.a1
  rw [hi] at e
  rw [Int.mul_comm] at e
  have he : endI A.b A.p i = min ((i : Int) * A.p + A.p) A.b := rfl
  exact ⟨i, hin, by omega, by omega, hi⟩
theorem zer_span {F : Nat → Bool} {a c : Nat} (hac : a ≤ c) (h1 : ∀ k, k < a → F k = false) (h2 : ∀ k, c ≤ k → F k = false) : ∀ p, zer F p ≤ min p c - min p a
  | 0 => by simp [zer]
  | p + 1 => by
    have ih := zer_span hac h1 h2 p
    simp only [zer]
    by_cases e : F p = true
    · have q1 : a ≤ p := Nat.le_of_not_lt fun hlt => by rw [h1 p hlt] at e; cases e
      have q2 : p < c := Nat.lt_of_not_le fun hle => by rw [h2 p hle] at e; cases e
      rw [if_pos e]
      omega
    · rw [if_neg e]
      omega
/-- a bitmap's facts -/
theorem map_of {l : Bk} {n seed : Nat} (h : isMap l n seed = true) : l.length = 256 ∧ WSeal.sealB l seed = true ∧ allB l n (2016 - n) true = true := by
  simp only [isMap, Bool.and_eq_true, decide_eq_true_eq] at h
  exact ⟨h.1, h.2.1, h.2.2⟩
theorem map_mk {l : Bk} {n seed : Nat} (h1 : l.length = 256) (h2 : WSeal.sealB l seed = true) (h3 : allB l n (2016 - n) true = true) : isMap l n seed = true := by
  simp only [isMap, Bool.and_eq_true, decide_eq_true_eq]
  exact ⟨h1, h2, h3⟩
theorem map_end {l : Bk} {n seed : Nat} (h : isMap l n seed = true) {k : Nat} (hk : n ≤ k) : fr l k = false := by
  by_cases hb : 2016 ≤ k
  · exact fr_big hb
  · have h3 := allB_iff.1 (map_of h).2.2 (k - n) (by omega)
    rw [show n + (k - n) = k by omega] at h3
    simpa using h3
theorem fine_bz (h : A.Fine) {i : Nat} (hi : i < A.ng) : TBits.zeros (A.bm i) ≤ A.size i - A.own i := by
  have g := geo h.may hi
  have h6 := g.a6
  have h7 := g.a7
  have := zer_span (F := fr (A.bm i)) (Nat.le_of_lt h6) (h.fx i hi) (fun k hk => map_end (h.bm i hi) hk) 2016
  unfold TBits.zeros
  omega
theorem fine_iz (h : A.Fine) {i : Nat} (hi : i < A.ng) : (TBits.zeros (A.im i) : Int) ≤ A.n := by
  have := zer_span (F := fr (A.im i)) (Nat.zero_le A.n.toNat) (fun k hk => absurd hk (Nat.not_lt_zero _)) (fun k hk => map_end (h.im i hi) hk) 2016
  have h1 := h.may.n0
  have h2 := h.may.n1
  unfold TBits.zeros
  omega
theorem sumTo_le {f g : Nat → Nat} : ∀ {n : Nat}, (∀ k, k < n → f k ≤ g k) → sumTo f n ≤ sumTo g n
  | 0, _ => Nat.le_refl _
  | n + 1, h => Nat.add_le_add (sumTo_le fun k hk => h k (by omega)) (h n (by omega))
theorem sum_data (h : May A.b A.p A.n A.j) : ∀ k, k ≤ A.ng → ((sumTo (fun i => A.size i - A.own i) k : Nat) : Int) = dataK A.b A.p A.n k A.j
  | 0, _ => rfl
  | k + 1, hk => by
    have ih := sum_data h k (by omega)
    have hn := ng_is h
    have g := geo h (show k < A.ng by omega)
    have e1 := g.a1
    have e2 := g.a2
    have e6 := g.a6
    have e3 := dataK_next h (k := (k : Int)) (by omega) (by omega)
    simp only [sumTo]
    rw [show ((k + 1 : Nat) : Int) = (k : Int) + 1 from rfl, e3]
    omega
theorem fb_le (h : A.Fine) : (A.fb : Int) ≤ A.b - fixedI A.b A.p A.n A.j := by
  have h1 := sum_data h.may A.ng (Nat.le_refl _)
  have h2 : A.fb ≤ sumTo (fun i => A.size i - A.own i) A.ng := sumTo_le fun k hk => fine_bz h hk
  rw [ng_is h.may, dataK_end h.may] at h1
  rw [fixedI_yes (may_iff.2 h.may)]
  omega
theorem sum_const (c : Nat) : ∀ n, sumTo (fun _ => c) n = n * c
  | 0 => by simp [sumTo]
  | n + 1 => by simp only [sumTo]; rw [sum_const c n, Nat.add_mul, Nat.one_mul]
theorem fi_le (h : A.Fine) : (A.fi : Int) ≤ gN A.b A.p * A.n := by
  have h0 := h.may.n0
  have h2 : A.fi ≤ sumTo (fun _ => A.n.toNat) A.ng := sumTo_le fun k hk => by have := fine_iz h hk; omega
  rw [sum_const] at h2
  rw [← ng_is h.may]
  have h3 : ((A.ng * A.n.toNat : Nat) : Int) = (A.ng : Int) * A.n := by
    rw [Int.natCast_mul, Int.toNat_of_nonneg (by omega)]
  omega
theorem fine_sup (h : A.Fine) : supMay A.b A.p A.n A.j A.fb A.fi A.oo A.mo = true := by
  have hm := may_iff.2 h.may
  have h1 := fb_le h
  have h2 := fi_le h
  have h3 := h.oo
  have h4 := h.mo
  simp only [supMay, Bool.and_eq_true, inB_true, allIn, List.all_cons, List.all_nil, Bool.and_true, groupsI_yes hm]
  exact ⟨⟨⟨hm, by omega, h1⟩, ⟨by omega, h2⟩, h3⟩, h4⟩
theorem gs_len : A.gs.length = A.ng := by simp [Al.gs]
theorem gs_get {i : Nat} (hi : i < A.gs.length) : A.gs[i] = A.grp i := by simp [Al.gs]
theorem fine_grp (h : A.Fine) : grpMay A.gs = true := by
  have hn := ng_le h.may
  rw [grpMay_iff, gs_len]
  refine ⟨by omega, fun x hx => ?_⟩
  obtain ⟨i, hi, rfl⟩ := List.mem_map.1 hx
  rw [List.mem_range] at hi
  have g := geo h.may hi
  have h1 := fine_bz h hi
  have h2 := fine_iz h hi
  have h3 := h.dirs i
  have h4 := g.a7
  have h5 := h.may.n1
  rw [oneMay_iff]
  refine ⟨⟨?_, ?_⟩, ⟨?_, ?_⟩, h3⟩ <;> simp only [Al.grp] <;> omega

/-- a group's bitmap of blocks is another one -/
def Al.setB (A : Al) (i : Nat) (l : Bk) : Al := { A with bm := fun k => if k = i then l else A.bm k }
/-- its bitmap of inodes is another one, and it has so many directories more -/
def Al.setI (A : Al) (i : Nat) (l : Bk) (d : Int) : Al := { A with im := (fun k => if k = i then l else A.im k), dirs := (fun k => if k = i then A.dirs k + d else A.dirs k) }
theorem sumTo_set {f g : Nat → Nat} {i : Nat} (hg : ∀ k, k ≠ i → g k = f k) : ∀ {n : Nat}, i < n → sumTo g n + f i = sumTo f n + g i
  | 0, h => by omega
  | n + 1, h => by
    by_cases e : n = i
    · subst e
      simp only [sumTo]
      rw [sumTo_congr (f := g) (g := f) fun k hk => hg k (by omega)]
      omega
    · have := sumTo_set hg (show i < n by omega)
      simp only [sumTo]
      rw [hg n e]
      omega
theorem fr_turn {l : Bk} (hl : l.length = 256) (a c seed : Nat) {k : Nat} (hac : a + c ≤ 2016) : fr (turnL l a c seed) k = (fr l k != decide (a ≤ k ∧ k < a + c)) := by
  unfold turnL
  rw [fr_seal (by rw [flips_len]; exact hl)]
  by_cases hk : k < 2016
  · exact fr_flips hl hk c hac
  · rw [fr_big (by omega), fr_big (by omega)]
    have : ¬ (a ≤ k ∧ k < a + c) := by omega
    simp [this]
theorem turn_len {l : Bk} (hl : l.length = 256) (a c : Int) (seed : Nat) : (turnL l a c seed).length = 256 := by
  unfold turnL
  rw [sealL_len, flips_len, hl]
theorem turn_map {l : Bk} {n seed a c : Nat} (h : isMap l n seed = true) (hac : a + c ≤ n) (hn : n ≤ 2016) : isMap (turnL l a c seed) n seed = true := by
  have h1 := (map_of h).1
  refine map_mk (turn_len h1 _ _ _) ?_ (allB_iff.2 fun j hj => ?_)
  · unfold turnL
    exact sealed_sealL _ seed (by rw [flips_len, h1]; decide)
  · rw [fr_turn h1 a c seed (by omega), map_end h (show n ≤ n + j by omega)]
    have : ¬ (a ≤ n + j ∧ n + j < a + c) := by omega
    simp [this]
theorem turn_take {l : Bk} (hl : l.length = 256) {a c : Nat} (seed : Nat) (hac : a + c ≤ 2016) (hf : ∀ j, j < c → fr l (a + j) = true) : TBits.zeros (turnL l a c seed) + c = TBits.zeros l := by
  have := zer_turn (F := fr l) (G := fr (turnL l a c seed)) (a := a) (k := c) (fun i h1 h2 => by
    have e := hf (i - a) (by omega)
    rw [show a + (i - a) = i by omega] at e
    refine ⟨e, ?_⟩
    rw [fr_turn hl a c seed hac, e]
    simp [h1, h2]) (fun i hi => by
    rw [fr_turn hl a c seed hac]
    simp [hi]) 2016
  unfold TBits.zeros
  omega
theorem turn_give {l : Bk} (hl : l.length = 256) {a c : Nat} (seed : Nat) (hac : a + c ≤ 2016) (hf : ∀ j, j < c → fr l (a + j) = false) : TBits.zeros (turnL l a c seed) = TBits.zeros l + c := by
  have := zer_turn (F := fr (turnL l a c seed)) (G := fr l) (a := a) (k := c) (fun i h1 h2 => by
    have e := hf (i - a) (by omega)
    rw [show a + (i - a) = i by omega] at e
    refine ⟨?_, e⟩
    rw [fr_turn hl a c seed hac, e]
    simp [h1, h2]) (fun i hi => by
    rw [fr_turn hl a c seed hac]
    simp [hi]) 2016
  unfold TBits.zeros
  omega
/-- turned, and turned back -/
theorem turn_turn {l : Bk} {n seed a c : Nat} (h : isMap l n seed = true) (hac : a + c ≤ 2016) : turnL (turnL l a c seed) a c seed = l := by
  have h1 := (map_of h).1
  have h2 := turn_len h1 a c seed
  have e : turnL (turnL l a c seed) a c seed = sealL l seed := by
    rw [turnL]
    refine seal_same (by rw [flips_len]; exact h2) h1 (fun i hi => ?_) seed
    rw [fr_flips h2 hi _ (by simpa using hac), fr_turn h1 a c seed hac]
    simp
  rw [e]
  exact sealed_is h1 (map_of h).2.1
theorem setB_fb {i : Nat} (l : Bk) (hi : i < A.ng) : (A.setB i l).fb + TBits.zeros (A.bm i) = A.fb + TBits.zeros l := by
  have := sumTo_set (f := fun k => TBits.zeros (A.bm k)) (g := fun k => TBits.zeros ((A.setB i l).bm k)) (i := i) (fun k hk => by simp [Al.setB, hk]) hi
  simpa [Al.fb, Al.setB, Al.ng] using this
theorem setI_fi {i : Nat} (l : Bk) (d : Int) (hi : i < A.ng) : (A.setI i l d).fi + TBits.zeros (A.im i) = A.fi + TBits.zeros l := by
  have := sumTo_set (f := fun k => TBits.zeros (A.im k)) (g := fun k => TBits.zeros ((A.setI i l d).im k)) (i := i) (fun k hk => by simp [Al.setI, hk]) hi
  simpa [Al.fi, Al.setI, Al.ng] using this
theorem setB_gs {i : Nat} (l : Bk) : (A.setB i l).gs = A.gs.set i { A.grp i with fb := TBits.zeros l } := by
  refine List.ext_getElem (by simp [Al.gs, Al.setB, Al.ng]) fun k h1 h2 => ?_
  rw [gs_get h1, List.getElem_set]
  split
  · rename_i e
    subst e
    simp [Al.grp, Al.setB]
  · rename_i e
    rw [gs_get (by simpa [Al.gs, Al.setB, Al.ng] using h1)]
    simp [Al.grp, Al.setB, Ne.symm e]
theorem setI_gs {i : Nat} (l : Bk) (d : Int) : (A.setI i l d).gs = A.gs.set i { A.grp i with fi := TBits.zeros l, dirs := A.dirs i + d } := by
  refine List.ext_getElem (by simp [Al.gs, Al.setI, Al.ng]) fun k h1 h2 => ?_
  rw [gs_get h1, List.getElem_set]
  split
  · rename_i e
    subst e
    simp [Al.grp, Al.setI]
  · rename_i e
    rw [gs_get (by simpa [Al.gs, Al.setI, Al.ng] using h1)]
    simp [Al.grp, Al.setI, Ne.symm e]
theorem setB_fine (h : A.Fine) {i : Nat} {l : Bk} (h1 : i < A.ng → isMap l (A.size i) (A.bat i) = true) (h2 : ∀ k, k < A.own i → fr l k = false) : (A.setB i l).Fine := by
  refine ⟨h.may, fun k hk => ?_, h.im, fun k hk x hx => ?_, h.dirs, h.oo, h.mo⟩
  · by_cases e : k = i
    · subst e
      simp only [Al.setB, if_true]
      exact h1 hk
    · simp only [Al.setB, if_neg e]
      exact h.bm k hk
  · by_cases e : k = i
    · subst e
      simp only [Al.setB, if_true]
      exact h2 x hx
    · simp only [Al.setB, if_neg e]
      exact h.fx k hk x hx
theorem setI_fine (h : A.Fine) {i : Nat} {l : Bk} {d : Int} (h1 : i < A.ng → isMap l A.n.toNat (A.bat i + 1) = true) (h2 : 0 ≤ A.dirs i + d ∧ A.dirs i + d ≤ 65535) : (A.setI i l d).Fine := by
  refine ⟨h.may, h.bm, fun k hk => ?_, h.fx, fun k => ?_, h.oo, h.mo⟩
  · by_cases e : k = i
    · subst e
      simp only [Al.setI, if_true]
      exact h1 hk
    · simp only [Al.setI, if_neg e]
      exact h.im k hk
  · by_cases e : k = i
    · subst e
      simp only [Al.setI, if_true]
      exact h2
    · simp only [Al.setI, if_neg e]
      exact h.dirs k
end
end Go.Proofs.YtgkindoidmglnaaGreatDoor.APlain
