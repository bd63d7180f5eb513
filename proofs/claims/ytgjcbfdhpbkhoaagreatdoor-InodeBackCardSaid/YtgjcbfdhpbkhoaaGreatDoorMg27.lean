/- The allocator in plain mathematics: a geometry, each group's two bitmaps, and what follows of them: counts, the two first blocks. Nothing of the program. -/
import Derived.Test.YtgjcbfdhpbkhoaaGreatDoorMg6
import Derived.Test.YtgjcbfdhpbkhoaaGreatDoorMg13
import Derived.Test.YtgjcbfdhpbkhoaaGreatDoorMg23
import Derived.Test.YtgjcbfdhpbkhoaaGreatDoorMg2
import Derived.Test.YtgjcbfdhpbkhoaaGreatDoorMg25
import Derived.Deep.RegionHeld3
namespace Go.Proofs.YtgjcbfdhpbkhoaaGreatDoor.APlain
open WPlain WAny WSeal WTurn EPlain GPlain GPlain3 SPlain QPlain TPlain TBits TSet TTurn TFace TTurnF TSame
structure Al where
  b : Int
  p : Int
  n : Int
  j : Int
  bm : Nat → Bk
  im : Nat → Bk
  dirs : Nat → Int
  oo : Int
  mo : Int
  cl : Bool
namespace Al
variable (A : Al)
def ng : Nat := (gN A.b A.p).toNat
def at_ (i : Nat) : Nat := ((i : Int) * A.p).toNat
def size (i : Nat) : Nat := (endI A.b A.p i - (i : Int) * A.p).toNat
def own (i : Nat) : Nat := (dataI A.p A.n A.j i - (i : Int) * A.p).toNat
def bat (i : Nat) : Nat := (baseI A.p A.j i).toNat
def grp (i : Nat) : Grp := ⟨TBits.zeros (A.bm i), TBits.zeros (A.im i), A.dirs i⟩
def gs : List Grp := (List.range A.ng).map A.grp
def fb : Nat := sumTo (fun i => TBits.zeros (A.bm i)) A.ng
def fi : Nat := sumTo (fun i => TBits.zeros (A.im i)) A.ng
structure Fine : Prop where
  may : May A.b A.p A.n A.j
  bm : ∀ i, i < A.ng → isMap (A.bm i) (A.size i) (A.bat i) = true
  im : ∀ i, i < A.ng → isMap (A.im i) A.n.toNat (A.bat i + 1) = true
  fx : ∀ i, i < A.ng → ∀ k, k < A.own i → fr (A.bm i) k = false
  dirs : ∀ i, 0 ≤ A.dirs i ∧ A.dirs i ≤ 65535
  oo : 0 ≤ A.oo ∧ A.oo ≤ gN A.b A.p * A.n
  mo : 0 ≤ A.mo ∧ A.mo ≤ 2147483647
def sup : Bk := supBytes A.b A.p A.n A.j A.fb A.fi A.oo A.mo A.cl
def grps : Bk := grpBytes A.gs
end Al
structure Geo (A : Al) (i : Nat) : Prop where
  a0 : (A.at_ i : Int) = (i : Int) * A.p
  a1 : (A.at_ i + A.size i : Int) = endI A.b A.p i
  a2 : (A.at_ i + A.own i : Int) = dataI A.p A.n A.j i
  a3 : (A.bat i : Int) = baseI A.p A.j i
  a4 : A.at_ i ≤ A.bat i
  a5 : A.bat i + 6 ≤ A.at_ i + A.own i
  a6 : A.own i < A.size i
  a7 : A.size i ≤ 2016
  a8 : (A.at_ i + A.size i : Int) ≤ A.b
  a9 : 32 ≤ A.bat i
  a10 : (A.size i : Int) ≤ A.p
section
variable {A : Al}
theorem ng_is (h : May A.b A.p A.n A.j) : (A.ng : Int) = gN A.b A.p := by
  have := h.g0
  unfold Al.ng
  omega
theorem ng_le (h : May A.b A.p A.n A.j) : 1 ≤ A.ng ∧ A.ng ≤ 14 := by
  have := ng_is h
  have := h.g0
  have := h.g1
  omega
theorem geo (h : May A.b A.p A.n A.j) {i : Nat} (hi : i < A.ng) : Geo A i := by
  have hn := ng_is h
  obtain ⟨g1, g2, g3, g4, g5, g6, g7⟩ := group_in h (k := (i : Int)) (by omega) (by omega)
  have hp0 := h.p0
  have hp1 := h.p1
  have hn0 := h.n0
  have hj0 := h.j0
  have e7 : ((i : Int) + 1) * A.p = (i : Int) * A.p + A.p := by rw [Int.add_mul, Int.one_mul]
  have hb : endI A.b A.p i ≤ A.b := by unfold endI; exact Int.min_le_right _ _
  have h32 : 32 ≤ baseI A.p A.j i := by
    unfold baseI
    split
    · omega
    · rename_i hz
      have h1 : 1 * A.p ≤ (i : Int) * A.p := Int.mul_le_mul_of_nonneg_right (by omega) (by omega)
      omega
  have ht : dataI A.p A.n A.j i = baseI A.p A.j i + 2 + A.n / 2 := rfl
  have h0 : (A.at_ i : Int) = (i : Int) * A.p := by unfold Al.at_; omega
  have h1 : (A.size i : Int) = endI A.b A.p i - (i : Int) * A.p := by unfold Al.size; omega
  have h2 : (A.own i : Int) = dataI A.p A.n A.j i - (i : Int) * A.p := by unfold Al.own; omega
  have h3 : (A.bat i : Int) = baseI A.p A.j i := by unfold Al.bat; omega
  exact ⟨h0, by omega, by omega, h3, by omega, by omega, by omega, by omega, by omega, by omega, by omega⟩
theorem apart (h : May A.b A.p A.n A.j) {i k : Nat} (hik : i < k) (hk : k < A.ng) : A.at_ i + A.size i ≤ A.at_ k := by
  have g1 := geo h (show i < A.ng by omega)
  have g2 := geo h hk
  have h1 : ((i : Int) + 1) * A.p ≤ (k : Int) * A.p := Int.mul_le_mul_of_nonneg_right (by omega) (by have := h.p0; omega)
  have h2 : ((i : Int) + 1) * A.p = (i : Int) * A.p + A.p := by rw [Int.add_mul, Int.one_mul]
  have := g1.a0
  have := g2.a0
  have := g1.a10
  omega
theorem zer_span {F : Nat → Bool} {a c : Nat} (hac : a ≤ c) (h1 : ∀ k, k < a → F k = false) (h2 : ∀ k, c ≤ k → F k = false) : ∀ p, zer F p ≤ min p c - min p a
  | 0 => by simp [zer]
  | p + 1 => by
    have ih := zer_span hac h1 h2 p
    simp only [zer]
    by_cases e : F p = true
    · have q1 : a ≤ p := Nat.le_of_not_lt fun hlt => by rw [h1 p hlt] at e; cases e
      have q2 : p < c := Nat.lt_of_not_le fun hle => by rw [h2 p hle] at e; cases e
      rw [if_pos e]
      omega
    · rw [if_neg e]
      omega
theorem map_of {l : Bk} {n seed : Nat} (h : isMap l n seed = true) : l.length = 256 ∧ WSeal.sealB l seed = true ∧ allB l n (2016 - n) true = true := by
  simp only [isMap, Bool.and_eq_true, decide_eq_true_eq] at h
  exact ⟨h.1, h.2.1, h.2.2⟩
theorem map_mk {l : Bk} {n seed : Nat} (h1 : l.length = 256) (h2 : WSeal.sealB l seed = true) (h3 : allB l n (2016 - n) true = true) : isMap l n seed = true := by
  simp only [isMap, Bool.and_eq_true, decide_eq_true_eq]
  exact ⟨h1, h2, h3⟩
theorem map_end {l : Bk} {n seed : Nat} (h : isMap l n seed = true) {k : Nat} (hk : n ≤ k) : fr l k = false := by
  by_cases hb : 2016 ≤ k
  · exact fr_big hb
  · have h3 := allB_iff.1 (map_of h).2.2 (k - n) (by omega)
    rw [show n + (k - n) = k by omega] at h3
    simpa using h3
theorem fine_bz (h : A.Fine) {i : Nat} (hi : i < A.ng) : TBits.zeros (A.bm i) ≤ A.size i - A.own i := by
  have g := geo h.may hi
  have h6 := g.a6
  have h7 := g.a7
  have := zer_span (F := fr (A.bm i)) (Nat.le_of_lt h6) (h.fx i hi) (fun k hk => map_end (h.bm i hi) hk) 2016
  unfold TBits.zeros
  omega
theorem fine_iz (h : A.Fine) {i : Nat} (hi : i < A.ng) : (TBits.zeros (A.im i) : Int) ≤ A.n := by
  have := zer_span (F := fr (A.im i)) (Nat.zero_le A.n.toNat) (fun k hk => absurd hk (Nat.not_lt_zero _)) (fun k hk => map_end (h.im i hi) hk) 2016
  have h1 := h.may.n0
  have h2 := h.may.n1
  unfold TBits.zeros
  omega
theorem sumTo_le {f g : Nat → Nat} : ∀ {n : Nat}, (∀ k, k < n → f k ≤ g k) → sumTo f n ≤ sumTo g n
  | 0, _ => Nat.le_refl _
  | n + 1, h => Nat.add_le_add (sumTo_le fun k hk => h k (by omega)) (h n (by omega))
theorem sum_data (h : May A.b A.p A.n A.j) : ∀ k, k ≤ A.ng → ((sumTo (fun i => A.size i - A.own i) k : Nat) : Int) = dataK A.b A.p A.n k A.j
  | 0, _ => rfl
  | k + 1, hk => by
    have ih := sum_data h k (by omega)
    have hn := ng_is h
    have g := geo h (show k < A.ng by omega)
    have e1 := g.a1
    have e2 := g.a2
    have e6 := g.a6
    have e3 := dataK_next h (k := (k : Int)) (by omega) (by omega)
    simp only [sumTo]
    rw [show ((k + 1 : Nat) : Int) = (k : Int) + 1 from rfl, e3]
    omega
theorem fb_le (h : A.Fine) : (A.fb : Int) ≤ A.b - fixedI A.b A.p A.n A.j := by
  have h1 := sum_data h.may A.ng (Nat.le_refl _)
  have h2 : A.fb ≤ sumTo (fun i => A.size i - A.own i) A.ng := sumTo_le fun k hk => fine_bz h hk
  rw [ng_is h.may, dataK_end h.may] at h1
  rw [fixedI_yes (may_iff.2 h.may)]
  omega
theorem sum_const (c : Nat) : ∀ n, sumTo (fun _ => c) n = n * c
  | 0 => by simp [sumTo]
  | n + 1 => by simp only [sumTo]; rw [sum_const c n, Nat.add_mul, Nat.one_mul]
theorem fi_le (h : A.Fine) : (A.fi : Int) ≤ gN A.b A.p * A.n := by
  have h0 := h.may.n0
  have h2 : A.fi ≤ sumTo (fun _ => A.n.toNat) A.ng := sumTo_le fun k hk => by have := fine_iz h hk; omega
  rw [sum_const] at h2
  rw [← ng_is h.may]
  have h3 : ((A.ng * A.n.toNat : Nat) : Int) = (A.ng : Int) * A.n := by
    rw [Int.natCast_mul, Int.toNat_of_nonneg (by omega)]
  omega
theorem fine_sup (h : A.Fine) : supMay A.b A.p A.n A.j A.fb A.fi A.oo A.mo = true := by
  have hm := may_iff.2 h.may
  have h1 := fb_le h
  have h2 := fi_le h
  have h3 := h.oo
  have h4 := h.mo
  simp only [supMay, Bool.and_eq_true, inB_true, allIn, List.all_cons, List.all_nil, Bool.and_true, groupsI_yes hm]
  exact ⟨⟨⟨hm, by omega, h1⟩, ⟨by omega, h2⟩, h3⟩, h4⟩
theorem gs_len : A.gs.length = A.ng := by simp [Al.gs]
theorem gs_get {i : Nat} (hi : i < A.gs.length) : A.gs[i] = A.grp i := by simp [Al.gs]
theorem fine_grp (h : A.Fine) : grpMay A.gs = true := by
  have hn := ng_le h.may
  rw [grpMay_iff, gs_len]
  refine ⟨by omega, fun x hx => ?_⟩
  obtain ⟨i, hi, rfl⟩ := List.mem_map.1 hx
  rw [List.mem_range] at hi
  have g := geo h.may hi
  have h1 := fine_bz h hi
  have h2 := fine_iz h hi
  have h3 := h.dirs i
  have h4 := g.a7
  have h5 := h.may.n1
  rw [oneMay_iff]
  refine ⟨⟨?_, ?_⟩, ⟨?_, ?_⟩, h3⟩ <;> simp only [Al.grp] <;> omega
def Al.setB (A : Al) (i : Nat) (l : Bk) : Al := { A with bm := fun k => if k = i then l else A.bm k }
theorem fr_turn {l : Bk} (hl : l.length = 256) (a c seed : Nat) {k : Nat} (hac : a + c ≤ 2016) : fr (turnL l a c seed) k = (fr l k != decide (a ≤ k ∧ k < a + c)) := by
  unfold turnL
  rw [fr_seal (by rw [flips_len]; exact hl)]
  by_cases hk : k < 2016
  · exact fr_flips hl hk c hac
  · rw [fr_big (by omega), fr_big (by omega)]
    have : ¬ (a ≤ k ∧ k < a + c) := by omega
    simp [this]
theorem turn_len {l : Bk} (hl : l.length = 256) (a c : Int) (seed : Nat) : (turnL l a c seed).length = 256 := by
  unfold turnL
  rw [sealL_len, flips_len, hl]
theorem turn_map {l : Bk} {n seed a c : Nat} (h : isMap l n seed = true) (hac : a + c ≤ n) (hn : n ≤ 2016) : isMap (turnL l a c seed) n seed = true := by
  have h1 := (map_of h).1
  refine map_mk (turn_len h1 _ _ _) ?_ (allB_iff.2 fun j hj => ?_)
  · unfold turnL
    exact sealed_sealL _ seed (by rw [flips_len, h1]; decide)
  · rw [fr_turn h1 a c seed (by omega), map_end h (show n ≤ n + j by omega)]
    have : ¬ (a ≤ n + j ∧ n + j < a + c) := by omega
    simp [this]
theorem turn_take {l : Bk} (hl : l.length = 256) {a c : Nat} (seed : Nat) (hac : a + c ≤ 2016) (hf : ∀ j, j < c → fr l (a + j) = true) : TBits.zeros (turnL l a c seed) + c = TBits.zeros l := by
  have := zer_turn (F := fr l) (G := fr (turnL l a c seed)) (a := a) (k := c) (fun i h1 h2 => by
    have e := hf (i - a) (by omega)
    rw [show a + (i - a) = i by omega] at e
    refine ⟨e, ?_⟩
    rw [fr_turn hl a c seed hac, e]
    simp [h1, h2]) (fun i hi => by
    rw [fr_turn hl a c seed hac]
    simp [hi]) 2016
  unfold TBits.zeros
  omega
end
end Go.Proofs.YtgjcbfdhpbkhoaaGreatDoor.APlain
/- What bytes say of an inode: the program's answer. -/
namespace Go.Proofs.YtgjcbfdhpbkhoaaGreatDoor.ITold
open Go.RowKit WMem WPlain WPack WWide WAny WCrc WSeal WFace2 GPlain GWithin GGeo GGeo2 SNums SPlain SEqual IPlain ICheck IPack
section
variable {P : Program} {ops : Array Oper} {Q : Exit → Act → World → Prop} {md : Region.Mode} {S : World → Prop} {oi : Oper} {fuel : Nat} {listed : Array Bool} {a : Act} {w : World}
theorem tk (i : Nat) (v : Value) (hi : ops[i]? = some oi) (hy : ∀ w, S w → (execOp a.eval oi).run P w = .ok (.value v) w) (hS : S w) (h : wpAnyH P md ops Q S fuel (listed.setIfInBounds i true) (a.put oi.dst v) w)
    (hs : Region.noSelect ops = true := by kernel_rfl) (hf : Region.free md ops listed i = true := by kernel_rfl) (hr : (Region.ready md ops listed).contains i = true := by kernel_rfl) (hQ : ∀ c a w, Q (.panic c) (a.put oi.dst v) w → Q (.panic c) a w := by exact fun _ _ _ h => h) (hg : Region.wanted oi (yielded ops a.tmps) = true := by rfl) : wpAnyH P md ops Q S (fuel + 1) listed a w :=
  wpAnyH_take hi hs hf hr hQ (.inl ⟨hg, hy⟩) hS h
theorem tn (i : Nat) (hi : ops[i]? = some oi) (hS : S w) (h : wpAnyH P md ops Q S fuel (listed.setIfInBounds i true) (a.put oi.dst undef) w)
    (hs : Region.noSelect ops = true := by kernel_rfl) (hf : Region.free md ops listed i = true := by kernel_rfl) (hr : (Region.ready md ops listed).contains i = true := by kernel_rfl) (hQ : ∀ c a w, Q (.panic c) (a.put oi.dst undef) w → Q (.panic c) a w := by exact fun _ _ _ h => h) (hg : Region.wanted oi (yielded ops a.tmps) = false := by rfl) : wpAnyH P md ops Q S (fuel + 1) listed a w :=
  wpAnyH_take hi hs hf hr hQ (.inr ⟨hg, rfl⟩) hS h
end
theorem rowc {w : World} {g : Nat} {T : TypeId} {xs : List Value} (h : RowV w g T xs) (i : Nat) {v : Value} (hv : xs[i]? = some v) : w.cell? ⟨g, i, none⟩ = some v := by
  rw [row_cell h, List.getElem?_toArray]
  exact hv
set_option maxRecDepth 20000 in
set_option maxHeartbeats 1000000 in
theorem told_at (x0 x1 x2 x3 x4 x5 x6 x7 x8 x9 x10 x11 x12 x13 : Int) (A : Option Addr) (n c g cap : Nat) (w : World) (hR : RowV w g 47 [.int .u64 x0, .int .u64 x1, .int .u64 x2, .int .u64 x3, .int .u64 x4, .int .u64 x5, .int .u64 x6, .int .u64 x7, .int .u64 x8, .int .u64 x9, .int .u64 x10, .int .u64 x11, .int .u64 x12, .int .u64 x13]) :
    Calls Tryz.prog 50 #[.slice (some ⟨g, 0, none⟩) 14 cap, .slice A n c] w fun e w' => e = .returned (.agg #[.int .i64 (IntKind.i64.wrap x0), .int .i64 (IntKind.i64.wrap x2), .int .i64 (IntKind.i64.wrap x3), .int .i64 (IntKind.i64.wrap x4), .int .i64 (IntKind.i64.wrap x5), .int .i64 (IntKind.i64.wrap x6), .int .i64 (IntKind.i64.wrap x7), .int .i64 (IntKind.i64.wrap x8), .int .i64 (IntKind.i64.wrap x9), .int .i64 (IntKind.i64.wrap x10), .int .i64 (IntKind.i64.wrap x11), .int .i64 (IntKind.i64.wrap x12), .int .i64 (IntKind.i64.wrap x13), .bool (x1 == 1), .slice A n c]) ∧ Below w.heap.size w w' := by
  have HR := Lib.hid hR
  have HLT := Lib.hid hR.lt
  clear hR
  go_enter Tryz.func50, Tryz.ntmps50
  go_wp2_with fail
  refine wp_region_held_drew (S := (fun w' => RowV w' g 47 [.int .u64 x0, .int .u64 x1, .int .u64 x2, .int .u64 x3, .int .u64 x4, .int .u64 x5, .int .u64 x6, .int .u64 x7, .int .u64 x8, .int .u64 x9, .int .u64 x10, .int .u64 x11, .int .u64 x12, .int .u64 x13])) (by kernel_rfl) (HR.out.alloc _) (fun hHeld => ?_)
  refine tk 0 ?_ rfl ?_ hHeld ?_
  rotate_left
  · intro wq hSw
    go_simp
    try with_reducible rfl
  try simp only [Act.put, List.getElem_toArray, List.getElem_cons_zero, List.setIfInBounds_toArray, List.set_cons_zero, List.set_cons_succ]
  refine tk 1 ?_ rfl ?_ hHeld ?_
  rotate_left
  · intro wq hSw
    go_simp
    try with_reducible rfl
  try simp only [Act.put, lq1, lq2, lq3, lq4, lq5, lq6]
  refine tk 2 ?_ rfl ?_ hHeld ?_
  rotate_left
  · intro wq hSw
    have p := rowc hSw 0 rfl
    go_simp
    try with_reducible rfl
  try simp only [Act.put, lq1, lq2, lq3, lq4, lq5, lq6]
  refine tk 3 ?_ rfl ?_ hHeld ?_
  rotate_left
  · intro wq hSw
    go_simp
    try with_reducible rfl
  try simp only [Act.put, lq1, lq2, lq3, lq4, lq5, lq6]
  refine tk 4 ?_ rfl ?_ hHeld ?_
  rotate_left
  · intro wq hSw
    go_simp
    try with_reducible rfl
  try simp only [Act.put, lq1, lq2, lq3, lq4, lq5, lq6]
  refine tk 5 ?_ rfl ?_ hHeld ?_
  rotate_left
  · intro wq hSw
    go_simp
    try with_reducible rfl
  try simp only [Act.put, lq1, lq2, lq3, lq4, lq5, lq6]
  refine tk 6 ?_ rfl ?_ hHeld ?_
  rotate_left
  · intro wq hSw
    have p := rowc hSw 1 rfl
    go_simp
    try with_reducible rfl
  try simp only [Act.put, lq1, lq2, lq3, lq4, lq5, lq6]
  refine tk 7 ?_ rfl ?_ hHeld ?_
  rotate_left
  · intro wq hSw
    go_simp
    try with_reducible rfl
  try simp only [Act.put, lq1, lq2, lq3, lq4, lq5, lq6]
  refine tk 8 ?_ rfl ?_ hHeld ?_
  rotate_left
  · intro wq hSw
    go_simp
    try with_reducible rfl
  try simp only [Act.put, lq1, lq2, lq3, lq4, lq5, lq6]
  refine tk 9 ?_ rfl ?_ hHeld ?_
  rotate_left
  · intro wq hSw
    go_simp
    try with_reducible rfl
  try simp only [Act.put, lq1, lq2, lq3, lq4, lq5, lq6]
  refine tk 10 ?_ rfl ?_ hHeld ?_
  rotate_left
  · intro wq hSw
    have p := rowc hSw 2 rfl
    go_simp
    try with_reducible rfl
  try simp only [Act.put, lq1, lq2, lq3, lq4, lq5, lq6]
  refine tk 11 ?_ rfl ?_ hHeld ?_
  rotate_left
  · intro wq hSw
    go_simp
    try with_reducible rfl
  try simp only [Act.put, lq1, lq2, lq3, lq4, lq5, lq6]
  refine tk 12 ?_ rfl ?_ hHeld ?_
  rotate_left
  · intro wq hSw
    go_simp
    try with_reducible rfl
  try simp only [Act.put, lq1, lq2, lq3, lq4, lq5, lq6]
  refine tk 13 ?_ rfl ?_ hHeld ?_
  rotate_left
  · intro wq hSw
    go_simp
    try with_reducible rfl
  try simp only [Act.put, lq1, lq2, lq3, lq4, lq5, lq6]
  refine tk 14 ?_ rfl ?_ hHeld ?_
  rotate_left
  · intro wq hSw
    have p := rowc hSw 3 rfl
    go_simp
    try with_reducible rfl
  try simp only [Act.put, lq1, lq2, lq3, lq4, lq5, lq6]
  refine tk 15 ?_ rfl ?_ hHeld ?_
  rotate_left
  · intro wq hSw
    go_simp
    try with_reducible rfl
  try simp only [Act.put, lq1, lq2, lq3, lq4, lq5, lq6]
  refine tk 16 ?_ rfl ?_ hHeld ?_
  rotate_left
  · intro wq hSw
    go_simp
    try with_reducible rfl
  try simp only [Act.put, lq1, lq2, lq3, lq4, lq5, lq6]
  refine tk 17 ?_ rfl ?_ hHeld ?_
  rotate_left
  · intro wq hSw
    go_simp
    try with_reducible rfl
  try simp only [Act.put, lq1, lq2, lq3, lq4, lq5, lq6]
  refine tk 18 ?_ rfl ?_ hHeld ?_
  rotate_left
  · intro wq hSw
    have p := rowc hSw 4 rfl
    go_simp
    try with_reducible rfl
  try simp only [Act.put, lq1, lq2, lq3, lq4, lq5, lq6]
  refine tk 19 ?_ rfl ?_ hHeld ?_
  rotate_left
  · intro wq hSw
    go_simp
    try with_reducible rfl
  try simp only [Act.put, lq1, lq2, lq3, lq4, lq5, lq6]
  refine tk 20 ?_ rfl ?_ hHeld ?_
  rotate_left
  · intro wq hSw
    go_simp
    try with_reducible rfl
  try simp only [Act.put, lq1, lq2, lq3, lq4, lq5, lq6]
  refine tk 21 ?_ rfl ?_ hHeld ?_
  rotate_left
  · intro wq hSw
    go_simp
    try with_reducible rfl
  try simp only [Act.put, lq1, lq2, lq3, lq4, lq5, lq6]
  refine tk 22 ?_ rfl ?_ hHeld ?_
  rotate_left
  · intro wq hSw
    have p := rowc hSw 5 rfl
    go_simp
    try with_reducible rfl
  try simp only [Act.put, lq1, lq2, lq3, lq4, lq5, lq6]
  refine tk 23 ?_ rfl ?_ hHeld ?_
  rotate_left
  · intro wq hSw
    go_simp
    try with_reducible rfl
  try simp only [Act.put, lq1, lq2, lq3, lq4, lq5, lq6]
  refine tk 24 ?_ rfl ?_ hHeld ?_
  rotate_left
  · intro wq hSw
    go_simp
    try with_reducible rfl
  try simp only [Act.put, lq1, lq2, lq3, lq4, lq5, lq6]
  refine tk 25 ?_ rfl ?_ hHeld ?_
  rotate_left
  · intro wq hSw
    go_simp
    try with_reducible rfl
  try simp only [Act.put, lq1, lq2, lq3, lq4, lq5, lq6]
  refine tk 26 ?_ rfl ?_ hHeld ?_
  rotate_left
  · intro wq hSw
    have p := rowc hSw 6 rfl
    go_simp
    try with_reducible rfl
  try simp only [Act.put, lq1, lq2, lq3, lq4, lq5, lq6]
  refine tk 27 ?_ rfl ?_ hHeld ?_
  rotate_left
  · intro wq hSw
    go_simp
    try with_reducible rfl
  try simp only [Act.put, lq1, lq2, lq3, lq4, lq5, lq6]
  refine tk 28 ?_ rfl ?_ hHeld ?_
  rotate_left
  · intro wq hSw
    go_simp
    try with_reducible rfl
  try simp only [Act.put, lq1, lq2, lq3, lq4, lq5, lq6]
  refine tk 29 ?_ rfl ?_ hHeld ?_
  rotate_left
  · intro wq hSw
    go_simp
    try with_reducible rfl
  try simp only [Act.put, lq1, lq2, lq3, lq4, lq5, lq6]
  refine tk 30 ?_ rfl ?_ hHeld ?_
  rotate_left
  · intro wq hSw
    have p := rowc hSw 7 rfl
    go_simp
    try with_reducible rfl
  try simp only [Act.put, lq1, lq2, lq3, lq4, lq5, lq6]
  refine tk 31 ?_ rfl ?_ hHeld ?_
  rotate_left
  · intro wq hSw
    go_simp
    try with_reducible rfl
  try simp only [Act.put, lq1, lq2, lq3, lq4, lq5, lq6]
  refine tk 32 ?_ rfl ?_ hHeld ?_
  rotate_left
  · intro wq hSw
    go_simp
    try with_reducible rfl
  try simp only [Act.put, lq1, lq2, lq3, lq4, lq5, lq6]
  refine tk 33 ?_ rfl ?_ hHeld ?_
  rotate_left
  · intro wq hSw
    go_simp
    try with_reducible rfl
  try simp only [Act.put, lq1, lq2, lq3, lq4, lq5, lq6]
  refine tk 34 ?_ rfl ?_ hHeld ?_
  rotate_left
  · intro wq hSw
    have p := rowc hSw 8 rfl
    go_simp
    try with_reducible rfl
  try simp only [Act.put, lq1, lq2, lq3, lq4, lq5, lq6]
  refine tk 35 ?_ rfl ?_ hHeld ?_
  rotate_left
  · intro wq hSw
    go_simp
    try with_reducible rfl
  try simp only [Act.put, lq1, lq2, lq3, lq4, lq5, lq6]
  refine tk 36 ?_ rfl ?_ hHeld ?_
  rotate_left
  · intro wq hSw
    go_simp
    try with_reducible rfl
  try simp only [Act.put, lq1, lq2, lq3, lq4, lq5, lq6]
  refine tk 37 ?_ rfl ?_ hHeld ?_
  rotate_left
  · intro wq hSw
    go_simp
    try with_reducible rfl
  try simp only [Act.put, lq1, lq2, lq3, lq4, lq5, lq6]
  refine tk 38 ?_ rfl ?_ hHeld ?_
  rotate_left
  · intro wq hSw
    have p := rowc hSw 9 rfl
    go_simp
    try with_reducible rfl
  try simp only [Act.put, lq1, lq2, lq3, lq4, lq5, lq6]
  refine tk 39 ?_ rfl ?_ hHeld ?_
  rotate_left
  · intro wq hSw
    go_simp
    try with_reducible rfl
  try simp only [Act.put, lq1, lq2, lq3, lq4, lq5, lq6]
  refine tk 40 ?_ rfl ?_ hHeld ?_
  rotate_left
  · intro wq hSw
    go_simp
    try with_reducible rfl
  try simp only [Act.put, lq1, lq2, lq3, lq4, lq5, lq6]
  refine tk 41 ?_ rfl ?_ hHeld ?_
  rotate_left
  · intro wq hSw
    go_simp
    try with_reducible rfl
  try simp only [Act.put, lq1, lq2, lq3, lq4, lq5, lq6]
  refine tk 42 ?_ rfl ?_ hHeld ?_
  rotate_left
  · intro wq hSw
    have p := rowc hSw 10 rfl
    go_simp
    try with_reducible rfl
  try simp only [Act.put, lq1, lq2, lq3, lq4, lq5, lq6]
  refine tk 43 ?_ rfl ?_ hHeld ?_
  rotate_left
  · intro wq hSw
    go_simp
    try with_reducible rfl
  try simp only [Act.put, lq1, lq2, lq3, lq4, lq5, lq6]
  refine tk 44 ?_ rfl ?_ hHeld ?_
  rotate_left
  · intro wq hSw
    go_simp
    try with_reducible rfl
  try simp only [Act.put, lq1, lq2, lq3, lq4, lq5, lq6]
  refine tk 45 ?_ rfl ?_ hHeld ?_
  rotate_left
  · intro wq hSw
    go_simp
    try with_reducible rfl
  try simp only [Act.put, lq1, lq2, lq3, lq4, lq5, lq6]
  refine tk 46 ?_ rfl ?_ hHeld ?_
  rotate_left
  · intro wq hSw
    have p := rowc hSw 11 rfl
    go_simp
    try with_reducible rfl
  try simp only [Act.put, lq1, lq2, lq3, lq4, lq5, lq6]
  refine tk 47 ?_ rfl ?_ hHeld ?_
  rotate_left
  · intro wq hSw
    go_simp
    try with_reducible rfl
  try simp only [Act.put, lq1, lq2, lq3, lq4, lq5, lq6]
  refine tk 48 ?_ rfl ?_ hHeld ?_
  rotate_left
  · intro wq hSw
    go_simp
    try with_reducible rfl
  try simp only [Act.put, lq1, lq2, lq3, lq4, lq5, lq6]
  refine tk 49 ?_ rfl ?_ hHeld ?_
  rotate_left
  · intro wq hSw
    go_simp
    try with_reducible rfl
  try simp only [Act.put, lq1, lq2, lq3, lq4, lq5, lq6]
  refine tk 50 ?_ rfl ?_ hHeld ?_
  rotate_left
  · intro wq hSw
    have p := rowc hSw 12 rfl
    go_simp
    try with_reducible rfl
  try simp only [Act.put, lq1, lq2, lq3, lq4, lq5, lq6]
  refine tk 51 ?_ rfl ?_ hHeld ?_
  rotate_left
  · intro wq hSw
    go_simp
    try with_reducible rfl
  try simp only [Act.put, lq1, lq2, lq3, lq4, lq5, lq6]
  refine tk 52 ?_ rfl ?_ hHeld ?_
  rotate_left
  · intro wq hSw
    go_simp
    try with_reducible rfl
  try simp only [Act.put, lq1, lq2, lq3, lq4, lq5, lq6]
  refine tk 53 ?_ rfl ?_ hHeld ?_
  rotate_left
  · intro wq hSw
    go_simp
    try with_reducible rfl
  try simp only [Act.put, lq1, lq2, lq3, lq4, lq5, lq6]
  refine tk 54 ?_ rfl ?_ hHeld ?_
  rotate_left
  · intro wq hSw
    have p := rowc hSw 13 rfl
    go_simp
    try with_reducible rfl
  try simp only [Act.put, lq1, lq2, lq3, lq4, lq5, lq6]
  refine tk 55 ?_ rfl ?_ hHeld ?_
  rotate_left
  · intro wq hSw
    go_simp
    try with_reducible rfl
  try simp only [Act.put, lq1, lq2, lq3, lq4, lq5, lq6]
  refine tk 56 ?_ rfl ?_ hHeld ?_
  rotate_left
  · intro wq hSw
    go_simp
    try with_reducible rfl
  try simp only [Act.put, lq1, lq2, lq3, lq4, lq5, lq6]
  refine tk 57 (.agg #[.int .i64 (IntKind.i64.wrap x0), .int .i64 (IntKind.i64.wrap x2), .int .i64 (IntKind.i64.wrap x3), .int .i64 (IntKind.i64.wrap x4), .int .i64 (IntKind.i64.wrap x5), .int .i64 (IntKind.i64.wrap x6), .int .i64 (IntKind.i64.wrap x7), .int .i64 (IntKind.i64.wrap x8), .int .i64 (IntKind.i64.wrap x9), .int .i64 (IntKind.i64.wrap x10), .int .i64 (IntKind.i64.wrap x11), .int .i64 (IntKind.i64.wrap x12), .int .i64 (IntKind.i64.wrap x13), .bool (x1 == 1), .slice A n c]) rfl ?_ hHeld ?_
  · intro wq hSw
    first | kernel_rfl | rfl | (go_simp; rfl)
  try simp only [Act.put, lq1, lq2, lq3, lq4, lq5, lq6]
  refine wpAnyH_ready (rs := [58]) (by kernel_rfl) (by simp) ?_
  refine AllReadyH.cons (o := _) rfl (fun K hK => ?_) AllReadyH.nil
  go_simp
  refine hK.out _ _ (HR.out.alloc _) (fun hHeld => ?_)
  clear hK K
  try simp only [Act.put, lq1, lq2, lq3, lq4, lq5, lq6]
  refine wpAnyH_done (by kernel_rfl) ?_ _
  clear hHeld
  go_wp2
  refine bodyPost_ret_by (v := .agg #[.int .i64 (IntKind.i64.wrap x0), .int .i64 (IntKind.i64.wrap x2), .int .i64 (IntKind.i64.wrap x3), .int .i64 (IntKind.i64.wrap x4), .int .i64 (IntKind.i64.wrap x5), .int .i64 (IntKind.i64.wrap x6), .int .i64 (IntKind.i64.wrap x7), .int .i64 (IntKind.i64.wrap x8), .int .i64 (IntKind.i64.wrap x9), .int .i64 (IntKind.i64.wrap x10), .int .i64 (IntKind.i64.wrap x11), .int .i64 (IntKind.i64.wrap x12), .int .i64 (IntKind.i64.wrap x13), .bool (x1 == 1), .slice A n c]) (by simp [results, Tryz.results50, go_sem]; try rfl) rfl ?_
  exact ⟨rfl, below_drewN (below_box _) 1⟩
end Go.Proofs.YtgjcbfdhpbkhoaaGreatDoor.ITold
/- What bytes say of an inode: the program's answer. -/
namespace Go.Proofs.YtgjcbfdhpbkhoaaGreatDoor.IUnp
open Go.RowKit WMem WPlain WPack WWide WAny WAppend WCrc WSeal WFace2 GPlain GWithin GGeo GGeo2 SNums SPlain SEqual IPlain ICheck IPack ITold
theorem rowFar {w : World} {g : Nat} {l : List UInt8} {rest : List Value} (h : Row w g l rest) (p : Addr) (v : Value) (hp : g ≠ p.block) : Row (w.setCell p v) g l rest := (Below.heap_setCell w p v g hp).trans h
structure BoxR (a w : World) (T : TypeId) (vs : List Value) : Prop where
  below : Below a.heap.size a w
  row : RowV w a.heap.size T vs
section
variable {a w w' : World} {T : TypeId} {vs : List Value}
theorem BoxR.lt (h : BoxR a w T vs) : a.heap.size < w.heap.size := h.row.lt
theorem BoxR.start (w : World) (vs : List Value) (T : TypeId) : BoxR w (w.alloc (.cells vs.toArray T)) T vs := ⟨below_box _, row_new _ _⟩
theorem BoxR.go (h : BoxR a w T vs) (hb : Below w.heap.size w w') : BoxR a w' T vs := ⟨h.below.trans (hb.mono h.below.size), h.row.keep hb h.lt⟩
theorem BoxR.drewN (h : BoxR a w T vs) (n : Nat) : BoxR a (w.drewN n) T vs := h.go (below_drewN (Below.refl _ _) n)
theorem BoxR.alloc (h : BoxR a w T vs) (o : Obj) : BoxR a (w.alloc o) T vs := h.go (below_box o)
theorem BoxR.cell (h : BoxR a w T vs) (i : Nat) {v : Value} (hv : vs[i]? = some v) : w.cell? ⟨a.heap.size, i, none⟩ = some v := rowc h.row i hv
theorem BoxR.free (h : BoxR a w T vs) (i : Nat) : w.frozen? ⟨a.heap.size, i, none⟩ = false := h.row.free i
end
theorem i64_is (x : UInt64) : i64of x = IntKind.i64.wrap (x.toNat : Int) := by
  unfold i64of wrap64
  rw [IntKind.wrap_i64]
theorem told_is (X : List UInt64) (hX : X.length = 14) (root : List UInt8) (A : Option Addr) (n c g cap : Nat) (w : World) (hR : RowV w g 47 (X.map u64v)) :
    Calls Tryz.prog 50 #[.slice (some ⟨g, 0, none⟩) 14 cap, .slice A n c] w fun e w' => e = .returned (.agg #[.int .i64 (toldI X root).kind, .int .i64 (toldI X root).perm, .int .i64 (toldI X root).uid, .int .i64 (toldI X root).gid, .int .i64 (toldI X root).links, .int .i64 (toldI X root).size, .int .i64 (toldI X root).blocks, .int .i64 (toldI X root).at_, .int .i64 (toldI X root).mt, .int .i64 (toldI X root).ct, .int .i64 (toldI X root).next, .int .i64 (toldI X root).parent, .int .i64 (toldI X root).xattr, .bool (toldI X root).idx, .slice A n c]) ∧ Below w.heap.size w w' := by
  match X, hX with
  | [y0, y1, y2, y3, y4, y5, y6, y7, y8, y9, y10, y11, y12, y13], _ =>
    have h := told_at y0.toNat y1.toNat y2.toNat y3.toNat y4.toNat y5.toNat y6.toNat y7.toNat y8.toNat y9.toNat y10.toNat y11.toNat y12.toNat y13.toNat A n c g cap w hR
    have e : (((y1.toNat : Nat) : Int) == 1) = (y1 == 1) := by
      rw [Bool.eq_iff_iff, beq_iff_eq, beq_iff_eq]
      constructor
      · intro h
        exact UInt64.toNat_inj.1 (by show y1.toNat = 1; omega)
      · intro h
        rw [h]
        rfl
    rw [e] at h
    simp only [← i64_is] at h
    exact h
theorem told_b (b : List UInt8) (A : Option Addr) (n c g cap : Nat) (w : World) (hR : RowV w g 47 ((inoX b).map u64v)) :
    Calls Tryz.prog 50 #[.slice (some ⟨g, 0, none⟩) 14 cap, .slice A n c] w fun e w' => e = .returned (.agg #[.int .i64 (inoSays b).kind, .int .i64 (inoSays b).perm, .int .i64 (inoSays b).uid, .int .i64 (inoSays b).gid, .int .i64 (inoSays b).links, .int .i64 (inoSays b).size, .int .i64 (inoSays b).blocks, .int .i64 (inoSays b).at_, .int .i64 (inoSays b).mt, .int .i64 (inoSays b).ct, .int .i64 (inoSays b).next, .int .i64 (inoSays b).parent, .int .i64 (inoSays b).xattr, .bool (inoSays b).idx, .slice A n c]) ∧ Below w.heap.size w w' := told_is (inoX b) (inoX_len b) ((b.drop 54).take 48) A n c g cap w hR
theorem Sl.drop {w : World} {B : Nat} {a : Addr} {xs : List Value} (h : Sl w B (some a) xs) (k : Nat) : Sl w B (some (a.add k)) (xs.drop k) := fun i u hu => by
  rw [List.getElem?_drop] at hu
  obtain ⟨a', e, hb, hc⟩ := h (k + i) u hu
  injection e with e
  subst e
  exact ⟨_, rfl, by rw [addr_add_block]; exact hb, by rw [addr_add_add]; exact hc⟩
set_option maxHeartbeats 400000 in
theorem Clone_48 (l : List UInt8) (hl : l.length = 48) (B : Nat) (A : Option Addr) (c : Nat) (w : World) (hB : B ≤ w.heap.size) (hA : Sl w B A (l.map u8v)) :
    Calls Tryz.prog 51 #[.slice A 48 c] w fun e w' => ∃ g cap rest, e = .returned (.slice (some ⟨g, 0, none⟩) 48 cap) ∧ w.heap.size ≤ g ∧ 48 ≤ cap ∧ Row w' g l rest ∧ Below w.heap.size w w' := by
  obtain ⟨a, rfl, hab, hcc⟩ := hA.u8 (k := 0) (by omega)
  clear hcc
  have HS : Hid (Sl (w.alloc (.cells #[] 5)) B (some a) (l.map u8v)) := Lib.hid (hA.keep fun q hq => World.cell?_alloc_lt w _ q (by omega))
  have HO : Hid ((w.alloc (.cells #[] 5)).ownsRow w.heap.size 5 1 (.slice (some ⟨w.heap.size, 0, none⟩) 0 0) 0 []) := Lib.hid (World.ownsRow_made w #[] 0 (Nat.le_refl _) (by decide) rfl)
  have HL := Lib.hid hl
  clear hA hl
  have hnil : ∀ w : World, (binOp .eql 22 (.slice (some a) 48 c) (.slice none 0 0)).run Tryz.prog w = .ok (.bool false) w := fun w => Lib.run_eql_slice_nil (P := Tryz.prog) w 22 5 (some a) 48 c 0 0 (by kernel_rfl)
  go_enter Tryz.func51, Tryz.ntmps51
  go_wp2_with (at_builtin; refine wl_append rfl (.tmp 5) (.tmp 6) 22 rfl w.heap.size 5 1 Mk.elem8 (.slice (some ⟨w.heap.size, 0, none⟩) 0 0) 0 [] rfl HO.out B (some a) 48 c (l.map u8v) rfl (by simp [HL.out]) HS.out (Mk.one_u8 l) (by omega) (by unfold maxLen; omega) (by simp) ?_; intro v1 w1 h1 h2 h3)
  rw [List.nil_append] at h1
  obtain ⟨g, cap, rest, hv, hg, hcap, hrow, hlen, hmax⟩ := WHelp.row_of_own h1 (by omega)
  subst hv
  go_ret
  refine ⟨g, cap, rest, rfl, hg, by omega, by simpa [Row] using hrow, ?_⟩
  refine ((Below.refl _ _).alloc (Nat.le_refl _) _).grown h2 (by simp) ?_
  intro k hk
  simp [Value.ownBlock] at hk
  omega
set_option maxHeartbeats 400000 in
theorem read_len (len : Nat) (hl : len ≠ 128) (A : Option Addr) (c : Nat) (w : World) :
    Calls Tryz.prog 27 #[.slice A len c] w fun e w' => e = .returned (.tuple #[.agg #[.int .i64 0, .int .i64 0, .int .i64 0, .int .i64 0, .int .i64 0, .int .i64 0, .int .i64 0, .int .i64 0, .int .i64 0, .int .i64 0, .int .i64 0, .int .i64 0, .int .i64 0, .bool false, .slice none 0 0], .bool false]) ∧ Below w.heap.size w w' := by
  have h1 : ((len : Int) != 128) = true := by rw [bne_iff_ne]; omega
  have h2 : (len != 128) = true := by rw [bne_iff_ne]; omega
  clear hl
  go_enter Tryz.func27, Tryz.ntmps27
  go_wp2
  refine bodyPost_ret_by (v := .tuple #[.agg #[.int .i64 0, .int .i64 0, .int .i64 0, .int .i64 0, .int .i64 0, .int .i64 0, .int .i64 0, .int .i64 0, .int .i64 0, .int .i64 0, .int .i64 0, .int .i64 0, .int .i64 0, .bool false, .slice none 0 0], .bool false]) (by simp [results, Tryz.results27, go_sem]; try rfl) rfl ?_
  exact ⟨rfl, below_box _⟩
set_option maxRecDepth 20000 in
set_option maxHeartbeats 1000000 in
theorem read_is (b : List UInt8) (hl : b.length = 128) (B : Nat) (A : Option Addr) (c : Nat) (hc : 128 ≤ c) (w : World) (hB : B ≤ w.heap.size) (hA : Sl w B A (b.map u8v)) :
    Calls Tryz.prog 27 #[.slice A 128 c] w fun e w' => ∃ g cap rest, e = .returned (.tuple #[.agg #[.int .i64 (inoSays b).kind, .int .i64 (inoSays b).perm, .int .i64 (inoSays b).uid, .int .i64 (inoSays b).gid, .int .i64 (inoSays b).links, .int .i64 (inoSays b).size, .int .i64 (inoSays b).blocks, .int .i64 (inoSays b).at_, .int .i64 (inoSays b).mt, .int .i64 (inoSays b).ct, .int .i64 (inoSays b).next, .int .i64 (inoSays b).parent, .int .i64 (inoSays b).xattr, .bool (inoSays b).idx, .slice (some ⟨g, 0, none⟩) 48 cap], .bool true]) ∧ w.heap.size ≤ g ∧ 48 ≤ cap ∧ Row w' g ((b.drop 54).take 48) rest ∧ Below w.heap.size w w' := by
  obtain ⟨a, rfl, hab, -⟩ := hA.u8 (k := 0) (by omega)
  have HA := Lib.hid hA
  have HL := Lib.hid hl
  clear hA hl
  have k1 : (54 : Int) ≤ (c : Int) := by omega
  have k2 : (102 : Int) ≤ (c : Int) := by omega
  have HX := Lib.hid (BoxR.start w [.int .i64 0, .int .i64 0, .int .i64 0, .int .i64 0, .int .i64 0, .int .i64 0, .int .i64 0, .int .i64 0, .int .i64 0, .int .i64 0, .int .i64 0, .int .i64 0, .int .i64 0, .bool false, .slice none 0 0] 24)
  go_enter Tryz.func27, Tryz.ntmps27
  go_wp2_with fail
  refine wp_region_held_drew (S := (fun _ => True)) (by kernel_rfl) trivial (fun hHeld => ?_)
  refine wpAnyH_take (i := 0) (v := ?_) rfl (by kernel_rfl) (by kernel_rfl) (by kernel_rfl) (fun _ _ _ h => h) (Or.inl ⟨by rfl, ?_⟩) hHeld ?_
  rotate_left
  · intro wq hSw
    go_simp
    try with_reducible rfl
  try simp only [Act.put, List.getElem_toArray, List.getElem_cons_zero, List.setIfInBounds_toArray, List.set_cons_zero, List.set_cons_succ]
  refine wpAnyH_take (i := 1) (v := .slice (some a) 54 c) rfl (by kernel_rfl) (by kernel_rfl) (by kernel_rfl) (fun _ _ _ h => h) (Or.inl ⟨by rfl, ?_⟩) hHeld ?_
  · intro wq hSw
    first | (go_simp; done) | kernel_rfl | rfl | (go_simp; rfl)
  try simp only [Act.put, lq1, lq2, lq3, lq4, lq5, lq6]
  refine wpAnyH_ready (rs := [2]) (by kernel_rfl) (by simp) ?_
  refine AllReadyH.cons (o := _) rfl (fun K hK => ?_) (AllReadyH.nil)
  go_simp
  go_at_call 44
  refine (widths_any _).mono ?_
  rintro e w1 ⟨rfl, hR1, hb1, hs1⟩
  have HY1 := Lib.hid ((HX.out.drewN 1).go hb1)
  have HR1 : Hid (Sl w1 w1.heap.size (some ⟨w.heap.size + 1, 0, none⟩) (inoW.map i64v)) := Lib.hid (by
    have h := hR1.sl (B := w1.heap.size) hR1.lt
    have hz : ∀ o : Obj, (w.alloc o).drew.heap.size = w.heap.size + 1 := fun o => by show (w.alloc o).heap.size = _; simp
    rw [hz] at h
    exact h)
  have hlt1 := HY1.out.lt
  clear hR1 hb1
  go_wp2_with fail
  refine hK.out _ _ trivial (fun hHeld => ?_)
  clear hK K
  try simp only [Act.put, lq1, lq2, lq3, lq4, lq5, lq6]
  refine wpAnyH_ready (rs := [3]) (by kernel_rfl) (by simp) ?_
  refine AllReadyH.cons (o := _) rfl (fun K hK => ?_) (AllReadyH.nil)
  go_simp
  go_at_call 49
  refine (UnpackW_at 54 (b.take 54) (by rw [List.length_take, HL.out]; rfl) inoW w1.heap.size _ _ _ _ w1 (Nat.le_refl _) ino_fine (by rw [ino_tot, List.length_take, HL.out]; rfl) (by decide) (by decide) (by rw [List.map_take]; exact ((HA.out.below_le HY1.out.below hB).up (by omega)).take 54) HR1.out).mono ?_
  rintro e w2 ⟨g2, rfl, hg2, hR2, hb2⟩
  have HY2 := Lib.hid (HY1.out.go hb2)
  have HR2 : Hid (RowV w2 g2 47 ((inoX b).map u64v)) := Lib.hid hR2
  have HB2 := Lib.hid hb2
  clear hR2 hb2
  go_wp2_with fail
  refine hK.out _ _ trivial (fun hHeld => ?_)
  clear hK K
  try simp only [Act.put, lq1, lq2, lq3, lq4, lq5, lq6]
  refine wpAnyH_take (i := 4) (v := ?_) rfl (by kernel_rfl) (by kernel_rfl) (by kernel_rfl) (fun _ _ _ h => h) (Or.inl ⟨by rfl, ?_⟩) hHeld ?_
  rotate_left
  · intro wq hSw
    go_simp
    try with_reducible rfl
  try simp only [Act.put, lq1, lq2, lq3, lq4, lq5, lq6]
  refine wpAnyH_take (i := 5) (v := ?_) rfl (by kernel_rfl) (by kernel_rfl) (by kernel_rfl) (fun _ _ _ h => h) (Or.inl ⟨by rfl, ?_⟩) hHeld ?_
  rotate_left
  · intro wq hSw
    go_simp
    try with_reducible rfl
  try simp only [Act.put, lq1, lq2, lq3, lq4, lq5, lq6]
  refine wpAnyH_take (i := 6) (v := ?_) rfl (by kernel_rfl) (by kernel_rfl) (by kernel_rfl) (fun _ _ _ h => h) (Or.inl ⟨by rfl, ?_⟩) hHeld ?_
  rotate_left
  · intro wq hSw
    go_simp
    try with_reducible rfl
  try simp only [Act.put, lq1, lq2, lq3, lq4, lq5, lq6]
  refine wpAnyH_take (i := 7) (v := ?_) rfl (by kernel_rfl) (by kernel_rfl) (by kernel_rfl) (fun _ _ _ h => h) (Or.inl ⟨by rfl, ?_⟩) hHeld ?_
  rotate_left
  · intro wq hSw
    go_simp
    try with_reducible rfl
  try simp only [Act.put, lq1, lq2, lq3, lq4, lq5, lq6]
  refine wpAnyH_take (i := 8) (v := ?_) rfl (by kernel_rfl) (by kernel_rfl) (by kernel_rfl) (fun _ _ _ h => h) (Or.inl ⟨by rfl, ?_⟩) hHeld ?_
  rotate_left
  · intro wq hSw
    go_simp
    try with_reducible rfl
  try simp only [Act.put, lq1, lq2, lq3, lq4, lq5, lq6]
  refine wpAnyH_done (by kernel_rfl) ?_ _
  go_wp2_with fail
  have HS2 : Hid (Sl w2 B (some (a.add 54)) (((b.drop 54).take 48).map u8v)) := Lib.hid (by
    have h0 := Sl.drop (HA.out.below_le HY2.out.below hB) 54
    have h := h0.take 48
    rw [← List.map_drop, ← List.map_take] at h
    exact h)
  have hsz2 := HY2.out.below.size
  refine (Clone_48 ((b.drop 54).take 48) (by rw [List.length_take, List.length_drop, HL.out]; rfl) B _ (c - 54) w2 (by omega) HS2.out).mono ?_
  rintro e w3 ⟨g, cap, rest, rfl, hg, hcap, hR3, hb3⟩
  have HY3 := Lib.hid (HY2.out.go hb3)
  have HR3 := Lib.hid hR3
  have HX3 := Lib.hid (HR2.out.keep hb3 HR2.out.lt)
  clear hb3 hR3
  go_wp2_with fail
  refine (told_b b (some ⟨g, 0, none⟩) 48 cap g2 14 w3 HX3.out).mono ?_
  rintro e w4 ⟨rfl, hb4⟩
  have HY4 := Lib.hid (HY3.out.go hb4)
  have HR4 := Lib.hid (HR3.out.keep hb4 HR3.out.lt)
  clear hb4
  have hlt4 := HY4.out.lt
  obtain ⟨c0, c1, c2, c3, c4, c5, c6, c7, c8, c9, c10, c11, c12, c13, c14⟩ := (show _ ∧ _ ∧ _ ∧ _ ∧ _ ∧ _ ∧ _ ∧ _ ∧ _ ∧ _ ∧ _ ∧ _ ∧ _ ∧ _ ∧ _ from ⟨HY4.out.cell 0 rfl, HY4.out.cell 1 rfl, HY4.out.cell 2 rfl, HY4.out.cell 3 rfl, HY4.out.cell 4 rfl, HY4.out.cell 5 rfl, HY4.out.cell 6 rfl, HY4.out.cell 7 rfl, HY4.out.cell 8 rfl, HY4.out.cell 9 rfl, HY4.out.cell 10 rfl, HY4.out.cell 11 rfl, HY4.out.cell 12 rfl, HY4.out.cell 13 rfl, HY4.out.cell 14 rfl⟩)
  have hfr := HY4.out.free
  go_wp2
  have hbz := HY4.out.below
  refine bodyPost_ret_by (v := .tuple #[.agg #[.int .i64 (inoSays b).kind, .int .i64 (inoSays b).perm, .int .i64 (inoSays b).uid, .int .i64 (inoSays b).gid, .int .i64 (inoSays b).links, .int .i64 (inoSays b).size, .int .i64 (inoSays b).blocks, .int .i64 (inoSays b).at_, .int .i64 (inoSays b).mt, .int .i64 (inoSays b).ct, .int .i64 (inoSays b).next, .int .i64 (inoSays b).parent, .int .i64 (inoSays b).xattr, .bool (inoSays b).idx, .slice (some ⟨g, 0, none⟩) 48 cap], .bool true]) (by simp [results, Tryz.results27, go_sem, c0, c1, c2, c3, c4, c5, c6, c7, c8, c9, c10, c11, c12, c13, c14]; try rfl) rfl ?_
  refine ⟨g, cap, rest, rfl, by omega, hcap, ?_, ?_⟩
  · have hne : g ≠ w.heap.size := by have := HY2.out.lt; omega
    exact (rowFar (rowFar (rowFar (rowFar (rowFar (rowFar (rowFar (rowFar (rowFar (rowFar (rowFar (rowFar (rowFar (rowFar (rowFar HR4.out _ _ hne) _ _ hne) _ _ hne) _ _ hne) _ _ hne) _ _ hne) _ _ hne) _ _ hne) _ _ hne) _ _ hne) _ _ hne) _ _ hne) _ _ hne) _ _ hne) _ _ hne)
  · exact (((((((((((((((hbz.setCell (Nat.le_refl _) _).setCell (Nat.le_refl _) _).setCell (Nat.le_refl _) _).setCell (Nat.le_refl _) _).setCell (Nat.le_refl _) _).setCell (Nat.le_refl _) _).setCell (Nat.le_refl _) _).setCell (Nat.le_refl _) _).setCell (Nat.le_refl _) _).setCell (Nat.le_refl _) _).setCell (Nat.le_refl _) _).setCell (Nat.le_refl _) _).setCell (Nat.le_refl _) _).setCell (Nat.le_refl _) _).setCell (Nat.le_refl _) _)
end Go.Proofs.YtgjcbfdhpbkhoaaGreatDoor.IUnp
