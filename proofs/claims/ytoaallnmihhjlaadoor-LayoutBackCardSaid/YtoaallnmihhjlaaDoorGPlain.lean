/- How a disk is parted, in plain mathematics: nothing of the program. -/
namespace Go.Proofs.YtoaallnmihhjlaaDoor.GPlain

def inB (lo hi x : Int) : Bool := decide (lo ≤ x) && decide (x ≤ hi)
def allIn (lo hi : Int) (l : List Int) : Bool := l.all (inB lo hi)
theorem inB_true {lo hi x : Int} : inB lo hi x = true ↔ lo ≤ x ∧ x ≤ hi := by simp [inB]
theorem inB_false {lo hi x : Int} : inB lo hi x = false ↔ x < lo ∨ hi < x := by
  rw [← Bool.not_eq_true, inB_true]; omega
theorem allIn_take (lo hi : Int) (l : List Int) (k : Nat) (h : k < l.length) : allIn lo hi (l.take (k + 1)) = (allIn lo hi (l.take k) && inB lo hi l[k]) := by
  unfold allIn
  rw [List.take_succ_eq_append_getElem h, List.all_append]; simp
theorem allIn_no (lo hi : Int) (l : List Int) (k : Nat) (h : k < l.length) (hx : inB lo hi l[k] = false) : allIn lo hi l = false := by
  unfold allIn
  rw [List.all_eq_false]
  exact ⟨l[k], List.getElem_mem h, by simp [hx]⟩

/-- a disk's numbers: its blocks, blocks of a group, inodes of a group, blocks of the journal -/
def gN (b p : Int) : Int := (b + p - 1) / p
def baseI (p j k : Int) : Int := if k = 0 then 2 + j else k * p
def tableI (p j k : Int) : Int := baseI p j k + 2
def dataI (p n j k : Int) : Int := tableI p j k + n / 2
def endI (b p k : Int) : Int := min (k * p + p) b
def roomB (b p n j k : Int) : Bool := decide (dataI p n j k < endI b p k)
theorem endI_if (b p k : Int) : endI b p k = if b < k * p + p then b else k * p + p := by unfold endI; split <;> omega
theorem endI_bd (b p k : Int) (hb0 : 128 ≤ b) (hb1 : b ≤ 4096) (h0 : 0 ≤ k * p) (hp : 32 ≤ p) : 0 ≤ endI b p k ∧ endI b p k ≤ 4096 := by unfold endI; omega
theorem room_iff {b p n j k : Int} : roomB b p n j k = true ↔ dataI p n j k < endI b p k := by unfold roomB; exact decide_eq_true_iff
theorem base_0 (p j : Int) : baseI p j 0 = 2 + j := rfl
theorem base_up (p j k : Int) (h : k ≠ 0) : baseI p j k = k * p := if_neg h
theorem room_0 {b p n j : Int} : roomB b p n j 0 = true ↔ 2 + j + 2 + n / 2 < min p b := by
  rw [room_iff, dataI, tableI, base_0, endI, Int.zero_mul, Int.zero_add]
theorem room_up {b p n j k : Int} (h : k ≠ 0) : roomB b p n j k = true ↔ k * p + 2 + n / 2 < min (k * p + p) b := by
  rw [room_iff, dataI, tableI, base_up _ _ _ h, endI]
/-- the numbers alone may be -/
def numsB (b p n j : Int) : Bool := inB 128 4096 b && inB 32 2016 p && inB 8 512 n && (n % 2 == 0) && inB 96 512 j
def mayB (b p n j : Int) : Bool := numsB b p n j && decide (gN b p ≤ 14) && roomB b p n j 0 && roomB b p n j (gN b p - 1)
theorem nums_of {b p n j : Int} (h : numsB b p n j = true) : 128 ≤ b ∧ b ≤ 4096 ∧ 32 ≤ p ∧ p ≤ 2016 ∧ 8 ≤ n ∧ n ≤ 512 ∧ n % 2 = 0 ∧ 96 ≤ j ∧ j ≤ 512 := by
  simp only [numsB, Bool.and_eq_true, inB_true, beq_iff_eq] at h
  omega
theorem nums_mk {b p n j : Int} (h : 128 ≤ b ∧ b ≤ 4096 ∧ 32 ≤ p ∧ p ≤ 2016 ∧ 8 ≤ n ∧ n ≤ 512 ∧ n % 2 = 0 ∧ 96 ≤ j ∧ j ≤ 512) : numsB b p n j = true := by
  simp only [numsB, Bool.and_eq_true, inB_true, beq_iff_eq]
  omega
/-- what rounding up says -/
theorem gN_of {b p : Int} (hb : 1 ≤ b) (hp : 1 ≤ p) : 1 ≤ gN b p ∧ (gN b p - 1) * p < b ∧ b ≤ gN b p * p ∧ gN b p ≤ b := by
  have h1 := Int.mul_ediv_add_emod (b + p - 1) p
  have h2 := Int.emod_nonneg (b + p - 1) (show p ≠ 0 by omega)
  have h3 := Int.emod_lt_of_pos (b + p - 1) (show 0 < p by omega)
  have h4 : 1 ≤ gN b p := by
    unfold gN
    exact (Int.le_ediv_iff_mul_le (by omega)).2 (by omega)
  unfold gN at h4 ⊢
  generalize (b + p - 1) / p = q at *
  have h5 : (q - 1) * p = p * q - p := by rw [Int.sub_mul, Int.mul_comm]; omega
  have h6 : q * p = p * q := Int.mul_comm _ _
  refine ⟨h4, by omega, by omega, ?_⟩
  have h7 : (q - 1) * 1 ≤ (q - 1) * p := Int.mul_le_mul_of_nonneg_left hp (by omega)
  omega
/-- how many groups a disk of any numbers has -/
def groupsI (b p n j : Int) : Int := if mayB b p n j = true then gN b p else 0
def fixedI (b p n j : Int) : Int := if mayB b p n j = true then 2 + j + gN b p * (2 + n / 2) else 0
def hasB (b p n j k : Int) : Bool := inB 0 (groupsI b p n j - 1) k
def inoB (b p n j i : Int) : Bool := inB 1 (groupsI b p n j * n) i
theorem groupsI_yes {b p n j : Int} (h : mayB b p n j = true) : groupsI b p n j = gN b p := if_pos h
theorem groupsI_no {b p n j : Int} (h : mayB b p n j = false) : groupsI b p n j = 0 := if_neg (by simp [h])
theorem fixedI_yes {b p n j : Int} (h : mayB b p n j = true) : fixedI b p n j = 2 + j + gN b p * (2 + n / 2) := if_pos h
theorem fixedI_no {b p n j : Int} (h : mayB b p n j = false) : fixedI b p n j = 0 := if_neg (by simp [h])
structure May (b p n j : Int) : Prop where
  b0 : 128 ≤ b
  b1 : b ≤ 4096
  p0 : 32 ≤ p
  p1 : p ≤ 2016
  n0 : 8 ≤ n
  n1 : n ≤ 512
  ev : n % 2 = 0
  j0 : 96 ≤ j
  j1 : j ≤ 512
  g0 : 1 ≤ gN b p
  g1 : gN b p ≤ 14
  lo : (gN b p - 1) * p < b
  hi : b ≤ gN b p * p
  first : 2 + j + 2 + n / 2 < min p b
  last : gN b p = 1 ∨ (gN b p - 1) * p + 2 + n / 2 < b
theorem may_iff {b p n j : Int} : mayB b p n j = true ↔ May b p n j := by
  constructor
  · intro h
    simp only [mayB, Bool.and_eq_true, decide_eq_true_eq] at h
    obtain ⟨⟨⟨h1, h2⟩, h3⟩, h4⟩ := h
    obtain ⟨a1, a2, a3, a4, a5, a6, a7, a8, a9⟩ := nums_of h1
    obtain ⟨c1, c2, c3, _⟩ := gN_of (b := b) (p := p) (by omega) (by omega)
    have r0 : 2 + j + 2 + n / 2 < min p b := room_0.1 h3
    refine ⟨a1, a2, a3, a4, a5, a6, a7, a8, a9, c1, h2, c2, c3, r0, ?_⟩
    by_cases hg : gN b p = 1
    · exact .inl hg
    · right
      have h5 := (room_up (by omega)).1 h4
      omega
  · intro h
    obtain ⟨a1, a2, a3, a4, a5, a6, a7, a8, a9, c1, h2, c2, c3, r0, r1⟩ := h
    simp only [mayB, Bool.and_eq_true, decide_eq_true_eq]
    have h30 : roomB b p n j 0 = true := room_0.2 r0
    refine ⟨⟨⟨nums_mk ⟨a1, a2, a3, a4, a5, a6, a7, a8, a9⟩, h2⟩, h30⟩, ?_⟩
    by_cases hg : gN b p = 1
    · rw [hg]; exact h30
    · have h5 : (gN b p - 1) * p + p = gN b p * p := by rw [Int.sub_mul]; omega
      exact (room_up (by omega)).2 (by omega)
theorem groupsI_bd (b p n j : Int) : 0 ≤ groupsI b p n j ∧ groupsI b p n j ≤ 14 := by
  by_cases h : mayB b p n j = true
  · rw [groupsI_yes h]
    have := may_iff.1 h
    have := this.g0
    have := (may_iff.1 h).g1
    omega
  · rw [groupsI_no (by simpa using h)]; omega
theorem has_may {b p n j k : Int} (h : hasB b p n j k = true) : mayB b p n j = true ∧ 0 ≤ k ∧ k < gN b p ∧ k ≤ 13 := by
  unfold hasB at h
  rw [inB_true] at h
  by_cases hm : mayB b p n j = true
  · rw [groupsI_yes hm] at h
    have := (may_iff.1 hm).g1
    exact ⟨hm, by omega, by omega, by omega⟩
  · rw [groupsI_no (by simpa using hm)] at h; omega
theorem ino_may {b p n j i : Int} (h : inoB b p n j i = true) : mayB b p n j = true ∧ 1 ≤ i ∧ i ≤ gN b p * n := by
  unfold inoB at h
  rw [inB_true] at h
  by_cases hm : mayB b p n j = true
  · rw [groupsI_yes hm] at h
    exact ⟨hm, h.1, h.2⟩
  · rw [groupsI_no (by simpa using hm)] at h; omega
theorem mul_bd {k p : Int} (h0 : 0 ≤ k) (h1 : k ≤ 200) (h2 : 0 ≤ p) (h3 : p ≤ 2016) : 0 ≤ k * p ∧ k * p ≤ 403200 := by
  refine ⟨Int.mul_nonneg h0 h2, ?_⟩
  have h4 : k * p ≤ 200 * p := Int.mul_le_mul_of_nonneg_right h1 h2
  omega
theorem gN_bd {b p : Int} (h0 : 128 ≤ b) (h1 : b ≤ 4096) (h2 : 32 ≤ p) (h3 : p ≤ 2016) : 1 ≤ gN b p ∧ gN b p ≤ 191 := by
  refine ⟨(gN_of (by omega) (by omega)).1, ?_⟩
  have h4 := (gN_of (b := b) (p := p) (by omega) (by omega)).2.1
  have h5 : (gN b p - 1) * 32 ≤ (gN b p - 1) * p := Int.mul_le_mul_of_nonneg_left h2 (by have := (gN_of (b := b) (p := p) (by omega) (by omega)).1; omega)
  omega
theorem base_bd (p j k : Int) (hp0 : 32 ≤ p) (hp1 : p ≤ 2016) (hj0 : 96 ≤ j) (hj1 : j ≤ 512) (hk0 : 0 ≤ k) (hk1 : k ≤ 200) : 0 ≤ baseI p j k ∧ baseI p j k ≤ 403200 := by
  have := mul_bd hk0 hk1 (show 0 ≤ p by omega) hp1
  unfold baseI
  split <;> omega
theorem table_bd (p j k : Int) (hp0 : 32 ≤ p) (hp1 : p ≤ 2016) (hj0 : 96 ≤ j) (hj1 : j ≤ 512) (hk0 : 0 ≤ k) (hk1 : k ≤ 200) : 0 ≤ tableI p j k ∧ tableI p j k ≤ 403202 := by
  have := base_bd p j k hp0 hp1 hj0 hj1 hk0 hk1
  unfold tableI
  omega
theorem data_bd (p n j k : Int) (hp0 : 32 ≤ p) (hp1 : p ≤ 2016) (hj0 : 96 ≤ j) (hj1 : j ≤ 512) (hk0 : 0 ≤ k) (hk1 : k ≤ 200) (hn0 : 8 ≤ n) (hn1 : n ≤ 512) : 0 ≤ dataI p n j k ∧ dataI p n j k ≤ 403458 := by
  have := table_bd p j k hp0 hp1 hj0 hj1 hk0 hk1
  unfold dataI
  omega
theorem prod_bd {g n : Int} (hg0 : 0 ≤ g) (hg1 : g ≤ 14) (hn0 : 8 ≤ n) (hn1 : n ≤ 512) : 0 ≤ g * n ∧ g * n ≤ 7168 := by
  refine ⟨Int.mul_nonneg hg0 (by omega), ?_⟩
  have h4 : g * n ≤ g * 512 := Int.mul_le_mul_of_nonneg_left hn1 hg0
  omega
theorem prod2_bd {g n : Int} (hg0 : 0 ≤ g) (hg1 : g ≤ 14) (hn0 : 8 ≤ n) (hn1 : n ≤ 512) : 0 ≤ g * (2 + n / 2) ∧ g * (2 + n / 2) ≤ 7168 := by
  refine ⟨Int.mul_nonneg hg0 (by omega), ?_⟩
  have h4 : g * (2 + n / 2) ≤ g * 512 := Int.mul_le_mul_of_nonneg_left (by omega) hg0
  omega
theorem inos_bd (b p n j : Int) : 0 ≤ groupsI b p n j * n ∧ groupsI b p n j * n ≤ 7168 := by
  by_cases h : mayB b p n j = true
  · have hm := may_iff.1 h
    rw [groupsI_yes h]
    exact prod_bd (by have := hm.g0; omega) hm.g1 hm.n0 hm.n1
  · rw [groupsI_no (by simpa using h), Int.zero_mul]; omega
/-- where an inode stands -/
def inoGroup (n i : Int) : Int := (i - 1) / n
def inoPlace (n i : Int) : Int := (i - 1) % n
def inoBlock (p n j i : Int) : Int := tableI p j (inoGroup n i) + inoPlace n i / 2
def inoByte (n i : Int) : Int := inoPlace n i % 2 * 128
theorem inoGroup_bd {g n i : Int} (hn0 : 8 ≤ n) (hi0 : 1 ≤ i) (hi1 : i ≤ g * n) : 0 ≤ inoGroup n i ∧ inoGroup n i < g := by
  unfold inoGroup
  refine ⟨Int.ediv_nonneg (by omega) (by omega), ?_⟩
  exact (Int.ediv_lt_iff_lt_mul (by omega)).2 (by omega)
theorem inoPlace_bd {n : Int} (i : Int) (hn0 : 8 ≤ n) : 0 ≤ inoPlace n i ∧ inoPlace n i < n :=
  ⟨Int.emod_nonneg _ (by omega), Int.emod_lt_of_pos _ (by omega)⟩
/-- what the faces answer -/
def chk (b p n j : Int) : Int := if mayB b p n j = true then 0 else 22
def er (b p n j k : Int) : Int := if hasB b p n j k = true then 0 else 22
def sp0 (b p n j k : Int) : Int := if hasB b p n j k = true then k * p else 0
def sp1 (b p n j k : Int) : Int := if hasB b p n j k = true then endI b p k else 0
def pl0 (b p n j k : Int) : Int := if hasB b p n j k = true then baseI p j k else 0
def pl1 (b p n j k : Int) : Int := if hasB b p n j k = true then baseI p j k + 1 else 0
def pl2 (b p n j k : Int) : Int := if hasB b p n j k = true then tableI p j k else 0
def pl3 (b p n j k : Int) : Int := if hasB b p n j k = true then dataI p n j k else 0
def ie (b p n j i : Int) : Int := if inoB b p n j i = true then 0 else 22
def in0 (b p n j i : Int) : Int := if inoB b p n j i = true then inoBlock p n j i else 0
def in1 (b p n j i : Int) : Int := if inoB b p n j i = true then inoByte n i else 0
end Go.Proofs.YtoaallnmihhjlaaDoor.GPlain
