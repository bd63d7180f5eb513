/- walkers: the walkers are made. -/
import Derived.Test.YtfaahhipddlmgaaKGoes
namespace Go.Proofs.Ytfaahhipddlmgaa.KMake
open Go.RowKit WMem Ext WAppend KMap KPlain KMem KAsk KLeave KLaw KScript KArgs KBits KWPlain KWMem KRMem

theorem elemI : Elem Try.prog 44 3 8 := ⟨by kernel_rfl, by
  obtain ⟨i, h1, h2, h3, h4⟩ := info_parts (P := Try.prog) (e := 3) (z := .int .i64 0) (size := 1) (bytes := 8) (by kernel_rfl)
  exact ⟨i, _, h1, h2, h3, h4, rfl⟩⟩
theorem elemP : Elem Try.prog 45 52 8 := ⟨by kernel_rfl, by
  obtain ⟨i, h1, h2, h3, h4⟩ := info_parts (P := Try.prog) (e := 52) (z := .pointer none) (size := 1) (bytes := 8) (by kernel_rfl)
  exact ⟨i, _, h1, h2, h3, h4, rfl⟩⟩
/-- all that has been made since -/
def Since (a w : World) (q : Nat) : Prop := a.heap.size ≤ q ∧ q < w.heap.size
theorem Team.grow {a w w' : World} {v : Value} {p : Nat → Nat} {W : Nat → Wk} {m : Nat} (h : Team a w (Since a w) v p W m) (hb : Below w.heap.size w w') : Team a w' (Since a w') v p W m := by
  have hT : ∀ q, Since a w q → Since a w' q := fun q hq => ⟨hq.1, Nat.lt_of_lt_of_le hq.2 hb.size⟩
  have h2 := h.below hb
  exact ⟨h2.row, fun q hq => hT q (h2.rowT q hq), fun i hi => (h2.body i hi).up hT, h2.apart, fun q hq => hq.2, fun q hq => hq.1⟩
theorem own_base {w : World} {B B' : Nat} {e : TypeId} {size n : Nat} {v : Value} {xs : List Value} (h : w.ownsRow B e size v n xs) (hB : B' ≤ B) : w.ownsRow B' e size v n xs := by
  refine ⟨h.1, ?_⟩
  rcases h.2 with h0 | ⟨g, cap, cur, hv, hg, r⟩
  · exact .inl h0
  · exact .inr ⟨g, cap, cur, hv, Nat.le_trans hB hg, r⟩
theorem below_own {a w w' : World} {B : Nat} {e : TypeId} {size n : Nat} {v : Value} {xs : List Value} (h : Below B a w) (ho : w.ownsRow B e size v n xs) (hg : w.grownBy w' v.ownBlock) (hB : B ≤ w.heap.size) : Below B a w' :=
  h.trans ((Ext.of_grown hg (fun _ hk _ => hk) : Ext (fun k => v.ownBlock = some k) w w').below hB (fun k hk => own_ge ho k hk))
/-- keys that rise, in their bounds -/
structure Rising (f : Nat → Int) (k : Nat) (x : Int) : Prop where
  rise : ∀ i j, i < j → j < k → f i < f j
  pos : ∀ i, i < k → 1 ≤ f i ∧ f i ≤ x
  low : 0 ≤ x
  top : x ≤ 4 * (k : Int)
def snoc (f : Nat → Int) (k : Nat) (x : Int) : Nat → Int := fun j => if j = k then x else f j
theorem Rising.next {f : Nat → Int} {k : Nat} {x y : Int} (h : Rising f k x) (h1 : x < y) (h2 : y ≤ x + 4) : Rising (snoc f k y) (k + 1) y := by
  refine ⟨fun i j hij hj => ?_, fun i hi => ?_, by have := h.low; omega, by have := h.top; omega⟩
  · unfold snoc
    rw [if_neg (by omega)]
    split
    · have := (h.pos i (by omega)).2; omega
    · exact h.rise i j hij (by omega)
  · unfold snoc
    split
    · have := h.low; omega
    · have := h.pos i (by omega); omega
theorem ints_snoc (f : Nat → Int) (k : Nat) (y : Int) : ints (snoc f k y) (k + 1) = ints f k ++ [.int .i64 y] := by
  unfold ints
  rw [List.range_succ, List.map_append]
  congr 1
  · refine List.map_congr_left fun j hj => ?_
    rw [List.mem_range] at hj
    unfold snoc
    rw [if_neg (by omega)]
  · simp [snoc]
theorem ptrs_snoc (p : Nat → Nat) (m g : Nat) : ptrs (fun j => if j = m then g else p j) (m + 1) = ptrs p m ++ [.pointer (some ⟨g, 0, none⟩)] := by
  unfold ptrs
  rw [List.range_succ, List.map_append]
  congr 1
  · refine List.map_congr_left fun j hj => ?_
    rw [List.mem_range] at hj
    have h2 : ¬ j = m := by omega
    simp only [if_neg h2]
  · simp
/-- the walkers that there are, and one more -/
theorem Team.add {a w w' : World} {v v' : Value} {p : Nat → Nat} {W : Nat → Wk} {m g : Nat} {x : Wk} (h : Team a w (Since a w) v p W m) (hx : Body a w (Since a w) g x) (hne : ∀ i, i < m → p i ≠ g)
    (hg : w.grownBy w' v.ownBlock) (ho : w'.ownsRow a.heap.size 52 1 v' (m + 1) (ptrs p m ++ [.pointer (some ⟨g, 0, none⟩)])) :
    Team a w' (Since a w') v' (fun j => if j = m then g else p j) (upd W m x) (m + 1) := by
  have hT : ∀ q, Since a w q → Since a w' q := fun q hq => ⟨hq.1, Nat.lt_of_lt_of_le hq.2 hg.size⟩
  have hbody : ∀ g x, Body a w (Since a w) g x → Body a w' (Since a w') g x := by
    rintro g x ⟨⟨K, c, h1, h2, h3⟩, h4⟩
    refine ⟨⟨K, c, (hg.block g h4.2 (fun e => own_ne h.row h1 (by decide) e.symm)).trans h1, own_same h2 (fun q hq => hg.block q (h3 q hq).2 (fun e => ?_)), fun q hq => hT q (h3 q hq)⟩, hT g h4⟩
    rcases h.row.2 with ⟨hv, _⟩ | ⟨g1, _, _, hv, _, hg1, _⟩
    · rw [hv] at e; cases e
    · rcases h2.2 with ⟨hv2, _⟩ | ⟨g2, _, _, hv2, _, hg2, _⟩
      · rw [hv2] at hq; cases hq
      · rw [hv] at e; rw [hv2] at hq
        simp [Value.ownBlock] at e hq
        rw [hq, e, hg1] at hg2
        simp at hg2
  refine ⟨by rw [ptrs_snoc]; exact ho, fun q hq => ⟨own_ge ho q hq, own_lt ho q hq⟩, fun i hi => ?_, fun i j hi hj => ?_, fun q hq => hq.2, fun q hq => hq.1⟩
  · by_cases e : i = m
    · subst e
      rw [upd_same]
      simp only [if_true]
      exact hbody _ _ hx
    · rw [upd_other _ _ e]
      simp only [if_neg e]
      exact hbody _ _ (h.body i (by omega))
  · by_cases e1 : i = m <;> by_cases e2 : j = m
    · intro _; omega
    · rw [if_pos e1, if_neg e2]; exact fun e => absurd e.symm (hne j (by omega))
    · rw [if_neg e1, if_pos e2]; exact fun e => absurd e (hne i (by omega))
    · rw [if_neg e1, if_neg e2]; exact h.apart i j (by omega) (by omega)

theorem made_row {w : World} (u : Value) (T : TypeId) : Sl (w.alloc (.cells #[u] T)) (w.heap.size + 1) (some ⟨w.heap.size, 0, none⟩) [u] := RowV.sl (xs := [u]) (row_new w (.cells #[u] T)) (Nat.lt_succ_self _)
theorem below_set {a w : World} {B : Nat} {p : Addr} (h : Below B a w) (hB : B ≤ w.heap.size) (hp : B ≤ p.block) (u : Value) : Below B a (w.setCell p u) :=
  h.trans ((Ext.setCell (p := p) (Ext.refl (fun q => q = p.block) w) (.inl rfl) u).below hB (fun k hk => by rw [hk]; exact hp))
theorem keys_add {W : Nat → Wk} {m k : Nat} {f : Nat → Int} {x : Int} (h : Keys W m) (hr : Rising f k x) (hk : k ≤ 8) : Keys (upd W m ⟨k, f, 0, false⟩) (m + 1) := by
  refine ⟨fun i hi => ?_, fun i hi => ?_, fun i hi => ?_⟩
  · by_cases e : i = m
    · subst e; rw [upd_same]; exact hr.rise
    · rw [upd_other _ _ e]; exact h.rise i (by omega)
  · by_cases e : i = m
    · subst e; rw [upd_same]
      intro a ha
      have h1 := hr.pos a ha
      have h2 := hr.top
      have h3 : f a ≤ 32 := by have := h1.2; omega
      exact ⟨h1.1, h3⟩
    · rw [upd_other _ _ e]; exact h.pos i (by omega)
  · by_cases e : i = m
    · subst e; rw [upd_same]; exact hk
    · rw [upd_other _ _ e]; exact h.short i (by omega)
theorem new_add {W : Nat → Wk} {m k : Nat} {f : Nat → Int} (h : ∀ i, i < m → (W i).n = 0 ∧ (W i).done = false) : ∀ i, i < m + 1 → (upd W m ⟨k, f, 0, false⟩ i).n = 0 ∧ (upd W m ⟨k, f, 0, false⟩ i).done = false := fun i hi => by
  by_cases e : i = m
  · subst e; rw [upd_same]; exact ⟨rfl, rfl⟩
  · rw [upd_other _ _ e]; exact h i (by omega)

set_option maxRecDepth 100000 in
set_option maxHeartbeats 400000 in
theorem walkers_any (G : List (List Int)) (A : Option Addr) (c : Nat) (w : World) (hG : Grid w w.heap.size A G) :
    Calls Try.prog 21 #[.slice A G.length c] w fun e w' => ∃ v p W m, e = .returned v ∧ Team w w' (Since w w') v p W m ∧ Keys W m ∧ m ≤ 8 ∧ (∀ i, i < m → (W i).n = 0 ∧ (W i).done = false) ∧ Below w.heap.size w w' := by
  have HG := Lib.hid hG
  clear hG
  go_enter Try.func21, Try.ntmps21
  go_wp2_with fail
  go_loopw [3, 4] (fun v ix wr => ∃ (i : Nat) (p : Nat → Nat) (W : Nat → Wk), i ≤ G.length ∧ i ≤ 8 ∧ ix = .int .i64 i ∧ Team w wr (Since w wr) v p W i ∧ Keys W i ∧ (∀ k, k < i → (W k).n = 0 ∧ (W k).done = false) ∧ Below w.heap.size w wr) (fun _ ix _ => G.length - (intOf ix).toNat)
  case atStart =>
    exact ⟨0, fun _ => 0, fun _ => ⟨0, fun _ => 0, 0, false⟩, Nat.zero_le _, Nat.zero_le _, rfl, ⟨World.ownsRow_nil _ _ _ _, fun q hq => (by cases hq), fun i hi => (by omega), fun i j hi => (by omega), fun q hq => hq.2, fun q hq => hq.1⟩,
      ⟨fun i hi => (by omega), fun i hi => (by omega), fun i hi => (by omega)⟩, fun i hi => (by omega), Below.refl _ _⟩
  case round =>
    obtain ⟨i, p, W, hi, hi8, rfl, ht, hk, hn, hb⟩ := hrel
    have HT := Lib.hid ht
    have HK := Lib.hid hk
    have HN := Lib.hid hn
    have HB := Lib.hid hb
    have hi0 : (0 : Int) ≤ (i : Int) := Int.natCast_nonneg _
    by_cases hlt : i < G.length ∧ i < 8
    · obtain ⟨h1, h2⟩ := hlt
      obtain ⟨a, A', c', rfl, hab, hrow, hsl, _⟩ := HG.out i h1
      have hk1 : (i : Int) < (G.length : Int) := by omega
      have hk2 : (i : Int) < 8 := by omega
      have hbs := hb.size
      have HAB : Hid (a.block < w.heap.size) := hab
      have HSL := Lib.hid hsl
      have y0 : wr.cell? (a.add i) = some (.slice A' G[i].length c') := (hb.cell (by rw [addr_add_block]; exact hab)).trans hrow
      have HY : Hid (wr.cell? (a.add i) = some (.slice A' G[i].length c')) := y0
      have HAW : Hid ((a.add i).block < wr.heap.size) := by rw [addr_add_block]; show _ < _; omega
      generalize G[i] = l at *
      have HV := Lib.hid (ht.row)
      clear ht hk hn hb hrow hsl hab h1 h2 y0
      go_wp2_with fail
      obtain ⟨w5, hw5⟩ : ∃ x, x = wr := ⟨_, rfl⟩
      subst hw5
      go_loopw [6, 7] (fun kv kx wr2 => ∃ (k : Nat) (f : Nat → Int) (x : Int) (K : Option Addr) (d : Nat), k ≤ l.length ∧ k ≤ 8 ∧ kx = .int .i64 k ∧ kv = .int .i64 x ∧ wr2.heap[w5.heap.size]? = some (.cells #[.slice K k d, .int .i64 0, .bool false] 51 (0, 0)) ∧
        wr2.ownsRow w5.heap.size 3 1 (.slice K k d) k (ints f k) ∧ Below w5.heap.size w5 wr2 ∧ Rising f k x) (fun _ kx _ => l.length - (intOf kx).toNat)
      case atStart => exact ⟨0, fun _ => 0, 0, none, 0, Nat.zero_le _, Nat.zero_le _, rfl, rfl, row_new _ _, World.ownsRow_nil _ _ _ _, (Below.refl _ _).alloc (Nat.le_refl _) _, ⟨fun _ _ _ h => (by omega), fun _ h => (by omega), Int.le_refl _, Int.le_refl _⟩⟩
      case round =>
        obtain ⟨k, f, x, K, d, hk, hk8, rfl, rfl, hg, ho, hb, hr⟩ := hrel
        have hk0 : (0 : Int) ≤ (k : Int) := Int.natCast_nonneg _
        have hbz := hb.size
        have y : wr.cell? (a.add i) = some (.slice A' l.length c') := (hb.cell HAW.out).trans HY.out
        have HG0 := Lib.hid hg
        have HO := Lib.hid ho
        have HB2 := Lib.hid hb
        have HR := Lib.hid hr
        by_cases hlt2 : k < l.length ∧ k < 8
        · obtain ⟨q1, q2⟩ := hlt2
          obtain ⟨a2, rfl, hab2, hz⟩ := HSL.out.i64 q1
          have z : wr.cell? (a2.add k) = some (.int .i64 l[k]) := (hb.cell (by rw [addr_add_block]; omega)).trans ((HB.out.cell (by rw [addr_add_block]; exact hab2)).trans hz)
          have c0 : wr.cell? ⟨w5.heap.size, 0, none⟩ = some (.slice K k d) := (row_cell hg 0).trans rfl
          have f0 := row_free hg 0
          have hkk1 : (k : Int) < (l.length : Int) := by omega
          have hkk2 : (k : Int) < 8 := by omega
          have hx1 := hr.low
          have hx2 : x ≤ 32 := by have := hr.top; omega
          have hc3 := and3 l[k]
          have hz4 : low3 l[k] < 4 := low3_lt _
          generalize l[k] = raw at *
          generalize low3 raw = z3 at *
          obtain ⟨yv, hyv⟩ : ∃ yv : Int, x + 1 + (z3 : Int) = yv := ⟨_, rfl⟩
          have hw1 : IntKind.i64.wrap (x + 1) = x + 1 := by rw [IntKind.wrap_i64]; omega
          have hw2 : IntKind.i64.wrap yv = yv := by rw [← hyv, IntKind.wrap_i64]; omega
          have HRN := Lib.hid (hr.next (y := yv) (by omega) (by omega))
          clear hg ho hb hr hz hab2
          go_wp2_with (at_builtin; refine wl_append rfl _ _ 44 rfl w5.heap.size 3 8 elemI (.slice K k d) k (ints f k) rfl (HO.out.alloc _) (wr.heap.size + 1) (some ⟨wr.heap.size, 0, none⟩) 1 1 [.int .i64 yv] rfl rfl (made_row _ _) (by simp [Value.oneCell']) (by omega) (by unfold maxLen; omega) (by simp; omega) ?_
                       intro v' w6 ho6 hg6 hat6
                       obtain ⟨K6, d6, rfl⟩ := own_form ho6
                       have HB6 := Lib.hid ((hg6.block w5.heap.size (by simp; have := row_lt HG0.out; omega) (fun e => own_ne HO.out HG0.out (by decide) e.symm)).trans (row_alloc HG0.out _))
                       have c6 : w6.cell? ⟨w5.heap.size, 0, none⟩ = some (.slice K k d) := (row_cell HB6.out 0).trans rfl
                       have f6 : w6.frozen? ⟨w5.heap.size, 0, none⟩ = false := row_free HB6.out 0
                       have HO6 := Lib.hid ho6
                       have HBB := Lib.hid (below_own (HB2.out.alloc HB2.out.size _) (HO.out.alloc _) hg6 (by simp; omega))
                       clear ho6 hg6 hat6)
          have HX1 := Lib.hid (row_set HB6.out 0 (.slice K6 (k + 1) d6))
          have HX2 := Lib.hid (own_same (w' := w6.setCell ⟨w5.heap.size, 0, none⟩ (.slice K6 (k + 1) d6)) HO6.out (fun g hg => Below.heap_setCell _ _ _ g (fun e => own_ne HO6.out HB6.out (by decide) (by rw [hg]; exact congrArg some e))))
          have HX3 := Lib.hid (below_set (p := ⟨w5.heap.size, 0, none⟩) HBB.out HBB.out.size (Nat.le_refl _) (.slice K6 (k + 1) d6))
          go_roundw
          case rel => exact ⟨k + 1, snoc f k yv, yv, K6, d6, by omega, by omega, by go_num, rfl, HX1.out, by rw [ints_snoc]; exact HX2.out, HX3.out, HRN.out⟩
          case measure => simp [intOf]; omega
        · have hends : ((l.length : Int) ≤ (k : Int)) ∨ ((k : Int) < (l.length : Int) ∧ (8 : Int) ≤ (k : Int)) := by omega
          have HT2 := Lib.hid (Team.grow (Team.grow HT.out hb) ((Below.refl _ wr).alloc (Nat.le_refl _) (.cells #[.pointer (some ⟨w5.heap.size, 0, none⟩)] 52)))
          have HBD : Hid (Body w (wr.alloc (.cells #[.pointer (some ⟨w5.heap.size, 0, none⟩)] 52)) (Since w (wr.alloc (.cells #[.pointer (some ⟨w5.heap.size, 0, none⟩)] 52))) w5.heap.size ⟨k, f, 0, false⟩) := by
            have hlt5 := row_lt hg
            refine ⟨⟨K, d, row_alloc hg _, (own_base ho hbs).alloc _, fun q hq => ⟨Nat.le_trans hbs (own_ge ho q hq), ?_⟩⟩, hbs, ?_⟩
            · have := own_lt ho q hq; simp; omega
            · simp; omega
          have HNE : Hid (∀ j, j < i → p j ≠ w5.heap.size) := fun j hj e => by
            have := (HT.out.at hj).2; omega
          have HBN := Lib.hid ((HB.out.trans (hb.mono hbs)).alloc (Nat.le_trans hbs hbz) (.cells #[.pointer (some ⟨w5.heap.size, 0, none⟩)] 52))
          have HKA := Lib.hid (keys_add HK.out hr hk8)
          have HNA := Lib.hid (new_add (k := k) (f := f) HN.out)
          clear hg ho hb hr hlt2
          rcases hends with hd1 | ⟨hd1, hd2⟩
          all_goals
            go_wp2_with (at_builtin; refine wl_append rfl _ _ 45 rfl w.heap.size 52 8 elemP _ i (ptrs p i) rfl HT2.out.row (wr.heap.size + 1) (some ⟨wr.heap.size, 0, none⟩) 1 1 [.pointer (some ⟨w5.heap.size, 0, none⟩)] rfl rfl (made_row _ _) (by simp [Value.oneCell']) (by omega) (by unfold maxLen; omega) (by simp; omega) ?_
                         intro v' w6 ho6 hg6 hat6
                         have HTA := Lib.hid (Team.add HT2.out HBD.out HNE.out hg6 ho6)
                         have HBA := Lib.hid (below_own HBN.out HT2.out.row hg6 (by simp; omega))
                         clear ho6 hg6 hat6)
            go_roundw
            case rel => exact ⟨i + 1, _, _, by omega, by omega, by go_num, HTA.out, HKA.out, HNA.out, HBA.out⟩
            case measure => simp [intOf]; omega
    · have hends : ((G.length : Int) ≤ (i : Int)) ∨ ((i : Int) < (G.length : Int) ∧ (8 : Int) ≤ (i : Int)) := by omega
      clear hlt ht hk hn hb
      rcases hends with hd1 | ⟨hd1, hd2⟩
      all_goals
        go_wp2_with fail
        go_ret
        exact ⟨_, _, _, _, rfl, HT.out, HK.out, hi8, HN.out, HB.out⟩
end Go.Proofs.Ytfaahhipddlmgaa.KMake
