/- The store's cache: shardOf, get, put, drop. -/
import Derived.Test.YtgjcbfdhpbkhoaaGreatDoorMg30
import Derived.Test.YtgjcbfdhpbkhoaaGreatDoorMg31
import Derived.Test.YtgjcbfdhpbkhoaaGreatDoorMg32
import Derived.Test.YtgjcbfdhpbkhoaaGreatDoorMg12
import Derived.Test.YtgjcbfdhpbkhoaaGreatDoorMg2
import Derived.Deep.QuietTactic
import Derived.Deep.RegionLaw
import Derived.StillTailTactics
import Derived.BigQuiet
import Derived.Handy
import Derived.Deep.DeepMust
import Derived.Carry
namespace Go.Proofs.YtgjcbfdhpbkhoaaGreatDoor.ECache
open Go.RowKit WMem WPlain WAppend Ext Map DPlain DMem EPlain EMem
set_option maxRecDepth 100000 in
set_option maxHeartbeats 400000 in
theorem shardOf_at (b g ns n : Nat) (w : World) (c3 : w.cell? ⟨b, 3, none⟩ = some (.slice (some ⟨g, 0, none⟩) ns ns)) (h1 : 1 ≤ ns) (h2 : ns ≤ 16) (hn : n ≤ 4096) :
    Calls Tryz.prog 126 #[.pointer (some ⟨b, 3, none⟩), .int .i64 n] w fun e w' => e = .returned (.pointer (some ⟨g, n % ns * 2, none⟩)) ∧ ∃ k, w' = w.drewN k := by
  have hm : n % ns < ns := Nat.mod_lt _ (by omega)
  have hne : ((ns : Int) == 0) = false := by rw [beq_eq_false_iff_ne]; omega
  go_enter Tryz.func126, Tryz.ntmps126
  go_wp2
  go_quiet (fail)
  go_wp2
  go_ret
  exact ⟨rfl, _, rfl⟩
theorem shardOf_i (b g ns n i : Nat) (hi : n % ns = i) (w : World) (c3 : w.cell? ⟨b, 3, none⟩ = some (.slice (some ⟨g, 0, none⟩) ns ns)) (h1 : 1 ≤ ns) (h2 : ns ≤ 16) (hn : n ≤ 4096) :
    Calls Tryz.prog 126 #[.pointer (some ⟨b, 3, none⟩), .int .i64 n] w fun e w' => e = .returned (.pointer (some ⟨g, i * 2, none⟩)) ∧ ∃ k, w' = w.drewN k := by
  subst hi
  exact shardOf_at b g ns n w c3 h1 h2 hn
theorem own_sl {w : World} {base n : Nat} {e : TypeId} {A : Option Addr} {cap : Nat} {zs : List Value} (h : w.ownsRow base e 1 (.slice A n cap) n zs) : Sl w w.heap.size A zs := by
  rcases h.2 with ⟨he, h0⟩ | ⟨g, cap', cur, he, _, hg, _, _, _, ht⟩
  · have : zs = [] := List.eq_nil_of_length_eq_zero (by rw [h.1, h0])
    subst this
    exact Sl.nil _ _ _
  · cases he
    exact Sl.of_row hg (row_lt hg) (n := n) (by simpa using ht)
theorem natv_flat (l : List Nat) : ∀ u ∈ l.map natv, u.oneCell' = true := by
  intro u hu
  obtain ⟨x, _, rfl⟩ := List.mem_map.1 hu
  rfl
theorem DelInt (gu cap m m' : Nat) (a c : List Nat) (n : Nat) (w : World) (hm : m = (a ++ n :: c).length) (hm' : m' = (a ++ c).length) (hl : m ≤ 1073741824) (ho : w.ownsRow 0 3 1 (.slice (some ⟨gu, 0, none⟩) m cap) m ((a ++ n :: c).map natv)) :
    Calls Tryz.prog 128 #[.slice (some ⟨gu, 0, none⟩) m cap, .int .i64 a.length, .int .i64 ((a.length : Int) + 1)] w fun e w' =>
      e = .returned (.slice (some ⟨gu, 0, none⟩) m' cap) ∧ w'.ownsRow 0 3 1 (.slice (some ⟨gu, 0, none⟩) m' cap) m' ((a ++ c).map natv) ∧ w.grownBy w' (some gu) := by
  have e1 : (a.map natv ++ ([natv n] ++ c.map natv)) = (a ++ n :: c).map natv := by simp
  have e2 : (a.map natv ++ c.map natv) = (a ++ c).map natv := by simp
  have h := EDelI.Delete_own gu cap (a.map natv) [natv n] (c.map natv) ((a.length : Int) + 1) w (Nat.le_refl _) (by simp) (by rw [e1, List.length_map]; omega) (natv_flat c) (by rw [e1, List.length_map, ← hm]; exact ho)
  rw [e1, e2, List.length_map, List.length_map, List.length_map, ← hm, ← hm'] at h
  exact h
structure ShIs (w : World) (ρ : Ro) (g i mi N : Nat) (rd : Nat → Bk) (l : List Nat) (u : Value) : Prop where
  c0 : w.cell? ⟨g, i * 2, none⟩ = some (.map (some mi))
  c1 : w.cell? ⟨g, i * 2 + 1, none⟩ = some u
  map : MapB w ρ (.mp i) mi N (hasC rd l)
  used : OwnS w (At ρ (.us i)) 3 1 u l.length (l.map natv)
  rg : ρ g = .row
  free : w.frozen? ⟨g, i * 2 + 1, none⟩ = false
theorem Cacx.shard {w : World} {ρ : Ro} {g N : Nat} {rd : Nat → Bk} {cch : List (List Nat)} {xs : List Value} {mm : Nat → Nat} {uv : Nat → Value} (h : Cacx w ρ g N rd cch xs mm uv) {i : Nat} (hi : i < cch.length) : ShIs w ρ g i (mm i) N rd (cch.getD i []) (uv i) := by
  have a0 := h.cell0 i hi
  have a1 := h.cell1 i hi
  refine ⟨by rw [row_cell h.row, List.getElem?_toArray]; exact a0, by rw [row_cell h.row, List.getElem?_toArray]; exact a1, h.map i hi, h.used i hi, h.rowR, row_free h.row _⟩
theorem getD_set_self {cch : List (List Nat)} {i : Nat} (hi : i < cch.length) (l : List Nat) : (cch.set i l).getD i [] = l := by
  rw [List.getD_eq_getElem?_getD, List.getElem?_set_self hi]; rfl
theorem getD_set_ne {cch : List (List Nat)} {i j : Nat} (h : j ≠ i) (l : List Nat) : (cch.set i l).getD j [] = cch.getD j [] := by
  rw [List.getD_eq_getElem?_getD, List.getElem?_set_ne (Ne.symm h), ← List.getD_eq_getElem?_getD]
theorem Cacx.turn {w w' : World} {ρ ρ' : Ro} {g N : Nat} {rd : Nat → Bk} {cch : List (List Nat)} {xs : List Value} {mm : Nat → Nat} {uv : Nat → Value} (h : Cacx w ρ g N rd cch xs mm uv) {i : Nat} (hi : i < cch.length) {l : List Nat} {u : Value}
    (hrow : w'.heap[g]? = some (.cells (xs.set (i * 2 + 1) u).toArray 155 (0, 0))) (hm : MapB w' ρ' (.mp i) (mm i) N (hasC rd l)) (hu : OwnS w' (At ρ' (.us i)) 3 1 u l.length (l.map natv))
    (hr : ∀ k, Mine ρ k → ρ' k = ρ k) (hs : ∀ k, ρ k = .still → w'.heap[k]? = w.heap[k]?) (ho : ∀ j, j ≠ i → ∀ k, ρ k = .mp j ∨ ρ k = .us j → w'.heap[k]? = w.heap[k]?) : Cacx w' ρ' g N rd (cch.set i l) (xs.set (i * 2 + 1) u) mm (fun j => if j = i then u else uv j) := by
  refine ⟨hrow, (hr g (mine_of h.rowR (by intro e; cases e))).trans h.rowR, by simp [h.len], fun j hj => ?_, fun j hj => ?_, fun j hj => ?_, fun j hj => ?_⟩
  · simp only [List.length_set] at hj
    rw [List.getElem?_set_ne (by omega)]
    exact h.cell0 j hj
  · simp only [List.length_set] at hj
    by_cases e : j = i
    · subst e
      rw [if_pos rfl, List.getElem?_set_self (by rw [h.len]; omega)]
    · rw [if_neg e, List.getElem?_set_ne (by omega)]
      exact h.cell1 j hj
  · have hj' : j < cch.length := by simpa using hj
    by_cases e : j = i
    · subst e
      rw [getD_set_self hi]
      exact hm
    · rw [getD_set_ne e]
      have h1 := h.map j hj'
      exact h1.keep hs (fun k hk => (hr k (mine_still k hk)).trans hk) (ho j e _ (.inl h1.1)) (hr _ (mine_of h1.1 (by intro e; cases e)))
  · have hj' : j < cch.length := by simpa using hj
    by_cases e : j = i
    · subst e
      rw [getD_set_self hi]
      simp only [if_true]
      exact hu
    · rw [getD_set_ne e]
      simp only [if_neg e]
      exact OwnS.part (h.used j hj') (fun k hk => ho j e k (.inr hk)) (fun k hk => (hr k (mine_of hk (by intro e; cases e))).trans hk)
set_option maxRecDepth 100000 in
set_option maxHeartbeats 800000 in
theorem drop_not (b g N n : Nat) (ρ : Ro) (rd : Nat → Bk) (cch : List (List Nat)) (w : World) (c3 : w.cell? ⟨b, 3, none⟩ = some (.slice (some ⟨g, 0, none⟩) cch.length cch.length)) (hc : Cac w ρ g N rd cch) (h1 : 1 ≤ cch.length) (h2 : cch.length ≤ 16) (hn : n ≤ 4096)
    (hl : n ∉ cch.getD (n % cch.length) []) :
    Calls Tryz.prog 102 #[.pointer (some ⟨b, 3, none⟩), .int .i64 n] w fun e w' => e = .returned (.tuple #[]) ∧ ∃ k, w' = w.drewN k := by
  have hi : n % cch.length < cch.length := Nat.mod_lt _ (by omega)
  obtain ⟨xs, mm, uv, hx⟩ := hc
  have hs := Cacx.shard hx hi
  have hz : hasC rd (cch.getD (n % cch.length) []) n = none := if_neg hl
  obtain ⟨v, hk, _, _⟩ := hs.map.look hn
  rw [hz] at hk
  have k0 := hs.c0
  have HK := Lib.hid hk
  have HS := shardOf_at b g cch.length n w c3 h1 h2 hn
  clear hk hs hl hz hx
  go_enter Tryz.func102, Tryz.ntmps102
  go_wp2_with fail
  refine HS.mono ?_
  rintro e w1 ⟨rfl, k, rfl⟩
  have hk := (HK.out (w.drewN k) rfl).1
  have k1 : (w.drewN k).cell? ⟨g, n % cch.length * 2, none⟩ = some (.map (some (mm (n % cch.length)))) := k0
  go_wp2
  refine bodyPost_ret (results_none rfl _ _ _) rfl ?_
  exact ⟨rfl, k, rfl⟩
theorem hasC_drop (rd : Nat → Bk) (n : Nat) (l : List Nat) : (fun j => if j = n then none else hasC rd l j) = hasC rd (dropC n l) := by
  funext j
  unfold hasC
  by_cases e : j = n
  · rw [if_pos e, if_neg]
    intro h
    exact (mem_dropC.1 h).2 e
  · rw [if_neg e]
    by_cases hj : j ∈ l
    · rw [if_pos hj, if_pos (mem_dropC.2 ⟨hj, e⟩)]
    · rw [if_neg hj, if_neg fun h => hj (mem_dropC.1 h).1]
theorem ext_turned {S : Nat → Prop} {W W' : World} {k : Nat} (ht : W.mapTurned W' k) (hk : S k) : Ext S W W' := Ext.of_grown ht.grown (fun j hj _ => by injection hj with hj; subst hj; exact hk)
theorem ext_grown {S : Nat → Prop} {W W' : World} {k : Nat} (hg : W.grownBy W' (some k)) (hk : S k) : Ext S W W' := Ext.of_grown hg (fun j hj _ => by injection hj with hj; subst hj; exact hk)
set_option maxRecDepth 100000 in
set_option maxHeartbeats 1600000 in
theorem drop_in (b g N n : Nat) (ρ : Ro) (rd : Nat → Bk) (cch : List (List Nat)) (w : World) (there : There (Mine ρ) w) (c3 : w.cell? ⟨b, 3, none⟩ = some (.slice (some ⟨g, 0, none⟩) cch.length cch.length)) (hc : Cac w ρ g N rd cch) (h1 : 1 ≤ cch.length) (h2 : cch.length ≤ 16) (hn : n ≤ 4096)
    (hl : n ∈ cch.getD (n % cch.length) []) (hnd : (cch.getD (n % cch.length) []).Nodup) (hlen : (cch.getD (n % cch.length) []).length ≤ 1073741824) :
    Calls Tryz.prog 102 #[.pointer (some ⟨b, 3, none⟩), .int .i64 n] w fun e w' => e = .returned (.tuple #[]) ∧ Cac w' ρ g N rd (cch.set (n % cch.length) (dropC n (cch.getD (n % cch.length) []))) ∧ Ext (fun k => isC (ρ k)) w w' := by
  have hi0 : n % cch.length < cch.length := Nat.mod_lt _ (by omega)
  obtain ⟨xs, mm, uv, hx⟩ := hc
  have HS := shardOf_at b g cch.length n w c3 h1 h2 hn
  obtain ⟨i, ei⟩ : ∃ i, n % cch.length = i := ⟨_, rfl⟩
  rw [ei] at HS hi0 hl hnd hlen ⊢
  have hs := Cacx.shard hx hi0
  obtain ⟨l, el⟩ : ∃ l, cch.getD i [] = l := ⟨_, rfl⟩
  rw [el] at hs hl hnd hlen ⊢
  clear ei el
  have hz : hasC rd l n = some (rd n) := if_pos hl
  obtain ⟨v, hk, _, _⟩ := hs.map.look hn
  rw [hz] at hk
  obtain ⟨a, c, rfl, hna⟩ : ∃ a c, l = a ++ n :: c ∧ n ∉ a := by
    obtain ⟨a, c, rfl⟩ := List.append_of_mem hl
    exact ⟨a, c, rfl, fun h => (List.nodup_append.1 hnd).2.2 n h n (by simp) rfl⟩
  obtain ⟨m, hm⟩ : ∃ m, m = (a ++ n :: c).length := ⟨_, rfl⟩
  obtain ⟨gu, cap, eu, -, hgu⟩ := hs.used.1.form (by simp; omega)
  obtain ⟨m', hm'⟩ : ∃ m', m' = (a ++ c).length := ⟨_, rfl⟩
  have HM' := Lib.hid hm'
  clear hm'
  have hou := hs.used
  rw [eu, ← hm] at hou
  rw [← hm] at hlen
  have hu := hs.c1
  rw [eu, ← hm] at hu
  have hD : dropC n (a ++ n :: c) = a ++ c := dropC_split hnd
  have rgu : ρ gu = .us i := hou.2 gu rfl
  have gmi : g ≠ mm i := fun e => by have h1 := hs.rg; rw [e, hs.map.1] at h1; cases h1
  have gum : gu ≠ mm i := fun e => by rw [e, hs.map.1] at rgu; cases rgu
  have ggu : g ≠ gu := fun e => by have h1 := hs.rg; rw [e, rgu] at h1; cases h1
  have HX := Lib.hid hx
  have HS0 := Lib.hid hs
  have HK := Lib.hid hk
  have HO := Lib.hid hou
  have HM := Lib.hid hm
  have HD := Lib.hid hD
  have HNA := Lib.hid hna
  have hgl : g < w.heap.size := row_lt hx.row
  have f1 := hs.free
  have k0 := hs.c0
  clear hx hs hk hou hm hD hnd hl hz hna eu
  go_enter Tryz.func102, Tryz.ntmps102
  go_wp2_with fail
  refine HS.mono ?_
  rintro e w1 ⟨rfl, k, rfl⟩
  have hk := (HK.out (w.drewN k) rfl).1
  have k1 : (w.drewN k).cell? ⟨g, i * 2, none⟩ = some (.map (some (mm i))) := k0
  obtain ⟨w2, hrun, hm2, ht⟩ := MapB.drop (w := w.drewN k) (HS0.out.map.keep (fun _ _ => rfl) (fun _ h => h) rfl rfl) hn (by intro e; cases e) 0
  have t1 : w2.heap[g]? = w.heap[g]? := (turned_far ht gmi).trans rfl
  have t2 : w2.heap[gu]? = w.heap[gu]? := (turned_far ht gum).trans rfl
  have HT := Lib.hid ht
  have HM2 := Lib.hid hm2
  have HT1 := Lib.hid t1
  have HT2 := Lib.hid t2
  have u2 : w2.cell? ⟨g, i * 2 + 1, none⟩ = some (.slice (some ⟨gu, 0, none⟩) m cap) := (World.cell?_of_block HT1.out).trans hu
  have ho2 : w2.ownsRow 0 3 1 (.slice (some ⟨gu, 0, none⟩) m cap) m ((a ++ n :: c).map natv) := own_same HO.out.1 (fun q hq => by simp [Value.ownBlock] at hq; subst hq; exact HT2.out)
  have HO2 := Lib.hid ho2
  clear ht hm2 t1 t2 ho2
  go_wp2_with fail
  have HI := EIndex.Index_at w2.heap.size cap (some ⟨gu, 0, none⟩) a c n w2 (own_sl HO2.out) HNA.out (by rw [← HM.out]; exact hlen)
  rw [← HM.out] at HI
  refine HI.mono ?_
  rintro e w' ⟨rfl, rfl⟩
  have hal : (a.length : Int) ≤ 1073741824 := by have := HM.out; simp at this; omega
  go_wp2_with fail
  refine (DelInt gu cap m m' a c n w2 HM.out HM'.out hlen HO2.out).mono ?_
  rintro e w3 ⟨rfl, ho3, hg3⟩
  have g2 : g < w2.heap.size := by rw [turned_size HT.out]; exact hgl
  have t3 : w3.heap[g]? = w.heap[g]? := (hg3.block g g2 (fun e => ggu (by injection e))).trans HT1.out
  have HT3 := Lib.hid t3
  have u3 : w3.cell? ⟨g, i * 2 + 1, none⟩ = some (.slice (some ⟨gu, 0, none⟩) m cap) := (World.cell?_of_block HT3.out).trans hu
  have f3 : w3.frozen? ⟨g, i * 2 + 1, none⟩ = false := (World.frozen?_of_block HT3.out).trans f1
  have HO3 := Lib.hid ho3
  have HG3 := Lib.hid hg3
  clear t3 ho3 hg3
  go_wp2
  go_end0
  have far : ∀ k, k < w.heap.size → k ≠ mm i → k ≠ gu → k ≠ g → (w3.setCell ⟨g, i * 2 + 1, none⟩ (.slice (some ⟨gu, 0, none⟩) m' cap)).heap[k]? = w.heap[k]? := fun q q0 q1 q2 q3 =>
    (Below.heap_setCell w3 _ _ q q3).trans ((HG3.out.block q (by rw [turned_size HT.out]; exact q0) (fun e => q2 (by injection e))).trans ((turned_far HT.out q1).trans rfl))
  have S0 : isC (ρ (mm i)) := by rw [HS0.out.map.1]; trivial
  have S1 : isC (ρ gu) := by rw [rgu]; trivial
  have S2 : isC (ρ g) := by rw [HS0.out.rg]; trivial
  have lm : mm i < w.heap.size := HS0.out.map.lt
  refine ⟨rfl, ?_, (((((Ext.refl (fun k => isC (ρ k)) w).drewN k).trans (ext_turned HT.out S0) (fun _ h => .inl h)).trans (ext_grown HG3.out S1) (fun _ h => .inl h)).setCell (.inl S2) _)⟩
  rw [HD.out]
  refine ⟨_, mm, _, Cacx.turn (ρ' := ρ) HX.out hi0 (u := .slice (some ⟨gu, 0, none⟩) m' cap) ?_ ?_ ?_ (fun _ _ => rfl) (fun q hq => far q (there q (mine_still q hq)) ?_ ?_ ?_) (fun j hj q hq => far q (there q (mine_c ?_)) ?_ ?_ ?_)⟩
  · have h5 := row_set (HT3.out.trans HX.out.row) (i * 2 + 1) (.slice (some ⟨gu, 0, none⟩) m' cap)
    rw [h5, List.setIfInBounds_toArray]
  · have e1 : w3.heap[mm i]? = w2.heap[mm i]? := HG3.out.block _ (by rw [turned_size HT.out]; exact lm) (fun e => gum (by injection e with e; exact e.symm))
    have h6 := HM2.out
    rw [hasC_drop, HD.out] at h6
    refine h6.keep (fun q hq => ?_) (fun _ h => h) ((Below.heap_setCell w3 _ _ _ (Ne.symm gmi)).trans e1) rfl
    have lq := there q (mine_still q hq)
    refine (Below.heap_setCell w3 _ _ q ?_).trans (HG3.out.block q (by rw [turned_size HT.out]; exact lq) ?_)
    · intro e; subst e; rw [HS0.out.rg] at hq; cases hq
    · intro e; injection e with e; subst e; rw [rgu] at hq; cases hq
  · rw [← HM'.out]
    refine ⟨own_same HO3.out (fun q hq => ?_), fun q hq => ?_⟩
    · simp [Value.ownBlock] at hq
      subst hq
      exact Below.heap_setCell w3 _ _ _ (Ne.symm ggu)
    · simp [Value.ownBlock] at hq
      subst hq
      exact rgu
  · rintro rfl; rw [HS0.out.map.1] at hq; cases hq
  · rintro rfl; rw [rgu] at hq; cases hq
  · rintro rfl; rw [HS0.out.rg] at hq; cases hq
  · rcases hq with h | h <;> rw [h] <;> trivial
  · rintro rfl; rw [HS0.out.map.1] at hq; rcases hq with h | h
    · injection h with h; exact hj h.symm
    · cases h
  · rintro rfl; rw [rgu] at hq; rcases hq with h | h
    · cases h
    · injection h with h; exact hj h.symm
  · rintro rfl; rw [HS0.out.rg] at hq; rcases hq with h | h <;> cases h
theorem set_getD (cch : List (List Nat)) (i : Nat) : cch.set i (cch.getD i []) = cch := by
  by_cases h : i < cch.length
  · rw [List.getD_eq_getElem?_getD, List.getElem?_eq_getElem h]
    exact List.set_getElem_self h
  · rw [List.set_eq_of_length_le (by omega)]
theorem drop_any (b g N n : Nat) (ρ : Ro) (rd : Nat → Bk) (cch : List (List Nat)) (w : World) (there : There (Mine ρ) w) (c3 : w.cell? ⟨b, 3, none⟩ = some (.slice (some ⟨g, 0, none⟩) cch.length cch.length)) (hc : Cac w ρ g N rd cch) (h1 : 1 ≤ cch.length) (h2 : cch.length ≤ 16) (hn : n ≤ 4096)
    (hnd : (cch.getD (n % cch.length) []).Nodup) (hlen : (cch.getD (n % cch.length) []).length ≤ 1073741824) :
    Calls Tryz.prog 102 #[.pointer (some ⟨b, 3, none⟩), .int .i64 n] w fun e w' => e = .returned (.tuple #[]) ∧ Cac w' ρ g N rd (cch.set (n % cch.length) (dropC n (cch.getD (n % cch.length) []))) ∧ Ext (fun k => isC (ρ k)) w w' := by
  by_cases hl : n ∈ cch.getD (n % cch.length) []
  · exact drop_in b g N n ρ rd cch w there c3 hc h1 h2 hn hl hnd hlen
  · refine (drop_not b g N n ρ rd cch w c3 hc h1 h2 hn hl).mono ?_
    rintro e w' ⟨rfl, k, rfl⟩
    rw [dropC_not hl, set_getD]
    exact ⟨rfl, hc.keep (fun _ _ => rfl) (fun _ _ => rfl), (Ext.refl _ _).drewN k⟩
theorem hasC_put (rd : Nat → Bk) (n : Nat) (l : List Nat) : (fun j => if j = n then some (rd n) else hasC rd l j) = hasC rd (l ++ [n]) := by
  funext j
  unfold hasC
  by_cases e : j = n
  · subst e
    rw [if_pos rfl, if_pos (by simp)]
  · rw [if_neg e]
    by_cases hj : j ∈ l
    · rw [if_pos hj, if_pos (by simp [hj])]
    · rw [if_neg hj, if_neg (by simp [hj, e])]
theorem elemI : Elem Tryz.prog 50 3 8 := ⟨by kernel_rfl, by
  obtain ⟨i, h1, h2, h3, h4⟩ := info_parts (P := Tryz.prog) (e := 3) (z := .int .i64 0) (size := 1) (bytes := 8) (by kernel_rfl)
  exact ⟨i, _, h1, h2, h3, h4, rfl⟩⟩
theorem made_row (w : World) (v : Value) {T : TypeId} : Sl (w.alloc (.cells #[v] T)) (w.heap.size + 1) (some ⟨w.heap.size, 0, none⟩) [v] :=
  RowV.sl (row_new w (.cells #[v] T)) (Nat.lt_succ_self _)
structure Laid (w w' : World) (ρ ρ' : Ro) (g i N : Nat) (rd : Nat → Bk) (cch : List (List Nat)) (l : List Nat) (u : Value) : Prop where
  cac : Cac w' ρ' g N rd (cch.set i l)
  cell : w'.cell? ⟨g, i * 2 + 1, none⟩ = some u
  own : w'.ownsRow 0 3 1 u l.length (l.map natv)
  same : Same ρ ρ' w
  there : There (Mine ρ') w'
  ext : Ext (fun k => isC (ρ k)) w w'
theorem laid_of {w1 w2 w3 : World} {ρ : Ro} {g i N n k : Nat} {rd : Nat → Bk} {cch : List (List Nat)} {xs : List Value} {mm : Nat → Nat} {uv : Nat → Value} {l : List Nat} {u v : Value} {o : Obj} (hx : Cacx w1 ρ g N rd cch xs mm uv) (hi : i < cch.length)
    (hm2 : MapB w2 ρ (.mp i) (mm i) N (hasC rd (l ++ [n]))) (ht : (w1.drewN k).mapTurned w2 (mm i)) (hg3 : (w2.alloc o).grownBy w3 u.ownBlock) (ho3 : w3.ownsRow 0 3 1 v (l ++ [n]).length ((l ++ [n]).map natv)) (hat : v.ownBlock = u.ownBlock ∨ v.ownBlock = some (w2.alloc o).heap.size)
    (hu : uv i = u) (there : There (Mine ρ) w1) : ∃ ρ', Laid w1 (w3.setCell ⟨g, i * 2 + 1, none⟩ v) ρ ρ' g i N rd cch (l ++ [n]) v := by
  have hs := Cacx.shard hx hi
  rw [hu] at hs
  have ru : ∀ q, u.ownBlock = some q → ρ q = .us i := fun q hq => hs.used.2 q hq
  have rm := hs.map.1
  have rg := hs.rg
  have sz2 : w2.heap.size = w1.heap.size := (turned_size ht).trans rfl
  have sz3 : w1.heap.size + 1 ≤ w3.heap.size := by have := hg3.size; simp at this; omega
  have gl : g < w1.heap.size := row_lt hx.row
  have nu : ∀ q, v.ownBlock = some q → q < w1.heap.size → u.ownBlock = some q := fun q hq hl => by
    rcases hat with h | h
    · rw [← h]; exact hq
    · rw [hq] at h; injection h with h; simp at h; omega
  have far3 : ∀ q, q < w1.heap.size → q ≠ mm i → u.ownBlock ≠ some q → w3.heap[q]? = w1.heap[q]? := fun q q0 q1 q2 =>
    (hg3.block q (by simp; omega) (fun e => q2 e.symm)).trans ((Below.heap_alloc _ _ _ (by omega)).trans ((turned_far ht q1).trans rfl))
  have far : ∀ q, q < w1.heap.size → q ≠ mm i → u.ownBlock ≠ some q → q ≠ g → (w3.setCell ⟨g, i * 2 + 1, none⟩ v).heap[q]? = w1.heap[q]? := fun q q0 q1 q2 q3 =>
    (Below.heap_setCell w3 _ _ q q3).trans (far3 q q0 q1 q2)
  have gm : g ≠ mm i := fun e => by rw [e, rm] at rg; cases rg
  have gu : u.ownBlock ≠ some g := fun e => by have := ru g e; rw [this] at rg; cases rg
  have gv : v.ownBlock ≠ some g := fun e => gu (nu g e gl)
  have um : u.ownBlock ≠ some (mm i) := fun e => by have := ru _ e; rw [this] at rm; cases rm
  have lm : mm i < w1.heap.size := hs.map.lt
  have hrow : (w3.setCell ⟨g, i * 2 + 1, none⟩ v).heap[g]? = some (.cells (xs.set (i * 2 + 1) v).toArray 155 (0, 0)) := by
    have h5 := row_set ((far3 g gl gm gu).trans hx.row) (i * 2 + 1) v
    rw [h5, List.setIfInBounds_toArray]
  have hsame : ∀ q, q < w1.heap.size → (if v.ownBlock = some q then Role.us i else ρ q) = ρ q := fun q hq => by
    split
    · rename_i e; exact (ru q (nu q e hq)).symm
    · rfl
  have hmine : ∀ q, Mine ρ q → (if v.ownBlock = some q then Role.us i else ρ q) = ρ q := fun q hq => hsame q (there q hq)
  have st : ∀ q, ρ q = .still → q < w1.heap.size ∧ q ≠ mm i ∧ u.ownBlock ≠ some q ∧ q ≠ g := fun q hq =>
    ⟨there q (mine_still q hq), (fun e => by rw [e, rm] at hq; cases hq), (fun e => by rw [ru q e] at hq; cases hq), (fun e => by rw [e, rg] at hq; cases hq)⟩
  refine ⟨fun q => if v.ownBlock = some q then .us i else ρ q, ⟨⟨_, mm, _, Cacx.turn hx hi hrow ?_ ?_ hmine (fun q hq => ?_) (fun j hj q hq => ?_)⟩, ?_, ?_, ⟨hsame, fun q hq => by
    by_cases e : v.ownBlock = some q
    · simp only [if_pos e] at hq; exact hq.elim
    · simp only [if_neg e] at hq; exact hq⟩, fun q hq => ?_, ?_⟩⟩
  · refine hm2.keep (fun q hq => ?_) (fun q hq => (hmine q (mine_still q hq)).trans hq) ?_ (hmine _ (mine_of rm (by intro e; cases e)))
    · obtain ⟨a1, a2, a3, a4⟩ := st q hq
      exact (far q a1 a2 a3 a4).trans ((turned_far ht a2).trans rfl).symm
    · exact (Below.heap_setCell w3 _ _ _ (Ne.symm gm)).trans ((hg3.block _ (by simp; omega) (fun e => um e.symm)).trans (Below.heap_alloc _ _ _ (by omega)))
  · exact ⟨own_same ho3 (fun q hq => Below.heap_setCell w3 _ _ q (fun e => gv (by rw [hq, e]))), fun q hq => if_pos hq⟩
  · obtain ⟨a1, a2, a3, a4⟩ := st q hq
    exact far q a1 a2 a3 a4
  · refine far q (there q (mine_c ?_)) ?_ ?_ ?_
    · rcases hq with h | h <;> rw [h] <;> trivial
    · rintro rfl; rw [rm] at hq; rcases hq with h | h
      · injection h with h; exact hj h.symm
      · cases h
    · intro e; rw [ru q e] at hq; rcases hq with h | h
      · cases h
      · injection h with h; exact hj h.symm
    · rintro rfl; rw [rg] at hq; rcases hq with h | h <;> cases h
  · rw [row_cell hrow, List.getElem?_toArray, List.getElem?_set_self (by rw [hx.len]; omega)]
  · exact own_same ho3 (fun q hq => Below.heap_setCell w3 _ _ q (fun e => gv (by rw [hq, e])))
  · unfold Mine at hq
    simp only at hq
    have e1 : (w3.setCell ⟨g, i * 2 + 1, none⟩ v).heap.size = w3.heap.size := by simp [World.setCell]
    rw [e1]
    split at hq
    · rename_i e; exact own_lt ho3 q e
    · have := there q hq; omega
  · have S0 : isC (ρ (mm i)) := by rw [rm]; trivial
    have S2 : isC (ρ g) := by rw [rg]; trivial
    have e3 : Ext (fun q => isC (ρ q) ∨ w1.heap.size ≤ q) (w2.alloc o) w3 := Ext.of_grown hg3 (fun q hq _ => .inl (by rw [ru q hq]; trivial))
    refine Ext.setCell ?_ (.inl S2) _
    have e2 := (((Ext.refl (fun q => isC (ρ q)) w1).drewN k).trans (ext_turned ht S0) (fun _ h => .inl h)).alloc o
    exact e2.trans e3 (fun q hq => hq)
set_option maxRecDepth 100000 in
set_option maxHeartbeats 1600000 in
theorem put_any (b g N n room : Nat) (ρ : Ro) (rd : Nat → Bk) (cch : List (List Nat)) (bv : Value) (w : World) (there : There (Mine ρ) w) (rb : ρ b = .store) (lb : b < w.heap.size)
    (c3 : w.cell? ⟨b, 3, none⟩ = some (.slice (some ⟨g, 0, none⟩) cch.length cch.length)) (c4 : w.cell? ⟨b, 4, none⟩ = some (.int .i64 (room : Int))) (hc : Cac w ρ g N rd cch) (h1 : 1 ≤ cch.length) (h2 : cch.length ≤ 16) (hN : N ≤ 4096) (hn : n < N)
    (hbv : Blk w ρ bv (rd n)) (hnd : (cch.getD (n % cch.length) []).Nodup) (hlen : (cch.getD (n % cch.length) []).length ≤ room) (hr1 : 1 ≤ room) (hr : room ≤ 256) (hsh : ∀ x ∈ cch.getD (n % cch.length) [], x < N ∧ x % cch.length = n % cch.length) :
    Calls Tryz.prog 107 #[.pointer (some ⟨b, 3, none⟩), .int .i64 n, bv] w fun e w' => e = .returned (.tuple #[]) ∧ ∃ ρ', Cac w' ρ' g N rd (cch.set (n % cch.length) (putC room n (cch.getD (n % cch.length) []))) ∧ Same ρ ρ' w ∧ There (Mine ρ') w' ∧ Ext (fun k => isC (ρ k)) w w' := by
  have hi0 : n % cch.length < cch.length := Nat.mod_lt _ (by omega)
  have HD := drop_any b g N n ρ rd cch w there c3 hc h1 h2 (by omega) hnd (by omega)
  have nb : ¬ isC (ρ b) := by rw [rb]; exact id
  obtain ⟨ns, ens⟩ : ∃ ns, cch.length = ns := ⟨_, rfl⟩
  obtain ⟨i, ei⟩ : ∃ i, n % cch.length = i := ⟨_, rfl⟩
  obtain ⟨l, el⟩ : ∃ l, cch.getD i [] = l := ⟨_, rfl⟩
  rw [ei, el] at HD hnd hlen hsh ⊢
  rw [ens] at c3
  have HDD := Lib.hid HD
  have HB := Lib.hid hbv
  have HC := Lib.hid hc
  have HND := Lib.hid hnd
  have HSH := Lib.hid hsh
  have HEI := Lib.hid ei
  have HEL := Lib.hid el
  have HNS := Lib.hid ens
  have HNB := Lib.hid nb
  have HRB := Lib.hid rb
  have HTH := Lib.hid there
  clear HD hbv hc hnd hsh ei el nb ens rb there
  obtain ⟨g0, c0, rest, rfl, _⟩ := id HB.out
  go_enter Tryz.func107, Tryz.ntmps107
  go_wp2_with fail
  refine HDD.out.mono ?_
  rintro e w1 ⟨rfl, hc1, he1⟩
  have b1 : w1.heap[b]? = w.heap[b]? := he1.block b lb HNB.out
  have d3 : w1.cell? ⟨b, 3, none⟩ = some (.slice (some ⟨g, 0, none⟩) ns ns) := (World.cell?_of_block b1).trans c3
  have d4 : w1.cell? ⟨b, 4, none⟩ = some (.int .i64 (room : Int)) := (World.cell?_of_block b1).trans c4
  have HC1 := Lib.hid hc1
  have HE1 := Lib.hid he1
  have HB1 := Lib.hid b1
  clear hc1 he1 b1
  have hns1 : 1 ≤ ns := by have := HNS.out; omega
  have hns2 : ns ≤ 16 := by have := HNS.out; omega
  go_wp2_with fail
  refine (shardOf_i b g ns n i (by rw [← HNS.out]; exact HEI.out) w1 d3 hns1 hns2 (by omega)).mono ?_
  rintro e w2 ⟨rfl, k, rfl⟩
  obtain ⟨xs, mm, uv, hx⟩ := HC1.out
  have hil : i < (cch.set i (dropC n l)).length := by rw [List.length_set, ← HEI.out]; exact hi0
  have hgd : (cch.set i (dropC n l)).getD i [] = dropC n l := getD_set_self (by rw [← HEI.out]; exact hi0) _
  have hs := Cacx.shard hx hil
  rw [hgd] at hs
  obtain ⟨u, hu⟩ : ∃ u, uv i = u := ⟨_, rfl⟩
  rw [hu] at hs
  have th1 := HTH.out.up HE1.out.size
  have hbv1 : Blk (w1.drewN k) ρ (.slice (some ⟨g0, 0, none⟩) 256 c0) (rd n) := HB.out.keep (fun q hq => HE1.out.block q (HTH.out q (mine_still q hq)) (by rw [hq]; exact id)) (fun _ h => h)
  obtain ⟨w2, hrun, hm2, ht⟩ := MapB.put (w := w1.drewN k) (hs.map.keep (fun _ _ => rfl) (fun _ h => h) rfl rfl) hn hN hbv1 (by intro e; cases e)
  rw [hasC_put] at hm2
  have gm : g ≠ mm i := fun e => by have h := hs.rg; rw [e, hs.map.1] at h; cases h
  have k0 : (w1.drewN k).cell? ⟨g, i * 2, none⟩ = some (.map (some (mm i))) := hs.c0
  have t1 : w2.heap[g]? = w1.heap[g]? := (turned_far ht gm).trans rfl
  have u2 : w2.cell? ⟨g, i * 2 + 1, none⟩ = some u := (World.cell?_of_block t1).trans hs.c1
  have f2 : w2.frozen? ⟨g, i * 2 + 1, none⟩ = false := (World.frozen?_of_block t1).trans hs.free
  have gu0 : u.ownBlock ≠ some g := fun e => by have h1 : ρ g = .us i := hs.used.2 g e; have h := hs.rg; rw [h] at h1; cases h1
  have um0 : u.ownBlock ≠ some (mm i) := fun e => by have h1 : ρ (mm i) = .us i := hs.used.2 _ e; rw [hs.map.1] at h1; cases h1
  have gl1 : g < w1.heap.size := row_lt hx.row
  have sz2 : w2.heap.size = w1.heap.size := (turned_size ht).trans rfl
  have ho2 : w2.ownsRow 0 3 1 u (dropC n l).length ((dropC n l).map natv) := own_same hs.used.1 (fun q hq => (turned_far ht (fun e => um0 (by rw [hq, e]))).trans rfl)
  have hd := dropC_len n l
  obtain ⟨l1, hl1⟩ : ∃ l1, dropC n l = l1 := ⟨_, rfl⟩
  rw [hl1] at ho2 hm2 hgd hd
  obtain ⟨m1, hm1⟩ : ∃ m1, m1 = l1.length := ⟨_, rfl⟩
  rw [← hm1] at ho2 hd
  have HX := Lib.hid hx
  have HGD := Lib.hid hgd
  have HM2 := Lib.hid hm2
  have HT := Lib.hid ht
  have HT1 := Lib.hid t1
  have HO2 := Lib.hid ho2
  have HL1 := Lib.hid hl1
  have HM1 := Lib.hid hm1
  have HGU := Lib.hid gu0
  have HU := Lib.hid hu
  have HTH1 := Lib.hid th1
  have HSZ := Lib.hid sz2
  have HGL : Hid (g < w2.heap.size) := by rw [sz2]; exact gl1
  clear hs hx hgd hm2 ht t1 ho2 hl1 hm1 gu0 um0 hu th1 hbv1 gm sz2
  go_wp2_with (at_builtin; go_loud (refine wl_append rfl _ _ 50 rfl 0 3 8 elemI u m1 (l1.map natv) rfl (HO2.out.alloc _) (w2.heap.size + 1) (some ⟨w2.heap.size, 0, none⟩) 1 1 [.int .i64 n] rfl rfl (made_row _ _) (by simp [Value.oneCell']) (by omega) (by unfold maxLen; omega) (Nat.zero_le _) ?_)
               intro v' w3 ho3 hg3 hat3
               go_must (obtain ⟨gv, cap, rfl, -, hgv⟩ := ho3.form (by omega))
               go_must (have t3 : w3.heap[g]? = w2.heap[g]? := (hg3.block g (by have := HGL.out; simp; omega) (fun e => HGU.out e.symm)).trans (Below.heap_alloc _ _ _ HGL.out))
               go_must (have u3 : w3.cell? ⟨g, i * 2 + 1, none⟩ = some u := (World.cell?_of_block t3).trans u2)
               go_must (have f3 : w3.frozen? ⟨g, i * 2 + 1, none⟩ = false := (World.frozen?_of_block t3).trans f2)
               go_must (have HLA := Lib.hid (laid_of (k := k) HX.out (by rw [List.length_set, ← HEI.out]; exact hi0) HM2.out HT.out hg3 (by rw [List.length_append, ← HM1.out, List.map_append]; exact ho3) hat3 HU.out HTH1.out))
               clear t3 ho3 hg3 hat3)
  obtain ⟨ρ', hL⟩ := HLA.out
  clear HLA u3 f3
  generalize w3.setCell ⟨g, i * 2 + 1, none⟩ (.slice (some ⟨gv, 0, none⟩) (m1 + 1) cap) = W5 at *
  have HCA : Hid (Cac W5 ρ' g N rd (cch.set i (l1 ++ [n]))) := by have h := hL.cac; rw [List.set_set] at h; exact h
  have hb5 : W5.heap[b]? = w1.heap[b]? := hL.ext.block b (Nat.lt_of_lt_of_le lb HE1.out.size) HNB.out
  have e3 : W5.cell? ⟨b, 3, none⟩ = some (.slice (some ⟨g, 0, none⟩) ns ns) := (World.cell?_of_block hb5).trans d3
  have e4 : W5.cell? ⟨b, 4, none⟩ = some (.int .i64 (room : Int)) := (World.cell?_of_block hb5).trans d4
  have k5 := hL.cell
  have HL := Lib.hid hL
  clear hL hb5 hrun k0 u2 f2 d3 d4
  have hP : Hid (putC room n l = if room < m1 + 1 then (l1 ++ [n]).tail else l1 ++ [n]) := by
    unfold putC
    rw [HL1.out, List.length_append, ← HM1.out]
    rfl
  have hsame : Hid (Same ρ ρ' w) := Lib.hid ⟨fun q hq => HL.out.same.1 q (Nat.lt_of_lt_of_le hq HE1.out.size), HL.out.same.2⟩
  have hext : Hid (Ext (fun k => isC (ρ k)) w W5) := HE1.out.trans HL.out.ext (fun _ h => .inl h)
  by_cases hgt : room < m1 + 1
  · have hd1 : decide ((room : Int) < (m1 : Int) + 1) = true := by simp; omega
    have hz : W5.cell? ⟨gv, 0, none⟩ = some (.int .i64 ((l1 ++ [n]).getD 0 0 : Nat)) := by
      have h := HL.out.own.cells (g := gv) rfl 0 (natv ((l1 ++ [n]).getD 0 0)) (by cases l1 <;> simp)
      rw [EDelI.addr_off, Nat.zero_add] at h
      exact h
    have hcons : Hid (∃ a r, l1 = a :: r) := by
      cases l1 with
      | nil => have := HM1.out; simp at this; omega
      | cons a r => exact ⟨a, r, rfl⟩
    obtain ⟨a0, ha0⟩ : ∃ a0, (l1 ++ [n]).getD 0 0 = a0 := ⟨_, rfl⟩
    rw [ha0] at hz
    have HA0 : Hid (a0 ∈ l ∧ (l1 ++ [n]) = a0 :: (l1 ++ [n]).tail) := by
      obtain ⟨a, r, hr⟩ := hcons.out
      rw [hr] at ha0
      simp at ha0
      subst ha0
      refine ⟨(mem_dropC.1 (by rw [HL1.out, hr]; simp : a ∈ dropC n l)).1, by rw [hr]; rfl⟩
    clear hcons ha0
    have hm0 : (0 : Int) < (m1 : Int) + 1 := by omega
    go_quiet (fail)
    go_wp2_with fail
    have hlen2 : (cch.set i (l1 ++ [n])).length = ns := by rw [List.length_set]; exact HNS.out
    have ha2 : a0 % (cch.set i (l1 ++ [n])).length = i := by rw [List.length_set]; exact (HSH.out a0 HA0.out.1).2
    have hg2 : (cch.set i (l1 ++ [n])).getD i [] = l1 ++ [n] := getD_set_self (by rw [← HEI.out]; exact hi0) _
    have hnd2 : (l1 ++ [n]).Nodup := by rw [← HL1.out]; exact put_nodup HND.out
    have haN : a0 < N := (HSH.out a0 HA0.out.1).1
    have HDR := drop_any b g N a0 ρ' rd (cch.set i (l1 ++ [n])) (W5.drewN nq) HL.out.there (by rw [hlen2]; exact e3) (HCA.out.keep (fun _ _ => rfl) (fun _ _ => rfl)) (by rw [hlen2]; omega) (by rw [hlen2]; omega) (by omega)
      (by rw [ha2, hg2]; exact hnd2) (by rw [ha2, hg2, List.length_append, ← HM1.out]; simp; omega)
    rw [ha2, hg2, List.set_set] at HDR
    have HDR2 := Lib.hid HDR
    have HT2 : Hid (dropC a0 (l1 ++ [n]) = (l1 ++ [n]).tail) := by
      have h := HA0.out.2
      have h2 := hnd2
      rw [h] at h2
      rw [h]
      exact dropC_head h2
    have HPQ : Hid (putC room n l = (l1 ++ [n]).tail) := hP.out.trans (if_pos hgt)
    clear HDR hlen2 ha2 hg2 hnd2
    refine HDR2.out.mono ?_
    rintro e w7 ⟨rfl, hc7, he7⟩
    have HC7 := Lib.hid hc7
    have HE7 := Lib.hid he7
    clear hc7 he7
    go_wp2
    go_end0
    refine ⟨rfl, ρ', ?_, hsame.out, HL.out.there.up HE7.out.size, hext.out.trans (((Ext.refl _ _).drewN nq).trans HE7.out (fun _ h => .inl h)) (fun q hq => ?_)⟩
    · rw [HPQ.out]
      have := HC7.out
      rw [HT2.out] at this
      exact this
    · by_cases hlt : q < w.heap.size
      · left
        have h1 := hsame.out.1 q hlt
        have hq' : isC (ρ' q) := hq
        rw [h1] at hq'
        exact hq'
      · right; omega
  · have hd1 : decide ((room : Int) < (m1 : Int) + 1) = false := by simp; omega
    have HPQ : Hid (putC room n l = l1 ++ [n]) := hP.out.trans (if_neg hgt)
    go_quiet (fail)
    go_wp2
    go_end0
    refine ⟨rfl, ρ', ?_, hsame.out, HL.out.there, hext.out.drewN _⟩
    rw [HPQ.out]
    exact HCA.out.keep (fun _ _ => rfl) (fun _ _ => rfl)
theorem Cac_rd {w : World} {ρ : Ro} {g N : Nat} {rd rd' : Nat → Bk} {cch : List (List Nat)} (h : Cac w ρ g N rd cch) (hr : ∀ i, i < cch.length → ∀ x ∈ cch.getD i [], rd' x = rd x) : Cac w ρ g N rd' cch := by
  obtain ⟨xs, mm, uv, hx⟩ := h
  refine ⟨xs, mm, uv, ⟨hx.row, hx.rowR, hx.len, hx.cell0, hx.cell1, fun i hi => ?_, hx.used⟩⟩
  have e : hasC rd' (cch.getD i []) = hasC rd (cch.getD i []) := by
    funext j
    unfold hasC
    by_cases hj : j ∈ cch.getD i []
    · rw [if_pos hj, if_pos hj, hr i hi j hj]
    · rw [if_neg hj, if_neg hj]
  rw [e]
  exact hx.map i hi
theorem getD_mem {s : Sto} (_h : s.Wf) {i : Nat} (hi : i < s.cch.length) : s.cch.getD i [] = s.cch[i] := by rw [List.getD_eq_getElem?_getD, List.getElem?_eq_getElem hi]; rfl
end Go.Proofs.YtgjcbfdhpbkhoaaGreatDoor.ECache
/- The store's cache: get, and a new cache. -/
namespace Go.Proofs.YtgjcbfdhpbkhoaaGreatDoor.EGet
open Go.RowKit WMem WPlain WAppend Ext Map DPlain DMem EPlain EMem ECache
set_option maxRecDepth 100000 in
set_option maxHeartbeats 800000 in
theorem get_miss (b g N n : Nat) (ρ : Ro) (rd : Nat → Bk) (cch : List (List Nat)) (w : World) (c3 : w.cell? ⟨b, 3, none⟩ = some (.slice (some ⟨g, 0, none⟩) cch.length cch.length)) (hc : Cac w ρ g N rd cch) (h1 : 1 ≤ cch.length) (h2 : cch.length ≤ 16) (hn : n ≤ 4096)
    (hl : n ∉ cch.getD (n % cch.length) []) :
    Calls Tryz.prog 133 #[.pointer (some ⟨b, 3, none⟩), .int .i64 n] w fun e w' => e = .returned (.tuple #[.slice none 0 0, .bool false]) ∧ ∃ k, w' = w.drewN k := by
  have hi : n % cch.length < cch.length := Nat.mod_lt _ (by omega)
  obtain ⟨xs, mm, uv, hx⟩ := hc
  have hs := Cacx.shard hx hi
  have hz : hasC rd (cch.getD (n % cch.length) []) n = none := if_neg hl
  obtain ⟨v, hk, _, hv⟩ := hs.map.look hn
  rw [hz] at hk
  obtain rfl := hv hz
  have k0 := hs.c0
  have HK := Lib.hid hk
  have HS := shardOf_at b g cch.length n w c3 h1 h2 hn
  clear hk hs hl hz hx hv
  go_enter Tryz.func133, Tryz.ntmps133
  go_wp2_with fail
  refine HS.mono ?_
  rintro e w1 ⟨rfl, k, rfl⟩
  have hk := (HK.out (w.drewN k) rfl).1
  have k1 : (w.drewN k).cell? ⟨g, n % cch.length * 2, none⟩ = some (.map (some (mm (n % cch.length)))) := k0
  go_wp2
  go_ret2
  exact ⟨rfl, k, rfl⟩
set_option maxRecDepth 100000 in
set_option maxHeartbeats 800000 in
theorem get_hit (b g N n room : Nat) (ρ : Ro) (rd : Nat → Bk) (cch : List (List Nat)) (w : World) (there : There (Mine ρ) w) (rb : ρ b = .store) (lb : b < w.heap.size)
    (c3 : w.cell? ⟨b, 3, none⟩ = some (.slice (some ⟨g, 0, none⟩) cch.length cch.length)) (c4 : w.cell? ⟨b, 4, none⟩ = some (.int .i64 (room : Int))) (hc : Cac w ρ g N rd cch) (h1 : 1 ≤ cch.length) (h2 : cch.length ≤ 16) (hN : N ≤ 4096) (hn : n < N)
    (hnd : (cch.getD (n % cch.length) []).Nodup) (hlen : (cch.getD (n % cch.length) []).length ≤ room) (hr1 : 1 ≤ room) (hr : room ≤ 256) (hsh : ∀ x ∈ cch.getD (n % cch.length) [], x < N ∧ x % cch.length = n % cch.length)
    (hl : n ∈ cch.getD (n % cch.length) []) :
    Calls Tryz.prog 133 #[.pointer (some ⟨b, 3, none⟩), .int .i64 n] w fun e w' => ∃ v, e = .returned (.tuple #[v, .bool true]) ∧ Blk w ρ v (rd n) ∧
      ∃ ρ', Cac w' ρ' g N rd (cch.set (n % cch.length) (putC room n (cch.getD (n % cch.length) []))) ∧ Same ρ ρ' w ∧ There (Mine ρ') w' ∧ Ext (fun k => isC (ρ k)) w w' := by
  have hi : n % cch.length < cch.length := Nat.mod_lt _ (by omega)
  have HS := shardOf_at b g cch.length n w c3 h1 h2 (by omega)
  obtain ⟨xs, mm, uv, hx⟩ := id hc
  have hs := Cacx.shard hx hi
  have hz : hasC rd (cch.getD (n % cch.length) []) n = some (rd n) := if_pos hl
  obtain ⟨v, hk, hv, _⟩ := hs.map.look (show n ≤ 4096 by omega)
  rw [hz] at hk
  have hbv := hv _ hz
  have k0 := hs.c0
  have HP : ∀ k, Hid (Calls Tryz.prog 107 #[.pointer (some ⟨b, 3, none⟩), .int .i64 n, v] (w.drewN k) fun e w' => e = .returned (.tuple #[]) ∧ ∃ ρ', Cac w' ρ' g N rd (cch.set (n % cch.length) (putC room n (cch.getD (n % cch.length) []))) ∧ Same ρ ρ' (w.drewN k) ∧ There (Mine ρ') w' ∧ Ext (fun k => isC (ρ k)) (w.drewN k) w') := fun k =>
    put_any b g N n room ρ rd cch v (w.drewN k) there rb lb c3 c4 (hc.keep (fun _ _ => rfl) (fun _ _ => rfl)) h1 h2 hN hn (hbv.keep (fun _ _ => rfl) (fun _ h => h)) hnd hlen hr1 hr hsh
  have HK := Lib.hid hk
  have HV := Lib.hid hbv
  clear hk hs hl hz hx hv hc hnd hlen hsh
  obtain ⟨g0, c0, rest, rfl, _⟩ := id hbv
  clear hbv
  go_enter Tryz.func133, Tryz.ntmps133
  go_wp2_with fail
  refine HS.mono ?_
  rintro e w1 ⟨rfl, k, rfl⟩
  have hk := (HK.out (w.drewN k) rfl).1
  have k1 : (w.drewN k).cell? ⟨g, n % cch.length * 2, none⟩ = some (.map (some (mm (n % cch.length)))) := k0
  go_wp2_with fail
  refine (HP k).out.mono ?_
  rintro e w2 ⟨rfl, hq⟩
  have HQ := Lib.hid hq
  clear hq
  go_wp2
  go_ret2
  obtain ⟨ρ', q1, q2, q3, q4⟩ := HQ.out
  exact ⟨_, rfl, HV.out, ρ', q1, q2, q3, ((Ext.refl _ _).drewN k).trans q4 (fun _ h => .inl h)⟩
end Go.Proofs.YtgjcbfdhpbkhoaaGreatDoor.EGet
