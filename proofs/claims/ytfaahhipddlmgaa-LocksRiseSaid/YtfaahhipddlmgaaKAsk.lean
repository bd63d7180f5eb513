/- The program's table: New and Ask. -/
import Derived.Test.YtfaahhipddlmgaaKFind
import Derived.Test.YtfaahhipddlmgaaKDel
import Derived.Laws.CopyOwn
import Derived.Carry
namespace Go.Proofs.Ytfaahhipddlmgaa.KAsk
open Go.RowKit WMem Ext KMap KPlain KMem KSeq KFind KDel

/-- blocks that a call has made -/
abbrev Made (w w' : World) : Nat → Prop := fun g => w.heap.size ≤ g ∧ g < w'.heap.size
/-- S and what a call has made -/
def Plus (S : Nat → Prop) (w w' : World) : Nat → Prop := fun k => S k ∨ (w.heap.size ≤ k ∧ k < w'.heap.size)
theorem plus_there {w w' : World} {S : Nat → Prop} (h : There S w) (hs : w.heap.size ≤ w'.heap.size) : There (Plus S w w') w' := fun k hk => by
  rcases hk with hk | hk
  · exact Nat.lt_of_lt_of_le (h k hk) hs
  · exact hk.2
theorem plus_in {w w' : World} {S : Nat → Prop} : In (Plus S w w') S w := fun k hk => by
  rcases hk with hk | hk
  · exact .inl hk
  · exact .inr hk.1

theorem new_tab (w : World) : Tab ((w.alloc (.map #[] 0)).alloc (.cells #[.map (some w.heap.size)] 58)) (Made w ((w.alloc (.map #[] 0)).alloc (.cells #[.map (some w.heap.size)] 58))) (w.heap.size + 1) (fun _ => []) 0 := by
  refine ⟨0, w.heap.size, fun _ => none, ⟨by omega, by simp⟩, ?_, ⟨by omega, by simp; omega⟩, (MapIs.made w).alloc _, fun k _ => rfl, fun j k _ _ _ u v h => (by cases h), fun k hk => hk.2, Nat.le_refl _, fun k _ => Nat.le_refl _⟩
  have h := row_new (w.alloc (.map #[] 0)) (.cells #[.map (some w.heap.size)] 58)
  simpa using h
set_option maxHeartbeats 400000 in
theorem New_any (w : World) : Calls Try.prog 11 #[] w fun e w' => ∃ g, e = .returned (.pointer (some ⟨g, 0, none⟩)) ∧ Tab w' (Made w w') g (fun _ => []) 0 ∧ Below w.heap.size w w' := by
  have HD := Lib.hid (new_tab w)
  have hmm := @run_makeMap Try.prog
  go_enter Try.func11, Try.ntmps11
  go_wp2
  go_ret
  exact ⟨w.heap.size + 1, rfl, HD.out, ((Below.refl _ _).alloc (Nat.le_refl _) _).alloc (by simp) _⟩

set_option maxHeartbeats 400000 in
theorem Ask_nil (th key : Int) (al : Bool) (w : World) : Calls Try.prog 12 #[.pointer none, .int .i64 th, .int .i64 key, .bool al] w fun e w' => e = .returned (.int .i64 22) ∧ w' = w := by
  go_enter Try.func12, Try.ntmps12
  go_wp2
  go_ret
  exact ⟨rfl, rfl⟩
set_option maxHeartbeats 400000 in
theorem Ask_out (b : Nat) (th key : Int) (al : Bool) (w : World) (h : th < 1 ∨ 64 < th ∨ key < 0) : Calls Try.prog 12 #[.pointer (some ⟨b, 0, none⟩), .int .i64 th, .int .i64 key, .bool al] w fun e w' => e = .returned (.int .i64 22) ∧ w' = w := by
  by_cases h1 : th < 1
  · clear h
    go_enter Try.func12, Try.ntmps12
    go_wp2
    go_ret
    exact ⟨rfl, rfl⟩
  · by_cases h2 : 64 < th
    · clear h
      have h3 : decide (th < 1) = false := by simpa using h1
      clear h1
      go_enter Try.func12, Try.ntmps12
      go_wp2
      go_ret
      exact ⟨rfl, rfl⟩
    · have h3 : decide (th < 1) = false := by simpa using h1
      have h4 : decide (th > 64) = false := by simpa using h2
      have h5 : key < 0 := by omega
      clear h h1 h2
      go_enter Try.func12, Try.ntmps12
      go_wp2
      go_ret
      exact ⟨rfl, rfl⟩
theorem Ask_has (b : Nat) (th key : Int) (al : Bool) (l : List Cl) (i : Nat) (w : World) (h1 : 1 ≤ th) (h2 : th ≤ 64) (h3 : 0 ≤ key) (hs : Src w (some ⟨b, 0, none⟩) key l) (hp : place l th = some i) :
    Calls Try.prog 12 #[.pointer (some ⟨b, 0, none⟩), .int .i64 th, .int .i64 key, .bool al] w fun e w' => e = .returned (.int .i64 22) ∧ Below w.heap.size w w' := by
  have hf := find_any (some ⟨b, 0, none⟩) th key l w hs
  have e : found l th = .tuple #[.int .i64 (i : Int), told l i] := by unfold found; rw [hp]
  rw [e] at hf
  unfold told at hf
  have HF := Lib.hid hf
  have q1 : decide (th < 1) = false := by simpa using h1
  have q2 : decide (th > 64) = false := by simpa using h2
  have q3 : decide (key < 0) = false := by simpa using h3
  clear hf hs hp e h1 h2 h3
  go_enter Try.func12, Try.ntmps12
  go_wp2_with (go_at_call 24; refine HF.out.mono ?_; rintro e w' ⟨rfl, hb⟩)
  go_ret
  exact ⟨rfl, hb.alloc hb.size _⟩

theorem ask_end {w W0 w2 W2 : World} {mb m n gg cap : Nat} {v : Value} {l : List Cl} {c : Cl} {f f' : Int → Option Value} {o : Obj} (hw : Below w.heap.size w W0) (hown1 : w2.ownsRow 0 63 2 (.slice (some ⟨gg, 0, none⟩) n cap) n (cells l ++ [.int .i64 c.1, .bool c.2]))
    (hgrow : (W0.alloc o).drew.grownBy w2 v.ownBlock) (hat : v.ownBlock = some gg ∨ gg = W0.heap.size + 1) (hm2 : KMap.MapIs w2 mb m f) (hm3 : KMap.MapIs W2 mb (m + 1) f') (hturn : w2.mapTurned W2 mb) :
    W2.ownsRow 0 63 2 (.slice (some ⟨gg, 0, none⟩) n cap) n (cells (l ++ [c])) ∧ (v.ownBlock = some gg ∨ w.heap.size ≤ gg) ∧ KMap.MapIs W2 mb (m + 1) f' ∧ Ext (fun k => k = mb ∨ v.ownBlock = some k) w W2 := by
  have hs := hw.size
  refine ⟨?_, ?_, hm3, ?_⟩
  · rw [cells_append, cells_one]
    refine own_same hown1 (fun g hg => hturn.grown.block g (own_lt hown1 g hg) (fun e => ?_))
    exact hm2.own_ne hown1 (hg.trans e)
  · rcases hat with h | h
    · exact .inl h
    · exact .inr (by omega)
  · have e1 : Ext (fun k => k = mb ∨ v.ownBlock = some k) w (W0.alloc o).drew := ((Ext.of_below hw _).alloc o).drew
    have e2 : Ext (fun k => k = mb ∨ v.ownBlock = some k) (W0.alloc o).drew w2 := Ext.of_grown hgrow (fun k hk _ => .inr hk)
    have e3 : Ext (fun k => k = mb ∨ v.ownBlock = some k) w2 W2 := Ext.of_grown hturn.grown (fun k hk _ => .inl (Option.some.inj hk).symm)
    exact (e1.trans e2 (In.refl _ _)).trans e3 (In.refl _ _)

theorem map_nil (mb : Nat) (w : World) : (binOp .eql 56 (.map (some mb)) (.map none)).run Try.prog w = .ok (.bool false) w := by
  kernel_rfl

set_option maxRecDepth 100000 in
set_option maxHeartbeats 3200000 in
theorem Ask_walk (b mb m : Nat) (th key : Int) (al : Bool) (l : List Cl) (v : Value) (f : Int → Option Value) (w : World) (h1 : 1 ≤ th) (h2 : th ≤ 64) (h3 : 0 ≤ key) (hs : Src w (some ⟨b, 0, none⟩) key l) (hp : place l th = none) (hk : Fits key)
    (hb : w.heap[b]? = some (.cells #[.map (some mb)] 58 (0, 0))) (hm : KMap.MapIs w mb m f) (hv : (f key).getD (.slice none 0 0) = v) (hown : w.ownsRow 0 63 2 v l.length (cells l)) (hl : l.length ≤ 1073741824) (hmm : m ≤ 1073741824) :
    Calls Try.prog 12 #[.pointer (some ⟨b, 0, none⟩), .int .i64 th, .int .i64 key, .bool al] w fun e w' => e = .returned (.int .i64 0) ∧
      ∃ gg cap, w'.ownsRow 0 63 2 (.slice (some ⟨gg, 0, none⟩) (l.length + 1) cap) (l.length + 1) (cells (l ++ [(th, al)])) ∧ (v.ownBlock = some gg ∨ w.heap.size ≤ gg) ∧
        KMap.MapIs w' mb (m + 1) (upd f key (.slice (some ⟨gg, 0, none⟩) (l.length + 1) cap)) ∧ Ext (fun k => k = mb ∨ v.ownBlock = some k) w w' := by
  have hf := find_any (some ⟨b, 0, none⟩) th key l w hs
  have e : found l th = .tuple #[.int .i64 (-1), .agg #[.int .i64 0, .bool false, .bool false]] := by unfold found; rw [hp]
  rw [e] at hf
  have HF := Lib.hid hf
  have q1 : decide (th < 1) = false := by simpa using h1
  have q2 : decide (th > 64) = false := by simpa using h2
  have q3 : decide (key < 0) = false := by simpa using h3
  obtain ⟨i0, hi0, hz0, hz1, hz2⟩ := info_parts infoK
  have HB := Lib.hid hb
  have HM := Lib.hid hm
  have HO := Lib.hid hown
  have HV := Lib.hid hv
  have AB := Lib.hid (own_ne hown hb (by decide))
  have AM := Lib.hid (hm.own_ne hown)
  clear hf hs hp e h1 h2 h3 hb hm hown hv
  go_enter Try.func12, Try.ntmps12
  go_wp2_with (go_at_call 24; refine HF.out.mono ?_; rintro e w1 ⟨rfl, hb1⟩; have c0 : w1.cell? ⟨b, 0, none⟩ = some (.map (some mb)) := ((row_cell (row_below HB.out hb1 (row_lt HB.out)) 0).trans rfl); have lb : b < w1.heap.size := row_lt (row_below HB.out hb1 (row_lt HB.out)); have hmn := map_nil mb)
  have HW : Hid (Below w.heap.size w (w1.alloc (.cells #[.int .i64 0, .bool false, .bool false] 39))) := hb1.alloc hb1.size _
  generalize w1.alloc (.cells #[.int .i64 0, .bool false, .bool false] 39) = W0 at *
  clear hb1 c0 lb hmn
  have hsz := HW.out.size
  have HB0 := Lib.hid (row_below HB.out HW.out (row_lt HB.out))
  have HM0 := Lib.hid (HM.out.keep (HW.out.block _ HM.out.lt))
  have HO0 := Lib.hid (own_same HO.out (fun g hg => HW.out.block g (own_lt HO.out g hg)))
  have lb0 : b < W0.heap.size := row_lt HB0.out
  have lm0 : mb < W0.heap.size := HM0.out.lt
  have c1 : W0.cell? ⟨b, 0, none⟩ = some (.map (some mb)) := (row_cell HB0.out 0).trans rfl
  have HNEW : Hid ((W0.alloc (.cells #[.int .i64 th, .bool al] 63)).drew.heap[W0.heap.size]? = some (.cells #[.int .i64 th, .bool al] 63 (0, 0))) := row_new W0 _
  have hl1 := (HM0.out.drewN 1).look hk
  have hl2 := ((HM0.out.alloc (.cells #[.int .i64 th, .bool al] 63)).drewN 1).look hk
  rw [HV.out] at hl1 hl2
  have hl1 : (Instr.lookup 56 (.map (some mb)) (.int .i64 key) false).run Try.prog W0.drew = .ok v W0.drew := hl1
  have hl2 : (Instr.lookup 56 (.map (some mb)) (.int .i64 key) false).run Try.prog (W0.alloc (.cells #[.int .i64 th, .bool al] 63)).drew = .ok v (W0.alloc (.cells #[.int .i64 th, .bool al] 63)).drew := hl2
  go_region_law
    ((refine step_append_lies _ (by rfl) _ _ _ (by rfl) 0 63 i0 _ 2 16 underK hi0 hz0 hz1 hz2 rfl (by omega) v l.length (cells l) (by rfl) ((HO0.out.alloc _).drew)
        ⟨W0.heap.size, 0, none⟩ 1 1 [.int .i64 th, .bool al] (by rfl) (by rfl) (World.news_of_block (cs := #[.int .i64 th, .bool al]) (t := 63) (fr := (0, 0)) HNEW.out) (by simp [Value.oneCell'])
        (by omega) (by unfold maxLen; omega) (by omega) (by omega) (W0.heap.size + 1) (by simp) ?_; intro gg cap w2 hown1 hgrow hat hlt
      have k1 : w2.cell? ⟨b, 0, none⟩ = some (.map (some mb)) := (hgrow.cell_far _ (by simp; omega) (Ne.symm AB.out)).trans ((row_cell (row_alloc HB0.out _) 0).trans rfl)
      have hm2 : KMap.MapIs w2 mb m f := HM0.out.keep ((hgrow.block mb (by simp; omega) (Ne.symm AM.out)).trans (Below.heap_alloc W0 _ mb lm0))
      obtain ⟨W2, hrun, hm3, hturn⟩ := hm2.store hk (by unfold maxLen; omega) (.slice (some ⟨gg, 0, none⟩) (l.length + 1) cap)))
  all_goals
    have HE := Lib.hid (ask_end (c := (th, al)) HW.out hown1 hgrow hat hm2 hm3 hturn)
    clear hown1 hgrow hat hlt hm2 hm3 hturn hrun k1 hl1 hl2 c1
    go_wp2
    go_ret
    exact ⟨rfl, gg, cap, HE.out⟩

/-- a claim more -/
theorem Ask_ok (S : Nat → Prop) (b n : Nat) (R : Rw) (th key : Int) (al : Bool) (w : World) (ht : Tab w S b R n) (hk : Fits key) (hn : n < 1073741824) (h1 : 1 ≤ th) (h2 : th ≤ 64) (h3 : 0 ≤ key) (hp : place (R key) th = none) :
    Calls Try.prog 12 #[.pointer (some ⟨b, 0, none⟩), .int .i64 th, .int .i64 key, .bool al] w fun e w' => e = .returned (.int .i64 0) ∧
      ∃ S', Tab w' S' b (put R key (R key ++ [(th, al)])) (n + 1) ∧ Ext S w w' ∧ In S' S w := by
  have ht0 := ht
  obtain ⟨m, mb, f, hx⟩ := ht
  obtain ⟨v, hv⟩ : ∃ v, (f key).getD (.slice none 0 0) = v := ⟨_, rfl⟩
  have hr := hx.rows key hk
  have hown : w.ownsRow 0 63 2 v (R key).length (cells (R key)) ∧ ∀ g, v.ownBlock = some g → S g := by
    cases hf : f key with
    | none =>
      rw [hf] at hr hv
      have hr : R key = [] := hr
      rw [hr]
      subst hv
      exact ⟨World.ownsRow_nil _ _ _ _, fun g hg => by cases hg⟩
    | some u =>
      rw [hf] at hr hv
      subst hv
      exact hr.2
  have hlong := hx.long key hk
  have hmost := hx.most
  refine (Ask_walk b mb m th key al (R key) v f w h1 h2 h3 (.inr ⟨S, b, R, n, rfl, ht0, rfl, hk, by omega⟩) hp hk hx.block hx.map hv hown.1 (by omega) (by omega)).mono ?_
  rintro e w' ⟨rfl, gg, cap, q1, q2, q3, q4⟩
  have hs := q4.size
  -- other blocks of the table stay
  have hblk : w'.heap[b]? = w.heap[b]? := q4.block b (row_lt hx.block) (by
    rintro (e | e)
    · exact hx.map.ne hx.block e
    · exact own_ne hown.1 hx.block (by decide) e)
  have hrow : ∀ k, Fits k → k ≠ key → ∀ u, f k = some u → ∀ g, u.ownBlock = some g → w'.heap[g]? = w.heap[g]? := by
    intro k hkf hne u hu g hg
    have hr1 := hx.rows k hkf
    rw [hu] at hr1
    refine q4.block g (own_lt hr1.2.1 g hg) ?_
    rintro (e | e)
    · subst e
      exact hx.map.own_ne hr1.2.1 hg
    · cases hf : f key with
      | none => rw [hf] at hv; subst hv; cases e
      | some u' =>
        rw [hf] at hv
        have hv : u' = v := hv
        subst hv
        exact hx.apart k key hkf hk hne u u' hu hf (hg.trans e.symm)
  refine ⟨rfl, Plus S w w', ⟨m + 1, mb, _, .inl hx.here, hblk.trans hx.block, .inl hx.inm, q3, fun k hkf => ?_, fun j k hjf hkf hne u u' hu hu' => ?_, plus_there hx.there hs, by omega, fun k hkf => ?_⟩, q4.more (fun k _ h => ?_), plus_in⟩
  · by_cases e : k = key
    · subst e
      rw [put_same, show upd f k (Value.slice (some ⟨gg, 0, none⟩) ((R k).length + 1) cap) k = some (.slice (some ⟨gg, 0, none⟩) ((R k).length + 1) cap) from if_pos rfl]
      refine ⟨by simp, by rw [List.length_append]; exact q1, fun g hg => ?_⟩
      simp [Value.ownBlock] at hg
      subst hg
      rcases q2 with h | h
      · exact .inl (hown.2 _ h)
      · exact .inr ⟨h, own_lt q1 _ rfl⟩
    · rw [put_other _ _ e, show upd f key _ k = f k from if_neg e]
      cases hf : f k with
      | none => have h := hx.rows k hkf; rw [hf] at h; exact h
      | some u =>
        have h := hx.rows k hkf
        rw [hf] at h
        exact ⟨h.1, own_same h.2.1 (hrow k hkf e u hf), fun g hg => .inl (h.2.2 g hg)⟩
  · have key1 : ∀ i, Fits i → i ≠ key → ∀ x, f i = some x → x.ownBlock ≠ some gg := by
      intro i hif hi x hxx hgg
      have h := hx.rows i hif
      rw [hxx] at h
      rcases q2 with h1 | h1
      · cases hf : f key with
        | none => rw [hf] at hv; subst hv; cases h1
        | some u' =>
          rw [hf] at hv
          have hv : u' = v := hv
          subst hv
          exact hx.apart i key hif hk hi x u' hxx hf (hgg.trans h1.symm)
      · have := own_lt h.2.1 gg hgg
        omega
    by_cases e : j = key
    · have e' : k ≠ key := fun e' => hne (e.trans e'.symm)
      rw [show upd f key _ j = some _ from if_pos e] at hu
      rw [show upd f key _ k = f k from if_neg e'] at hu'
      injection hu with hu
      subst hu
      exact fun h => key1 k hkf e' u' hu' h.symm
    · rw [show upd f key _ j = f j from if_neg e] at hu
      by_cases e' : k = key
      · rw [show upd f key _ k = some _ from if_pos e'] at hu'
        injection hu' with hu'
        subst hu'
        exact key1 j hjf e u hu
      · rw [show upd f key _ k = f k from if_neg e'] at hu'
        exact hx.apart j k hjf hkf hne u u' hu hu'
  · by_cases e : k = key
    · subst e
      rw [put_same, List.length_append]
      have := hx.long k hkf
      simp only [List.length_cons, List.length_nil]
      omega
    · rw [put_other _ _ e]
      exact Nat.le_succ_of_le (hx.long k hkf)
  · rcases h with e | e
    · subst e; exact hx.inm
    · exact hown.2 _ e

/-- Ask, whatever comes in -/
theorem Ask_tab (S : Nat → Prop) (b n : Nat) (R : Rw) (th key : Int) (al : Bool) (w : World) (ht : Tab w S b R n) (hk : Fits key) (hn : n < 1073741824) :
    Calls Try.prog 12 #[.pointer (some ⟨b, 0, none⟩), .int .i64 th, .int .i64 key, .bool al] w fun e w' => e = .returned (.int .i64 (if askOk R th key = true then 0 else 22)) ∧
      ∃ S', Tab w' S' b (askd R th key al) (n + 1) ∧ Ext S w w' ∧ In S' S w := by
  by_cases h1 : 1 ≤ th ∧ th ≤ 64 ∧ 0 ≤ key
  · obtain ⟨h1, h2, h3⟩ := h1
    cases hp : place (R key) th with
    | none =>
      have ha : askOk R th key = true := by simp [askOk, h1, h2, h3, place_none.1 hp]
      rw [if_pos ha]
      unfold askd
      rw [if_pos ha]
      exact Ask_ok S b n R th key al w ht hk hn h1 h2 h3 hp
    | some i =>
      have ha : ¬ askOk R th key = true := by
        have : has (R key) th = true := by
          cases hh : has (R key) th with
          | true => rfl
          | false => rw [place_none.2 hh] at hp; cases hp
        simp [askOk, this]
      rw [if_neg ha]
      unfold askd
      rw [if_neg ha]
      refine (Ask_has b th key al (R key) i w h1 h2 h3 (.inr ⟨S, b, R, n, rfl, ht, rfl, hk, by omega⟩) hp).mono ?_
      rintro e w' ⟨rfl, hb⟩
      exact ⟨rfl, S, (ht.below hb).mono (Nat.le_succ n), Ext.of_below hb S, In.refl _ _⟩
  · have ha : ¬ askOk R th key = true := by
      simp only [askOk, Bool.and_eq_true, decide_eq_true_eq]
      rintro ⟨⟨⟨q1, q2⟩, q3⟩, _⟩
      exact h1 ⟨q1, q2, q3⟩
    rw [if_neg ha]
    unfold askd
    rw [if_neg ha]
    refine (Ask_out b th key al w (by omega)).mono ?_
    rintro e w' ⟨rfl, rfl⟩
    exact ⟨rfl, S, ht.mono (Nat.le_succ n), Ext.refl _ _, In.refl _ _⟩
end Go.Proofs.Ytfaahhipddlmgaa.KAsk
