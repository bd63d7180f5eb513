/- The program's table: Leave, Holds, Free. -/
import Derived.Test.YtfaahhipddlmgaaKAsk
namespace Go.Proofs.Ytfaahhipddlmgaa.KLeave
open Go.RowKit WMem Ext KMap KPlain KMem KSeq KFind KDel KAsk

theorem found_at {l : List Cl} {th : Int} {i : Nat} (hp : place l th = some i) : found l th = .tuple #[.int .i64 (i : Int), .agg #[.int .i64 (at_ l i).1, .bool (at_ l i).2, .bool (holdsAt l i)]] := by unfold found; rw [hp]; rfl
theorem found_no {l : List Cl} {th : Int} (hp : place l th = none) : found l th = .tuple #[.int .i64 (-1), .agg #[.int .i64 0, .bool false, .bool false]] := by unfold found; rw [hp]

set_option maxHeartbeats 400000 in
theorem Leave_no (tv : Option Addr) (th key : Int) (l : List Cl) (w : World) (hs : Src w tv key l) (hp : place l th = none) :
    Calls Try.prog 14 #[.pointer tv, .int .i64 th, .int .i64 key] w fun e w' => e = .returned (.int .i64 22) ∧ Below w.heap.size w w' := by
  have hf := find_any tv th key l w hs
  rw [found_no hp] at hf
  have HF := Lib.hid hf
  clear hf hs hp
  go_enter Try.func14, Try.ntmps14
  go_wp2_with (go_at_call 24; refine HF.out.mono ?_; rintro e w' ⟨rfl, hb⟩)
  go_ret
  exact ⟨rfl, hb.alloc hb.size _⟩

theorem leave_ext {w W0 w2 W2 : World} {mb g : Nat} (hw : Below w.heap.size w W0) (hg : W0.grownBy w2 (some g)) (ht : w2.mapTurned W2 mb) : Ext (fun k => k = mb ∨ k = g) w W2 := by
  have e1 : Ext (fun k => k = mb ∨ k = g) w W0 := Ext.of_below hw _
  have e2 : Ext (fun k => k = mb ∨ k = g) W0 w2 := Ext.of_grown hg (fun k hk _ => .inr (Option.some.inj hk).symm)
  have e3 : Ext (fun k => k = mb ∨ k = g) w2 W2 := Ext.of_grown ht.grown (fun k hk _ => .inl (Option.some.inj hk).symm)
  exact (e1.trans e2 (In.refl _ _)).trans e3 (In.refl _ _)

set_option maxRecDepth 100000 in
set_option maxHeartbeats 1600000 in
/-- the last claim of a row goes -/
theorem Leave_last (b mb m g cap i : Nat) (th key : Int) (l : List Cl) (f : Int → Option Value) (w : World) (h1 : l.length = 1)
    (hs : Src w (some ⟨b, 0, none⟩) key l) (hp : place l th = some i) (hk : Fits key)
    (hb : w.heap[b]? = some (.cells #[.map (some mb)] 58 (0, 0))) (hm : KMap.MapIs w mb m f) (hv : (f key).getD (.slice none 0 0) = .slice (some ⟨g, 0, none⟩) l.length cap) (hown : w.ownsRow 0 63 2 (.slice (some ⟨g, 0, none⟩) l.length cap) l.length (cells l)) (hl : l.length ≤ 1073741824) :
    Calls Try.prog 14 #[.pointer (some ⟨b, 0, none⟩), .int .i64 th, .int .i64 key] w fun e w' => e = .returned (.int .i64 0) ∧
      KMap.MapIs w' mb m (KMap.del f key) ∧ Ext (fun k => k = mb ∨ k = g) w w' := by
  have hf := find_any (some ⟨b, 0, none⟩) th key l w hs
  rw [found_at hp] at hf
  have HF := Lib.hid hf
  have HB := Lib.hid hb
  have HM := Lib.hid hm
  have HO := Lib.hid hown
  have HL := Lib.hid (hm.look hk)
  have HV := Lib.hid hv
  have HI := Lib.hid (place_some.1 hp).1
  have hi30 : i ≤ 1073741824 := by have := (place_some.1 hp).1; omega
  have AB := Lib.hid (own_ne hown hb (by decide))
  have AM := Lib.hid (hm.own_ne hown)
  have HN := Lib.hid hl
  have HK := Lib.hid hk
  clear hf hs hp hb hm hown hv hk
  have h10 : Hid (l.length - 1 = 0) := by show _ = _; omega
  clear h1
  go_enter Try.func14, Try.ntmps14
  go_wp2_with (first
    | (go_at_call 24
       refine HF.out.mono ?_
       rintro e w1 ⟨rfl, hb1⟩
       have HW := Lib.hid (hb1.alloc hb1.size (.cells #[.int .i64 (at_ l i).1, .bool (at_ l i).2, .bool (holdsAt l i)] 39))
       have c0 : w1.cell? ⟨b, 0, none⟩ = some (.map (some mb)) := (row_cell (row_below HB.out hb1 (row_lt HB.out)) 0).trans rfl
       have lb : b < w1.heap.size := row_lt (row_below HB.out hb1 (row_lt HB.out))
       have hl2 := (HM.out.keep (HW.out.block _ HM.out.lt)).look HK.out
       rw [HV.out] at hl2
       have HO1 := Lib.hid (own_same HO.out (fun g hg => HW.out.block g (own_lt HO.out g hg)))
       have HB1 := Lib.hid (row_below HB.out HW.out (row_lt HB.out))
       have HM1 := Lib.hid (HM.out.keep (HW.out.block _ HM.out.lt))
       clear hb1)
    | (go_at_call 26
       refine (Delete_own g i cap l _ HI.out HN.out HO1.out).mono ?_
       rintro e w2 ⟨rfl, ho2, hg2⟩
       have c2 : w2.cell? ⟨b, 0, none⟩ = some (.map (some mb)) := (row_cell ((hg2.block b (row_lt HB1.out) (fun e => AB.out e.symm)).trans HB1.out) 0).trans rfl
       have HM2 := Lib.hid (HM1.out.keep (hg2.block mb HM1.out.lt (fun e => AM.out e.symm)))
       have HO2 := Lib.hid ho2
       have HG2 := Lib.hid hg2
       clear ho2 hg2 hl2 c0
       rw [h10.out]
       obtain ⟨W2, hrun, hm3, hturn⟩ := HM2.out.drop HK.out 0
       have HM3 := Lib.hid hm3
       have HT := Lib.hid hturn
       clear hm3 hturn))
  go_ret
  exact ⟨rfl, HM3.out, leave_ext HW.out HG2.out HT.out⟩

set_option maxRecDepth 100000 in
set_option maxHeartbeats 1600000 in
/-- a claim goes, others stay -/
theorem Leave_more (b mb m g cap i k : Nat) (th key : Int) (l : List Cl) (f : Int → Option Value) (w : World) (h1 : l.length = k + 2) (hmm : m ≤ 1073741824)
    (hs : Src w (some ⟨b, 0, none⟩) key l) (hp : place l th = some i) (hk : Fits key)
    (hb : w.heap[b]? = some (.cells #[.map (some mb)] 58 (0, 0))) (hm : KMap.MapIs w mb m f) (hv : (f key).getD (.slice none 0 0) = .slice (some ⟨g, 0, none⟩) l.length cap) (hown : w.ownsRow 0 63 2 (.slice (some ⟨g, 0, none⟩) l.length cap) l.length (cells l)) (hl : l.length ≤ 1073741824) :
    Calls Try.prog 14 #[.pointer (some ⟨b, 0, none⟩), .int .i64 th, .int .i64 key] w fun e w' => e = .returned (.int .i64 0) ∧
      w'.ownsRow 0 63 2 (.slice (some ⟨g, 0, none⟩) (k + 1) cap) (k + 1) (cells (l.take i ++ l.drop (i + 1))) ∧ KMap.MapIs w' mb (m + 1) (upd f key (.slice (some ⟨g, 0, none⟩) (k + 1) cap)) ∧ Ext (fun k => k = mb ∨ k = g) w w' := by
  have hf := find_any (some ⟨b, 0, none⟩) th key l w hs
  rw [found_at hp] at hf
  have HF := Lib.hid hf
  have HB := Lib.hid hb
  have HM := Lib.hid hm
  have HO := Lib.hid hown
  have HL := Lib.hid (hm.look hk)
  have HV := Lib.hid hv
  have HI := Lib.hid (place_some.1 hp).1
  have hi30 : i ≤ 1073741824 := by have := (place_some.1 hp).1; omega
  have AB := Lib.hid (own_ne hown hb (by decide))
  have AM := Lib.hid (hm.own_ne hown)
  have HN := Lib.hid hl
  have HK := Lib.hid hk
  clear hf hs hp hb hm hown hv hk
  have h10 : Hid (l.length - 1 = k + 1) := by show _ = _; omega
  clear h1
  have h11 : ((k : Int) + 1 == 0) = false := by rw [beq_eq_false_iff_ne]; omega
  go_enter Try.func14, Try.ntmps14
  go_wp2_with (first
    | (go_at_call 24
       refine HF.out.mono ?_
       rintro e w1 ⟨rfl, hb1⟩
       have HW := Lib.hid (hb1.alloc hb1.size (.cells #[.int .i64 (at_ l i).1, .bool (at_ l i).2, .bool (holdsAt l i)] 39))
       have c0 : w1.cell? ⟨b, 0, none⟩ = some (.map (some mb)) := (row_cell (row_below HB.out hb1 (row_lt HB.out)) 0).trans rfl
       have lb : b < w1.heap.size := row_lt (row_below HB.out hb1 (row_lt HB.out))
       have hl2 := (HM.out.keep (HW.out.block _ HM.out.lt)).look HK.out
       rw [HV.out] at hl2
       have HO1 := Lib.hid (own_same HO.out (fun g hg => HW.out.block g (own_lt HO.out g hg)))
       have HB1 := Lib.hid (row_below HB.out HW.out (row_lt HB.out))
       have HM1 := Lib.hid (HM.out.keep (HW.out.block _ HM.out.lt))
       clear hb1)
    | (go_at_call 26
       refine (Delete_own g i cap l _ HI.out HN.out HO1.out).mono ?_
       rintro e w2 ⟨rfl, ho2, hg2⟩
       have c2 : w2.cell? ⟨b, 0, none⟩ = some (.map (some mb)) := (row_cell ((hg2.block b (row_lt HB1.out) (fun e => AB.out e.symm)).trans HB1.out) 0).trans rfl
       have HM2 := Lib.hid (HM1.out.keep (hg2.block mb HM1.out.lt (fun e => AM.out e.symm)))
       have HO2 := Lib.hid ho2
       have HG2 := Lib.hid hg2
       clear ho2 hg2 hl2 c0
       rw [h10.out]
       obtain ⟨W2, hrun, hm3, hturn⟩ := HM2.out.store HK.out (by unfold maxLen; omega) (.slice (some ⟨g, 0, none⟩) (k + 1) cap)
       have HM3 := Lib.hid hm3
       have HT := Lib.hid hturn
       clear hm3 hturn))
  go_ret
  refine ⟨rfl, own_same (by have h := HO2.out; rw [h10.out] at h; exact h) (fun q hq => HT.out.grown.block q (own_lt HO2.out q (by simpa [Value.ownBlock] using hq)) (fun e => ?_)), HM3.out, leave_ext HW.out HG2.out HT.out⟩
  exact HM2.out.own_ne HO2.out ((show Value.ownBlock _ = some q by simpa [Value.ownBlock] using hq).trans e)

/-- a claim less -/
theorem Leave_ok (S : Nat → Prop) (b n i : Nat) (R : Rw) (th key : Int) (w : World) (ht : Tab w S b R n) (hk : Fits key) (hn : n < 1073741824) (hp : place (R key) th = some i) :
    Calls Try.prog 14 #[.pointer (some ⟨b, 0, none⟩), .int .i64 th, .int .i64 key] w fun e w' => e = .returned (.int .i64 0) ∧
      Tab w' S b (put R key ((R key).eraseP (isT th))) (n + 1) ∧ Ext S w w' := by
  have ht0 := ht
  obtain ⟨m, mb, f, hx⟩ := ht
  have hi := (place_some.1 hp).1
  have hlong := hx.long key hk
  have hmost := hx.most
  have hr := hx.rows key hk
  cases hf : f key with
  | none =>
    rw [hf] at hr
    have hr : R key = [] := hr
    rw [hr] at hi
    cases hi
  | some v =>
  rw [hf] at hr
  obtain ⟨hne, hown, hS⟩ := hr
  obtain ⟨g, cap, rfl, -, hg⟩ := hown.form (List.length_pos_iff.2 hne)
  have hv : (f key).getD (.slice none 0 0) = .slice (some ⟨g, 0, none⟩) (R key).length cap := by rw [hf]; rfl
  have hsrc : Src w (some ⟨b, 0, none⟩) key (R key) := .inr ⟨S, b, R, n, rfl, ht0, rfl, hk, by omega⟩
  have hSg : S g := hS g rfl
  have hext : ∀ w', Ext (fun k => k = mb ∨ k = g) w w' → Ext S w w' := fun w' he => he.more (fun k _ h => by
    rcases h with e | e
    · subst e; exact hx.inm
    · subst e; exact hSg)
  have hbn : ∀ w', Ext (fun k => k = mb ∨ k = g) w w' → w'.heap[b]? = w.heap[b]? := fun w' he => he.block b (row_lt hx.block) (by
    rintro (e | e)
    · exact hx.map.ne hx.block e
    · exact own_ne hown hx.block (by decide) (e ▸ rfl))
  have hrow : ∀ w', Ext (fun k => k = mb ∨ k = g) w w' → ∀ k, Fits k → k ≠ key → RowIs w' S (f k) (R k) := by
    intro w' he k hkf hne'
    have hr1 := hx.rows k hkf
    cases hfk : f k with
    | none => rw [hfk] at hr1; exact hr1
    | some u =>
      rw [hfk] at hr1
      refine ⟨hr1.1, own_same hr1.2.1 (fun q hq => he.block q (own_lt hr1.2.1 q hq) ?_), hr1.2.2⟩
      rintro (e | e)
      · subst e; exact hx.map.own_ne hr1.2.1 hq
      · subst e; exact hx.apart k key hkf hk hne' _ _ hfk hf (hq.trans rfl)
  have her := erase_at hp
  have hlen : ((R key).eraseP (isT th)).length = (R key).length - 1 := by rw [her]; simp; omega
  by_cases h1 : (R key).length = 1
  · refine (Leave_last b mb m g cap i th key (R key) f w h1 hsrc hp hk hx.block hx.map hv hown (by omega)).mono ?_
    rintro e w' ⟨rfl, q1, q2⟩
    have he0 : (R key).eraseP (isT th) = [] := List.length_eq_zero_iff.1 (by omega)
    refine ⟨rfl, ⟨m, mb, _, hx.here, (hbn w' q2).trans hx.block, hx.inm, q1, fun k hkf => ?_, fun j k hjf hkf hne' u u' hu hu' => ?_, hx.there.up q2.size, by omega, fun k hkf => ?_⟩, hext w' q2⟩
    · by_cases e : k = key
      · subst e
        rw [put_same, he0, show KMap.del f k k = none from if_pos rfl]
        rfl
      · rw [put_other _ _ e, show KMap.del f key k = f k from if_neg e]
        exact hrow w' q2 k hkf e
    · have d : ∀ i x, KMap.del f key i = some x → f i = some x := by
        intro i x hxx
        unfold KMap.del at hxx
        split at hxx
        · cases hxx
        · exact hxx
      exact hx.apart j k hjf hkf hne' u u' (d j u hu) (d k u' hu')
    · by_cases e : k = key
      · subst e; rw [put_same, he0]; exact Nat.zero_le _
      · rw [put_other _ _ e]; exact Nat.le_succ_of_le (hx.long k hkf)
  · obtain ⟨k0, hk0⟩ : ∃ k0, (R key).length = k0 + 2 := ⟨(R key).length - 2, by omega⟩
    refine (Leave_more b mb m g cap i k0 th key (R key) f w hk0 (by omega) hsrc hp hk hx.block hx.map hv hown (by omega)).mono ?_
    rintro e w' ⟨rfl, q0, q1, q2⟩
    refine ⟨rfl, ⟨m + 1, mb, _, hx.here, (hbn w' q2).trans hx.block, hx.inm, q1, fun k hkf => ?_, fun j k hjf hkf hne' u u' hu hu' => ?_, hx.there.up q2.size, by omega, fun k hkf => ?_⟩, hext w' q2⟩
    · by_cases e : k = key
      · subst e
        rw [put_same, show upd f k (Value.slice (some ⟨g, 0, none⟩) (k0 + 1) cap) k = some (.slice (some ⟨g, 0, none⟩) (k0 + 1) cap) from if_pos rfl]
        refine ⟨fun h0 => by rw [h0] at hlen; simp at hlen; omega, ?_, fun q hq => ?_⟩
        · rw [hlen, show (R k).length - 1 = k0 + 1 by omega, her]; exact q0
        · simp [Value.ownBlock] at hq; subst hq; exact hSg
      · rw [put_other _ _ e, show upd f key _ k = f k from if_neg e]
        exact hrow w' q2 k hkf e
    · have key1 : ∀ i, Fits i → i ≠ key → ∀ x, f i = some x → x.ownBlock ≠ some g := fun i hif hi x hxx hgg => hx.apart i key hif hk hi x _ hxx hf (hgg.trans rfl)
      by_cases e : j = key
      · have e' : k ≠ key := fun e' => hne' (e.trans e'.symm)
        rw [show upd f key _ j = some _ from if_pos e] at hu
        rw [show upd f key _ k = f k from if_neg e'] at hu'
        injection hu with hu
        subst hu
        exact fun h => key1 k hkf e' u' hu' h.symm
      · rw [show upd f key _ j = f j from if_neg e] at hu
        by_cases e' : k = key
        · rw [show upd f key _ k = some _ from if_pos e'] at hu'
          injection hu' with hu'
          subst hu'
          exact key1 j hjf e u hu
        · rw [show upd f key _ k = f k from if_neg e'] at hu'
          exact hx.apart j k hjf hkf hne' u u' hu hu'
    · by_cases e : k = key
      · subst e; rw [put_same, hlen]; omega
      · rw [put_other _ _ e]; exact Nat.le_succ_of_le (hx.long k hkf)

/-- Leave, whatever comes in -/
theorem Leave_tab (S : Nat → Prop) (b n : Nat) (R : Rw) (th key : Int) (w : World) (ht : Tab w S b R n) (hk : Fits key) (hn : n < 1073741824) :
    Calls Try.prog 14 #[.pointer (some ⟨b, 0, none⟩), .int .i64 th, .int .i64 key] w fun e w' => e = .returned (.int .i64 (if has (R key) th = true then 0 else 22)) ∧
      ∃ S', Tab w' S' b (leavd R th key) (n + 1) ∧ Ext S w w' ∧ In S' S w := by
  cases hp : place (R key) th with
  | none =>
    have ha := place_none.1 hp
    unfold leavd
    rw [ha]
    refine (Leave_no (some ⟨b, 0, none⟩) th key (R key) w (.inr ⟨S, b, R, n, rfl, ht, rfl, hk, by omega⟩) hp).mono ?_
    rintro e w' ⟨rfl, hb⟩
    exact ⟨rfl, S, (ht.below hb).mono (Nat.le_succ n), Ext.of_below hb S, In.refl _ _⟩
  | some i =>
    have ha : has (R key) th = true := by
      cases hh : has (R key) th with
      | true => rfl
      | false => rw [place_none.2 hh] at hp; cases hp
    unfold leavd
    rw [ha]
    refine (Leave_ok S b n i R th key w ht hk hn hp).mono ?_
    rintro e w' ⟨rfl, h1, h2⟩
    exact ⟨rfl, S, h1, h2, In.refl _ _⟩

set_option maxHeartbeats 400000 in
theorem Holds_any (tv : Option Addr) (th key : Int) (l : List Cl) (w : World) (hs : Src w tv key l) :
    Calls Try.prog 16 #[.pointer tv, .int .i64 th, .int .i64 key] w fun e w' => e = .returned (.bool (match place l th with | none => false | some i => holdsAt l i)) ∧ Below w.heap.size w w' := by
  have hf := find_any tv th key l w hs
  cases hp : place l th with
  | none =>
    rw [found_no hp] at hf
    have HF := Lib.hid hf
    clear hf hs hp
    go_enter Try.func16, Try.ntmps16
    go_wp2_with (go_at_call 24; refine HF.out.mono ?_; rintro e w' ⟨rfl, hb⟩)
    go_ret
    exact ⟨rfl, hb.alloc hb.size _⟩
  | some i =>
    rw [found_at hp] at hf
    have HF := Lib.hid hf
    clear hf hs hp
    go_enter Try.func16, Try.ntmps16
    go_wp2_with (go_at_call 24; refine HF.out.mono ?_; rintro e w' ⟨rfl, hb⟩)
    go_ret
    exact ⟨rfl, hb.alloc hb.size _⟩
theorem Holds_tab (S : Nat → Prop) (b n : Nat) (R : Rw) (th key : Int) (w : World) (ht : Tab w S b R n) (hk : Fits key) (hn : n ≤ 1073741824) :
    Calls Try.prog 16 #[.pointer (some ⟨b, 0, none⟩), .int .i64 th, .int .i64 key] w fun e w' => e = .returned (.bool (holdd R th key)) ∧ Below w.heap.size w w' :=
  Holds_any (some ⟨b, 0, none⟩) th key (R key) w (.inr ⟨S, b, R, n, rfl, ht, rfl, hk, hn⟩)

set_option maxHeartbeats 400000 in
theorem Free_nil (w : World) : Calls Try.prog 20 #[.pointer none] w fun e w' => e = .returned (.bool true) ∧ w' = w := by
  go_enter Try.func20, Try.ntmps20
  go_wp2
  go_ret
  exact ⟨rfl, rfl⟩
set_option maxHeartbeats 400000 in
theorem Free_walk (b mb k : Nat) (w : World) (c0 : w.cell? ⟨b, 0, none⟩ = some (.map (some mb))) (hl : ∀ ty, (Builtin.len_ #[56] ty #[.map (some mb)]).run Try.prog w = .ok (.int .i64 (k : Int)) w) :
    Calls Try.prog 20 #[.pointer (some ⟨b, 0, none⟩)] w fun e w' => e = .returned (.bool (decide (k = 0))) ∧ w' = w := by
  by_cases h : k = 0
  · subst h
    go_enter Try.func20, Try.ntmps20
    go_wp2
    go_ret
    exact ⟨rfl, rfl⟩
  · have h1 : ((k : Int) == 0) = false := by rw [beq_eq_false_iff_ne]; omega
    have h2 : decide (k = 0) = false := by simpa using h
    rw [h2]
    clear h h2
    go_enter Try.func20, Try.ntmps20
    go_wp2
    go_ret
    exact ⟨rfl, rfl⟩
/-- no claims at all -/
def Empty (R : Rw) : Prop := ∀ k, Fits k → R k = []
theorem Free_tab (S : Nat → Prop) (b n : Nat) (R : Rw) (w : World) (ht : Tab w S b R n) :
    Calls Try.prog 20 #[.pointer (some ⟨b, 0, none⟩)] w fun e w' => ∃ q : Bool, e = .returned (.bool q) ∧ (q = true ↔ Empty R) ∧ w' = w := by
  obtain ⟨m, mb, f, hx⟩ := ht
  obtain ⟨k, h1, _, h3⟩ := hx.map.len
  refine (Free_walk b mb k w ((row_cell hx.block 0).trans rfl) h3).mono ?_
  rintro e w' ⟨rfl, rfl⟩
  refine ⟨_, rfl, ?_, rfl⟩
  rw [decide_eq_true_iff, h1]
  constructor
  · intro h j hj
    have hr := hx.rows j hj
    rw [h j hj] at hr
    exact hr
  · intro h j hj
    have hr := hx.rows j hj
    cases hf : f j with
    | none => rfl
    | some v => rw [hf] at hr; exact absurd (h j hj) hr.1
end Go.Proofs.Ytfaahhipddlmgaa.KLeave
