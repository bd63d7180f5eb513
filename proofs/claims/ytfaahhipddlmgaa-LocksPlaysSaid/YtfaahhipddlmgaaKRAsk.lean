/- The document's locks in memory: Ask and Leave. -/
import Derived.Test.YtfaahhipddlmgaaKRMem
import Derived.Deep.AppendLies
namespace Go.Proofs.Ytfaahhipddlmgaa.KRAsk
open Go.RowKit WMem Ext KMap KPlain KMem KDel KAsk KLeave KClaims KLaw KScript KBits KAPlain KRPlain KRMem

theorem infoR : (Try.prog.info? 66).map (fun i => (i.zero, i.size, i.bytes)) = some (some (.agg #[.int .i64 0, .int .i64 0, .bool false]), 3, 24) := by kernel_rfl
theorem underR : Try.prog.underlying 27 = some (.slice 66) := by kernel_rfl

set_option maxHeartbeats 400000 in
theorem rAsk_out (b : Nat) (th key : Int) (al : Bool) (w : World) (h : th < 1 ∨ 64 < th ∨ key < 0) : Calls Try.prog 13 #[.pointer (some ⟨b, 0, none⟩), .int .i64 th, .int .i64 key, .bool al] w fun e w' => e = .returned (.int .i64 22) ∧ w' = w := by
  by_cases h1 : th < 1
  · clear h
    go_enter Try.func13, Try.ntmps13
    go_wp2
    go_ret
    exact ⟨rfl, rfl⟩
  · by_cases h2 : 64 < th
    · clear h
      have h3 : decide (th < 1) = false := by simpa using h1
      clear h1
      go_enter Try.func13, Try.ntmps13
      go_wp2
      go_ret
      exact ⟨rfl, rfl⟩
    · have h3 : decide (th < 1) = false := by simpa using h1
      have h4 : decide (th > 64) = false := by simpa using h2
      have h5 : key < 0 := by omega
      clear h h1 h2
      go_enter Try.func13, Try.ntmps13
      go_wp2
      go_ret
      exact ⟨rfl, rfl⟩
theorem rAsk_has (S : Nat → Prop) (b : Nat) (L : List E) (th key : Int) (al : Bool) (i : Nat) (w : World) (h : RT w S b L) (hl : L.length ≤ 1073741824) (h1 : 1 ≤ th) (h2 : th ≤ 64) (h3 : 0 ≤ key) (hp : placeE L th key = some i) :
    Calls Try.prog 13 #[.pointer (some ⟨b, 0, none⟩), .int .i64 th, .int .i64 key, .bool al] w fun e w' => e = .returned (.int .i64 22) ∧ w' = w := by
  have hat := At_ok S b L th key w h hl
  have e : atV L th key = (i : Int) := by unfold atV; rw [hp]
  rw [e] at hat
  have HAT := Lib.hid hat
  have q1 : decide (th < 1) = false := by simpa using h1
  have q2 : decide (th > 64) = false := by simpa using h2
  have q3 : decide (key < 0) = false := by simpa using h3
  clear hat e hp h h1 h2 h3 hl
  go_enter Try.func13, Try.ntmps13
  go_wp2_with (go_at_call 25; refine HAT.out.mono ?_; rintro e w' ⟨rfl, rfl⟩)
  go_ret
  exact ⟨rfl, rfl⟩
/-- another list of claims is stored -/
theorem rt_store {w w1 : World} {S : Nat → Prop} {b : Nat} {L L2 : List E} {v : Value} {A2 : Option Addr} {c2 : Nat} (hx : RTx w S b L v) (he : Ext (fun k => v.ownBlock = some k) w w1) (hb1 : w1.heap[b]? = some (.cells #[v] 29 (0, 0)))
    (ho : w1.ownsRow 0 66 3 (.slice A2 L2.length c2) L2.length (ecells L2)) (hat : ∀ g, (Value.slice A2 L2.length c2).ownBlock = some g → v.ownBlock = some g ∨ w.heap.size ≤ g) :
    RT (w1.setCell ⟨b, 0, none⟩ (.slice A2 L2.length c2)) (Plus S w (w1.setCell ⟨b, 0, none⟩ (.slice A2 L2.length c2))) b L2 ∧ Ext S w (w1.setCell ⟨b, 0, none⟩ (.slice A2 L2.length c2)) ∧ In (Plus S w (w1.setCell ⟨b, 0, none⟩ (.slice A2 L2.length c2))) S w := by
  have hset := row_set hb1 0 (.slice A2 L2.length c2)
  have hab := own_ne ho hb1 (by decide)
  have hsz : w.heap.size ≤ (w1.setCell ⟨b, 0, none⟩ (.slice A2 L2.length c2)).heap.size := by simpa [World.setCell] using he.size
  have ho2 : (w1.setCell ⟨b, 0, none⟩ (.slice A2 L2.length c2)).ownsRow 0 66 3 (.slice A2 L2.length c2) L2.length (ecells L2) := own_same ho (fun g hg => Below.heap_setCell _ _ _ g (fun e => hab (by rw [hg, e])))
  refine ⟨⟨_, .inl hx.here, by simpa using hset, ⟨ho2, fun g hg => ?_⟩, plus_there hx.there hsz⟩, (he.more (fun k _ hk => hx.row.2 k hk)).setCell (.inl hx.here) _, plus_in⟩
  rcases hat g hg with h | h
  · exact .inl (hx.row.2 g h)
  · exact .inr ⟨h, own_lt ho2 g hg⟩

set_option maxRecDepth 100000 in
set_option maxHeartbeats 1600000 in
theorem rAsk_ok (S : Nat → Prop) (b : Nat) (L : List E) (th key : Int) (al : Bool) (w : World) (h : RT w S b L) (hl : L.length < 1073741824) (h1 : 1 ≤ th) (h2 : th ≤ 64) (h3 : 0 ≤ key) (hp : placeE L th key = none) :
    Calls Try.prog 13 #[.pointer (some ⟨b, 0, none⟩), .int .i64 th, .int .i64 key, .bool al] w fun e w' => e = .returned (.int .i64 0) ∧ ∃ S', RT w' S' b (L ++ [(th, key, al)]) ∧ Ext S w w' ∧ In S' S w := by
  have hat := At_ok S b L th key w h (by omega)
  have e : atV L th key = -1 := by unfold atV; rw [hp]
  rw [e] at hat
  have HAT := Lib.hid hat
  have q1 : decide (th < 1) = false := by simpa using h1
  have q2 : decide (th > 64) = false := by simpa using h2
  have q3 : decide (key < 0) = false := by simpa using h3
  obtain ⟨i0, hi0, hz0, hz1, hz2⟩ := info_parts infoR
  obtain ⟨v, hx⟩ := h
  obtain ⟨A, c, rfl⟩ := own_form hx.row.1
  have HX := Lib.hid hx
  have HO := Lib.hid hx.row.1
  have c0 : w.cell? ⟨b, 0, none⟩ = some (.slice A L.length c) := (row_cell hx.block 0).trans rfl
  have lb : b < w.heap.size := row_lt hx.block
  have AB := Lib.hid (own_ne hx.row.1 hx.block (by decide))
  have HL : Hid (L.length < 1073741824) := hl
  clear hat e hp h1 h2 h3 hx
  go_enter Try.func13, Try.ntmps13
  go_wp2_with (first
    | (go_at_call 25; refine HAT.out.mono ?_; rintro e w' ⟨rfl, hww⟩; have hww := hww.symm; subst hww)
    | (at_builtin
       refine wpList_append_lies _ rfl _ _ 27 rfl 0 66 i0 _ 3 24 underR hi0 hz0 hz1 hz2 rfl (by decide) (.slice A L.length c) L.length (ecells L) rfl (HO.out.alloc _) ⟨_, 0, none⟩ 1 1 [.int .i64 th, .int .i64 key, .bool al] rfl rfl (World.news_of_block (cs := #[.int .i64 th, .int .i64 key, .bool al]) (t := 66) (fr := (0, 0)) (row_new _ _)) (by simp [Value.oneCell']) (by omega) (by unfold maxLen; omega) (by omega) (Nat.zero_le _) _ rfl ?_
       intro g cap w1 hown hgrow hat hlt
       have HB1 := Lib.hid ((hgrow.block b (by simp; omega) (fun e => AB.out e.symm)).trans (row_alloc HX.out.block _))
       have k1 : w1.cell? ⟨b, 0, none⟩ = some (.slice A L.length c) := (row_cell HB1.out 0).trans rfl
       have k2 : w1.frozen? ⟨b, 0, none⟩ = false := row_free HB1.out 0
       have HOW := Lib.hid hown
       have HGR := Lib.hid hgrow
       have HAT2 := Lib.hid hat
       have HLT := Lib.hid hlt
       clear hown hgrow hat hlt))
  have hin := HX.out.here
  have HE : Hid (Ext (fun k => (Value.slice A L.length c).ownBlock = some k) w w1) := ((Ext.refl _ w).alloc _).trans (Ext.of_grown HGR.out (fun k hk _ => hk)) (In.refl _ _)
  have HR := Lib.hid (rt_store (L2 := L ++ [(th, key, al)]) (A2 := some ⟨g, 0, none⟩) (c2 := cap) HX.out HE.out HB1.out (by rw [List.length_append, ecells_append]; exact HOW.out) (fun q hq => by
    simp [Value.ownBlock] at hq
    subst hq
    rcases HAT2.out with h | h
    · exact .inl h
    · exact .inr (by rw [h]; simp)))
  go_ret
  rw [List.length_append] at HR
  exact ⟨rfl, _, HR.out⟩

/-- Ask, whatever comes in -/
theorem rAsk_any (S : Nat → Prop) (b : Nat) (L : List E) (th key : Int) (al : Bool) (w : World) (h : RT w S b L) (hl : L.length < 1073741824) (q : Int) (hq : (if rOk L th key = true then 0 else 22) = q) :
    Calls Try.prog 13 #[.pointer (some ⟨b, 0, none⟩), .int .i64 th, .int .i64 key, .bool al] w fun e w' => e = .returned (.int .i64 q) ∧ ∃ S', RT w' S' b (rAsk L th key al) ∧ Ext S w w' ∧ In S' S w := by
  subst hq
  by_cases h1 : 1 ≤ th ∧ th ≤ 64 ∧ 0 ≤ key
  · obtain ⟨h1, h2, h3⟩ := h1
    cases hp : placeE L th key with
    | none =>
      have ha : rOk L th key = true := by simp [rOk, h1, h2, h3, hp]
      rw [if_pos ha]
      unfold rAsk
      rw [if_pos ha]
      exact rAsk_ok S b L th key al w h hl h1 h2 h3 hp
    | some i =>
      have ha : ¬ rOk L th key = true := by simp [rOk, hp]
      rw [if_neg ha]
      unfold rAsk
      rw [if_neg ha]
      refine (rAsk_has S b L th key al i w h (by omega) h1 h2 h3 hp).mono ?_
      rintro e w' ⟨rfl, rfl⟩
      exact ⟨rfl, S, h, Ext.refl _ _, In.refl _ _⟩
  · have ha : ¬ rOk L th key = true := by
      simp only [rOk, Bool.and_eq_true, decide_eq_true_eq]
      rintro ⟨⟨⟨q1, q2⟩, q3⟩, _⟩
      exact h1 ⟨q1, q2, q3⟩
    rw [if_neg ha]
    unfold rAsk
    rw [if_neg ha]
    refine (rAsk_out b th key al w (by omega)).mono ?_
    rintro e w' ⟨rfl, rfl⟩
    exact ⟨rfl, S, h, Ext.refl _ _, In.refl _ _⟩

set_option maxHeartbeats 400000 in
theorem rLeave_no (S : Nat → Prop) (b : Nat) (L : List E) (th key : Int) (w : World) (h : RT w S b L) (hl : L.length ≤ 1073741824) (hp : placeE L th key = none) :
    Calls Try.prog 15 #[.pointer (some ⟨b, 0, none⟩), .int .i64 th, .int .i64 key] w fun e w' => e = .returned (.int .i64 22) ∧ w' = w := by
  have hat := At_ok S b L th key w h hl
  have e : atV L th key = -1 := by unfold atV; rw [hp]
  rw [e] at hat
  have HAT := Lib.hid hat
  clear hat e hp h hl
  go_enter Try.func15, Try.ntmps15
  go_wp2_with (go_at_call 25; refine HAT.out.mono ?_; rintro e w' ⟨rfl, rfl⟩)
  go_ret
  exact ⟨rfl, rfl⟩

set_option maxRecDepth 100000 in
set_option maxHeartbeats 1600000 in
theorem rLeave_ok (S : Nat → Prop) (b : Nat) (L : List E) (th key : Int) (i : Nat) (w : World) (h : RT w S b L) (hl : L.length ≤ 1073741824) (hp : placeE L th key = some i) :
    Calls Try.prog 15 #[.pointer (some ⟨b, 0, none⟩), .int .i64 th, .int .i64 key] w fun e w' => e = .returned (.int .i64 0) ∧ ∃ S', RT w' S' b (L.take i ++ L.drop (i + 1)) ∧ Ext S w w' ∧ In S' S w := by
  have hat := At_ok S b L th key w h hl
  have e : atV L th key = (i : Int) := by unfold atV; rw [hp]
  rw [e] at hat
  have HAT := Lib.hid hat
  have hi := (placeE_some.1 hp).1
  obtain ⟨i0, hi0, hz0, hz1, hz2⟩ := info_parts infoR
  obtain ⟨v, hx⟩ := h
  obtain ⟨g, c, rfl, -, hg⟩ := hx.row.1.form (by omega)
  have hlc : L.length ≤ c ∧ c ≤ maxLen := by
    rcases hx.row.1.2 with ⟨h0, _⟩ | ⟨g', c', _, hv, _, _, h1, h2, _⟩
    · cases h0
    · simp only [Value.slice.injEq] at hv
      obtain ⟨-, -, rfl⟩ := hv
      exact ⟨h1, h2⟩
  obtain ⟨hlc, hcm⟩ := hlc
  have HX := Lib.hid hx
  have HO := Lib.hid hx.row.1
  have hz := hx.row.1.cells (g := g) rfl
  have HZ : Hid (∀ j u, (ecells L)[j]? = some u → w.cell? ⟨g, j, none⟩ = some u) := fun j u hu => by
    have h4 := hz j u hu
    rw [KSeq.addr_at] at h4
    exact h4
  have c0 : w.cell? ⟨b, 0, none⟩ = some (.slice (some ⟨g, 0, none⟩) L.length c) := (row_cell hx.block 0).trans rfl
  have lb : b < w.heap.size := row_lt hx.block
  -- what is laid first
  have HN1 : Hid (∀ j u, (ecells (L.take i))[j]? = some u → w.cell? ((⟨g, 0, none⟩ : Addr).add j) = some u) := fun j u hu => by
    rw [KSeq.addr_at]
    refine HZ.out j u ?_
    rw [← ecells_take, List.getElem?_take] at hu
    split at hu
    · exact hu
    · cases hu
  have HM1 : Hid ((ecells (L.take i)).length = i * 3) := by show _ = _; rw [ecells_len, List.length_take]; congr 1; omega
  -- what is laid behind
  obtain ⟨A', hA, hsrc⟩ : ∃ A' : Addr, (if c = i + 1 then some (⟨g, 0, none⟩ : Addr) else some ⟨g, (i + 1) * 3, none⟩) = some A' ∧ A'.block = g ∧ ∀ j u, (ecells (L.drop (i + 1)))[j]? = some u → A'.add j = ⟨g, (i + 1) * 3 + j, none⟩ := by
    by_cases hc : c = i + 1
    · refine ⟨_, by rw [if_pos hc], rfl, fun j u hu => ?_⟩
      have h0 : (ecells (L.drop (i + 1))).length = 0 := by rw [ecells_len, List.length_drop]; omega
      rw [List.length_eq_zero_iff.1 h0] at hu
      simp at hu
    · exact ⟨_, by rw [if_neg hc], rfl, fun j u hu => addr_off _ _ _⟩
  have HSRC := Lib.hid hsrc
  have HM2 : Hid ((ecells (L.drop (i + 1))).length = (L.length - (i + 1)) * 3) := by show _ = _; rw [ecells_len, List.length_drop]
  have HN2 : Hid (∀ j u, (ecells (L.drop (i + 1)))[j]? = some u → (ecells L)[(i + 1) * 3 + j]? = some u) := fun j u hu => by
    rw [← ecells_drop, List.getElem?_drop] at hu
    exact hu
  have HLT : Hid (i < L.length) := hi
  have hib : i ≤ 1073741824 := by omega
  have hic : i ≤ c := by omega
  have hjc : i + 1 ≤ c := by omega
  have hk0 : (0 : Int) ≤ (i : Int) + 1 := by omega
  have hk1 : (i : Int) + 1 ≤ (L.length : Int) := by omega
  have hk2 : (i : Int) ≤ (L.length : Int) := by omega
  clear hat e hp hx hz hsrc hi
  go_enter Try.func15, Try.ntmps15
  go_wp2_with (first
    | (go_at_call 25; refine HAT.out.mono ?_; rintro e w' ⟨rfl, hww⟩; have hww := hww.symm; subst hww)
    | (with_reducible show wpList _ _ _ (Oper.mk (some 22) _ _ _ _ _ :: _) _ _
       go_must (refine wpList_append_own_at _ rfl _ _ 27 rfl w.heap.size 66 i0 _ 3 24 underR hi0 hz0 hz1 hz2 rfl (by decide) (.slice none 0 0) 0 [] rfl (World.ownsRow_nil _ _ _ _) ⟨g, 0, none⟩ i c (ecells (L.take i)) rfl HM1.out HN1.out (ecells_flat _) (by unfold maxLen; omega) (by omega) (Nat.le_refl _) ?_)
       intro v1 w1 hown hgrow _ hat
       rw [Nat.zero_add, List.nil_append] at hown
       obtain ⟨A1, c1, rfl⟩ := own_form hown
       have HB1 : Hid (Below w.heap.size w w1) := ⟨hgrow.os, hgrow.tape, hgrow.output, hgrow.size, fun k hk => hgrow.block k hk (by simp [Value.ownBlock])⟩
       have k1 : w1.cell? ⟨b, 0, none⟩ = some (.slice (some ⟨g, 0, none⟩) L.length c) := (HB1.out.cell (p := ⟨b, 0, none⟩) lb).trans c0
       have HO1 := Lib.hid hown
       clear hown hgrow hat)
    | (with_reducible show wpList _ _ _ (Oper.mk (some 32) _ _ _ _ _ :: _) _ _
       go_must (refine wpList_append_own_at _ rfl _ _ 27 rfl w.heap.size 66 i0 _ 3 24 underR hi0 hz0 hz1 hz2 rfl (by decide) _ _ _ rfl HO1.out A' (L.length - (i + 1)) (c - (i + 1)) (ecells (L.drop (i + 1))) rfl HM2.out (fun j u hu => ?_) (ecells_flat _) (by have := HLT.out; unfold maxLen; omega) (by have := HLT.out; omega) HB1.out.size ?_)
       · rw [HSRC.out.2 j u hu, HB1.out.cell (p := ⟨g, (i + 1) * 3 + j, none⟩) hg]
         exact HZ.out _ _ (HN2.out j u hu)
       intro v2 w2 hown hgrow _ hat
       obtain ⟨A2, c2, rfl⟩ := own_form hown
       have HB2 : Hid (Below w.heap.size w w2) := HB1.out.trans ⟨hgrow.os, hgrow.tape, hgrow.output, hgrow.size, fun k hk => hgrow.block k (Nat.lt_of_lt_of_le hk HB1.out.size) (fun e => by have := own_ge HO1.out k e.symm; omega)⟩
       have HBB := Lib.hid (row_below HX.out.block HB2.out lb)
       have k3 : w2.cell? ⟨b, 0, none⟩ = some (.slice (some ⟨g, 0, none⟩) L.length c) := (row_cell HBB.out 0).trans rfl
       have k4 : w2.frozen? ⟨b, 0, none⟩ = false := row_free HBB.out 0
       have HO2 := Lib.hid hown
       clear hown hgrow hat))
  have HE : Hid (Ext (fun k => (Value.slice (some ⟨g, 0, none⟩) L.length c).ownBlock = some k) w w2) := Ext.of_below HB2.out _
  have hlen2 : (L.take i ++ L.drop (i + 1)).length = i + (L.length - (i + 1)) := by rw [List.length_append, List.length_take, List.length_drop]; have := HLT.out; omega
  have HO3 := HO2.out
  rw [← ecells_append, ← hlen2] at HO3
  have HR := Lib.hid (rt_store (L2 := L.take i ++ L.drop (i + 1)) HX.out HE.out HBB.out (own_base HO3 (fun _ _ => Nat.zero_le _)) (fun q hq => .inr (own_ge HO3 q hq)))
  go_ret
  rw [hlen2] at HR
  exact ⟨rfl, _, HR.out⟩
theorem rLeave_any (S : Nat → Prop) (b : Nat) (L : List E) (th key : Int) (w : World) (h : RT w S b L) (hl : L.length ≤ 1073741824) (q : Int) (hq : (if (placeE L th key).isSome = true then 0 else 22) = q) :
    Calls Try.prog 15 #[.pointer (some ⟨b, 0, none⟩), .int .i64 th, .int .i64 key] w fun e w' => e = .returned (.int .i64 q) ∧ ∃ S', RT w' S' b (rLeave L th key) ∧ Ext S w w' ∧ In S' S w := by
  subst hq
  cases hp : placeE L th key with
  | none =>
    unfold rLeave
    rw [hp]
    refine (rLeave_no S b L th key w h hl hp).mono ?_
    rintro e w' ⟨rfl, rfl⟩
    exact ⟨rfl, S, h, Ext.refl _ _, In.refl _ _⟩
  | some i =>
    unfold rLeave
    rw [hp]
    exact rLeave_ok S b L th key i w h hl hp
end Go.Proofs.Ytfaahhipddlmgaa.KRAsk
