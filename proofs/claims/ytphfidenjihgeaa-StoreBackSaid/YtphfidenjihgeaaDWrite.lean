/- The program's disk: one write more, and Write. -/
import Derived.Test.YtphfidenjihgeaaDPend
namespace Go.Proofs.Ytphfidenjihgeaa.DWrite
open Go.RowKit WMem WPlain WAppend Ext Map DPlain DMem Mk DBase DRead DPend

/-- S and what a call has made -/
def Plus (S : Nat → Prop) (w w' : World) : Nat → Prop := fun k => S k ∨ (w.heap.size ≤ k ∧ k < w'.heap.size)
section
variable {w w' : World} {S S' : Nat → Prop} {b n : Nat} {s : St} {L : List (List UInt8)} {P : List (Nat × List UInt8)} {Pv v : Value} {ys : List Value} {l : List UInt8} {f h : Int → Option Value} {m1 m2 n1 n2 : Nat}
theorem plus_there (h : There S w) (hs : w.heap.size ≤ w'.heap.size) : There (Plus S w w') w' := fun k hk => by
  rcases hk with hk | hk
  · exact Nat.lt_of_lt_of_le (h k hk) hs
  · exact hk.2
theorem plus_in : In (Plus S w w') S w := fun k hk => by
  rcases hk with hk | hk
  · exact .inl hk
  · exact .inr hk.1
theorem P_snoc (hp : POf w S ys P) (hv : IsBlk w S v l) : POf w S (ys ++ [.int .i64 n, v]) (P ++ [(n, l)]) := by
  refine ⟨by simp [hp.1]; omega, fun i hi => ?_⟩
  by_cases e : i < P.length
  · obtain ⟨u, h1, h2, h3⟩ := hp.2 i e
    refine ⟨u, ?_, ?_, ?_⟩
    · rw [List.getElem?_append_left (by rw [hp.1]; omega), List.getElem_append_left e]; exact h1
    · rw [List.getElem?_append_left (by rw [hp.1]; omega)]; exact h2
    · rw [List.getElem_append_left e]; exact h3
  · have hi' : i = P.length := by simp at hi; omega
    subst hi'
    refine ⟨v, ?_, ?_, ?_⟩
    · rw [List.getElem?_append_right (by rw [hp.1]; omega), hp.1]; simp
    · rw [List.getElem?_append_right (by rw [hp.1]; omega), hp.1]
      have : P.length * 2 + 1 - P.length * 2 = 1 := by omega
      rw [this]; rfl
    · simpa using hv
theorem late_snoc (hl : LateOf w S h P) (hv : IsBlk w S v l) : LateOf w S (upd h n v) (P ++ [(n, l)]) := by
  refine ⟨fun k u hu => ?_, fun k hk => ?_⟩
  · unfold upd at hu
    by_cases e : k = (n : Int)
    · rw [if_pos e] at hu
      injection hu with hu
      subst hu
      exact ⟨n, l, e, by rw [lastOf_snoc, if_pos rfl], hv⟩
    · rw [if_neg e] at hu
      obtain ⟨j, l', h1, h2, h3⟩ := hl.1 k u hu
      exact ⟨j, l', h1, by rw [lastOf_snoc, if_neg (by intro e'; simp at e'; omega)]; exact h2, h3⟩
  · unfold upd at hk
    by_cases e : (k : Int) = (n : Int)
    · rw [if_pos e] at hk; cases hk
    · rw [if_neg e] at hk
      rw [lastOf_snoc, if_neg (by intro e'; simp at e'; omega)]
      exact hl.2 k hk
/-- what a call may turn that writes to the structure, the map of the latest and the row of what is pending: no row of bytes, and no other map -/
theorem rows_stay (hb : w.heap[b]? = some (.cells #[.int .i64 (s.L.length : Int), .int .i64 (s.N : Int), .map (some m1), Pv, .map (some m2)] 85 (0, 0))) (hm : MapIs w m2 n2 h)
    (ho : w.ownsRow 0 64 2 Pv n ys) (he : Ext (fun k => k = b ∨ k = m2 ∨ Pv.ownBlock = some k) w w') :
    (∀ k o, S k → w.heap[k]? = some (.cells o 5 (0, 0)) → w'.heap[k]? = w.heap[k]?) ∧ ∀ k es cl, k ≠ m2 → w.heap[k]? = some (.map es cl) → w'.heap[k]? = w.heap[k]? := by
  refine ⟨fun k o _ hk => he.block k (row_lt hk) ?_, fun k es cl hne hk => he.block k (row_lt hk) ?_⟩
  · rintro (e | e | e)
    · subst e
      rw [hb] at hk
      injection hk with hk
      injection hk with _ hk
      exact absurd hk (by decide)
    · subst e
      exact hm.ne hk rfl
    · exact own_ne ho hk (by decide) e
  · rintro (e | e | e)
    · subst e
      rw [hb] at hk
      cases hk
    · exact hne e
    · rcases ho.2 with ⟨h1, _⟩ | ⟨g, cap, cur, hv, _, hh, _⟩
      · subst h1; cases e
      · subst hv
        simp [Value.ownBlock] at e
        subst e
        rw [hh] at hk
        cases hk
theorem map_stays (hm : MapIs w m1 n1 f) (hne : m1 ≠ m2) (hk : ∀ k es cl, k ≠ m2 → w.heap[k]? = some (.map es cl) → w'.heap[k]? = w.heap[k]?) : MapIs w' m1 n1 f := by
  obtain ⟨D, ⟨es, cl, hb, r⟩, hf⟩ := hm
  exact ⟨D, ⟨es, cl, (hk m1 es cl hne hb).trans hb, r⟩, hf⟩
/-- the count is another one -/
theorem dd_setN (hd : DDx w S b s m1 m2 n1 n2 f h Pv ys) (N : Nat) : DDx (w.setCell ⟨b, 1, none⟩ (.int .i64 (N : Int))) S b ⟨s.L, s.P, N⟩ m1 m2 n1 n2 f h Pv ys := by
  have hk : ∀ k, k ≠ b → (w.setCell ⟨b, 1, none⟩ (.int .i64 (N : Int))).heap[k]? = w.heap[k]? := fun k hk => Below.heap_setCell w ⟨b, 1, none⟩ _ k hk
  have hr : ∀ k o, S k → w.heap[k]? = some (.cells o 5 (0, 0)) → (w.setCell ⟨b, 1, none⟩ (.int .i64 (N : Int))).heap[k]? = w.heap[k]? := fun k o _ ho => hk k (fun e => by
    subst e
    rw [hd.block] at ho
    injection ho with ho
    injection ho with _ ho
    exact absurd ho (by decide))
  refine ⟨hd.here, by simpa using row_set hd.block 1 (.int .i64 (N : Int)), hd.in1, hd.in2, hd.apart, hd.done.keep (hk _ (Ne.symm (hd.done.ne hd.block))), hd.late.keep (hk _ (Ne.symm (hd.late.ne hd.block))), ⟨own_same hd.rowP.1 (fun g hg => hk g (fun e => ?_)), hd.rowP.2⟩,
    hd.eachP.keep hr, hd.doneOf.keep hr, hd.lateOf.keep hr, ⟨hd.wf.each, hd.wf.pend⟩, hd.pos, hd.most, hd.there.up (by simp [World.setCell])⟩
  subst e
  exact own_ne hd.rowP.1 hd.block (by decide) hg
theorem dd_more (hd : DDx w S b s m1 m2 n1 n2 f h Pv ys) (hs : ∀ k, S k → S' k) (ht : There S' w) : DDx w S' b s m1 m2 n1 n2 f h Pv ys :=
  ⟨hs _ hd.here, hd.block, hs _ hd.in1, hs _ hd.in2, hd.apart, hd.done, hd.late, hd.rowP.more hs, hd.eachP.more hs, hd.doneOf.more hs, hd.lateOf.more hs, hd.wf, hd.pos, hd.most, ht⟩
end

/-- no row of bytes has turned -/
def RowsStay (w w' : World) : Prop := ∀ (k : Nat) (o : Array Value), w.heap[k]? = some (Obj.cells o 5 (0, 0)) → w'.heap[k]? = w.heap[k]?
theorem RowsStay.trans {w w1 w2 : World} (h : RowsStay w w1) (h' : RowsStay w1 w2) : RowsStay w w2 := fun k o ho => (h' k o ((h k o ho).trans ho)).trans (h k o ho)
theorem RowsStay.alloc {w w1 : World} (h : RowsStay w w1) (o : Obj) : RowsStay w (w1.alloc o) := fun k o' ho => (Below.heap_alloc w1 o k (row_lt ((h k o' ho).trans ho))).trans (h k o' ho)
theorem pend_any (S : Nat → Prop) (b n : Nat) (s : St) (m1 m2 n1 n2 : Nat) (f h : Int → Option Value) (Pv : Value) (ys : List Value) (v : Value) (l : List UInt8) (w : World) (hd : DDx w S b s m1 m2 n1 n2 f h Pv ys) (hv : IsBlk w S v l)
    (hn : n < s.L.length) (hP : s.P.length ≤ 1073741824) (hn2 : n2 ≤ 1073741824) :
    Calls Try.prog 58 #[.pointer (some ⟨b, 0, none⟩), .agg #[.int .i64 n, v]] w fun e w' =>
      e = .returned (.tuple #[]) ∧ ∃ S' Pv' ys', DDx w' S' b ⟨s.L, s.P ++ [(n, l)], s.N⟩ m1 m2 n1 (n2 + 1) f (upd h n v) Pv' ys' ∧ Ext S w w' ∧ In S' S w ∧ RowsStay w w' := by
  have hv0 := hv
  obtain ⟨g0, c, rest, rfl, hg0, hl, hc, hr⟩ := hv
  refine (pend_walk b n m2 n2 g0 c s.P.length Pv ys h _ _ _ w hd.block hd.rowP.1 hd.late (by have := hd.most; omega) hP hn2).mono ?_
  rintro e w' ⟨gg, cap, rfl, h1, h2, h3, h4, h5⟩
  obtain ⟨k1, k2⟩ := rows_stay (S := S) hd.block hd.late hd.rowP.1 h5
  have hs := h5.size
  have hsub : ∀ k, S k → Plus S w w' k := fun k hk => .inl hk
  refine ⟨rfl, Plus S w w', .slice (some ⟨gg, 0, none⟩) (s.P.length + 1) cap, _, ⟨.inl hd.here, h1, .inl hd.in1, .inl hd.in2, hd.apart, map_stays hd.done hd.apart k2, h4, ⟨by simpa using h2, fun g hg => ?_⟩,
    P_snoc ((hd.eachP.keep k1).more hsub) ((hv0.keep k1).more hsub), (hd.doneOf.keep k1).more hsub, late_snoc ((hd.lateOf.keep k1).more hsub) ((hv0.keep k1).more hsub), ⟨hd.wf.each, fun x hx => ?_⟩, hd.pos, hd.most, plus_there hd.there hs⟩,
    h5.more (fun k _ hk => ?_), plus_in, fun k o ho => (rows_stay (S := fun _ => True) hd.block hd.late hd.rowP.1 h5).1 k o trivial ho⟩
  · simp [Value.ownBlock] at hg
    subst hg
    rcases h3 with h3 | h3
    · exact .inl (hd.rowP.2 _ h3)
    · exact .inr ⟨h3, own_lt h2 _ (by simp [Value.ownBlock])⟩
  · rcases List.mem_append.1 hx with hx | hx
    · exact hd.wf.pend x hx
    · rw [List.mem_singleton.1 hx]; exact ⟨hn, hl⟩
  · rcases hk with e | e | e
    · subst e; exact hd.here
    · subst e; exact hd.in2
    · exact hd.rowP.2 _ e

set_option maxHeartbeats 800000 in
set_option maxRecDepth 100000 in
theorem Write_ok (S : Nat → Prop) (b n : Nat) (s : St) (l : List UInt8) (B : Nat) (A : Option Addr) (c : Nat) (w : World) (hd : DD w S b s) (hA : Sl w B A (l.map u8v)) (hB : B ≤ w.heap.size) (hn : n < s.L.length) (hl : l.length = 256) (hN : s.N ≤ 1073741824) :
    Calls Try.prog 39 #[.pointer (some ⟨b, 0, none⟩), .int .i64 n, .slice A 256 c] w fun e w' =>
      e = .returned (.int .i64 0) ∧ ∃ S', DD w' S' b (s.write n l) ∧ Ext S w w' ∧ In S' S w := by
  obtain ⟨m1, m2, n1, n2, f, h, Pv, ys, hx, q1, q2⟩ := hd
  obtain ⟨a, rfl⟩ : ∃ a, A = some a := by
    obtain ⟨a, h, _⟩ := hA.u8 (k := 0) (by omega)
    exact ⟨a, h⟩
  have hcl := Clone_any l B a c w hA hB (by omega)
  rw [hl] at hcl
  have HC := Lib.hid hcl
  have HX := Lib.hid hx
  have HL := Lib.hid hl
  have HB := Lib.hid hB
  have HQ1 := Lib.hid q1
  have HQ2 := Lib.hid q2
  have c0 := hx.c0
  have hnn : n < s.L.length := hn
  clear hcl hx hl hA hB q1 q2
  go_enter Try.func39, Try.ntmps39
  go_wp2_with (go_at_call 48; refine (has_yes b n s.L.length _ c0 hnn).mono ?_; rintro e w' ⟨rfl, rfl⟩)
  refine HC.out.mono ?_
  rintro e w1 ⟨v, rfl, ho1, hb1⟩
  have hblk := blk_of_own ho1 HL.out
  have hx1 := dd_more (S' := Plus S w w1) (HX.out.keep (fun k hk => hb1.block k (HX.out.there k hk)) hb1.size) (fun k hk => .inl hk) (plus_there HX.out.there hb1.size)
  have HX1 := Lib.hid hx1
  have HK := Lib.hid (hblk.more (S' := Plus S w w1) (fun k hk => .inr hk))
  have HE1 := Lib.hid (Ext.of_below hb1 S)
  have HS1 := Lib.hid hb1.size
  clear ho1 hb1 hblk hx1
  obtain ⟨g0, c0', rest, rfl, _⟩ := id HK.out
  go_wp2_with fail
  refine (pend_any (Plus S w w1) b n s m1 m2 n1 n2 f h Pv ys _ l w1 HX1.out HK.out hnn (by have := HQ1.out; omega) (by have := HQ1.out; have := HQ2.out; omega)).mono ?_
  rintro e w2 ⟨rfl, S', Pv', ys', hx2, he2, hi2, _⟩
  have d1 : w2.cell? ⟨b, 1, none⟩ = some (.int .i64 s.N) := hx2.c1
  have d2 := row_free hx2.block 1
  have HX2 := Lib.hid hx2
  have HE2 := Lib.hid he2
  have HI2 := Lib.hid hi2
  clear hx2 he2 hi2
  go_wp2
  go_ret
  refine ⟨rfl, S', ⟨m1, m2, n1, n2 + 1, f, _, Pv', ys', dd_setN HX2.out (s.N + 1), ?_, ?_⟩, ((HE1.out.trans HE2.out plus_in).setCell (.inl HX.out.here) _), plus_in.trans HI2.out HS1.out⟩
  · have := HQ1.out; simp [St.write]; omega
  · have := HQ2.out; simp [St.write]; omega
theorem Write_out (a : Option Addr) (n : Int) (v : Value) (w : World) (hh : Calls Try.prog 48 #[.pointer a, .int .i64 n] w fun e w' => e = .returned (.bool false) ∧ w = w') :
    Calls Try.prog 39 #[.pointer a, .int .i64 n, v] w fun e w' => e = .returned (.int .i64 5) ∧ w = w' := by
  have HH := Lib.hid hh
  clear hh
  go_enter Try.func39, Try.ntmps39
  go_wp2_with (go_at_call 48; refine HH.out.mono ?_; rintro e w' ⟨rfl, rfl⟩)
  go_ret
  exact ⟨rfl, rfl⟩
theorem Write_no (S : Nat → Prop) (b : Nat) (n : Int) (s : St) (v : Value) (w : World) (hd : DD w S b s) (hn : n < 0 ∨ (s.L.length : Int) ≤ n) :
    Calls Try.prog 39 #[.pointer (some ⟨b, 0, none⟩), .int .i64 n, v] w fun e w' => e = .returned (.int .i64 5) ∧ w = w' :=
  Write_out _ n v w (has_out b n _ w hd.c0 hn)
theorem Write_len (S : Nat → Prop) (b n m : Nat) (s : St) (A : Option Addr) (c : Nat) (w : World) (hd : DD w S b s) (hn : n < s.L.length) (hm : m < 256) :
    Calls Try.prog 39 #[.pointer (some ⟨b, 0, none⟩), .int .i64 n, .slice A m c] w fun e w' => e = .returned (.int .i64 22) ∧ w = w' := by
  have hnn : n < s.L.length := hn
  have c0 := hd.c0
  have h1 : ((m : Int) != 256) = true := by rw [bne_iff_ne]; omega
  clear hd
  go_enter Try.func39, Try.ntmps39
  go_wp2_with (go_at_call 48; refine (has_yes b n s.L.length _ c0 hnn).mono ?_; rintro e w' ⟨rfl, rfl⟩)
  go_ret
  exact ⟨rfl, rfl⟩
end Go.Proofs.Ytphfidenjihgeaa.DWrite
