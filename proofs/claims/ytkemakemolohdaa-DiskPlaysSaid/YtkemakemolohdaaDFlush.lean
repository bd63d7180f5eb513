/- The program's disk: Flush and Crash. -/
import Derived.Test.YtkemakemolohdaaDSettle
namespace Go.Proofs.Ytkemakemolohdaa.DFlush
open Go.RowKit WMem WPlain WAppend Ext Map DPlain DMem Mk DBase DRead DPend DWrite DSettle

theorem yes_any (i : Nat) (w : World) : Calls Try.prog 35 #[.int .i64 i] w fun e w' => e = .returned (.bool true) ∧ w = w' := by
  go_enter Try.func35, Try.ntmps35
  go_wp2
  go_ret
  exact ⟨rfl, rfl⟩

set_option maxHeartbeats 800000 in
theorem Flush_ok (S : Nat → Prop) (b : Nat) (s : St) (w : World) (hd : DD w S b s) (hN : s.N ≤ 1073741824) :
    Calls Try.prog 17 #[.pointer (some ⟨b, 0, none⟩)] w fun e w' =>
      e = .returned (.tuple #[]) ∧ ∃ S', DD w' S' b s.flush ∧ Ext S w w' ∧ In S' S w := by
  obtain ⟨m1, m2, n1, n2, f, h, Pv, ys, hx, q1, q2⟩ := hd
  have c0 := hx.c0
  have hp : (0 : Int) < (s.L.length : Int) := by have := hx.pos; omega
  have hz : ((s.L.length : Int) == 0) = false := by rw [beq_eq_false_iff_ne]; omega
  have HX := Lib.hid hx
  have Q1 := Lib.hid q1
  clear hx q1 q2
  go_enter Try.func17, Try.ntmps17
  go_wp2_with (go_at_call 21; refine (Blocks_at b _ _ c0).mono ?_; rintro e w' ⟨rfl, rfl⟩)
  refine (settle_all S b s m1 m2 n1 n2 f h Pv ys (fun _ => true) w HX.out (by have := Q1.out; omega) (by have := Q1.out; omega) (fun wr i _ => yes_any i wr)).mono ?_
  rintro e w1 ⟨rfl, S', m, f', hx1, he, hi⟩
  have d1 : w1.cell? ⟨b, 1, none⟩ = some (.int .i64 s.N) := hx1.c1
  have d2 := row_free hx1.block 1
  have HX1 := Lib.hid hx1
  have HE := Lib.hid he
  have HI := Lib.hid hi
  clear hx1 he hi
  go_wp2
  go_end0
  refine ⟨rfl, S', ⟨m1, m, n1 + s.P.length, 0, f', _, _, _, dd_setN HX1.out (s.N + 1), ?_, Nat.le_refl _⟩, HE.out.setCell (.inl HX.out.here) _, HI.out⟩
  have := Q1.out
  simp [St.flush]
  omega
theorem Flush_none (a : Option Addr) (w : World) (hb : Calls Try.prog 21 #[.pointer a] w fun e w' => e = .returned (.int .i64 0) ∧ w = w') :
    Calls Try.prog 17 #[.pointer a] w fun e w' => e = .returned (.tuple #[]) ∧ w = w' := by
  have HB := Lib.hid hb
  clear hb
  go_enter Try.func17, Try.ntmps17
  go_wp2_with (go_at_call 21; refine HB.out.mono ?_; rintro e w' ⟨rfl, rfl⟩)
  refine bodyPost_ret (results_none rfl _ _ _) rfl ?_
  exact ⟨rfl, rfl⟩

/-- a row of yes and no -/
def boolv (x : Bool) : Value := .bool x
theorem keep_any (keep : List Bool) (B : Nat) (A : Option Addr) (c cb i : Nat) (w : World) (hA : Sl w B A (keep.map boolv)) (hc : w.cell? ⟨cb, 0, none⟩ = some (.slice A keep.length c)) :
    Calls Try.prog 39 #[.int .i64 i, .pointer (some ⟨cb, 0, none⟩)] w fun e w' => e = .returned (.bool (keepF keep i)) ∧ w = w' := by
  by_cases hlt : i < keep.length
  · obtain ⟨a, rfl, _, hcc⟩ := hA i (boolv keep[i]) (by rw [List.getElem?_map, List.getElem?_eq_getElem hlt]; rfl)
    have hk : keepF keep i = keep[i] := by unfold keepF; rw [List.getD_eq_getElem?_getD, List.getElem?_eq_getElem hlt]; rfl
    rw [hk]
    have h0 : (0 : Int) ≤ (i : Int) := Int.natCast_nonneg _
    have h1 : (i : Int) < (keep.length : Int) := by omega
    unfold boolv at hcc
    generalize keep[i] = x at *
    clear hA hk
    go_enter Try.func39, Try.ntmps39
    go_wp2
    go_ret
    exact ⟨rfl, rfl⟩
  · have hk : keepF keep i = false := by unfold keepF; rw [List.getD_eq_getElem?_getD, List.getElem?_eq_none (by omega)]; rfl
    rw [hk]
    have hd : decide ((i : Int) < (keep.length : Int)) = false := by simpa using hlt
    have hd2 : decide (i < keep.length) = false := by simpa using hlt
    clear hA hk
    go_enter Try.func39, Try.ntmps39
    go_wp2
    go_ret
    exact ⟨rfl, rfl⟩

theorem cell_no_map {w : World} {q : Addr} {u : Value} {b n : Nat} {f : Int → Option Value} (h : MapIs w b n f) (hc : w.cell? q = some u) : q.block ≠ b := by
  rintro rfl
  obtain ⟨D, ⟨es, cl, hb, _⟩, _⟩ := h
  rw [World.cell?, hb] at hc
  cases hc

set_option maxHeartbeats 800000 in
theorem Crash_ok (S : Nat → Prop) (b : Nat) (s : St) (keep : List Bool) (B : Nat) (A : Option Addr) (c : Nat) (w : World) (hd : DD w S b s) (hA : Sl w B A (keep.map boolv)) (hB : B ≤ w.heap.size) (hN : s.N ≤ 1073741824) :
    Calls Try.prog 19 #[.pointer (some ⟨b, 0, none⟩), .slice A keep.length c] w fun e w' =>
      e = .returned (.tuple #[]) ∧ ∃ S', DD w' S' b (s.crash keep) ∧ Ext S w w' ∧ In S' S w := by
  obtain ⟨m1, m2, n1, n2, f, h, Pv, ys, hx, q1, q2⟩ := hd
  have hs0 : w.heap.size ≤ (w.alloc (.cells #[.slice A keep.length c] 38)).heap.size := by simp
  have hx1 := hx.keep (w' := w.alloc (.cells #[.slice A keep.length c] 38)) (fun k hk => Below.heap_alloc w _ k (hx.there k hk)) hs0
  have c0 : (w.alloc (.cells #[.slice A keep.length c] 38)).cell? ⟨b, 0, none⟩ = some (.int .i64 s.L.length) := hx1.c0
  have hp : (0 : Int) < (s.L.length : Int) := by have := hx.pos; omega
  have hz : ((s.L.length : Int) == 0) = false := by rw [beq_eq_false_iff_ne]; omega
  have hck : ∀ (wr : World) (i : Nat), Ext (fun j => j = m1) (w.alloc (.cells #[.slice A keep.length c] 38)) wr →
      Calls Try.prog 39 #[.int .i64 i, .pointer (some ⟨w.heap.size, 0, none⟩)] wr fun e w' => e = .returned (.bool (keepF keep i)) ∧ wr = w' := fun wr i he => by
    have lm := hx.done.lt
    refine keep_any keep B A c w.heap.size i wr (fun j u hu => ?_) ?_
    · obtain ⟨a, ha, hb, hc⟩ := hA j u hu
      have h1 : (w.alloc (.cells #[.slice A keep.length c] 38)).cell? (a.add j) = some u := by
        rw [World.cell?_alloc_lt w _ _ (by rw [addr_add_block]; omega)]; exact hc
      refine ⟨a, ha, hb, (World.cell?_of_block (he.block _ (by rw [addr_add_block]; simp; omega) ?_)).trans h1⟩
      exact cell_no_map hx1.done h1
    · have h2 := row_cell (row_new w (.cells #[.slice A keep.length c] 38)) 0
      exact (World.cell?_of_block (he.block w.heap.size (by simp) (by omega))).trans (h2.trans rfl)
  have HX := Lib.hid hx
  have HX1 := Lib.hid hx1
  have HCK := Lib.hid hck
  have Q1 := Lib.hid q1
  clear hx hx1 hck q1 q2 hA
  go_enter Try.func19, Try.ntmps19
  go_wp2_with (go_at_call 21; refine (Blocks_at b _ _ c0).mono ?_; rintro e w' ⟨rfl, rfl⟩)
  refine (settle_some S b s m1 m2 n1 n2 f h Pv ys (keepF keep) w.heap.size _ HX1.out (by have := Q1.out; omega) (by have := Q1.out; omega) HCK.out).mono ?_
  rintro e w1 ⟨rfl, S', m, f', hx2, he, hi⟩
  have HX2 := Lib.hid hx2
  have HE := Lib.hid he
  have HI := Lib.hid hi
  clear hx2 he hi
  go_wp2
  go_end0
  refine ⟨rfl, S', ⟨m1, m, n1 + s.P.length, 0, f', _, _, _, HX2.out, ?_, Nat.le_refl _⟩, ((Ext.refl S w).alloc _).trans HE.out (fun k hk => .inl hk), fun k hk => ?_⟩
  · have := Q1.out
    simp only [St.crash, St.settled, List.length_nil]
    omega
  · rcases HI.out k hk with h1 | h1
    · exact .inl h1
    · exact .inr (by simp at h1; omega)
theorem Crash_none (a : Option Addr) (A : Option Addr) (m c : Nat) (w : World) (hb : ∀ w : World, Calls Try.prog 21 #[.pointer a] (w.alloc (.cells #[.slice A m c] 38)) fun e w' => e = .returned (.int .i64 0) ∧ w.alloc (.cells #[.slice A m c] 38) = w') :
    Calls Try.prog 19 #[.pointer a, .slice A m c] w fun e w' => e = .returned (.tuple #[]) ∧ Below w.heap.size w w' := by
  have HB := Lib.hid hb
  clear hb
  go_enter Try.func19, Try.ntmps19
  go_wp2_with (go_at_call 21; refine (HB.out _).mono ?_; rintro e w' ⟨rfl, rfl⟩)
  refine bodyPost_ret (results_none rfl _ _ _) rfl ?_
  exact ⟨rfl, (Below.refl _ _).alloc (Nat.le_refl _) _⟩
theorem Crash_none_at (a : Option Addr) (A : Option Addr) (m c : Nat) (w : World) (hb : Calls Try.prog 21 #[.pointer a] (w.alloc (.cells #[.slice A m c] 38)) fun e w' => e = .returned (.int .i64 0) ∧ w.alloc (.cells #[.slice A m c] 38) = w') :
    Calls Try.prog 19 #[.pointer a, .slice A m c] w fun e w' => e = .returned (.tuple #[]) ∧ Below w.heap.size w w' := by
  have HB := Lib.hid hb
  clear hb
  go_enter Try.func19, Try.ntmps19
  go_wp2_with (go_at_call 21; refine HB.out.mono ?_; rintro e w' ⟨rfl, rfl⟩)
  refine bodyPost_ret (results_none rfl _ _ _) rfl ?_
  exact ⟨rfl, (Below.refl _ _).alloc (Nat.le_refl _) _⟩
end Go.Proofs.Ytkemakemolohdaa.DFlush
