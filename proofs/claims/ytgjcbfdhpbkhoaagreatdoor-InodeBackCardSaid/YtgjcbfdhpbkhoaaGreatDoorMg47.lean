/- The allocator: the document's Make lays an empty disk. -/
import Derived.Test.YtgjcbfdhpbkhoaaGreatDoorMg46
import Derived.Test.YtgjcbfdhpbkhoaaGreatDoorMg49
import Derived.Test.YtgjcbfdhpbkhoaaGreatDoorMg13
import Derived.Test.YtgjcbfdhpbkhoaaGreatDoorMg50
import Derived.Test.YtgjcbfdhpbkhoaaGreatDoorMg51
namespace Go.Proofs.YtgjcbfdhpbkhoaaGreatDoor.ARMake
open Go.RowKit WMem WPlain WAppend WAny WCrc WSeal TPlain TBits TSet TTurn TFace TTurnF TRef TRef2 TRef3 GPlain GPlain3 GGeo GGeo2 GRef2 GFace Ext Map DPlain DMem Mk DBase DRead DPend DWrite DFlush RNew RRead RWrite RFlush EPlain EMem EFace EWrites EAny SPlain QPlain QMem APlain AMem AGeo AOpen ATurn ATake ACnt AMake1 AEmpty AMake2 AMake3 AMake4 AMake5
section
variable {P : Program} {ops : Array Oper} {Q : Exit → Act → World → Prop} {md : Region.Mode} {S : World → Prop} {oi : Oper} {fuel : Nat} {listed : Array Bool} {a : Act} {w : World}
theorem tk (i : Nat) (v : Value) (hi : ops[i]? = some oi) (hy : ∀ w, S w → (execOp a.eval oi).run P w = .ok (.value v) w) (hS : S w) (h : wpAnyH P md ops Q S fuel (listed.setIfInBounds i true) (a.put oi.dst v) w)
    (hs : Region.noSelect ops = true := by kernel_rfl) (hf : Region.free md ops listed i = true := by kernel_rfl) (hr : (Region.ready md ops listed).contains i = true := by kernel_rfl) (hQ : ∀ c a w, Q (.panic c) (a.put oi.dst v) w → Q (.panic c) a w := by exact fun _ _ _ h => h) (hg : Region.wanted oi (yielded ops a.tmps) = true := by rfl) : wpAnyH P md ops Q S (fuel + 1) listed a w :=
  wpAnyH_take hi hs hf hr hQ (.inl ⟨hg, hy⟩) hS h
theorem tn (i : Nat) (hi : ops[i]? = some oi) (hS : S w) (h : wpAnyH P md ops Q S fuel (listed.setIfInBounds i true) (a.put oi.dst undef) w)
    (hs : Region.noSelect ops = true := by kernel_rfl) (hf : Region.free md ops listed i = true := by kernel_rfl) (hr : (Region.ready md ops listed).contains i = true := by kernel_rfl) (hQ : ∀ c a w, Q (.panic c) (a.put oi.dst undef) w → Q (.panic c) a w := by exact fun _ _ _ h => h) (hg : Region.wanted oi (yielded ops a.tmps) = false := by rfl) : wpAnyH P md ops Q S (fuel + 1) listed a w :=
  wpAnyH_take hi hs hf hr hQ (.inr ⟨hg, rfl⟩) hS h
end
section
variable {A : Al} {i x0 x1 x2 x3 x4 x5 N : Nat}
theorem rspan_l (hp : PL A i x0 x1 x2 x3 x4 x5 N) (hM : May A.b A.p A.n A.j) (hi : i < A.ng) (w : World) : Calls Tryz.prog 95 #[.agg #[.int .i64 A.b, .int .i64 A.p, .int .i64 A.n, .int .i64 A.j], .int .i64 (i : Int)] w fun e w' =>
    e = .returned (.tuple #[.int .i64 (x0 : Int), .int .i64 (x1 : Int), .int .i64 0]) ∧ Below w.heap.size w w' := by
  have g := geo hM hi
  have h := refSpan_yes A.b A.p A.n A.j w (i : Int) (has_yes hM hi)
  have e1 : (i : Int) * A.p = (x0 : Int) := by rw [← g.a0, hp.e0]
  have e2 : endI A.b A.p i = (x1 : Int) := by rw [← g.a1, ← hp.e1]; rfl
  rw [e1, e2] at h
  exact h
theorem rplace_l (hp : PL A i x0 x1 x2 x3 x4 x5 N) (hM : May A.b A.p A.n A.j) (hi : i < A.ng) (w : World) : Calls Tryz.prog 61 #[.agg #[.int .i64 A.b, .int .i64 A.p, .int .i64 A.n, .int .i64 A.j], .int .i64 (i : Int)] w fun e w' =>
    e = .returned (.tuple #[.int .i64 (x2 : Int), .int .i64 (x3 : Int), .int .i64 (x4 : Int), .int .i64 (x5 : Int), .int .i64 0]) ∧ Below w.heap.size w w' := by
  have g := geo hM hi
  have h := refPlace_any A.b A.p A.n A.j w (i : Int)
  have hh := has_yes hM hi
  have e0 : pl0 A.b A.p A.n A.j i = (x2 : Int) := by unfold pl0; rw [if_pos hh, ← g.a3, hp.e2]
  have e1 : pl1 A.b A.p A.n A.j i = (x3 : Int) := by unfold pl1; rw [if_pos hh, ← g.a3, ← hp.e3]; rfl
  have e2 : pl2 A.b A.p A.n A.j i = (x4 : Int) := by unfold pl2 tableI; rw [if_pos hh, ← g.a3, ← hp.e4]; rfl
  have e3 : pl3 A.b A.p A.n A.j i = (x5 : Int) := by unfold pl3; rw [if_pos hh, ← g.a2, ← hp.e5]; rfl
  have e4 : er A.b A.p A.n A.j i = 0 := by unfold er; rw [if_pos hh]
  rw [e0, e1, e2, e3, e4] at h
  exact h
set_option maxRecDepth 100000 in
set_option maxHeartbeats 2000000 in
theorem bitmaps_l (hp : PL A i x0 x1 x2 x3 x4 x5 N) (hM : May A.b A.p A.n A.j) (hi : i < A.ng) {n o : Nat} (hn : A.n = (n : Int)) (ho : A.own i = o) (w : World) :
    Calls Tryz.prog 62 #[.agg #[.int .i64 A.b, .int .i64 A.p, .int .i64 (n : Int), .int .i64 A.j], .int .i64 (i : Int)] w fun e w' => ∃ g1 c1 r1 g2 c2 r2, e = .returned (.tuple #[.slice (some ⟨g1, 0, none⟩) 256 c1, .slice (some ⟨g2, 0, none⟩) 256 c2, .int .i64 ((N - o : Nat) : Int)]) ∧
      w.heap.size ≤ g1 ∧ w.heap.size ≤ g2 ∧ 256 ≤ c1 ∧ 256 ≤ c2 ∧ Row w' g1 (turnL (newB N x2) (0 : Nat) (o : Nat) x2) r1 ∧ Row w' g2 (newB n x3) r2 ∧ Below w.heap.size w w' := by
  have G := geo hM hi
  have hN16 : N ≤ 2016 := by rw [← hp.en]; exact G.a7
  have hn16 : n ≤ 2016 := by have := hM.n1; omega
  have hx1 : x1 ≤ 4096 := by have := G.a8; have := hM.b1; have := hp.e1; omega
  have hx01 : x0 + N = x1 := by rw [← hp.e0, ← hp.e1, ← hp.en]
  have hx05 : x0 + o = x5 := by rw [← hp.e0, ← hp.e5, ← ho]
  have hoN : o < N := by rw [← ho, ← hp.en]; exact G.a6
  have ho1 : 1 ≤ o := by have := G.a5; have := G.a4; omega
  have hx2 : x2 < 4096 := by rw [← hp.e2]; have := G.a5; have := hp.e5; omega
  have hx3 : x3 < 4096 := by rw [← hp.e3]; have := G.a5; have := hp.e5; omega
  have HW : Hid (wrap64 ((x1 : Int) - (x0 : Int)) = (N : Int) ∧ IntKind.u32.wrap (x2 : Int) = (x2 : Int) ∧ IntKind.u32.wrap (x3 : Int) = (x3 : Int) ∧ wrap64 ((x5 : Int) - (x0 : Int)) = (o : Int) ∧ wrap64 ((x1 : Int) - (x5 : Int)) = ((N - o : Nat) : Int)) := Lib.hid
    ⟨by rw [IntWalk.wrap64_in _ ⟨by omega, by omega⟩]; omega, by rw [IntKind.wrap_u32']; omega, by rw [IntKind.wrap_u32']; omega, by rw [IntWalk.wrap64_in _ ⟨by omega, by omega⟩]; omega, by rw [IntWalk.wrap64_in _ ⟨by omega, by omega⟩]; omega⟩
  have HX := Lib.hid (Boxed.start w [.int .i64 A.b, .int .i64 A.p, .int .i64 (n : Int), .int .i64 A.j] 63)
  have HSP := Lib.hid (fun W => rspan_l hp hM hi W)
  have HPL := Lib.hid (fun W => rplace_l hp hM hi W)
  rw [hn] at HSP HPL
  clear hp
  obtain ⟨c0, c1, c2, c3⟩ := HX.out.four
  go_enter Tryz.func62, Tryz.ntmps62
  go_wp2_with fail
  refine (HSP.out _).mono ?_
  rintro e w1 ⟨rfl, hb1⟩
  have HY1 := Lib.hid (HX.out.go hb1)
  clear c0 c1 c2 c3 hb1
  obtain ⟨c0, c1, c2, c3⟩ := HY1.out.four
  go_wp2_with fail
  refine (HPL.out _).mono ?_
  rintro e w2 ⟨rfl, hb2⟩
  have HY2 := Lib.hid (HY1.out.go hb2)
  clear c0 c1 c2 c3 hb2
  obtain ⟨c0, c1, c2, c3⟩ := HY2.out.four
  obtain ⟨u1, u2, u3, u4, u5⟩ := HW.out
  go_wp2_with fail
  rw [show (x1 : Int) - (x0 : Int) = (N : Int) by omega]
  refine (refNew_yes N x2 w2 hN16 (by omega)).mono ?_
  rintro e w3 ⟨g1, k1, r1, rfl, hg1, hk1, hR1, hb3⟩
  have HY3 := Lib.hid (HY2.out.go hb3)
  have HTN : Hid (Calls Tryz.prog 97 #[.slice (some ⟨g1, 0, none⟩) (256 : Nat) k1, .int .i64 (N : Int), .int .i64 ((0 : Nat) : Int), .int .i64 (o : Int), .bool true, .int .u32 (x2 : Nat)] w3 fun e w' => ∃ g cap rest, e = .returned (.tuple #[.slice (some ⟨g, 0, none⟩) 256 cap, .int .i64 0]) ∧ w3.heap.size ≤ g ∧ 256 ≤ cap ∧ Row w' g (turnL (newB N x2) (0 : Nat) (o : Nat) x2) rest ∧ Below w3.heap.size w3 w') := Lib.hid (by
    have HK := refCheck_any (newB N x2) 256 (newB_len _ _) w3.heap.size (some ⟨g1, 0, none⟩) k1 N x2 w3 (by omega) hk1 (hR1.sl hR1.lt)
    rw [chk_map (new_map hN16) hN16] at HK
    exact (refTurn_main (newB N x2) (newB_len _ _) w3.heap.size _ k1 N 0 o true x2 w3 (by omega) (Nat.le_refl _) hN16 ho1 (by omega) (hR1.sl hR1.lt) HK).mono fun e w' h => by
      unfold RefTurned at h
      rw [if_pos (allB_iff.2 fun j hj => by rw [fr_new hN16, decide_eq_true (by omega)])] at h
      exact h)
  obtain ⟨c0, c1, c2, c3⟩ := HY3.out.four
  have hsz := HY2.out.below.size
  have hsz3 := HY3.out.below.size
  clear hb3 hR1
  go_wp2_with fail
  rw [show (x1 : Int) - (x0 : Int) = (N : Int) by omega, show (x5 : Int) - (x0 : Int) = (o : Int) by omega]
  refine HTN.out.mono ?_
  rintro e w4 ⟨g4, k4, r4, rfl, hg4, hk4, hR4, hb4⟩
  have HY4 := Lib.hid (HY3.out.go hb4)
  have HR4 := Lib.hid hR4
  clear c0 c1 c2 c3 hb4 hR4
  obtain ⟨c0, c1, c2, c3⟩ := HY4.out.four
  go_wp2_with fail
  refine (refNew_yes n x3 w4 hn16 (by omega)).mono ?_
  rintro e w5 ⟨g5, k5, r5, rfl, hg5, hk5, hR5, hb5⟩
  have HY5 := Lib.hid (HY4.out.go hb5)
  have HR5 := Lib.hid hR5
  have HR45 := Lib.hid (HR4.out.keep hb5 HR4.out.lt)
  have hsz4 := HY4.out.below.size
  clear hb5 hR5
  go_wp2
  go_ret3
  refine ⟨g4, k4, r4, g5, k5, r5, ?_, by omega, by omega, hk4, hk5, HR45.out, HR5.out, HY5.out.below⟩
  rw [show ((N - o : Nat) : Int) = (x1 : Int) - (x5 : Int) by omega]
  rfl
end
structure MI (W wr : World) (S S' : Nat → Prop) (dc : Nat) (s : St) (P : List (Nat × Bk)) (v : Value) (k : Nat) (xs : List Value) : Prop where
  rd : RD wr S' dc (putW s P)
  ext : Ext S W wr
  inn : In S' S W
  own : wr.ownsRow W.heap.size 120 3 v k xs
  far : ∀ g, v.ownBlock = some g → ¬ S' g
section
variable {W wr w' : World} {S S' : Nat → Prop} {dc : Nat} {s : St} {P : List (Nat × Bk)} {v : Value} {k : Nat} {xs : List Value}
theorem rd_len {w : World} {b : Nat} (h : RD w S b s) : ∃ A c, w.cell? ⟨b, 0, none⟩ = some (.slice A s.L.length c) := by
  obtain ⟨_, _, _, _, hx⟩ := h
  have hc := hx.cL
  obtain ⟨A', cap', rfl, _, _⟩ := L_at hx.rowL hx.eachL
  exact ⟨_, _, hc⟩
theorem MI.go (h : MI W wr S S' dc s P v k xs) (hb : Below wr.heap.size wr w') : MI W w' S S' dc s P v k xs :=
  ⟨h.rd.below hb, h.ext.trans (Ext.of_below hb S') h.inn, h.inn, own_same h.own (fun g hg => hb.block g (own_lt h.own g hg)), h.far⟩
theorem write_l (h : MI W wr S S' dc s P v k xs) (n : Nat) (l : Bk) (B : Nat) (A : Option Addr) (c : Nat) (hA : Sl wr B A (l.map u8v)) (hn : n < s.L.length) (hl : l.length = 256) (hP : s.P.length + P.length ≤ 1073741824) (hN : s.N + P.length ≤ 1073741824) :
    Calls Tryz.prog 63 #[.pointer (some ⟨dc, 0, none⟩), .int .i64 (n : Int), .slice A 256 c] wr fun e w' => e = .returned (.int .i64 0) ∧ ∃ S'', MI W w' S S'' dc s (P ++ [(n, l)]) v k xs ∧ Ext S' wr w' ∧ In S'' S' wr := by
  refine (RWrite_ok S' dc n (putW s P) l B A c wr h.rd hA hn hl (by show (s.P ++ P).length ≤ _; rw [List.length_append]; exact hP) hN).mono ?_
  rintro e w' ⟨rfl, S'', h1, h2, h3⟩
  have e1 : (putW s P).write n l = putW s (P ++ [(n, l)]) := by
    unfold putW St.write
    simp only [List.append_assoc, List.length_append, List.length_cons, List.length_nil, Nat.add_assoc]
  rw [e1] at h1
  refine ⟨rfl, S'', ⟨h1, ?_, h.inn.trans h3 h.ext.size, own_same h.own (fun g hg => h2.block g (own_lt h.own g hg) (h.far g hg)), fun g hg hq => ?_⟩, h2, h3⟩
  · exact h.ext.trans h2 h.inn
  · rcases h3 g hq with h4 | h4
    · exact h.far g hg h4
    · have := own_lt h.own g hg; omega
end
theorem write_i {W wr : World} {S S' : Nat → Prop} {dc : Nat} {s : St} {P : List (Nat × Bk)} {v : Value} {k : Nat} {xs : List Value} (h : MI W wr S S' dc s P v k xs) (n : Nat) (q : Int) (hq : q = (n : Int)) (l : Bk) (B : Nat) (A : Option Addr) (c : Nat) (hA : Sl wr B A (l.map u8v)) (hn : n < s.L.length) (hl : l.length = 256) (hP : s.P.length + P.length ≤ 1073741824) (hN : s.N + P.length ≤ 1073741824) :
    Calls Tryz.prog 63 #[.pointer (some ⟨dc, 0, none⟩), .int .i64 q, .slice A 256 c] wr fun e w' => e = .returned (.int .i64 0) ∧ ∃ S'', MI W w' S S'' dc s (P ++ [(n, l)]) v k xs ∧ Ext S' wr w' ∧ In S'' S' wr := by
  subst hq
  exact write_l h n l B A c hA hn hl hP hN
theorem own_ext {w w' : World} {S : Nat → Prop} {base : Nat} {v : Value} {l : List UInt8} (h : WAny.Own w base v l) (he : Ext S w w') (hS : ∀ q, S q → q < base) : WAny.Own w' base v l := by
  rcases h with h | ⟨g, c, rest, rfl, h1, hc, hR⟩
  · exact .inl h
  · exact .inr ⟨g, c, rest, rfl, h1, hc, (he.block g hR.lt (fun hs => by have := hS g hs; omega)).trans hR⟩
theorem MI.app {W wr w4 : World} {S S' : Nat → Prop} {dc : Nat} {s : St} {P : List (Nat × Bk)} {v v' : Value} {k H : Nat} {xs ys : List Value} {o : Obj} (h : MI W wr S S' dc s P v k xs) (h3 : w4.ownsRow W.heap.size 120 3 v' (k + 1) ys)
    (h4 : (wr.alloc o).grownBy w4 v.ownBlock) (h5 : ∀ g, v'.ownBlock = some g → v.ownBlock = some g ∨ g = H) (hH : wr.heap.size ≤ H) : MI W w4 S S' dc s P v' (k + 1) ys := by
  have hx := h.ext
  have hsz := h.ext.size
  refine ⟨h.rd.keep (fun q hq => ?_) ?_, ⟨h4.os.trans hx.os, h4.tape.trans hx.tape, h4.output.trans hx.output, ?_, fun q hq hn => ?_⟩, h.inn, h3, fun g hg hs => ?_⟩
  · have hqt := h.rd.there q hq
    exact (h4.block q (by simp; omega) (fun e => h.far q e.symm hq)).trans (Below.heap_alloc wr o q hqt)
  · have := h4.size
    simp at this
    omega
  · have := h4.size
    simp at this
    omega
  · exact (h4.block q (by simp; omega) (fun e => by have := DMem.own_ge h.own q e.symm; omega)).trans ((Below.heap_alloc wr o q (by omega)).trans (hx.block q hq hn))
  · rcases h5 g hg with h6 | h6
    · exact h.far g h6 hs
    · have := h.rd.there g hs; omega
theorem grps_of {w : World} {base : Nat} {v : Value} {gs : List Grp} (h : w.ownsRow base 120 3 v gs.length (cells gs)) (h0 : 0 < gs.length) : ∃ A c, v = .slice A gs.length c ∧ Grps w w.heap.size A gs := by
  obtain ⟨g, c, rfl, hn⟩ := news_own h h0
  have hg := own_lt h g rfl
  refine ⟨_, c, rfl, fun i hi => ?_⟩
  obtain ⟨e1, e2, e3⟩ := cells_get gs i hi
  exact ⟨_, rfl, hg, hn _ _ e1, hn _ _ e2, hn _ _ e3⟩
theorem bitmaps_e {A : Al} {k x0 x1 x2 x3 x4 x5 N : Nat} (hE : A = empty A.b A.p A.n A.j) (hp : PL A k x0 x1 x2 x3 x4 x5 N) (hM : May A.b A.p A.n A.j) (hk : k < A.ng) (w : World) :
    Calls Tryz.prog 62 #[.agg #[.int .i64 A.b, .int .i64 A.p, .int .i64 A.n, .int .i64 A.j], .int .i64 (k : Int)] w fun e w' => ∃ g1 c1 r1 g2 c2 r2, e = .returned (.tuple #[.slice (some ⟨g1, 0, none⟩) 256 c1, .slice (some ⟨g2, 0, none⟩) 256 c2, .int .i64 (A.grp k).fb]) ∧
      w.heap.size ≤ g1 ∧ w.heap.size ≤ g2 ∧ 256 ≤ c1 ∧ 256 ≤ c2 ∧ Row w' g1 (A.bm k) r1 ∧ Row w' g2 (A.im k) r2 ∧ Below w.heap.size w w' := by
  obtain ⟨n, hn⟩ := Int.eq_ofNat_of_zero_le (show 0 ≤ A.n by have := hM.n0; omega)
  have h := bitmaps_l hp hM hk hn rfl w
  have hb : A.bm k = turnL (newB (A.size k) (A.bat k)) (0 : Nat) (A.own k : Nat) (A.bat k) := congrArg (fun a => Al.bm a k) hE
  have hi : A.im k = newB A.n.toNat (A.bat k + 1) := congrArg (fun a => Al.im a k) hE
  have hnn : A.n.toNat = n := by omega
  have hg := (grp_is hE hM hk).1
  have h6 := (geo hM hk).a6
  have hf : (A.grp k).fb = ((N - A.own k : Nat) : Int) := by
    show ((TBits.zeros (A.bm k) : Nat) : Int) = _
    rw [hg, ← hp.en]
    omega
  rw [← hn] at h
  rw [hf, hb, hi, hnn]
  rw [← hp.en, ← hp.e2, ← hp.e3] at h
  rw [← hp.en]
  exact h
def gsA (A : Al) (k : Nat) : List Grp := (List.range k).map A.grp
theorem gsA_len (A : Al) (k : Nat) : (gsA A k).length = k := by simp [gsA]
theorem gsA_next (A : Al) (k : Nat) : cells (gsA A (k + 1)) = cells (gsA A k) ++ [.int .i64 (A.grp k).fb, .int .i64 (A.grp k).fi, .int .i64 (A.grp k).dirs] := by
  unfold gsA cells
  rw [List.range_succ, List.map_append, List.flatMap_append]
  rfl
theorem sums_empty {A : Al} (hE : A = empty A.b A.p A.n A.j) (hM : May A.b A.p A.n A.j) : (A.fb : Int) = A.b - fixedI A.b A.p A.n A.j ∧ (A.fi : Int) = gN A.b A.p * A.n := by
  have hm := may_iff.2 hM
  constructor
  · have h1 := sum_data hM A.ng (Nat.le_refl _)
    have h2 : A.fb = sumTo (fun i => A.size i - A.own i) A.ng := by
      unfold Al.fb
      refine Nat.le_antisymm (sumTo_le fun k hk => ?_) (sumTo_le fun k hk => ?_)
      · have := (grp_is hE hM hk).1; have := (geo hM hk).a6; omega
      · have := (grp_is hE hM hk).1; have := (geo hM hk).a6; omega
    rw [ng_is hM, dataK_end hM] at h1
    rw [fixedI_yes hm, h2, h1]
  · have h2 : A.fi = sumTo (fun _ => A.n.toNat) A.ng := by
      unfold Al.fi
      refine Nat.le_antisymm (sumTo_le fun k hk => ?_) (sumTo_le fun k hk => ?_)
      · have := (grp_is hE hM hk).2.1; omega
      · have := (grp_is hE hM hk).2.1; omega
    rw [h2, sum_const, ← ng_is hM]
    have h0 := hM.n0
    rw [Int.natCast_mul, Int.toNat_of_nonneg (by omega)]
theorem infoG : (Tryz.prog.info? 120).map (fun i => (i.zero, i.size, i.bytes)) = some (some (.agg #[.int .i64 0, .int .i64 0, .int .i64 0]), 3, 24) := by kernel_rfl
theorem underG : Tryz.prog.underlying 114 = some (.slice 120) := by kernel_rfl
theorem four4 {w w' : World} {g : Nat} {v0 v1 v2 v3 : Value} (hb : Below w.heap.size w w') (l0 : g < w.heap.size)
    (h : w.cell? ⟨g, 0, none⟩ = some v0 ∧ w.cell? ⟨g, 1, none⟩ = some v1 ∧ w.cell? ⟨g, 2, none⟩ = some v2 ∧ w.cell? ⟨g, 3, none⟩ = some v3) :
    w'.cell? ⟨g, 0, none⟩ = some v0 ∧ w'.cell? ⟨g, 1, none⟩ = some v1 ∧ w'.cell? ⟨g, 2, none⟩ = some v2 ∧ w'.cell? ⟨g, 3, none⟩ = some v3 :=
  ⟨(hb.cell (p := ⟨g, 0, none⟩) l0).trans h.1, (hb.cell (p := ⟨g, 1, none⟩) l0).trans h.2.1, (hb.cell (p := ⟨g, 2, none⟩) l0).trans h.2.2.1, (hb.cell (p := ⟨g, 3, none⟩) l0).trans h.2.2.2⟩
theorem six {w w' : World} {g dc : Nat} {v0 v1 v2 v3 v5 : Value} (hb : Below w.heap.size w w') (l0 : g < w.heap.size) (l2 : dc < w.heap.size)
    (h : w.cell? ⟨g, 0, none⟩ = some v0 ∧ w.cell? ⟨g, 1, none⟩ = some v1 ∧ w.cell? ⟨g, 2, none⟩ = some v2 ∧ w.cell? ⟨g, 3, none⟩ = some v3 ∧ w.cell? ⟨dc, 0, none⟩ = some v5) :
    w'.cell? ⟨g, 0, none⟩ = some v0 ∧ w'.cell? ⟨g, 1, none⟩ = some v1 ∧ w'.cell? ⟨g, 2, none⟩ = some v2 ∧ w'.cell? ⟨g, 3, none⟩ = some v3 ∧ w'.cell? ⟨dc, 0, none⟩ = some v5 := five hb l0 l2 h
set_option maxRecDepth 100000 in
set_option maxHeartbeats 1000000 in
theorem RMake_own {A : Al} (hE : A = empty A.b A.p A.n A.j) (hM : May A.b A.p A.n A.j) (S : Nat → Prop) (dc : Nat) (s : St) (w : World) (hd : RD w S dc s) (hL : (s.L.length : Int) = A.b) (hP : s.P.length ≤ 1000000) (hN : s.N ≤ 1000000) :
    Calls Tryz.prog 35 #[.pointer (some ⟨dc, 0, none⟩), .agg #[.int .i64 A.b, .int .i64 A.p, .int .i64 A.n, .int .i64 A.j]] w fun e w' => e = .returned (.int .i64 0) ∧ ∃ S', RD w' S' dc (putW s (emptyW A)).flush ∧ Ext S w w' ∧ In S' S w := by
  obtain ⟨Ax, cx, hcl⟩ := rd_len hd
  have hdt := hd.there
  have hdl : dc < w.heap.size := by obtain ⟨_, _, _, _, hx⟩ := hd; exact hx.there dc hx.here
  have hlen : ((s.L.length : Int) != A.b) = false := by rw [hL]; simp
  have HD := Lib.hid hd
  have HDT := Lib.hid hdt
  have HM := Lib.hid hM
  have HE := Lib.hid hE
  have HLL := Lib.hid hL
  have HPN := Lib.hid (And.intro hP hN)
  have HCK : Hid (∀ W, Calls Tryz.prog 59 #[.agg #[.int .i64 A.b, .int .i64 A.p, .int .i64 A.n, .int .i64 A.j]] W fun e w' => e = .returned (.int .i64 0) ∧ Below W.heap.size W w') := Lib.hid fun W => refCheck_yes A.b A.p A.n A.j W (may_iff.2 hM)
  have hng := ng_is hM
  have HGR : Hid (∀ W, Calls Tryz.prog 60 #[.agg #[.int .i64 A.b, .int .i64 A.p, .int .i64 A.n, .int .i64 A.j]] W fun e w' => e = .returned (.int .i64 (A.ng : Int)) ∧ Below W.heap.size W w') := Lib.hid fun W => by
    have h := refGroups_any A.b A.p A.n A.j W
    rw [groupsI_yes (may_iff.2 hM), ← hng] at h
    exact h
  obtain ⟨i0, hi0, hz0, hz1, hz2⟩ := info_parts infoG
  have r0 := rowV_new w [.int .i64 A.b, .int .i64 A.p, .int .i64 A.n, .int .i64 A.j] 63
  have b0 := rowc r0 0 rfl
  have b1 := rowc r0 1 rfl
  have b2 := rowc r0 2 rfl
  have b3 := rowc r0 3 rfl
  have b5 : (w.alloc (.cells #[.int .i64 A.b, .int .i64 A.p, .int .i64 A.n, .int .i64 A.j] 63)).cell? ⟨dc, 0, none⟩ = some (.slice Ax s.L.length cx) := (World.cell?_alloc_lt w _ ⟨dc, 0, none⟩ hdl).trans hcl
  have HB0 := Lib.hid (below_box (w := w) (.cells #[.int .i64 A.b, .int .i64 A.p, .int .i64 A.n, .int .i64 A.j] 63))
  have hs0 : (w.alloc (.cells #[.int .i64 A.b, .int .i64 A.p, .int .i64 A.n, .int .i64 A.j] 63)).heap.size = w.heap.size + 1 := by simp
  have HR0 := Lib.hid r0
  clear hE hM hd hL hP hN hcl hdt hng r0
  go_enter Tryz.func35, Tryz.ntmps35
  go_wp2_with fail
  generalize w.alloc (.cells #[.int .i64 A.b, .int .i64 A.p, .int .i64 A.n, .int .i64 A.j] 63) = W at *
  have HS0 := Lib.hid hs0
  have HSIX := Lib.hid (show W.cell? ⟨w.heap.size, 0, none⟩ = _ ∧ W.cell? ⟨w.heap.size, 1, none⟩ = _ ∧ W.cell? ⟨w.heap.size, 2, none⟩ = _ ∧ W.cell? ⟨w.heap.size, 3, none⟩ = _ ∧ W.cell? ⟨dc, 0, none⟩ = _ from ⟨b0, b1, b2, b3, b5⟩)
  clear hs0
  go_region_held3 (fun w' => w'.cell? ⟨w.heap.size, 0, none⟩ = some (.int .i64 A.b) ∧ w'.cell? ⟨w.heap.size, 1, none⟩ = some (.int .i64 A.p) ∧ w'.cell? ⟨w.heap.size, 2, none⟩ = some (.int .i64 A.n) ∧ w'.cell? ⟨w.heap.size, 3, none⟩ = some (.int .i64 A.j) ∧ w'.cell? ⟨dc, 0, none⟩ = some (.slice Ax s.L.length cx))
    (first | exact HS2.out | (go_keep; done))
    ((first
      | (go_at_call 59; refine (HCK.out _).mono ?_; rintro e w2 ⟨rfl, hb2⟩
         have HS2 := Lib.hid (six hb2 (show w.heap.size < W.heap.size by have := HS0.out; omega) (show dc < W.heap.size by have := HS0.out; omega) HSIX.out)
         have HB2 := Lib.hid (show Below W.heap.size W w2 from ⟨hb2.os, hb2.tape, hb2.output, hb2.size, hb2.block⟩))))
  have HBW := Lib.hid (below_up HB0.out HB2.out (by have := HS0.out; omega))
  obtain ⟨g0, g1, g2, g3, -⟩ := HS2.out
  have HRG2 := Lib.hid (HR0.out.keep HB2.out HR0.out.lt)
  clear hb2 b0 b1 b2 b3 b5 hlen
  go_wp2_with fail
  refine (HGR.out _).mono ?_
  rintro e w3 ⟨rfl, hb3⟩
  have HBW3 := Lib.hid (below_up HBW.out hb3 HBW.out.size)
  have HRG3 := Lib.hid (HRG2.out.keep hb3 HRG2.out.lt)
  have HM0 : Hid (MI w3 w3 S S dc s [] (.slice none 0 0) 0 []) := Lib.hid ⟨by rw [putW_none]; exact HD.out.below HBW3.out, Ext.refl _ _, In.refl _ _, World.ownsRow_nil _ _ _ _, fun g hg => (by cases hg)⟩
  obtain ⟨m, hm⟩ : ∃ m, A.ng = m := ⟨_, rfl⟩
  have HMM := Lib.hid hm
  have hm14 : m ≤ 14 := by rw [← hm]; exact (ng_le HM.out).2
  rw [hm]
  have HFAR : Hid (w.heap.size < w3.heap.size ∧ ∀ q, S q → q < w.heap.size) := Lib.hid ⟨HRG3.out.lt, HDT.out⟩
  clear hb3 g0 g1 g2 g3 hm
  go_wp2_with fail
  go_loopw [6, 7] (fun v i wr => ∃ (k : Nat) (S' : Nat → Prop), k ≤ m ∧ i = .int .i64 (k : Int) ∧ Hid (MI w3 wr S S' dc s (allW A k) v k (cells (gsA A k)))) (fun _ i _ => m - (RowKit.intOf i).toNat)
  case atStart => exact ⟨0, S, Nat.zero_le _, rfl, HM0⟩
  case round =>
    obtain ⟨k, S', hk, rfl, HH⟩ := hrel
    have HRK : Hid (RowV wr w.heap.size 63 [.int .i64 A.b, .int .i64 A.p, .int .i64 A.n, .int .i64 A.j]) := Lib.hid ((HH.out.ext.block w.heap.size HFAR.out.1 (fun hs => by have := HFAR.out.2 _ hs; omega)).trans HRG3.out)
    have hrk := HRK.out
    have g0 := rowc hrk 0 rfl
    have g1 := rowc hrk 1 rfl
    have g2 := rowc hrk 2 rfl
    have g3 := rowc hrk 3 rfl
    clear hrk
    by_cases hlt : k < m
    · have hkn : k < A.ng := by rw [HMM.out]; exact hlt
      obtain ⟨x0, x1, x2, x3, x4, x5, N, hp⟩ : ∃ x0 x1 x2 x3 x4 x5 N, PL A k x0 x1 x2 x3 x4 x5 N := ⟨_, _, _, _, _, _, _, rfl, rfl, rfl, rfl, rfl, rfl, rfl⟩
      have HPC := Lib.hid (fun W => rplace_l hp HM.out hkn W)
      have HBM := Lib.hid (fun W => bitmaps_e HE.out hp HM.out hkn W)
      have HP := Lib.hid hp
      have HKN := Lib.hid hkn
      clear hp hkn
      go_wp2_with fail
      refine (HPC.out _).mono ?_
      rintro e w4 ⟨rfl, hb4⟩
      have HH4 := Lib.hid (HH.out.go hb4)
      have HRK4 := Lib.hid (HRK.out.keep hb4 HRK.out.lt)
      clear g0 g1 g2 g3 hb4
      have hrk := HRK4.out
      have g0 := rowc hrk 0 rfl
      have g1 := rowc hrk 1 rfl
      have g2 := rowc hrk 2 rfl
      have g3 := rowc hrk 3 rfl
      clear hrk
      go_wp2_with fail
      refine (HBM.out _).mono ?_
      rintro e w5 ⟨gx, cx, rx, gy, cy, ry, rfl, hgx, hgy, hcx, hcy, hRx, hRy, hb5⟩
      have HH5 := Lib.hid (HH4.out.go hb5)
      have HRK5 := Lib.hid (HRK4.out.keep hb5 HRK4.out.lt)
      have HRX := Lib.hid hRx
      have HRY := Lib.hid hRy
      have HNY : Hid (¬ S' gy) := Lib.hid fun hs => by have := HH4.out.rd.there gy hs; omega
      clear hb5 hRx hRy g0 g1 g2 g3
      go_wp2_with fail
      have hgeo := geo HM.out HKN.out
      have hpe := HP.out
      have q2 := hpe.e2
      have q3 := hpe.e3
      have q4 := hpe.e4
      have q5 := hpe.e5
      have hA4 : A.at_ k + A.own k ≤ 4096 := at_own HM.out HKN.out
      have hln : ((s.L.length : Nat) : Int) = A.b := HLL.out
      have ha5 := hgeo.a5
      have ha6 := hgeo.a6
      have ha8 := hgeo.a8
      have hx5 : x5 < s.L.length := by omega
      have hx45 : x4 ≤ x5 := by omega
      have hx24 : x2 + 2 = x4 ∧ x3 + 1 = x4 := by omega
      have hal := allW_len A k fun j hj => at_own HM.out (by have := HKN.out; omega)
      have hkm : k * 4098 ≤ 60000 := by omega
      have hfin := fine_of HE.out HM.out
      have hlb : (A.bm k).length = 256 := (map_of (hfin.bm k HKN.out)).1
      have hli : (A.im k).length = 256 := (map_of (hfin.im k HKN.out)).1
      have HNUM : Hid (x5 < s.L.length ∧ x4 ≤ x5 ∧ x2 + 2 = x4 ∧ x3 + 1 = x4 ∧ (allW A k).length ≤ 60000 ∧ (A.bm k).length = 256 ∧ (A.im k).length = 256 ∧ x5 ≤ 4096) := Lib.hid ⟨hx5, hx45, hx24.1, hx24.2, by omega, hlb, hli, by omega⟩
      clear hgeo hpe q2 q3 q4 q5 hA4 hln ha5 ha6 ha8 hx5 hx45 hx24 hal hkm hfin hlb hli
      have hw1 := write_l HH5.out x2 (A.bm k) w5.heap.size (some ⟨gx, 0, none⟩) cx (HRX.out.sl HRX.out.lt) (by have := HNUM.out; omega) HNUM.out.2.2.2.2.2.1 (by have := HPN.out; have := HNUM.out; omega) (by have := HPN.out; have := HNUM.out; omega)
      refine hw1.mono ?_
      clear hw1
      rintro e w6 ⟨rfl, S6, hm6, he6, hi6⟩
      have HH6 := Lib.hid hm6
      have HRY6 := Lib.hid (show Row w6 gy (A.im k) ry from (he6.block gy HRY.out.lt HNY.out).trans HRY.out)
      clear hm6 he6 hi6
      go_wp2_with fail
      have hw2 := write_l HH6.out x3 (A.im k) w6.heap.size (some ⟨gy, 0, none⟩) cy (HRY6.out.sl HRY6.out.lt) (by have := HNUM.out; omega) HNUM.out.2.2.2.2.2.2.1 (by have := HPN.out; have := HNUM.out; simp only [List.length_append, List.length_cons, List.length_nil]; omega) (by have := HPN.out; have := HNUM.out; simp only [List.length_append, List.length_cons, List.length_nil]; omega)
      refine hw2.mono ?_
      clear hw2
      rintro e w7 ⟨rfl, S7, hm7, -, -⟩
      have e7 : allW A k ++ [(x2, A.bm k)] ++ [(x3, A.im k)] = allW A k ++ AMake1.grpW x2 x3 x4 0 (A.bm k) (A.im k) := by simp [AMake1.grpW, tabW]
      rw [e7] at hm7
      have HH7 := Lib.hid hm7
      have hmk := Mk.make256
      have h45 := HNUM.out.2.1
      clear hm7 e7
      go_wp2_with fail
      go_loopw [16] (fun t wi => ∃ (j : Nat) (S8 : Nat → Prop), x4 + j ≤ x5 ∧ t = .int .i64 ((x4 + j : Nat) : Int) ∧ Hid (MI w3 wi S S8 dc s (allW A k ++ AMake1.grpW x2 x3 x4 j (A.bm k) (A.im k)) u6 k (cells (gsA A k)))) (fun t _ => x5 - (RowKit.intOf t).toNat)
      case atStart => exact ⟨0, S7, by omega, rfl, HH7⟩
      case round =>
        obtain ⟨j, S8, hj, rfl, HH8⟩ := hrel
        by_cases hlt5 : x4 + j < x5
        · have d5 : decide (((x4 + j : Nat) : Int) < (x5 : Int)) = true := by simp; omega
          have HH9 := Lib.hid (HH8.out.go (below_box (w := wr) (.cells (zrow 256) 5)))
          have HZR := Lib.hid (Mk.zrow_row wr 256)
          have hgl : (AMake1.grpW x2 x3 x4 j (A.bm k) (A.im k)).length = j + 2 := grpW_len _ _ _ _ _ _
          have hw := write_l HH9.out (x4 + j) zblk (wr.heap.size + 1) (some ⟨wr.heap.size, 0, none⟩) 256 (HZR.out.sl (Nat.lt_succ_self _)) (by have := HNUM.out; omega) (List.length_replicate) (by have := HPN.out; have := HNUM.out; rw [List.length_append, hgl]; omega) (by have := HPN.out; have := HNUM.out; rw [List.length_append, hgl]; omega)
          have HWR := Lib.hid hw
          obtain ⟨y, hy⟩ : ∃ y, x4 + j = y := ⟨_, rfl⟩
          rw [hy] at HWR d5 ⊢
          have HYE := Lib.hid hy
          have hy5 : y < x5 := by omega
          clear hw hgl hy hlt5
          go_wp2_with fail
          refine HWR.out.mono ?_
          rintro e w9 ⟨rfl, S9, hm9, -, -⟩
          have e9 : allW A k ++ AMake1.grpW x2 x3 x4 j (A.bm k) (A.im k) ++ [(y, zblk)] = allW A k ++ AMake1.grpW x2 x3 x4 (j + 1) (A.bm k) (A.im k) := by rw [grpW_next, HYE.out, List.append_assoc]
          rw [e9] at hm9
          have HH10 := Lib.hid hm9
          clear hm9 e9
          have HWW := Lib.hid (show wrap64 ((y : Int) + 1) = ((y + 1 : Nat) : Int) by rw [IntWalk.wrap64_in _ ⟨by omega, by have := HNUM.out; omega⟩]; omega)
          go_wp2
          go_roundw
          case rel => exact ⟨j + 1, S9, by have := HYE.out; omega, by rw [HWW.out, show x4 + (j + 1) = y + 1 by have := HYE.out; omega], HH10⟩
          case measure => rw [HWW.out]; simp [RowKit.intOf]; omega
        · have d5 : decide (((x4 + j : Nat) : Int) < (x5 : Int)) = false := by simp; omega
          have hj5 : x4 + j = x5 := by omega
          have hgw : allW A k ++ AMake1.grpW x2 x3 x4 j (A.bm k) (A.im k) = allW A (k + 1) := by
            have hpe := HP.out
            rw [allW_next]
            unfold gw
            have e2 := hpe.e2
            have e3 := hpe.e3
            have e4 := hpe.e4
            have e5 := hpe.e5
            rw [e3, e4, e5, e2, show x5 - x4 = j by omega]
          have hm8 := HH8.out
          rw [hgw] at hm8
          have HH8' := Lib.hid hm8
          rw [hj5] at d5 ⊢
          have hrk8 : RowV wr w.heap.size 63 [.int .i64 A.b, .int .i64 A.p, .int .i64 A.n, .int .i64 A.j] := (HH8'.out.ext.block w.heap.size HFAR.out.1 (fun hs => by have := HFAR.out.2 _ hs; omega)).trans HRG3.out
          have HRK8 := Lib.hid hrk8
          have g2 := rowc hrk8 2 rfl
          clear hm8 hgw hj5 hrk8 hlt5
          go_wp2_with (at_builtin; go_loud (refine wpList_append_lies _ rfl _ _ 114 rfl w3.heap.size 120 i0 _ 3 24 underG hi0 hz0 hz1 hz2 rfl (by decide) _ _ _ rfl (HH8'.out.own.alloc _) ⟨wr.heap.size, 0, none⟩ 1 1 [.int .i64 (A.grp k).fb, .int .i64 A.n, .int .i64 0] rfl rfl (World.news_of_block (cs := #[.int .i64 (A.grp k).fb, .int .i64 A.n, .int .i64 0]) (t := 120) (fr := (0, 0)) (row_new _ _)) (by simp [Value.oneCell']) (by decide) (by unfold maxLen; omega) (by omega) (by have := HH8'.out.ext.size; simp; omega) (wr.heap.size + 1) (by simp) ?_); intro gg cap w9 h3 h4 h5 h6
                       have h7 : ∀ g, (Value.slice (some ⟨gg, 0, none⟩) (k + 1) cap).ownBlock = some g → u6.ownBlock = some g ∨ g = wr.heap.size + 1 := fun g hg => by
                         have : g = gg := by simpa [Value.ownBlock, eq_comm] using hg
                         subst this
                         exact h5
                       have hm9 := HH8'.out.app h3 h4 h7 (by omega)
                       have HM9 := Lib.hid hm9
                       clear h3 h4 h5 h6 h7 hm9)
          have e9 : cells (gsA A k) ++ [.int .i64 (A.grp k).fb, .int .i64 A.n, .int .i64 0] = cells (gsA A (k + 1)) := by
            obtain ⟨-, q2, q3⟩ := grp_is HE.out HM.out HKN.out
            rw [gsA_next]
            show _ = cells (gsA A k) ++ [.int .i64 (A.grp k).fb, .int .i64 ((TBits.zeros (A.im k) : Nat) : Int), .int .i64 (A.dirs k)]
            rw [q2, q3]
          rw [e9] at HM9
          clear e9
          go_wp2
          go_roundw
          case rel => exact ⟨k + 1, S8, by omega, by go_num, HM9⟩
          case measure => simp [RowKit.intOf]; omega
    · obtain rfl : k = m := by omega
      have hfin := fine_of HE.out HM.out
      have hgs : gsA A k = A.gs := by rw [← HMM.out]; rfl
      have hgl : A.gs.length = k := by rw [← hgs, gsA_len]
      have hkpos : 0 < k := by have := (ng_le HM.out).1; rw [HMM.out] at this; omega
      have hown := HH.out.own
      rw [hgs] at hown
      rw [← hgl] at hown
      obtain ⟨Ag, cg, hu6, hG⟩ := grps_of hown (by rw [hgl]; exact hkpos)
      rw [hgl] at hu6
      have hpg := QRPack.refPackGroups_any A.gs wr.heap.size Ag cg wr (Nat.le_refl _) hG
      rw [hgl] at hpg
      subst hu6
      have HPG := Lib.hid hpg
      have HGL : Hid (grpMay A.gs = true ∧ (grpBytes A.gs).length = 256) := Lib.hid ⟨fine_grp hfin, grpBytes_len A.gs (by rw [hgl]; exact hm14)⟩
      obtain ⟨s1, s2⟩ := sums_empty HE.out HM.out
      have ho0 : A.oo = 0 ∧ A.mo = 0 ∧ A.cl = false := ⟨congrArg Al.oo HE.out, congrArg Al.mo HE.out, congrArg Al.cl HE.out⟩
      have hsm := fine_sup hfin
      rw [ho0.1, ho0.2.1] at hsm
      have hsp : A.sup = supBytes A.b A.p A.n A.j A.fb A.fi 0 0 false := by unfold Al.sup; rw [ho0.1, ho0.2.1, ho0.2.2]
      have HSP := Lib.hid hsp
      have hfb := (k_le hfin (k := A.ng) (Nat.le_refl _))
      rw [fbK_end, fiK_end] at hfb
      have HPS := Lib.hid (fun W => SRPack.refPackSuper_yes A.b A.p A.n A.j A.fb A.fi 0 0 false W hsm)
      have HFX := Lib.hid (fun W => refFixed_any A.b A.p A.n A.j W)
      have HSL : Hid ((supBytes A.b A.p A.n A.j A.fb A.fi 0 0 false).length = 256) := Lib.hid (supBytes_len _ _ _ _ _ _ _ _ _)
      obtain ⟨F, hF⟩ : ∃ F, fixedI A.b A.p A.n A.j = F := ⟨_, rfl⟩
      obtain ⟨fb, hfbe⟩ : ∃ fb : Nat, A.fb = fb := ⟨_, rfl⟩
      obtain ⟨fi, hfie⟩ : ∃ fi : Nat, A.fi = fi := ⟨_, rfl⟩
      rw [hF] at s1 HFX
      rw [hfbe] at s1 hfb HPS HSL HSP
      rw [hfie] at s2 hfb HPS HSL HSP
      rw [← ng_is HM.out, HMM.out] at s2
      have HU1 : Hid (IntKind.i64.wrap (A.b - F) = (fb : Int)) := Lib.hid (by rw [← s1]; exact IntWalk.i64_in _ ⟨by omega, by omega⟩)
      have HU2 : Hid (IntKind.i64.wrap ((k : Int) * A.n) = (fi : Int)) := Lib.hid (by rw [← s2]; exact IntWalk.i64_in _ ⟨by omega, by omega⟩)
      clear hfin hgs hgl hkpos hown hG hpg s1 s2 ho0 hsm hsp hfb hF hfbe hfie
      go_wp2_with fail
      refine HPG.out.mono ?_
      rintro e w4 ⟨hyes, -, hb4⟩
      obtain ⟨vg, rfl, hOg⟩ := hyes HGL.out.1
      obtain ⟨A5, c5, rfl, hs5, -⟩ := hOg.sl
      rw [HGL.out.2]
      have HS5 := Lib.hid hs5
      have HH4 := Lib.hid (HH.out.go hb4)
      have HRK4 := Lib.hid (HRK.out.keep hb4 HRK.out.lt)
      have hrk4 := HRK4.out
      clear g0 g1 g2 g3 hyes hOg hs5 hb4
      have HF4 : Hid (w4.cell? ⟨w.heap.size, 0, none⟩ = some (.int .i64 A.b) ∧ w4.cell? ⟨w.heap.size, 1, none⟩ = some (.int .i64 A.p) ∧ w4.cell? ⟨w.heap.size, 2, none⟩ = some (.int .i64 A.n) ∧ w4.cell? ⟨w.heap.size, 3, none⟩ = some (.int .i64 A.j)) := Lib.hid ⟨rowc hrk4 0 rfl, rowc hrk4 1 rfl, rowc hrk4 2 rfl, rowc hrk4 3 rfl⟩
      clear hrk4
      go_wp2_with fail
      have u1 := HU1.out
      have u2 := HU2.out
      refine wp_region_held_drew (S := (fun w' => w'.cell? ⟨w.heap.size, 0, none⟩ = some (.int .i64 A.b) ∧ w'.cell? ⟨w.heap.size, 1, none⟩ = some (.int .i64 A.p) ∧ w'.cell? ⟨w.heap.size, 2, none⟩ = some (.int .i64 A.n) ∧ w'.cell? ⟨w.heap.size, 3, none⟩ = some (.int .i64 A.j))) (by kernel_rfl) HF4.out (fun hHeld => ?_)
      refine tk 0 ?_ rfl ?_ hHeld ?_
      rotate_left
      · intro wq hSw
        obtain ⟨p0, p1, p2, p3⟩ := hSw
        go_simp
        try with_reducible rfl
      try simp only [Act.put, List.getElem_toArray, List.getElem_cons_zero, List.setIfInBounds_toArray, List.set_cons_zero, List.set_cons_succ]
      refine tk 1 ?_ rfl ?_ hHeld ?_
      rotate_left
      · intro wq hSw
        go_simp
        try with_reducible rfl
      try simp only [Act.put, lq1, lq2, lq3, lq4, lq5, lq6]
      refine tk 2 ?_ rfl ?_ hHeld ?_
      rotate_left
      · intro wq hSw
        obtain ⟨p0, p1, p2, p3⟩ := hSw
        go_simp
        try with_reducible rfl
      try simp only [Act.put, lq1, lq2, lq3, lq4, lq5, lq6]
      refine tk 3 ?_ rfl ?_ hHeld ?_
      rotate_left
      · intro wq hSw
        obtain ⟨p0, p1, p2, p3⟩ := hSw
        go_simp
        try with_reducible rfl
      try simp only [Act.put, lq1, lq2, lq3, lq4, lq5, lq6]
      refine tk 6 ?_ rfl ?_ hHeld ?_
      rotate_left
      · intro wq hSw
        go_simp
        try with_reducible rfl
      try simp only [Act.put, lq1, lq2, lq3, lq4, lq5, lq6]
      refine tk 7 ?_ rfl ?_ hHeld ?_
      rotate_left
      · intro wq hSw
        go_simp
        try with_reducible rfl
      try simp only [Act.put, lq1, lq2, lq3, lq4, lq5, lq6]
      refine tk 8 ?_ rfl ?_ hHeld ?_
      rotate_left
      · intro wq hSw
        obtain ⟨p0, p1, p2, p3⟩ := hSw
        go_simp
        try with_reducible rfl
      try simp only [Act.put, lq1, lq2, lq3, lq4, lq5, lq6]
      refine tk 9 (.int .i64 (fi : Int)) rfl ?_ hHeld ?_
      · intro wq hSw
        first | (go_simp; done) | kernel_rfl | rfl | (go_simp; rfl)
      try simp only [Act.put, lq1, lq2, lq3, lq4, lq5, lq6]
      refine wpAnyH_ready (rs := [4]) (by kernel_rfl) (by simp) ?_
      refine AllReadyH.cons (o := _) rfl (fun K hK => ?_) (AllReadyH.nil)
      go_simp
      go_at_call 66
      refine (HFX.out _).mono ?_
      rintro e w5 ⟨rfl, hb5⟩
      have hb5' : Below w4.heap.size w4 w5 := ⟨hb5.os, hb5.tape, hb5.output, hb5.size, hb5.block⟩
      have HH5 := Lib.hid (HH4.out.go hb5')
      have HS6 := Lib.hid (HS5.out.below hb5')
      have HF5 : Hid (w5.cell? ⟨w.heap.size, 0, none⟩ = some (.int .i64 A.b) ∧ w5.cell? ⟨w.heap.size, 1, none⟩ = some (.int .i64 A.p) ∧ w5.cell? ⟨w.heap.size, 2, none⟩ = some (.int .i64 A.n) ∧ w5.cell? ⟨w.heap.size, 3, none⟩ = some (.int .i64 A.j)) := Lib.hid (four4 hb5' HRK4.out.lt HF4.out)
      have HSZ5 := Lib.hid hb5'.size
      clear hb5 hb5'
      go_wp2_with fail
      refine hK.out _ _ HF5.out (fun hHeld => ?_)
      clear hK K
      try simp only [Act.put, lq1, lq2, lq3, lq4, lq5, lq6]
      refine tk 5 (.int .i64 (fb : Int)) rfl ?_ hHeld ?_
      · intro wq hSw
        first | (go_simp; done) | kernel_rfl | rfl | (go_simp; rfl)
      try simp only [Act.put, lq1, lq2, lq3, lq4, lq5, lq6]
      refine tk 10 (.agg #[.int .i64 A.b, .int .i64 A.p, .int .i64 A.n, .int .i64 A.j, .int .i64 (fb : Int), .int .i64 (fi : Int), .int .i64 0, .int .i64 0, .bool false]) rfl ?_ hHeld ?_
      · intro wq hSw
        first | (go_simp; done) | kernel_rfl | rfl | (go_simp; rfl)
      try simp only [Act.put, lq1, lq2, lq3, lq4, lq5, lq6]
      refine wpAnyH_ready (rs := [11]) (by kernel_rfl) (by simp) ?_
      refine AllReadyH.cons (o := _) rfl (fun K hK => ?_) (AllReadyH.nil)
      go_simp
      go_at_call 65
      refine (HPS.out _).mono ?_
      rintro e w6 ⟨v6, rfl, hO6, hb6⟩
      obtain ⟨A6, c6, rfl, hs6, -⟩ := hO6.sl
      rw [HSL.out]
      have HS66 := Lib.hid hs6
      have HH6 := Lib.hid (HH5.out.go hb6)
      have HS67 := Lib.hid (HS6.out.below_le hb6 HSZ5.out)
      have HF6 : Hid (w6.cell? ⟨w.heap.size, 0, none⟩ = some (.int .i64 A.b) ∧ w6.cell? ⟨w.heap.size, 1, none⟩ = some (.int .i64 A.p) ∧ w6.cell? ⟨w.heap.size, 2, none⟩ = some (.int .i64 A.n) ∧ w6.cell? ⟨w.heap.size, 3, none⟩ = some (.int .i64 A.j)) := Lib.hid (four4 hb6 (by have := HRK4.out.lt; have := HSZ5.out; omega) HF5.out)
      have HSZ6 := Lib.hid hb6.size
      have HO6 := Lib.hid hO6
      clear hO6 hs6 hb6
      go_wp2_with fail
      refine hK.out _ _ HF6.out (fun hHeld => ?_)
      clear hK K
      try simp only [Act.put, lq1, lq2, lq3, lq4, lq5, lq6]
      refine tk 12 ?_ rfl ?_ hHeld ?_
      rotate_left
      · intro wq hSw
        go_simp
        try with_reducible rfl
      try simp only [Act.put, lq1, lq2, lq3, lq4, lq5, lq6]
      refine tk 13 ?_ rfl ?_ hHeld ?_
      rotate_left
      · intro wq hSw
        go_simp
        try with_reducible rfl
      try simp only [Act.put, lq1, lq2, lq3, lq4, lq5, lq6]
      refine tk 14 ?_ rfl ?_ hHeld ?_
      rotate_left
      · intro wq hSw
        go_simp
        try with_reducible rfl
      try simp only [Act.put, lq1, lq2, lq3, lq4, lq5, lq6]
      refine tk 15 ?_ rfl ?_ hHeld ?_
      rotate_left
      · intro wq hSw
        go_simp
        try with_reducible rfl
      try simp only [Act.put, lq1, lq2, lq3, lq4, lq5, lq6]
      refine tk 16 ?_ rfl ?_ hHeld ?_
      rotate_left
      · intro wq hSw
        go_simp
        try with_reducible rfl
      try simp only [Act.put, lq1, lq2, lq3, lq4, lq5, lq6]
      refine wpAnyH_done (by kernel_rfl) ?_ _
      go_wp2_with fail
      have hln : ((s.L.length : Nat) : Int) = A.b := HLL.out
      have hb128 := HM.out.b0
      have hal := allW_len A k fun j hj => at_own HM.out (by rw [HMM.out]; exact hj)
      have hkm : k * 4098 ≤ 60000 := by omega
      have HNUM : Hid (1 < s.L.length ∧ (allW A k).length ≤ 60000) := Lib.hid ⟨by omega, by omega⟩
      clear hln hb128 hal hkm
      refine (write_i HH6.out 1 1 rfl (grpBytes A.gs) w4.heap.size A5 c5 HS67.out HNUM.out.1 HGL.out.2 (by have := HPN.out; have := HNUM.out; omega) (by have := HPN.out; have := HNUM.out; omega)).mono ?_
      rintro e w7 ⟨rfl, S7, hm7, he7, -⟩
      have hO7 := own_ext HO6.out he7 (fun q hq => HH5.out.rd.there q hq)
      rw [HSL.out] at hO7
      obtain ⟨-, hs7, -⟩ := hO7.at_
      have HS7 := Lib.hid hs7
      have HH7 := Lib.hid hm7
      clear hm7 he7 hO7 hs7
      go_wp2_with fail
      refine (write_i HH7.out 0 0 rfl (supBytes A.b A.p A.n A.j fb fi 0 0 false) w7.heap.size A6 c6 HS7.out (by have := HNUM.out; omega) HSL.out (by have := HPN.out; have := HNUM.out; simp only [List.length_append, List.length_cons, List.length_nil]; omega) (by have := HPN.out; have := HNUM.out; simp only [List.length_append, List.length_cons, List.length_nil]; omega)).mono ?_
      rintro e w8 ⟨rfl, S8, hm8, -, -⟩
      have HH8 := Lib.hid hm8
      have hfl := RFlush_ok S8 dc _ w8 hm8.rd (by have := HPN.out; have := HNUM.out; unfold putW; simp only [List.length_append, List.length_cons, List.length_nil]; omega) (by have := HPN.out; have := HNUM.out; unfold putW; simp only [List.length_append, List.length_cons, List.length_nil]; omega)
      have HFL := Lib.hid hfl
      clear hm8 hfl
      go_wp2_with fail
      refine HFL.out.mono ?_
      rintro e w9 ⟨rfl, S9, h1, h2, h3⟩
      have E2 : Ext S w w8 := (Ext.of_below HBW3.out S).trans HH8.out.ext (In.refl _ _)
      have I8 : In S8 S w := fun q hq => by
        rcases HH8.out.inn q hq with h | h
        · exact .inl h
        · exact .inr (Nat.le_trans HBW3.out.size h)
      have eW : allW A k ++ [(1, grpBytes A.gs)] ++ [(0, supBytes A.b A.p A.n A.j fb fi 0 0 false)] = emptyW A := by
        unfold emptyW
        rw [HMM.out, HSP.out, List.append_assoc]
        rfl
      rw [eW] at h1
      have H1 := Lib.hid h1
      have H2 := Lib.hid (E2.trans h2 I8)
      have H3 := Lib.hid (I8.trans h3 E2.size)
      clear h1 h2 h3 E2 I8 eW
      go_wp2
      go_ret
      exact ⟨rfl, S9, H1.out, H2.out, H3.out⟩
end Go.Proofs.YtgjcbfdhpbkhoaaGreatDoor.ARMake
