/- Which super blocks may be: the program's answer. -/
import Derived.Test.YtgjcbfdhpbkhoaaGreatDoorMg10
import Derived.Test.YtgjcbfdhpbkhoaaGreatDoorMg14
namespace Go.Proofs.YtgjcbfdhpbkhoaaGreatDoor.SMayBe
open Go.RowKit WMem GPlain GWithin GGeo GGeo2 GFace SPlain
section
variable {P : Program} {ops : Array Oper} {Q : Exit → Act → World → Prop} {md : Region.Mode} {S : World → Prop} {oi : Oper} {fuel : Nat} {listed : Array Bool} {a : Act} {w : World}
theorem tk (i : Nat) (v : Value) (hi : ops[i]? = some oi) (hy : ∀ w, S w → (execOp a.eval oi).run P w = .ok (.value v) w) (hS : S w) (h : wpAnyH P md ops Q S fuel (listed.setIfInBounds i true) (a.put oi.dst v) w)
    (hs : Region.noSelect ops = true := by kernel_rfl) (hf : Region.free md ops listed i = true := by kernel_rfl) (hr : (Region.ready md ops listed).contains i = true := by kernel_rfl) (hQ : ∀ c a w, Q (.panic c) (a.put oi.dst v) w → Q (.panic c) a w := by exact fun _ _ _ h => h) (hg : Region.wanted oi (yielded ops a.tmps) = true := by rfl) : wpAnyH P md ops Q S (fuel + 1) listed a w :=
  wpAnyH_take hi hs hf hr hQ (.inl ⟨hg, hy⟩) hS h
theorem tn (i : Nat) (hi : ops[i]? = some oi) (hS : S w) (h : wpAnyH P md ops Q S fuel (listed.setIfInBounds i true) (a.put oi.dst undef) w)
    (hs : Region.noSelect ops = true := by kernel_rfl) (hf : Region.free md ops listed i = true := by kernel_rfl) (hr : (Region.ready md ops listed).contains i = true := by kernel_rfl) (hQ : ∀ c a w, Q (.panic c) (a.put oi.dst undef) w → Q (.panic c) a w := by exact fun _ _ _ h => h) (hg : Region.wanted oi (yielded ops a.tmps) = false := by rfl) : wpAnyH P md ops Q S (fuel + 1) listed a w :=
  wpAnyH_take hi hs hf hr hQ (.inr ⟨hg, rfl⟩) hS h
end
section
variable (b p n j fb fi oo mo : Int) (cl : Bool) (w : World)
def Two (w w' : World) (b p n j fb fi oo mo : Int) (cl : Bool) : Prop := Boxed w w' [.int .i64 b, .int .i64 p, .int .i64 n, .int .i64 j, .int .i64 fb, .int .i64 fi, .int .i64 oo, .int .i64 mo, .bool cl] ∧ Boxed (w.alloc (.cells #[.int .i64 b, .int .i64 p, .int .i64 n, .int .i64 j, .int .i64 fb, .int .i64 fi, .int .i64 oo, .int .i64 mo, .bool cl] 124)) w' [.int .i64 b, .int .i64 p, .int .i64 n, .int .i64 j]
end
theorem within_two (lo hi x y : Int) (g c : Nat) (w : World) (h0 : w.cell? ⟨g, 0, none⟩ = some (.int .i64 x)) (h1 : w.cell? ⟨g, 1, none⟩ = some (.int .i64 y)) :
    Calls Tryz.prog 111 #[.int .i64 lo, .int .i64 hi, .slice (some ⟨g, 0, none⟩) 2 c] w fun e w' => e = .returned (.bool (allIn lo hi [x, y])) ∧ w = w' :=
  within_any lo hi [x, y] (g + 1) (some ⟨g, 0, none⟩) c w (fun k u hu => by
    match k with
    | 0 => simp at hu; subst hu; exact ⟨_, rfl, by simp, by simpa [Addr.add, i64v] using h0⟩
    | 1 => simp at hu; subst hu; exact ⟨_, rfl, by simp, by simpa [Addr.add, i64v] using h1⟩
    | k + 2 => simp at hu) (by simp)
section
variable {w w1 w2 : World} {b p n j fb fi oo mo : Int} {cl : Bool}
theorem Two.go (h : Two w w1 b p n j fb fi oo mo cl) (hb : Below w1.heap.size w1 w2) : Two w w2 b p n j fb fi oo mo cl := ⟨h.1.go hb, h.2.go hb⟩
theorem Two.alloc (h : Two w w1 b p n j fb fi oo mo cl) (o : Obj) : Two w (w1.alloc o) b p n j fb fi oo mo cl := ⟨h.1.alloc o, h.2.alloc o⟩
theorem Two.drewN (h : Two w w1 b p n j fb fi oo mo cl) (k : Nat) : Two w (w1.drewN k) b p n j fb fi oo mo cl := ⟨h.1.drewN k, h.2.drewN k⟩
theorem Two.start (w : World) (b p n j fb fi oo mo : Int) (cl : Bool) : Two w ((w.alloc (.cells #[.int .i64 b, .int .i64 p, .int .i64 n, .int .i64 j, .int .i64 fb, .int .i64 fi, .int .i64 oo, .int .i64 mo, .bool cl] 124)).alloc (.cells #[.int .i64 b, .int .i64 p, .int .i64 n, .int .i64 j] 63)) b p n j fb fi oo mo cl :=
  ⟨(Boxed.start w [.int .i64 b, .int .i64 p, .int .i64 n, .int .i64 j, .int .i64 fb, .int .i64 fi, .int .i64 oo, .int .i64 mo, .bool cl] 124).alloc _, Boxed.start _ _ _⟩
theorem Two.eight (h : Two w w1 b p n j fb fi oo mo cl) : w1.cell? ⟨w.heap.size + 1, 0, none⟩ = some (.int .i64 b) ∧ w1.cell? ⟨w.heap.size + 1, 1, none⟩ = some (.int .i64 p) ∧ w1.cell? ⟨w.heap.size + 1, 2, none⟩ = some (.int .i64 n) ∧ w1.cell? ⟨w.heap.size + 1, 3, none⟩ = some (.int .i64 j) ∧
    w1.cell? ⟨w.heap.size, 4, none⟩ = some (.int .i64 fb) ∧ w1.cell? ⟨w.heap.size, 5, none⟩ = some (.int .i64 fi) ∧ w1.cell? ⟨w.heap.size, 6, none⟩ = some (.int .i64 oo) ∧ w1.cell? ⟨w.heap.size, 7, none⟩ = some (.int .i64 mo) := by
  have hz : (w.alloc (.cells #[.int .i64 b, .int .i64 p, .int .i64 n, .int .i64 j, .int .i64 fb, .int .i64 fi, .int .i64 oo, .int .i64 mo, .bool cl] 124)).heap.size = w.heap.size + 1 := by simp
  obtain ⟨c0, c1, c2, c3⟩ := h.2.four
  rw [hz] at c0 c1 c2 c3
  exact ⟨c0, c1, c2, c3, h.1.cell 4 _ rfl, h.1.cell 5 _ rfl, h.1.cell 6 _ rfl, h.1.cell 7 _ rfl⟩
end
section
variable (b p n j fb fi oo mo : Int) (cl : Bool) (w : World)
set_option maxHeartbeats 2000000 in
theorem superMayBe_1 (h1 : mayB b p n j = false) :
    Calls Tryz.prog 146 #[.agg #[.int .i64 b, .int .i64 p, .int .i64 n, .int .i64 j, .int .i64 fb, .int .i64 fi, .int .i64 oo, .int .i64 mo, .bool cl]] w fun e w' => e = .returned (.bool false) ∧ Below w.heap.size w w' := by
  have H1 := Lib.hid h1
  have HT := Lib.hid (Two.start w b p n j fb fi oo mo cl)
  clear h1
  go_enter Tryz.func146, Tryz.ntmps146
  go_wp2
  refine wp_region_held_drew (S := (fun w' => w'.cell? ⟨w.heap.size + 1, 0, none⟩ = some (.int .i64 b) ∧ w'.cell? ⟨w.heap.size + 1, 1, none⟩ = some (.int .i64 p) ∧ w'.cell? ⟨w.heap.size + 1, 2, none⟩ = some (.int .i64 n) ∧ w'.cell? ⟨w.heap.size + 1, 3, none⟩ = some (.int .i64 j) ∧ w'.cell? ⟨w.heap.size, 4, none⟩ = some (.int .i64 fb) ∧ w'.cell? ⟨w.heap.size, 5, none⟩ = some (.int .i64 fi) ∧ w'.cell? ⟨w.heap.size, 6, none⟩ = some (.int .i64 oo) ∧ w'.cell? ⟨w.heap.size, 7, none⟩ = some (.int .i64 mo))) (by kernel_rfl) HT.out.eight (fun hHeld => ?_)
  have HT := Lib.hid (HT.out.drewN 1)
  refine tk 0 ?_ rfl ?_ hHeld ?_
  rotate_left
  · intro w hSw
    try dsimp only at hSw
    go_simp
    try with_reducible rfl
  simp only [Act.put, List.getElem_toArray, List.getElem_cons_zero, List.setIfInBounds_toArray, List.set_cons_zero, List.set_cons_succ]
  refine wpAnyH_ready (rs := [1]) (by kernel_rfl) (by simp) ?_
  refine AllReadyH.cons (o := _) rfl (fun K hK => ?_) AllReadyH.nil
  go_simp; go_at_call 83; refine (mayBe_is b p n j _ false H1.out).mono ?_; rintro e w1 ⟨rfl, hb1⟩
  have HC := Lib.hid (bcell hb1).1
  have HT : Hid (Two w w1 b p n j fb fi oo mo cl) := Lib.hid (by refine Two.go ?_ hb1; repeat (first | exact HT.out | exact HT.out.drewN 1 | apply Two.alloc))
  clear hb1
  go_wp2_with fail
  refine hK.out _ _ HT.out.eight (fun hHeld => ?_)
  clear hK K
  try simp only [Act.put, lq1, lq2, lq3, lq4, lq5, lq6]
  refine tk 2 ?_ rfl ?_ hHeld ?_
  rotate_left
  · intro w hSw
    try dsimp only at hSw
    go_simp
    try with_reducible rfl
  simp only [Act.put, lq1, lq2, lq3, lq4, lq5, lq6]
  refine tn 3 rfl hHeld ?_
  simp only [Act.put, lq1, lq2, lq3, lq4, lq5, lq6]
  refine tn 4 rfl hHeld ?_
  simp only [Act.put, lq1, lq2, lq3, lq4, lq5, lq6]
  refine tn 5 rfl hHeld ?_
  simp only [Act.put, lq1, lq2, lq3, lq4, lq5, lq6]
  refine tn 6 rfl hHeld ?_
  simp only [Act.put, lq1, lq2, lq3, lq4, lq5, lq6]
  refine tn 7 rfl hHeld ?_
  simp only [Act.put, lq1, lq2, lq3, lq4, lq5, lq6]
  refine tn 8 rfl hHeld ?_
  simp only [Act.put, lq1, lq2, lq3, lq4, lq5, lq6]
  refine tn 9 rfl hHeld ?_
  simp only [Act.put, lq1, lq2, lq3, lq4, lq5, lq6]
  refine tn 10 rfl hHeld ?_
  simp only [Act.put, lq1, lq2, lq3, lq4, lq5, lq6]
  refine tn 11 rfl hHeld ?_
  simp only [Act.put, lq1, lq2, lq3, lq4, lq5, lq6]
  refine tk 12 ?_ rfl ?_ hHeld ?_
  rotate_left
  · intro w hSw
    try dsimp only at hSw
    go_simp
    try with_reducible rfl
  simp only [Act.put, lq1, lq2, lq3, lq4, lq5, lq6]
  refine tk 13 ?_ rfl ?_ hHeld ?_
  rotate_left
  · intro w hSw
    try dsimp only at hSw
    go_simp
    try with_reducible rfl
  simp only [Act.put, lq1, lq2, lq3, lq4, lq5, lq6]
  refine tn 14 rfl hHeld ?_
  simp only [Act.put, lq1, lq2, lq3, lq4, lq5, lq6]
  refine tn 15 rfl hHeld ?_
  simp only [Act.put, lq1, lq2, lq3, lq4, lq5, lq6]
  refine tn 16 rfl hHeld ?_
  simp only [Act.put, lq1, lq2, lq3, lq4, lq5, lq6]
  refine tn 17 rfl hHeld ?_
  simp only [Act.put, lq1, lq2, lq3, lq4, lq5, lq6]
  refine tn 18 rfl hHeld ?_
  simp only [Act.put, lq1, lq2, lq3, lq4, lq5, lq6]
  refine tn 19 rfl hHeld ?_
  simp only [Act.put, lq1, lq2, lq3, lq4, lq5, lq6]
  refine tn 20 rfl hHeld ?_
  simp only [Act.put, lq1, lq2, lq3, lq4, lq5, lq6]
  refine tn 21 rfl hHeld ?_
  simp only [Act.put, lq1, lq2, lq3, lq4, lq5, lq6]
  refine tk 22 ?_ rfl ?_ hHeld ?_
  rotate_left
  · intro w hSw
    try dsimp only at hSw
    go_simp
    try with_reducible rfl
  simp only [Act.put, lq1, lq2, lq3, lq4, lq5, lq6]
  refine tk 23 ?_ rfl ?_ hHeld ?_
  rotate_left
  · intro w hSw
    try dsimp only at hSw
    go_simp
    try with_reducible rfl
  simp only [Act.put, lq1, lq2, lq3, lq4, lq5, lq6]
  refine tn 24 rfl hHeld ?_
  simp only [Act.put, lq1, lq2, lq3, lq4, lq5, lq6]
  refine tn 25 rfl hHeld ?_
  simp only [Act.put, lq1, lq2, lq3, lq4, lq5, lq6]
  refine tn 26 rfl hHeld ?_
  simp only [Act.put, lq1, lq2, lq3, lq4, lq5, lq6]
  refine tn 27 rfl hHeld ?_
  simp only [Act.put, lq1, lq2, lq3, lq4, lq5, lq6]
  refine tk 28 ?_ rfl ?_ hHeld ?_
  rotate_left
  · intro w hSw
    try dsimp only at hSw
    go_simp
    try with_reducible rfl
  simp only [Act.put, lq1, lq2, lq3, lq4, lq5, lq6]
  refine tk 29 ?_ rfl ?_ hHeld ?_
  rotate_left
  · intro w hSw
    try dsimp only at hSw
    go_simp
    try with_reducible rfl
  simp only [Act.put, lq1, lq2, lq3, lq4, lq5, lq6]
  refine wpAnyH_done (by kernel_rfl) ?_ _
  go_wp2
  go_ret
  exact ⟨rfl, HT.out.1.below⟩
set_option maxHeartbeats 2000000 in
theorem superMayBe_2 (h1 : mayB b p n j = true) (h2 : inB 0 (b - fixedI b p n j) fb = false) :
    Calls Tryz.prog 146 #[.agg #[.int .i64 b, .int .i64 p, .int .i64 n, .int .i64 j, .int .i64 fb, .int .i64 fi, .int .i64 oo, .int .i64 mo, .bool cl]] w fun e w' => e = .returned (.bool false) ∧ Below w.heap.size w w' := by
  have H1 := Lib.hid h1
  have HT := Lib.hid (Two.start w b p n j fb fi oo mo cl)
  have s1 : IntKind.i64.wrap (b - fixedI b p n j) = b - fixedI b p n j := by
    have hx := fixedI_yes h1
    obtain ⟨hb0, hb1, hp0, hp1, hn0, hn1, hev, hj0, hj1, hg0, hg1, hlo, hhi, hf, hl⟩ := may_iff.1 h1
    have hp := prod2_bd (g := gN b p) (by omega) hg1 hn0 hn1
    exact IntWalk.i64_in _ (by omega)
  clear h1
  go_enter Tryz.func146, Tryz.ntmps146
  go_wp2
  refine wp_region_held_drew (S := (fun w' => w'.cell? ⟨w.heap.size + 1, 0, none⟩ = some (.int .i64 b) ∧ w'.cell? ⟨w.heap.size + 1, 1, none⟩ = some (.int .i64 p) ∧ w'.cell? ⟨w.heap.size + 1, 2, none⟩ = some (.int .i64 n) ∧ w'.cell? ⟨w.heap.size + 1, 3, none⟩ = some (.int .i64 j) ∧ w'.cell? ⟨w.heap.size, 4, none⟩ = some (.int .i64 fb) ∧ w'.cell? ⟨w.heap.size, 5, none⟩ = some (.int .i64 fi) ∧ w'.cell? ⟨w.heap.size, 6, none⟩ = some (.int .i64 oo) ∧ w'.cell? ⟨w.heap.size, 7, none⟩ = some (.int .i64 mo))) (by kernel_rfl) HT.out.eight (fun hHeld => ?_)
  have HT := Lib.hid (HT.out.drewN 1)
  refine tk 0 ?_ rfl ?_ hHeld ?_
  rotate_left
  · intro w hSw
    try dsimp only at hSw
    go_simp
    try with_reducible rfl
  simp only [Act.put, List.getElem_toArray, List.getElem_cons_zero, List.setIfInBounds_toArray, List.set_cons_zero, List.set_cons_succ]
  refine wpAnyH_ready (rs := [1]) (by kernel_rfl) (by simp) ?_
  refine AllReadyH.cons (o := _) rfl (fun K hK => ?_) AllReadyH.nil
  go_simp; go_at_call 83; refine (mayBe_is b p n j _ true H1.out).mono ?_; rintro e w1 ⟨rfl, hb1⟩
  have HC := Lib.hid (bcell hb1).1
  have HT : Hid (Two w w1 b p n j fb fi oo mo cl) := Lib.hid (by refine Two.go ?_ hb1; repeat (first | exact HT.out | exact HT.out.drewN 1 | apply Two.alloc))
  clear hb1
  go_wp2_with fail
  refine hK.out _ _ HT.out.eight (fun hHeld => ?_)
  clear hK K
  try simp only [Act.put, lq1, lq2, lq3, lq4, lq5, lq6]
  refine tk 2 ?_ rfl ?_ hHeld ?_
  rotate_left
  · intro w hSw
    try dsimp only at hSw
    go_simp
    try with_reducible rfl
  simp only [Act.put, lq1, lq2, lq3, lq4, lq5, lq6]
  refine tk 3 ?_ rfl ?_ hHeld ?_
  rotate_left
  · intro w hSw
    try dsimp only at hSw
    go_simp
    try with_reducible rfl
  simp only [Act.put, lq1, lq2, lq3, lq4, lq5, lq6]
  refine tk 4 ?_ rfl ?_ hHeld ?_
  rotate_left
  · intro w hSw
    try dsimp only at hSw
    go_simp
    try with_reducible rfl
  simp only [Act.put, lq1, lq2, lq3, lq4, lq5, lq6]
  refine tk 5 ?_ rfl ?_ hHeld ?_
  rotate_left
  · intro w hSw
    try dsimp only at hSw
    go_simp
    try with_reducible rfl
  simp only [Act.put, lq1, lq2, lq3, lq4, lq5, lq6]
  refine tk 8 ?_ rfl ?_ hHeld ?_
  rotate_left
  · intro w hSw
    try dsimp only at hSw
    go_simp
    try with_reducible rfl
  simp only [Act.put, lq1, lq2, lq3, lq4, lq5, lq6]
  refine tk 9 ?_ rfl ?_ hHeld ?_
  rotate_left
  · intro w hSw
    try dsimp only at hSw
    go_simp
    try with_reducible rfl
  simp only [Act.put, lq1, lq2, lq3, lq4, lq5, lq6]
  refine wpAnyH_ready (rs := [6, 10]) (by kernel_rfl) (by simp) ?_
  refine AllReadyH.cons (o := _) rfl (fun K hK => ?_) (AllReadyH.cons (o := _) rfl (fun K hK => ?_) AllReadyH.nil)
  · skip
    go_simp; go_at_call 157; refine (Fixed_any b p n j _).mono ?_; rintro e w1 ⟨rfl, hb1⟩
    have HC := Lib.hid (bcell hb1).1
    have HT : Hid (Two w w1 b p n j fb fi oo mo cl) := Lib.hid (by refine Two.go ?_ hb1; repeat (first | exact HT.out | exact HT.out.drewN 1 | apply Two.alloc))
    clear hb1
    go_wp2_with fail
    refine hK.out _ _ HT.out.eight (fun hHeld => ?_)
    clear hK K
    try simp only [Act.put, lq1, lq2, lq3, lq4, lq5, lq6]
    refine tk 7 ?_ rfl ?_ hHeld ?_
    rotate_left
    · intro w hSw
      try dsimp only at hSw
      go_simp
      try with_reducible rfl
    simp only [Act.put, lq1, lq2, lq3, lq4, lq5, lq6]
    refine wpAnyH_ready (rs := [10]) (by kernel_rfl) (by simp) ?_
    refine AllReadyH.cons (o := _) rfl (fun K hK => ?_) AllReadyH.nil
    go_simp
    have HT := Lib.hid (HT.out.alloc (.cells #[.int .i64 fb] 3))
    refine hK.out _ _ HT.out.eight (fun hHeld => ?_)
    clear hK K
    try simp only [Act.put, lq1, lq2, lq3, lq4, lq5, lq6]
    refine wpAnyH_ready (rs := [11]) (by kernel_rfl) (by simp) ?_
    refine AllReadyH.cons (o := _) rfl (fun K hK => ?_) AllReadyH.nil
    go_simp; go_at_call 111; refine (within_one 0 (b - fixedI b p n j) fb _ _ _ ?_).mono ?_
    · first | (simp [go_sem]; done) | (simp [go_sem, HC.out]; done)
    rintro e w' ⟨rfl, rfl⟩
    go_wp2_with fail
    refine hK.out _ _ HT.out.eight (fun hHeld => ?_)
    clear hK K
    try simp only [Act.put, lq1, lq2, lq3, lq4, lq5, lq6]
    refine tk 12 ?_ rfl ?_ hHeld ?_
    rotate_left
    · intro w hSw
      try dsimp only at hSw
      go_simp
      try with_reducible rfl
    simp only [Act.put, lq1, lq2, lq3, lq4, lq5, lq6]
    refine tk 13 ?_ rfl ?_ hHeld ?_
    rotate_left
    · intro w hSw
      try dsimp only at hSw
      go_simp
      try with_reducible rfl
    simp only [Act.put, lq1, lq2, lq3, lq4, lq5, lq6]
    refine tn 14 rfl hHeld ?_
    simp only [Act.put, lq1, lq2, lq3, lq4, lq5, lq6]
    refine tn 15 rfl hHeld ?_
    simp only [Act.put, lq1, lq2, lq3, lq4, lq5, lq6]
    refine tn 16 rfl hHeld ?_
    simp only [Act.put, lq1, lq2, lq3, lq4, lq5, lq6]
    refine tn 17 rfl hHeld ?_
    simp only [Act.put, lq1, lq2, lq3, lq4, lq5, lq6]
    refine tn 18 rfl hHeld ?_
    simp only [Act.put, lq1, lq2, lq3, lq4, lq5, lq6]
    refine tn 19 rfl hHeld ?_
    simp only [Act.put, lq1, lq2, lq3, lq4, lq5, lq6]
    refine tn 20 rfl hHeld ?_
    simp only [Act.put, lq1, lq2, lq3, lq4, lq5, lq6]
    refine tn 21 rfl hHeld ?_
    simp only [Act.put, lq1, lq2, lq3, lq4, lq5, lq6]
    refine tk 22 ?_ rfl ?_ hHeld ?_
    rotate_left
    · intro w hSw
      try dsimp only at hSw
      go_simp
      try with_reducible rfl
    simp only [Act.put, lq1, lq2, lq3, lq4, lq5, lq6]
    refine tk 23 ?_ rfl ?_ hHeld ?_
    rotate_left
    · intro w hSw
      try dsimp only at hSw
      go_simp
      try with_reducible rfl
    simp only [Act.put, lq1, lq2, lq3, lq4, lq5, lq6]
    refine tn 24 rfl hHeld ?_
    simp only [Act.put, lq1, lq2, lq3, lq4, lq5, lq6]
    refine tn 25 rfl hHeld ?_
    simp only [Act.put, lq1, lq2, lq3, lq4, lq5, lq6]
    refine tn 26 rfl hHeld ?_
    simp only [Act.put, lq1, lq2, lq3, lq4, lq5, lq6]
    refine tn 27 rfl hHeld ?_
    simp only [Act.put, lq1, lq2, lq3, lq4, lq5, lq6]
    refine tk 28 ?_ rfl ?_ hHeld ?_
    rotate_left
    · intro w hSw
      try dsimp only at hSw
      go_simp
      try with_reducible rfl
    simp only [Act.put, lq1, lq2, lq3, lq4, lq5, lq6]
    refine tk 29 ?_ rfl ?_ hHeld ?_
    rotate_left
    · intro w hSw
      try dsimp only at hSw
      go_simp
      try with_reducible rfl
    simp only [Act.put, lq1, lq2, lq3, lq4, lq5, lq6]
    refine wpAnyH_done (by kernel_rfl) ?_ _
    go_wp2
    go_ret
    exact ⟨rfl, HT.out.1.below⟩
  · skip
    go_simp
    have HT := Lib.hid (HT.out.alloc (.cells #[.int .i64 fb] 3))
    refine hK.out _ _ HT.out.eight (fun hHeld => ?_)
    clear hK K
    try simp only [Act.put, lq1, lq2, lq3, lq4, lq5, lq6]
    refine wpAnyH_ready (rs := [6]) (by kernel_rfl) (by simp) ?_
    refine AllReadyH.cons (o := _) rfl (fun K hK => ?_) AllReadyH.nil
    go_simp; go_at_call 157; refine (Fixed_any b p n j _).mono ?_; rintro e w1 ⟨rfl, hb1⟩
    have HC := Lib.hid (bcell hb1).1
    have HT : Hid (Two w w1 b p n j fb fi oo mo cl) := Lib.hid (by refine Two.go ?_ hb1; repeat (first | exact HT.out | exact HT.out.drewN 1 | apply Two.alloc))
    clear hb1
    go_wp2_with fail
    refine hK.out _ _ HT.out.eight (fun hHeld => ?_)
    clear hK K
    try simp only [Act.put, lq1, lq2, lq3, lq4, lq5, lq6]
    refine tk 7 ?_ rfl ?_ hHeld ?_
    rotate_left
    · intro w hSw
      try dsimp only at hSw
      go_simp
      try with_reducible rfl
    simp only [Act.put, lq1, lq2, lq3, lq4, lq5, lq6]
    refine wpAnyH_ready (rs := [11]) (by kernel_rfl) (by simp) ?_
    refine AllReadyH.cons (o := _) rfl (fun K hK => ?_) AllReadyH.nil
    go_simp; go_at_call 111; refine (within_one 0 (b - fixedI b p n j) fb _ _ _ ?_).mono ?_
    · first | (simp [go_sem]; done) | (simp [go_sem, HC.out]; done)
    rintro e w' ⟨rfl, rfl⟩
    go_wp2_with fail
    refine hK.out _ _ HT.out.eight (fun hHeld => ?_)
    clear hK K
    try simp only [Act.put, lq1, lq2, lq3, lq4, lq5, lq6]
    refine tk 12 ?_ rfl ?_ hHeld ?_
    rotate_left
    · intro w hSw
      try dsimp only at hSw
      go_simp
      try with_reducible rfl
    simp only [Act.put, lq1, lq2, lq3, lq4, lq5, lq6]
    refine tk 13 ?_ rfl ?_ hHeld ?_
    rotate_left
    · intro w hSw
      try dsimp only at hSw
      go_simp
      try with_reducible rfl
    simp only [Act.put, lq1, lq2, lq3, lq4, lq5, lq6]
    refine tn 14 rfl hHeld ?_
    simp only [Act.put, lq1, lq2, lq3, lq4, lq5, lq6]
    refine tn 15 rfl hHeld ?_
    simp only [Act.put, lq1, lq2, lq3, lq4, lq5, lq6]
    refine tn 16 rfl hHeld ?_
    simp only [Act.put, lq1, lq2, lq3, lq4, lq5, lq6]
    refine tn 17 rfl hHeld ?_
    simp only [Act.put, lq1, lq2, lq3, lq4, lq5, lq6]
    refine tn 18 rfl hHeld ?_
    simp only [Act.put, lq1, lq2, lq3, lq4, lq5, lq6]
    refine tn 19 rfl hHeld ?_
    simp only [Act.put, lq1, lq2, lq3, lq4, lq5, lq6]
    refine tn 20 rfl hHeld ?_
    simp only [Act.put, lq1, lq2, lq3, lq4, lq5, lq6]
    refine tn 21 rfl hHeld ?_
    simp only [Act.put, lq1, lq2, lq3, lq4, lq5, lq6]
    refine tk 22 ?_ rfl ?_ hHeld ?_
    rotate_left
    · intro w hSw
      try dsimp only at hSw
      go_simp
      try with_reducible rfl
    simp only [Act.put, lq1, lq2, lq3, lq4, lq5, lq6]
    refine tk 23 ?_ rfl ?_ hHeld ?_
    rotate_left
    · intro w hSw
      try dsimp only at hSw
      go_simp
      try with_reducible rfl
    simp only [Act.put, lq1, lq2, lq3, lq4, lq5, lq6]
    refine tn 24 rfl hHeld ?_
    simp only [Act.put, lq1, lq2, lq3, lq4, lq5, lq6]
    refine tn 25 rfl hHeld ?_
    simp only [Act.put, lq1, lq2, lq3, lq4, lq5, lq6]
    refine tn 26 rfl hHeld ?_
    simp only [Act.put, lq1, lq2, lq3, lq4, lq5, lq6]
    refine tn 27 rfl hHeld ?_
    simp only [Act.put, lq1, lq2, lq3, lq4, lq5, lq6]
    refine tk 28 ?_ rfl ?_ hHeld ?_
    rotate_left
    · intro w hSw
      try dsimp only at hSw
      go_simp
      try with_reducible rfl
    simp only [Act.put, lq1, lq2, lq3, lq4, lq5, lq6]
    refine tk 29 ?_ rfl ?_ hHeld ?_
    rotate_left
    · intro w hSw
      try dsimp only at hSw
      go_simp
      try with_reducible rfl
    simp only [Act.put, lq1, lq2, lq3, lq4, lq5, lq6]
    refine wpAnyH_done (by kernel_rfl) ?_ _
    go_wp2
    go_ret
    exact ⟨rfl, HT.out.1.below⟩
set_option maxHeartbeats 2000000 in
theorem superMayBe_3 (h1 : mayB b p n j = true) (h2 : inB 0 (b - fixedI b p n j) fb = true) (h3 : allIn 0 (groupsI b p n j * n) [fi, oo] = false) :
    Calls Tryz.prog 146 #[.agg #[.int .i64 b, .int .i64 p, .int .i64 n, .int .i64 j, .int .i64 fb, .int .i64 fi, .int .i64 oo, .int .i64 mo, .bool cl]] w fun e w' => e = .returned (.bool false) ∧ Below w.heap.size w w' := by
  have H1 := Lib.hid h1
  have HT := Lib.hid (Two.start w b p n j fb fi oo mo cl)
  have s1 : IntKind.i64.wrap (b - fixedI b p n j) = b - fixedI b p n j := by
    have hx := fixedI_yes h1
    obtain ⟨hb0, hb1, hp0, hp1, hn0, hn1, hev, hj0, hj1, hg0, hg1, hlo, hhi, hf, hl⟩ := may_iff.1 h1
    have hp := prod2_bd (g := gN b p) (by omega) hg1 hn0 hn1
    exact IntWalk.i64_in _ (by omega)
  clear h1
  go_enter Tryz.func146, Tryz.ntmps146
  go_wp2
  refine wp_region_held_drew (S := (fun w' => w'.cell? ⟨w.heap.size + 1, 0, none⟩ = some (.int .i64 b) ∧ w'.cell? ⟨w.heap.size + 1, 1, none⟩ = some (.int .i64 p) ∧ w'.cell? ⟨w.heap.size + 1, 2, none⟩ = some (.int .i64 n) ∧ w'.cell? ⟨w.heap.size + 1, 3, none⟩ = some (.int .i64 j) ∧ w'.cell? ⟨w.heap.size, 4, none⟩ = some (.int .i64 fb) ∧ w'.cell? ⟨w.heap.size, 5, none⟩ = some (.int .i64 fi) ∧ w'.cell? ⟨w.heap.size, 6, none⟩ = some (.int .i64 oo) ∧ w'.cell? ⟨w.heap.size, 7, none⟩ = some (.int .i64 mo))) (by kernel_rfl) HT.out.eight (fun hHeld => ?_)
  have HT := Lib.hid (HT.out.drewN 1)
  refine tk 0 ?_ rfl ?_ hHeld ?_
  rotate_left
  · intro w hSw
    try dsimp only at hSw
    go_simp
    try with_reducible rfl
  simp only [Act.put, List.getElem_toArray, List.getElem_cons_zero, List.setIfInBounds_toArray, List.set_cons_zero, List.set_cons_succ]
  refine wpAnyH_ready (rs := [1]) (by kernel_rfl) (by simp) ?_
  refine AllReadyH.cons (o := _) rfl (fun K hK => ?_) AllReadyH.nil
  go_simp; go_at_call 83; refine (mayBe_is b p n j _ true H1.out).mono ?_; rintro e w1 ⟨rfl, hb1⟩
  have HC := Lib.hid (bcell hb1).1
  have HT : Hid (Two w w1 b p n j fb fi oo mo cl) := Lib.hid (by refine Two.go ?_ hb1; repeat (first | exact HT.out | exact HT.out.drewN 1 | apply Two.alloc))
  clear hb1
  go_wp2_with fail
  refine hK.out _ _ HT.out.eight (fun hHeld => ?_)
  clear hK K
  try simp only [Act.put, lq1, lq2, lq3, lq4, lq5, lq6]
  refine tk 2 ?_ rfl ?_ hHeld ?_
  rotate_left
  · intro w hSw
    try dsimp only at hSw
    go_simp
    try with_reducible rfl
  simp only [Act.put, lq1, lq2, lq3, lq4, lq5, lq6]
  refine tk 3 ?_ rfl ?_ hHeld ?_
  rotate_left
  · intro w hSw
    try dsimp only at hSw
    go_simp
    try with_reducible rfl
  simp only [Act.put, lq1, lq2, lq3, lq4, lq5, lq6]
  refine tk 4 ?_ rfl ?_ hHeld ?_
  rotate_left
  · intro w hSw
    try dsimp only at hSw
    go_simp
    try with_reducible rfl
  simp only [Act.put, lq1, lq2, lq3, lq4, lq5, lq6]
  refine tk 5 ?_ rfl ?_ hHeld ?_
  rotate_left
  · intro w hSw
    try dsimp only at hSw
    go_simp
    try with_reducible rfl
  simp only [Act.put, lq1, lq2, lq3, lq4, lq5, lq6]
  refine tk 8 ?_ rfl ?_ hHeld ?_
  rotate_left
  · intro w hSw
    try dsimp only at hSw
    go_simp
    try with_reducible rfl
  simp only [Act.put, lq1, lq2, lq3, lq4, lq5, lq6]
  refine tk 9 ?_ rfl ?_ hHeld ?_
  rotate_left
  · intro w hSw
    try dsimp only at hSw
    go_simp
    try with_reducible rfl
  simp only [Act.put, lq1, lq2, lq3, lq4, lq5, lq6]
  refine wpAnyH_ready (rs := [6, 10]) (by kernel_rfl) (by simp) ?_
  refine AllReadyH.cons (o := _) rfl (fun K hK => ?_) (AllReadyH.cons (o := _) rfl (fun K hK => ?_) AllReadyH.nil)
  · skip
    go_simp; go_at_call 157; refine (Fixed_any b p n j _).mono ?_; rintro e w1 ⟨rfl, hb1⟩
    have HC := Lib.hid (bcell hb1).1
    have HT : Hid (Two w w1 b p n j fb fi oo mo cl) := Lib.hid (by refine Two.go ?_ hb1; repeat (first | exact HT.out | exact HT.out.drewN 1 | apply Two.alloc))
    clear hb1
    go_wp2_with fail
    refine hK.out _ _ HT.out.eight (fun hHeld => ?_)
    clear hK K
    try simp only [Act.put, lq1, lq2, lq3, lq4, lq5, lq6]
    refine tk 7 ?_ rfl ?_ hHeld ?_
    rotate_left
    · intro w hSw
      try dsimp only at hSw
      go_simp
      try with_reducible rfl
    simp only [Act.put, lq1, lq2, lq3, lq4, lq5, lq6]
    refine wpAnyH_ready (rs := [10]) (by kernel_rfl) (by simp) ?_
    refine AllReadyH.cons (o := _) rfl (fun K hK => ?_) AllReadyH.nil
    go_simp
    have HT := Lib.hid (HT.out.alloc (.cells #[.int .i64 fb] 3))
    refine hK.out _ _ HT.out.eight (fun hHeld => ?_)
    clear hK K
    try simp only [Act.put, lq1, lq2, lq3, lq4, lq5, lq6]
    refine wpAnyH_ready (rs := [11]) (by kernel_rfl) (by simp) ?_
    refine AllReadyH.cons (o := _) rfl (fun K hK => ?_) AllReadyH.nil
    go_simp; go_at_call 111; refine (within_one 0 (b - fixedI b p n j) fb _ _ _ ?_).mono ?_
    · first | (simp [go_sem]; done) | (simp [go_sem, HC.out]; done)
    rintro e w' ⟨rfl, rfl⟩
    go_wp2_with fail
    refine hK.out _ _ HT.out.eight (fun hHeld => ?_)
    clear hK K
    try simp only [Act.put, lq1, lq2, lq3, lq4, lq5, lq6]
    refine tk 12 ?_ rfl ?_ hHeld ?_
    rotate_left
    · intro w hSw
      try dsimp only at hSw
      go_simp
      try with_reducible rfl
    simp only [Act.put, lq1, lq2, lq3, lq4, lq5, lq6]
    refine tk 13 ?_ rfl ?_ hHeld ?_
    rotate_left
    · intro w hSw
      try dsimp only at hSw
      go_simp
      try with_reducible rfl
    simp only [Act.put, lq1, lq2, lq3, lq4, lq5, lq6]
    refine tk 14 ?_ rfl ?_ hHeld ?_
    rotate_left
    · intro w hSw
      try dsimp only at hSw
      go_simp
      try with_reducible rfl
    simp only [Act.put, lq1, lq2, lq3, lq4, lq5, lq6]
    refine tk 16 ?_ rfl ?_ hHeld ?_
    rotate_left
    · intro w hSw
      try dsimp only at hSw
      go_simp
      try with_reducible rfl
    simp only [Act.put, lq1, lq2, lq3, lq4, lq5, lq6]
    refine tk 17 ?_ rfl ?_ hHeld ?_
    rotate_left
    · intro w hSw
      try dsimp only at hSw
      go_simp
      try with_reducible rfl
    simp only [Act.put, lq1, lq2, lq3, lq4, lq5, lq6]
    refine tk 18 ?_ rfl ?_ hHeld ?_
    rotate_left
    · intro w hSw
      try dsimp only at hSw
      go_simp
      try with_reducible rfl
    simp only [Act.put, lq1, lq2, lq3, lq4, lq5, lq6]
    refine tk 19 ?_ rfl ?_ hHeld ?_
    rotate_left
    · intro w hSw
      try dsimp only at hSw
      go_simp
      try with_reducible rfl
    simp only [Act.put, lq1, lq2, lq3, lq4, lq5, lq6]
    refine wpAnyH_ready (rs := [15, 20]) (by kernel_rfl) (by simp) ?_
    refine AllReadyH.cons (o := _) rfl (fun K hK => ?_) (AllReadyH.cons (o := _) rfl (fun K hK => ?_) AllReadyH.nil)
    · skip
      go_simp; go_at_call 131; refine (inodes_any b p n j _).mono ?_; rintro e w1 ⟨rfl, hb1⟩
      have HC := Lib.hid (bcell hb1).1
      have HT : Hid (Two w w1 b p n j fb fi oo mo cl) := Lib.hid (by refine Two.go ?_ hb1; repeat (first | exact HT.out | exact HT.out.drewN 1 | apply Two.alloc))
      clear hb1
      go_wp2_with fail
      refine hK.out _ _ HT.out.eight (fun hHeld => ?_)
      clear hK K
      try simp only [Act.put, lq1, lq2, lq3, lq4, lq5, lq6]
      refine wpAnyH_ready (rs := [20]) (by kernel_rfl) (by simp) ?_
      refine AllReadyH.cons (o := _) rfl (fun K hK => ?_) AllReadyH.nil
      go_simp
      have HT := Lib.hid (HT.out.alloc (.cells #[.int .i64 fi, .int .i64 oo] 3))
      refine hK.out _ _ HT.out.eight (fun hHeld => ?_)
      clear hK K
      try simp only [Act.put, lq1, lq2, lq3, lq4, lq5, lq6]
      refine wpAnyH_ready (rs := [21]) (by kernel_rfl) (by simp) ?_
      refine AllReadyH.cons (o := _) rfl (fun K hK => ?_) AllReadyH.nil
      go_simp; go_at_call 111; refine (within_two 0 (groupsI b p n j * n) fi oo _ _ _ ?_ ?_).mono ?_
      · first | (simp [go_sem]; done) | (simp [go_sem, HC.out]; done)
      · first | (simp [go_sem]; done) | (simp [go_sem, HC.out]; done)
      rintro e w' ⟨rfl, rfl⟩
      go_wp2_with fail
      refine hK.out _ _ HT.out.eight (fun hHeld => ?_)
      clear hK K
      try simp only [Act.put, lq1, lq2, lq3, lq4, lq5, lq6]
      refine tk 22 ?_ rfl ?_ hHeld ?_
      rotate_left
      · intro w hSw
        try dsimp only at hSw
        go_simp
        try with_reducible rfl
      simp only [Act.put, lq1, lq2, lq3, lq4, lq5, lq6]
      refine tk 23 ?_ rfl ?_ hHeld ?_
      rotate_left
      · intro w hSw
        try dsimp only at hSw
        go_simp
        try with_reducible rfl
      simp only [Act.put, lq1, lq2, lq3, lq4, lq5, lq6]
      refine tn 24 rfl hHeld ?_
      simp only [Act.put, lq1, lq2, lq3, lq4, lq5, lq6]
      refine tn 25 rfl hHeld ?_
      simp only [Act.put, lq1, lq2, lq3, lq4, lq5, lq6]
      refine tn 26 rfl hHeld ?_
      simp only [Act.put, lq1, lq2, lq3, lq4, lq5, lq6]
      refine tn 27 rfl hHeld ?_
      simp only [Act.put, lq1, lq2, lq3, lq4, lq5, lq6]
      refine tk 28 ?_ rfl ?_ hHeld ?_
      rotate_left
      · intro w hSw
        try dsimp only at hSw
        go_simp
        try with_reducible rfl
      simp only [Act.put, lq1, lq2, lq3, lq4, lq5, lq6]
      refine tk 29 ?_ rfl ?_ hHeld ?_
      rotate_left
      · intro w hSw
        try dsimp only at hSw
        go_simp
        try with_reducible rfl
      simp only [Act.put, lq1, lq2, lq3, lq4, lq5, lq6]
      refine wpAnyH_done (by kernel_rfl) ?_ _
      go_wp2
      go_ret
      exact ⟨rfl, HT.out.1.below⟩
    · skip
      go_simp
      have HT := Lib.hid (HT.out.alloc (.cells #[.int .i64 fi, .int .i64 oo] 3))
      refine hK.out _ _ HT.out.eight (fun hHeld => ?_)
      clear hK K
      try simp only [Act.put, lq1, lq2, lq3, lq4, lq5, lq6]
      refine wpAnyH_ready (rs := [15]) (by kernel_rfl) (by simp) ?_
      refine AllReadyH.cons (o := _) rfl (fun K hK => ?_) AllReadyH.nil
      go_simp; go_at_call 131; refine (inodes_any b p n j _).mono ?_; rintro e w1 ⟨rfl, hb1⟩
      have HC := Lib.hid (bcell hb1).1
      have HT : Hid (Two w w1 b p n j fb fi oo mo cl) := Lib.hid (by refine Two.go ?_ hb1; repeat (first | exact HT.out | exact HT.out.drewN 1 | apply Two.alloc))
      clear hb1
      go_wp2_with fail
      refine hK.out _ _ HT.out.eight (fun hHeld => ?_)
      clear hK K
      try simp only [Act.put, lq1, lq2, lq3, lq4, lq5, lq6]
      refine wpAnyH_ready (rs := [21]) (by kernel_rfl) (by simp) ?_
      refine AllReadyH.cons (o := _) rfl (fun K hK => ?_) AllReadyH.nil
      go_simp; go_at_call 111; refine (within_two 0 (groupsI b p n j * n) fi oo _ _ _ ?_ ?_).mono ?_
      · first | (simp [go_sem]; done) | (simp [go_sem, HC.out]; done)
      · first | (simp [go_sem]; done) | (simp [go_sem, HC.out]; done)
      rintro e w' ⟨rfl, rfl⟩
      go_wp2_with fail
      refine hK.out _ _ HT.out.eight (fun hHeld => ?_)
      clear hK K
      try simp only [Act.put, lq1, lq2, lq3, lq4, lq5, lq6]
      refine tk 22 ?_ rfl ?_ hHeld ?_
      rotate_left
      · intro w hSw
        try dsimp only at hSw
        go_simp
        try with_reducible rfl
      simp only [Act.put, lq1, lq2, lq3, lq4, lq5, lq6]
      refine tk 23 ?_ rfl ?_ hHeld ?_
      rotate_left
      · intro w hSw
        try dsimp only at hSw
        go_simp
        try with_reducible rfl
      simp only [Act.put, lq1, lq2, lq3, lq4, lq5, lq6]
      refine tn 24 rfl hHeld ?_
      simp only [Act.put, lq1, lq2, lq3, lq4, lq5, lq6]
      refine tn 25 rfl hHeld ?_
      simp only [Act.put, lq1, lq2, lq3, lq4, lq5, lq6]
      refine tn 26 rfl hHeld ?_
      simp only [Act.put, lq1, lq2, lq3, lq4, lq5, lq6]
      refine tn 27 rfl hHeld ?_
      simp only [Act.put, lq1, lq2, lq3, lq4, lq5, lq6]
      refine tk 28 ?_ rfl ?_ hHeld ?_
      rotate_left
      · intro w hSw
        try dsimp only at hSw
        go_simp
        try with_reducible rfl
      simp only [Act.put, lq1, lq2, lq3, lq4, lq5, lq6]
      refine tk 29 ?_ rfl ?_ hHeld ?_
      rotate_left
      · intro w hSw
        try dsimp only at hSw
        go_simp
        try with_reducible rfl
      simp only [Act.put, lq1, lq2, lq3, lq4, lq5, lq6]
      refine wpAnyH_done (by kernel_rfl) ?_ _
      go_wp2
      go_ret
      exact ⟨rfl, HT.out.1.below⟩
  · skip
    go_simp
    have HT := Lib.hid (HT.out.alloc (.cells #[.int .i64 fb] 3))
    refine hK.out _ _ HT.out.eight (fun hHeld => ?_)
    clear hK K
    try simp only [Act.put, lq1, lq2, lq3, lq4, lq5, lq6]
    refine wpAnyH_ready (rs := [6]) (by kernel_rfl) (by simp) ?_
    refine AllReadyH.cons (o := _) rfl (fun K hK => ?_) AllReadyH.nil
    go_simp; go_at_call 157; refine (Fixed_any b p n j _).mono ?_; rintro e w1 ⟨rfl, hb1⟩
    have HC := Lib.hid (bcell hb1).1
    have HT : Hid (Two w w1 b p n j fb fi oo mo cl) := Lib.hid (by refine Two.go ?_ hb1; repeat (first | exact HT.out | exact HT.out.drewN 1 | apply Two.alloc))
    clear hb1
    go_wp2_with fail
    refine hK.out _ _ HT.out.eight (fun hHeld => ?_)
    clear hK K
    try simp only [Act.put, lq1, lq2, lq3, lq4, lq5, lq6]
    refine tk 7 ?_ rfl ?_ hHeld ?_
    rotate_left
    · intro w hSw
      try dsimp only at hSw
      go_simp
      try with_reducible rfl
    simp only [Act.put, lq1, lq2, lq3, lq4, lq5, lq6]
    refine wpAnyH_ready (rs := [11]) (by kernel_rfl) (by simp) ?_
    refine AllReadyH.cons (o := _) rfl (fun K hK => ?_) AllReadyH.nil
    go_simp; go_at_call 111; refine (within_one 0 (b - fixedI b p n j) fb _ _ _ ?_).mono ?_
    · first | (simp [go_sem]; done) | (simp [go_sem, HC.out]; done)
    rintro e w' ⟨rfl, rfl⟩
    go_wp2_with fail
    refine hK.out _ _ HT.out.eight (fun hHeld => ?_)
    clear hK K
    try simp only [Act.put, lq1, lq2, lq3, lq4, lq5, lq6]
    refine tk 12 ?_ rfl ?_ hHeld ?_
    rotate_left
    · intro w hSw
      try dsimp only at hSw
      go_simp
      try with_reducible rfl
    simp only [Act.put, lq1, lq2, lq3, lq4, lq5, lq6]
    refine tk 13 ?_ rfl ?_ hHeld ?_
    rotate_left
    · intro w hSw
      try dsimp only at hSw
      go_simp
      try with_reducible rfl
    simp only [Act.put, lq1, lq2, lq3, lq4, lq5, lq6]
    refine tk 14 ?_ rfl ?_ hHeld ?_
    rotate_left
    · intro w hSw
      try dsimp only at hSw
      go_simp
      try with_reducible rfl
    simp only [Act.put, lq1, lq2, lq3, lq4, lq5, lq6]
    refine tk 16 ?_ rfl ?_ hHeld ?_
    rotate_left
    · intro w hSw
      try dsimp only at hSw
      go_simp
      try with_reducible rfl
    simp only [Act.put, lq1, lq2, lq3, lq4, lq5, lq6]
    refine tk 17 ?_ rfl ?_ hHeld ?_
    rotate_left
    · intro w hSw
      try dsimp only at hSw
      go_simp
      try with_reducible rfl
    simp only [Act.put, lq1, lq2, lq3, lq4, lq5, lq6]
    refine tk 18 ?_ rfl ?_ hHeld ?_
    rotate_left
    · intro w hSw
      try dsimp only at hSw
      go_simp
      try with_reducible rfl
    simp only [Act.put, lq1, lq2, lq3, lq4, lq5, lq6]
    refine tk 19 ?_ rfl ?_ hHeld ?_
    rotate_left
    · intro w hSw
      try dsimp only at hSw
      go_simp
      try with_reducible rfl
    simp only [Act.put, lq1, lq2, lq3, lq4, lq5, lq6]
    refine wpAnyH_ready (rs := [15, 20]) (by kernel_rfl) (by simp) ?_
    refine AllReadyH.cons (o := _) rfl (fun K hK => ?_) (AllReadyH.cons (o := _) rfl (fun K hK => ?_) AllReadyH.nil)
    · skip
      go_simp; go_at_call 131; refine (inodes_any b p n j _).mono ?_; rintro e w1 ⟨rfl, hb1⟩
      have HC := Lib.hid (bcell hb1).1
      have HT : Hid (Two w w1 b p n j fb fi oo mo cl) := Lib.hid (by refine Two.go ?_ hb1; repeat (first | exact HT.out | exact HT.out.drewN 1 | apply Two.alloc))
      clear hb1
      go_wp2_with fail
      refine hK.out _ _ HT.out.eight (fun hHeld => ?_)
      clear hK K
      try simp only [Act.put, lq1, lq2, lq3, lq4, lq5, lq6]
      refine wpAnyH_ready (rs := [20]) (by kernel_rfl) (by simp) ?_
      refine AllReadyH.cons (o := _) rfl (fun K hK => ?_) AllReadyH.nil
      go_simp
      have HT := Lib.hid (HT.out.alloc (.cells #[.int .i64 fi, .int .i64 oo] 3))
      refine hK.out _ _ HT.out.eight (fun hHeld => ?_)
      clear hK K
      try simp only [Act.put, lq1, lq2, lq3, lq4, lq5, lq6]
      refine wpAnyH_ready (rs := [21]) (by kernel_rfl) (by simp) ?_
      refine AllReadyH.cons (o := _) rfl (fun K hK => ?_) AllReadyH.nil
      go_simp; go_at_call 111; refine (within_two 0 (groupsI b p n j * n) fi oo _ _ _ ?_ ?_).mono ?_
      · first | (simp [go_sem]; done) | (simp [go_sem, HC.out]; done)
      · first | (simp [go_sem]; done) | (simp [go_sem, HC.out]; done)
      rintro e w' ⟨rfl, rfl⟩
      go_wp2_with fail
      refine hK.out _ _ HT.out.eight (fun hHeld => ?_)
      clear hK K
      try simp only [Act.put, lq1, lq2, lq3, lq4, lq5, lq6]
      refine tk 22 ?_ rfl ?_ hHeld ?_
      rotate_left
      · intro w hSw
        try dsimp only at hSw
        go_simp
        try with_reducible rfl
      simp only [Act.put, lq1, lq2, lq3, lq4, lq5, lq6]
      refine tk 23 ?_ rfl ?_ hHeld ?_
      rotate_left
      · intro w hSw
        try dsimp only at hSw
        go_simp
        try with_reducible rfl
      simp only [Act.put, lq1, lq2, lq3, lq4, lq5, lq6]
      refine tn 24 rfl hHeld ?_
      simp only [Act.put, lq1, lq2, lq3, lq4, lq5, lq6]
      refine tn 25 rfl hHeld ?_
      simp only [Act.put, lq1, lq2, lq3, lq4, lq5, lq6]
      refine tn 26 rfl hHeld ?_
      simp only [Act.put, lq1, lq2, lq3, lq4, lq5, lq6]
      refine tn 27 rfl hHeld ?_
      simp only [Act.put, lq1, lq2, lq3, lq4, lq5, lq6]
      refine tk 28 ?_ rfl ?_ hHeld ?_
      rotate_left
      · intro w hSw
        try dsimp only at hSw
        go_simp
        try with_reducible rfl
      simp only [Act.put, lq1, lq2, lq3, lq4, lq5, lq6]
      refine tk 29 ?_ rfl ?_ hHeld ?_
      rotate_left
      · intro w hSw
        try dsimp only at hSw
        go_simp
        try with_reducible rfl
      simp only [Act.put, lq1, lq2, lq3, lq4, lq5, lq6]
      refine wpAnyH_done (by kernel_rfl) ?_ _
      go_wp2
      go_ret
      exact ⟨rfl, HT.out.1.below⟩
    · skip
      go_simp
      have HT := Lib.hid (HT.out.alloc (.cells #[.int .i64 fi, .int .i64 oo] 3))
      refine hK.out _ _ HT.out.eight (fun hHeld => ?_)
      clear hK K
      try simp only [Act.put, lq1, lq2, lq3, lq4, lq5, lq6]
      refine wpAnyH_ready (rs := [15]) (by kernel_rfl) (by simp) ?_
      refine AllReadyH.cons (o := _) rfl (fun K hK => ?_) AllReadyH.nil
      go_simp; go_at_call 131; refine (inodes_any b p n j _).mono ?_; rintro e w1 ⟨rfl, hb1⟩
      have HC := Lib.hid (bcell hb1).1
      have HT : Hid (Two w w1 b p n j fb fi oo mo cl) := Lib.hid (by refine Two.go ?_ hb1; repeat (first | exact HT.out | exact HT.out.drewN 1 | apply Two.alloc))
      clear hb1
      go_wp2_with fail
      refine hK.out _ _ HT.out.eight (fun hHeld => ?_)
      clear hK K
      try simp only [Act.put, lq1, lq2, lq3, lq4, lq5, lq6]
      refine wpAnyH_ready (rs := [21]) (by kernel_rfl) (by simp) ?_
      refine AllReadyH.cons (o := _) rfl (fun K hK => ?_) AllReadyH.nil
      go_simp; go_at_call 111; refine (within_two 0 (groupsI b p n j * n) fi oo _ _ _ ?_ ?_).mono ?_
      · first | (simp [go_sem]; done) | (simp [go_sem, HC.out]; done)
      · first | (simp [go_sem]; done) | (simp [go_sem, HC.out]; done)
      rintro e w' ⟨rfl, rfl⟩
      go_wp2_with fail
      refine hK.out _ _ HT.out.eight (fun hHeld => ?_)
      clear hK K
      try simp only [Act.put, lq1, lq2, lq3, lq4, lq5, lq6]
      refine tk 22 ?_ rfl ?_ hHeld ?_
      rotate_left
      · intro w hSw
        try dsimp only at hSw
        go_simp
        try with_reducible rfl
      simp only [Act.put, lq1, lq2, lq3, lq4, lq5, lq6]
      refine tk 23 ?_ rfl ?_ hHeld ?_
      rotate_left
      · intro w hSw
        try dsimp only at hSw
        go_simp
        try with_reducible rfl
      simp only [Act.put, lq1, lq2, lq3, lq4, lq5, lq6]
      refine tn 24 rfl hHeld ?_
      simp only [Act.put, lq1, lq2, lq3, lq4, lq5, lq6]
      refine tn 25 rfl hHeld ?_
      simp only [Act.put, lq1, lq2, lq3, lq4, lq5, lq6]
      refine tn 26 rfl hHeld ?_
      simp only [Act.put, lq1, lq2, lq3, lq4, lq5, lq6]
      refine tn 27 rfl hHeld ?_
      simp only [Act.put, lq1, lq2, lq3, lq4, lq5, lq6]
      refine tk 28 ?_ rfl ?_ hHeld ?_
      rotate_left
      · intro w hSw
        try dsimp only at hSw
        go_simp
        try with_reducible rfl
      simp only [Act.put, lq1, lq2, lq3, lq4, lq5, lq6]
      refine tk 29 ?_ rfl ?_ hHeld ?_
      rotate_left
      · intro w hSw
        try dsimp only at hSw
        go_simp
        try with_reducible rfl
      simp only [Act.put, lq1, lq2, lq3, lq4, lq5, lq6]
      refine wpAnyH_done (by kernel_rfl) ?_ _
      go_wp2
      go_ret
      exact ⟨rfl, HT.out.1.below⟩
set_option maxHeartbeats 2000000 in
theorem superMayBe_4 (h1 : mayB b p n j = true) (h2 : inB 0 (b - fixedI b p n j) fb = true) (h3 : allIn 0 (groupsI b p n j * n) [fi, oo] = true) :
    Calls Tryz.prog 146 #[.agg #[.int .i64 b, .int .i64 p, .int .i64 n, .int .i64 j, .int .i64 fb, .int .i64 fi, .int .i64 oo, .int .i64 mo, .bool cl]] w fun e w' => e = .returned (.bool (inB 0 2147483647 mo)) ∧ Below w.heap.size w w' := by
  have H1 := Lib.hid h1
  have HT := Lib.hid (Two.start w b p n j fb fi oo mo cl)
  have s1 : IntKind.i64.wrap (b - fixedI b p n j) = b - fixedI b p n j := by
    have hx := fixedI_yes h1
    obtain ⟨hb0, hb1, hp0, hp1, hn0, hn1, hev, hj0, hj1, hg0, hg1, hlo, hhi, hf, hl⟩ := may_iff.1 h1
    have hp := prod2_bd (g := gN b p) (by omega) hg1 hn0 hn1
    exact IntWalk.i64_in _ (by omega)
  clear h1
  go_enter Tryz.func146, Tryz.ntmps146
  go_wp2
  refine wp_region_held_drew (S := (fun w' => w'.cell? ⟨w.heap.size + 1, 0, none⟩ = some (.int .i64 b) ∧ w'.cell? ⟨w.heap.size + 1, 1, none⟩ = some (.int .i64 p) ∧ w'.cell? ⟨w.heap.size + 1, 2, none⟩ = some (.int .i64 n) ∧ w'.cell? ⟨w.heap.size + 1, 3, none⟩ = some (.int .i64 j) ∧ w'.cell? ⟨w.heap.size, 4, none⟩ = some (.int .i64 fb) ∧ w'.cell? ⟨w.heap.size, 5, none⟩ = some (.int .i64 fi) ∧ w'.cell? ⟨w.heap.size, 6, none⟩ = some (.int .i64 oo) ∧ w'.cell? ⟨w.heap.size, 7, none⟩ = some (.int .i64 mo))) (by kernel_rfl) HT.out.eight (fun hHeld => ?_)
  have HT := Lib.hid (HT.out.drewN 1)
  refine tk 0 ?_ rfl ?_ hHeld ?_
  rotate_left
  · intro w hSw
    try dsimp only at hSw
    go_simp
    try with_reducible rfl
  simp only [Act.put, List.getElem_toArray, List.getElem_cons_zero, List.setIfInBounds_toArray, List.set_cons_zero, List.set_cons_succ]
  refine wpAnyH_ready (rs := [1]) (by kernel_rfl) (by simp) ?_
  refine AllReadyH.cons (o := _) rfl (fun K hK => ?_) AllReadyH.nil
  go_simp; go_at_call 83; refine (mayBe_is b p n j _ true H1.out).mono ?_; rintro e w1 ⟨rfl, hb1⟩
  have HC := Lib.hid (bcell hb1).1
  have HT : Hid (Two w w1 b p n j fb fi oo mo cl) := Lib.hid (by refine Two.go ?_ hb1; repeat (first | exact HT.out | exact HT.out.drewN 1 | apply Two.alloc))
  clear hb1
  go_wp2_with fail
  refine hK.out _ _ HT.out.eight (fun hHeld => ?_)
  clear hK K
  try simp only [Act.put, lq1, lq2, lq3, lq4, lq5, lq6]
  refine tk 2 ?_ rfl ?_ hHeld ?_
  rotate_left
  · intro w hSw
    try dsimp only at hSw
    go_simp
    try with_reducible rfl
  simp only [Act.put, lq1, lq2, lq3, lq4, lq5, lq6]
  refine tk 3 ?_ rfl ?_ hHeld ?_
  rotate_left
  · intro w hSw
    try dsimp only at hSw
    go_simp
    try with_reducible rfl
  simp only [Act.put, lq1, lq2, lq3, lq4, lq5, lq6]
  refine tk 4 ?_ rfl ?_ hHeld ?_
  rotate_left
  · intro w hSw
    try dsimp only at hSw
    go_simp
    try with_reducible rfl
  simp only [Act.put, lq1, lq2, lq3, lq4, lq5, lq6]
  refine tk 5 ?_ rfl ?_ hHeld ?_
  rotate_left
  · intro w hSw
    try dsimp only at hSw
    go_simp
    try with_reducible rfl
  simp only [Act.put, lq1, lq2, lq3, lq4, lq5, lq6]
  refine tk 8 ?_ rfl ?_ hHeld ?_
  rotate_left
  · intro w hSw
    try dsimp only at hSw
    go_simp
    try with_reducible rfl
  simp only [Act.put, lq1, lq2, lq3, lq4, lq5, lq6]
  refine tk 9 ?_ rfl ?_ hHeld ?_
  rotate_left
  · intro w hSw
    try dsimp only at hSw
    go_simp
    try with_reducible rfl
  simp only [Act.put, lq1, lq2, lq3, lq4, lq5, lq6]
  refine wpAnyH_ready (rs := [6, 10]) (by kernel_rfl) (by simp) ?_
  refine AllReadyH.cons (o := _) rfl (fun K hK => ?_) (AllReadyH.cons (o := _) rfl (fun K hK => ?_) AllReadyH.nil)
  · skip
    go_simp; go_at_call 157; refine (Fixed_any b p n j _).mono ?_; rintro e w1 ⟨rfl, hb1⟩
    have HC := Lib.hid (bcell hb1).1
    have HT : Hid (Two w w1 b p n j fb fi oo mo cl) := Lib.hid (by refine Two.go ?_ hb1; repeat (first | exact HT.out | exact HT.out.drewN 1 | apply Two.alloc))
    clear hb1
    go_wp2_with fail
    refine hK.out _ _ HT.out.eight (fun hHeld => ?_)
    clear hK K
    try simp only [Act.put, lq1, lq2, lq3, lq4, lq5, lq6]
    refine tk 7 ?_ rfl ?_ hHeld ?_
    rotate_left
    · intro w hSw
      try dsimp only at hSw
      go_simp
      try with_reducible rfl
    simp only [Act.put, lq1, lq2, lq3, lq4, lq5, lq6]
    refine wpAnyH_ready (rs := [10]) (by kernel_rfl) (by simp) ?_
    refine AllReadyH.cons (o := _) rfl (fun K hK => ?_) AllReadyH.nil
    go_simp
    have HT := Lib.hid (HT.out.alloc (.cells #[.int .i64 fb] 3))
    refine hK.out _ _ HT.out.eight (fun hHeld => ?_)
    clear hK K
    try simp only [Act.put, lq1, lq2, lq3, lq4, lq5, lq6]
    refine wpAnyH_ready (rs := [11]) (by kernel_rfl) (by simp) ?_
    refine AllReadyH.cons (o := _) rfl (fun K hK => ?_) AllReadyH.nil
    go_simp; go_at_call 111; refine (within_one 0 (b - fixedI b p n j) fb _ _ _ ?_).mono ?_
    · first | (simp [go_sem]; done) | (simp [go_sem, HC.out]; done)
    rintro e w' ⟨rfl, rfl⟩
    go_wp2_with fail
    refine hK.out _ _ HT.out.eight (fun hHeld => ?_)
    clear hK K
    try simp only [Act.put, lq1, lq2, lq3, lq4, lq5, lq6]
    refine tk 12 ?_ rfl ?_ hHeld ?_
    rotate_left
    · intro w hSw
      try dsimp only at hSw
      go_simp
      try with_reducible rfl
    simp only [Act.put, lq1, lq2, lq3, lq4, lq5, lq6]
    refine tk 13 ?_ rfl ?_ hHeld ?_
    rotate_left
    · intro w hSw
      try dsimp only at hSw
      go_simp
      try with_reducible rfl
    simp only [Act.put, lq1, lq2, lq3, lq4, lq5, lq6]
    refine tk 14 ?_ rfl ?_ hHeld ?_
    rotate_left
    · intro w hSw
      try dsimp only at hSw
      go_simp
      try with_reducible rfl
    simp only [Act.put, lq1, lq2, lq3, lq4, lq5, lq6]
    refine tk 16 ?_ rfl ?_ hHeld ?_
    rotate_left
    · intro w hSw
      try dsimp only at hSw
      go_simp
      try with_reducible rfl
    simp only [Act.put, lq1, lq2, lq3, lq4, lq5, lq6]
    refine tk 17 ?_ rfl ?_ hHeld ?_
    rotate_left
    · intro w hSw
      try dsimp only at hSw
      go_simp
      try with_reducible rfl
    simp only [Act.put, lq1, lq2, lq3, lq4, lq5, lq6]
    refine tk 18 ?_ rfl ?_ hHeld ?_
    rotate_left
    · intro w hSw
      try dsimp only at hSw
      go_simp
      try with_reducible rfl
    simp only [Act.put, lq1, lq2, lq3, lq4, lq5, lq6]
    refine tk 19 ?_ rfl ?_ hHeld ?_
    rotate_left
    · intro w hSw
      try dsimp only at hSw
      go_simp
      try with_reducible rfl
    simp only [Act.put, lq1, lq2, lq3, lq4, lq5, lq6]
    refine wpAnyH_ready (rs := [15, 20]) (by kernel_rfl) (by simp) ?_
    refine AllReadyH.cons (o := _) rfl (fun K hK => ?_) (AllReadyH.cons (o := _) rfl (fun K hK => ?_) AllReadyH.nil)
    · skip
      go_simp; go_at_call 131; refine (inodes_any b p n j _).mono ?_; rintro e w1 ⟨rfl, hb1⟩
      have HC := Lib.hid (bcell hb1).1
      have HT : Hid (Two w w1 b p n j fb fi oo mo cl) := Lib.hid (by refine Two.go ?_ hb1; repeat (first | exact HT.out | exact HT.out.drewN 1 | apply Two.alloc))
      clear hb1
      go_wp2_with fail
      refine hK.out _ _ HT.out.eight (fun hHeld => ?_)
      clear hK K
      try simp only [Act.put, lq1, lq2, lq3, lq4, lq5, lq6]
      refine wpAnyH_ready (rs := [20]) (by kernel_rfl) (by simp) ?_
      refine AllReadyH.cons (o := _) rfl (fun K hK => ?_) AllReadyH.nil
      go_simp
      have HT := Lib.hid (HT.out.alloc (.cells #[.int .i64 fi, .int .i64 oo] 3))
      refine hK.out _ _ HT.out.eight (fun hHeld => ?_)
      clear hK K
      try simp only [Act.put, lq1, lq2, lq3, lq4, lq5, lq6]
      refine wpAnyH_ready (rs := [21]) (by kernel_rfl) (by simp) ?_
      refine AllReadyH.cons (o := _) rfl (fun K hK => ?_) AllReadyH.nil
      go_simp; go_at_call 111; refine (within_two 0 (groupsI b p n j * n) fi oo _ _ _ ?_ ?_).mono ?_
      · first | (simp [go_sem]; done) | (simp [go_sem, HC.out]; done)
      · first | (simp [go_sem]; done) | (simp [go_sem, HC.out]; done)
      rintro e w' ⟨rfl, rfl⟩
      go_wp2_with fail
      refine hK.out _ _ HT.out.eight (fun hHeld => ?_)
      clear hK K
      try simp only [Act.put, lq1, lq2, lq3, lq4, lq5, lq6]
      refine tk 22 ?_ rfl ?_ hHeld ?_
      rotate_left
      · intro w hSw
        try dsimp only at hSw
        go_simp
        try with_reducible rfl
      simp only [Act.put, lq1, lq2, lq3, lq4, lq5, lq6]
      refine tk 23 ?_ rfl ?_ hHeld ?_
      rotate_left
      · intro w hSw
        try dsimp only at hSw
        go_simp
        try with_reducible rfl
      simp only [Act.put, lq1, lq2, lq3, lq4, lq5, lq6]
      refine tk 24 ?_ rfl ?_ hHeld ?_
      rotate_left
      · intro w hSw
        try dsimp only at hSw
        go_simp
        try with_reducible rfl
      simp only [Act.put, lq1, lq2, lq3, lq4, lq5, lq6]
      refine tk 25 ?_ rfl ?_ hHeld ?_
      rotate_left
      · intro w hSw
        try dsimp only at hSw
        go_simp
        try with_reducible rfl
      simp only [Act.put, lq1, lq2, lq3, lq4, lq5, lq6]
      refine wpAnyH_ready (rs := [26]) (by kernel_rfl) (by simp) ?_
      refine AllReadyH.cons (o := _) rfl (fun K hK => ?_) AllReadyH.nil
      go_simp
      have HT := Lib.hid (HT.out.alloc (.cells #[.int .i64 mo] 3))
      refine hK.out _ _ HT.out.eight (fun hHeld => ?_)
      clear hK K
      try simp only [Act.put, lq1, lq2, lq3, lq4, lq5, lq6]
      refine wpAnyH_ready (rs := [27]) (by kernel_rfl) (by simp) ?_
      refine AllReadyH.cons (o := _) rfl (fun K hK => ?_) AllReadyH.nil
      go_simp; go_at_call 111; refine (within_one 0 2147483647 mo _ _ _ ?_).mono ?_
      · first | (simp [go_sem]; done) | (simp [go_sem, HC.out]; done)
      rintro e w' ⟨rfl, rfl⟩
      go_wp2_with fail
      refine hK.out _ _ HT.out.eight (fun hHeld => ?_)
      clear hK K
      try simp only [Act.put, lq1, lq2, lq3, lq4, lq5, lq6]
      refine tk 28 ?_ rfl ?_ hHeld ?_
      rotate_left
      · intro w hSw
        try dsimp only at hSw
        go_simp
        try with_reducible rfl
      simp only [Act.put, lq1, lq2, lq3, lq4, lq5, lq6]
      refine tk 29 ?_ rfl ?_ hHeld ?_
      rotate_left
      · intro w hSw
        try dsimp only at hSw
        go_simp
        try with_reducible rfl
      simp only [Act.put, lq1, lq2, lq3, lq4, lq5, lq6]
      refine wpAnyH_done (by kernel_rfl) ?_ _
      go_wp2
      go_ret
      exact ⟨rfl, HT.out.1.below⟩
    · skip
      go_simp
      have HT := Lib.hid (HT.out.alloc (.cells #[.int .i64 fi, .int .i64 oo] 3))
      refine hK.out _ _ HT.out.eight (fun hHeld => ?_)
      clear hK K
      try simp only [Act.put, lq1, lq2, lq3, lq4, lq5, lq6]
      refine wpAnyH_ready (rs := [15]) (by kernel_rfl) (by simp) ?_
      refine AllReadyH.cons (o := _) rfl (fun K hK => ?_) AllReadyH.nil
      go_simp; go_at_call 131; refine (inodes_any b p n j _).mono ?_; rintro e w1 ⟨rfl, hb1⟩
      have HC := Lib.hid (bcell hb1).1
      have HT : Hid (Two w w1 b p n j fb fi oo mo cl) := Lib.hid (by refine Two.go ?_ hb1; repeat (first | exact HT.out | exact HT.out.drewN 1 | apply Two.alloc))
      clear hb1
      go_wp2_with fail
      refine hK.out _ _ HT.out.eight (fun hHeld => ?_)
      clear hK K
      try simp only [Act.put, lq1, lq2, lq3, lq4, lq5, lq6]
      refine wpAnyH_ready (rs := [21]) (by kernel_rfl) (by simp) ?_
      refine AllReadyH.cons (o := _) rfl (fun K hK => ?_) AllReadyH.nil
      go_simp; go_at_call 111; refine (within_two 0 (groupsI b p n j * n) fi oo _ _ _ ?_ ?_).mono ?_
      · first | (simp [go_sem]; done) | (simp [go_sem, HC.out]; done)
      · first | (simp [go_sem]; done) | (simp [go_sem, HC.out]; done)
      rintro e w' ⟨rfl, rfl⟩
      go_wp2_with fail
      refine hK.out _ _ HT.out.eight (fun hHeld => ?_)
      clear hK K
      try simp only [Act.put, lq1, lq2, lq3, lq4, lq5, lq6]
      refine tk 22 ?_ rfl ?_ hHeld ?_
      rotate_left
      · intro w hSw
        try dsimp only at hSw
        go_simp
        try with_reducible rfl
      simp only [Act.put, lq1, lq2, lq3, lq4, lq5, lq6]
      refine tk 23 ?_ rfl ?_ hHeld ?_
      rotate_left
      · intro w hSw
        try dsimp only at hSw
        go_simp
        try with_reducible rfl
      simp only [Act.put, lq1, lq2, lq3, lq4, lq5, lq6]
      refine tk 24 ?_ rfl ?_ hHeld ?_
      rotate_left
      · intro w hSw
        try dsimp only at hSw
        go_simp
        try with_reducible rfl
      simp only [Act.put, lq1, lq2, lq3, lq4, lq5, lq6]
      refine tk 25 ?_ rfl ?_ hHeld ?_
      rotate_left
      · intro w hSw
        try dsimp only at hSw
        go_simp
        try with_reducible rfl
      simp only [Act.put, lq1, lq2, lq3, lq4, lq5, lq6]
      refine wpAnyH_ready (rs := [26]) (by kernel_rfl) (by simp) ?_
      refine AllReadyH.cons (o := _) rfl (fun K hK => ?_) AllReadyH.nil
      go_simp
      have HT := Lib.hid (HT.out.alloc (.cells #[.int .i64 mo] 3))
      refine hK.out _ _ HT.out.eight (fun hHeld => ?_)
      clear hK K
      try simp only [Act.put, lq1, lq2, lq3, lq4, lq5, lq6]
      refine wpAnyH_ready (rs := [27]) (by kernel_rfl) (by simp) ?_
      refine AllReadyH.cons (o := _) rfl (fun K hK => ?_) AllReadyH.nil
      go_simp; go_at_call 111; refine (within_one 0 2147483647 mo _ _ _ ?_).mono ?_
      · first | (simp [go_sem]; done) | (simp [go_sem, HC.out]; done)
      rintro e w' ⟨rfl, rfl⟩
      go_wp2_with fail
      refine hK.out _ _ HT.out.eight (fun hHeld => ?_)
      clear hK K
      try simp only [Act.put, lq1, lq2, lq3, lq4, lq5, lq6]
      refine tk 28 ?_ rfl ?_ hHeld ?_
      rotate_left
      · intro w hSw
        try dsimp only at hSw
        go_simp
        try with_reducible rfl
      simp only [Act.put, lq1, lq2, lq3, lq4, lq5, lq6]
      refine tk 29 ?_ rfl ?_ hHeld ?_
      rotate_left
      · intro w hSw
        try dsimp only at hSw
        go_simp
        try with_reducible rfl
      simp only [Act.put, lq1, lq2, lq3, lq4, lq5, lq6]
      refine wpAnyH_done (by kernel_rfl) ?_ _
      go_wp2
      go_ret
      exact ⟨rfl, HT.out.1.below⟩
  · skip
    go_simp
    have HT := Lib.hid (HT.out.alloc (.cells #[.int .i64 fb] 3))
    refine hK.out _ _ HT.out.eight (fun hHeld => ?_)
    clear hK K
    try simp only [Act.put, lq1, lq2, lq3, lq4, lq5, lq6]
    refine wpAnyH_ready (rs := [6]) (by kernel_rfl) (by simp) ?_
    refine AllReadyH.cons (o := _) rfl (fun K hK => ?_) AllReadyH.nil
    go_simp; go_at_call 157; refine (Fixed_any b p n j _).mono ?_; rintro e w1 ⟨rfl, hb1⟩
    have HC := Lib.hid (bcell hb1).1
    have HT : Hid (Two w w1 b p n j fb fi oo mo cl) := Lib.hid (by refine Two.go ?_ hb1; repeat (first | exact HT.out | exact HT.out.drewN 1 | apply Two.alloc))
    clear hb1
    go_wp2_with fail
    refine hK.out _ _ HT.out.eight (fun hHeld => ?_)
    clear hK K
    try simp only [Act.put, lq1, lq2, lq3, lq4, lq5, lq6]
    refine tk 7 ?_ rfl ?_ hHeld ?_
    rotate_left
    · intro w hSw
      try dsimp only at hSw
      go_simp
      try with_reducible rfl
    simp only [Act.put, lq1, lq2, lq3, lq4, lq5, lq6]
    refine wpAnyH_ready (rs := [11]) (by kernel_rfl) (by simp) ?_
    refine AllReadyH.cons (o := _) rfl (fun K hK => ?_) AllReadyH.nil
    go_simp; go_at_call 111; refine (within_one 0 (b - fixedI b p n j) fb _ _ _ ?_).mono ?_
    · first | (simp [go_sem]; done) | (simp [go_sem, HC.out]; done)
    rintro e w' ⟨rfl, rfl⟩
    go_wp2_with fail
    refine hK.out _ _ HT.out.eight (fun hHeld => ?_)
    clear hK K
    try simp only [Act.put, lq1, lq2, lq3, lq4, lq5, lq6]
    refine tk 12 ?_ rfl ?_ hHeld ?_
    rotate_left
    · intro w hSw
      try dsimp only at hSw
      go_simp
      try with_reducible rfl
    simp only [Act.put, lq1, lq2, lq3, lq4, lq5, lq6]
    refine tk 13 ?_ rfl ?_ hHeld ?_
    rotate_left
    · intro w hSw
      try dsimp only at hSw
      go_simp
      try with_reducible rfl
    simp only [Act.put, lq1, lq2, lq3, lq4, lq5, lq6]
    refine tk 14 ?_ rfl ?_ hHeld ?_
    rotate_left
    · intro w hSw
      try dsimp only at hSw
      go_simp
      try with_reducible rfl
    simp only [Act.put, lq1, lq2, lq3, lq4, lq5, lq6]
    refine tk 16 ?_ rfl ?_ hHeld ?_
    rotate_left
    · intro w hSw
      try dsimp only at hSw
      go_simp
      try with_reducible rfl
    simp only [Act.put, lq1, lq2, lq3, lq4, lq5, lq6]
    refine tk 17 ?_ rfl ?_ hHeld ?_
    rotate_left
    · intro w hSw
      try dsimp only at hSw
      go_simp
      try with_reducible rfl
    simp only [Act.put, lq1, lq2, lq3, lq4, lq5, lq6]
    refine tk 18 ?_ rfl ?_ hHeld ?_
    rotate_left
    · intro w hSw
      try dsimp only at hSw
      go_simp
      try with_reducible rfl
    simp only [Act.put, lq1, lq2, lq3, lq4, lq5, lq6]
    refine tk 19 ?_ rfl ?_ hHeld ?_
    rotate_left
    · intro w hSw
      try dsimp only at hSw
      go_simp
      try with_reducible rfl
    simp only [Act.put, lq1, lq2, lq3, lq4, lq5, lq6]
    refine wpAnyH_ready (rs := [15, 20]) (by kernel_rfl) (by simp) ?_
    refine AllReadyH.cons (o := _) rfl (fun K hK => ?_) (AllReadyH.cons (o := _) rfl (fun K hK => ?_) AllReadyH.nil)
    · skip
      go_simp; go_at_call 131; refine (inodes_any b p n j _).mono ?_; rintro e w1 ⟨rfl, hb1⟩
      have HC := Lib.hid (bcell hb1).1
      have HT : Hid (Two w w1 b p n j fb fi oo mo cl) := Lib.hid (by refine Two.go ?_ hb1; repeat (first | exact HT.out | exact HT.out.drewN 1 | apply Two.alloc))
      clear hb1
      go_wp2_with fail
      refine hK.out _ _ HT.out.eight (fun hHeld => ?_)
      clear hK K
      try simp only [Act.put, lq1, lq2, lq3, lq4, lq5, lq6]
      refine wpAnyH_ready (rs := [20]) (by kernel_rfl) (by simp) ?_
      refine AllReadyH.cons (o := _) rfl (fun K hK => ?_) AllReadyH.nil
      go_simp
      have HT := Lib.hid (HT.out.alloc (.cells #[.int .i64 fi, .int .i64 oo] 3))
      refine hK.out _ _ HT.out.eight (fun hHeld => ?_)
      clear hK K
      try simp only [Act.put, lq1, lq2, lq3, lq4, lq5, lq6]
      refine wpAnyH_ready (rs := [21]) (by kernel_rfl) (by simp) ?_
      refine AllReadyH.cons (o := _) rfl (fun K hK => ?_) AllReadyH.nil
      go_simp; go_at_call 111; refine (within_two 0 (groupsI b p n j * n) fi oo _ _ _ ?_ ?_).mono ?_
      · first | (simp [go_sem]; done) | (simp [go_sem, HC.out]; done)
      · first | (simp [go_sem]; done) | (simp [go_sem, HC.out]; done)
      rintro e w' ⟨rfl, rfl⟩
      go_wp2_with fail
      refine hK.out _ _ HT.out.eight (fun hHeld => ?_)
      clear hK K
      try simp only [Act.put, lq1, lq2, lq3, lq4, lq5, lq6]
      refine tk 22 ?_ rfl ?_ hHeld ?_
      rotate_left
      · intro w hSw
        try dsimp only at hSw
        go_simp
        try with_reducible rfl
      simp only [Act.put, lq1, lq2, lq3, lq4, lq5, lq6]
      refine tk 23 ?_ rfl ?_ hHeld ?_
      rotate_left
      · intro w hSw
        try dsimp only at hSw
        go_simp
        try with_reducible rfl
      simp only [Act.put, lq1, lq2, lq3, lq4, lq5, lq6]
      refine tk 24 ?_ rfl ?_ hHeld ?_
      rotate_left
      · intro w hSw
        try dsimp only at hSw
        go_simp
        try with_reducible rfl
      simp only [Act.put, lq1, lq2, lq3, lq4, lq5, lq6]
      refine tk 25 ?_ rfl ?_ hHeld ?_
      rotate_left
      · intro w hSw
        try dsimp only at hSw
        go_simp
        try with_reducible rfl
      simp only [Act.put, lq1, lq2, lq3, lq4, lq5, lq6]
      refine wpAnyH_ready (rs := [26]) (by kernel_rfl) (by simp) ?_
      refine AllReadyH.cons (o := _) rfl (fun K hK => ?_) AllReadyH.nil
      go_simp
      have HT := Lib.hid (HT.out.alloc (.cells #[.int .i64 mo] 3))
      refine hK.out _ _ HT.out.eight (fun hHeld => ?_)
      clear hK K
      try simp only [Act.put, lq1, lq2, lq3, lq4, lq5, lq6]
      refine wpAnyH_ready (rs := [27]) (by kernel_rfl) (by simp) ?_
      refine AllReadyH.cons (o := _) rfl (fun K hK => ?_) AllReadyH.nil
      go_simp; go_at_call 111; refine (within_one 0 2147483647 mo _ _ _ ?_).mono ?_
      · first | (simp [go_sem]; done) | (simp [go_sem, HC.out]; done)
      rintro e w' ⟨rfl, rfl⟩
      go_wp2_with fail
      refine hK.out _ _ HT.out.eight (fun hHeld => ?_)
      clear hK K
      try simp only [Act.put, lq1, lq2, lq3, lq4, lq5, lq6]
      refine tk 28 ?_ rfl ?_ hHeld ?_
      rotate_left
      · intro w hSw
        try dsimp only at hSw
        go_simp
        try with_reducible rfl
      simp only [Act.put, lq1, lq2, lq3, lq4, lq5, lq6]
      refine tk 29 ?_ rfl ?_ hHeld ?_
      rotate_left
      · intro w hSw
        try dsimp only at hSw
        go_simp
        try with_reducible rfl
      simp only [Act.put, lq1, lq2, lq3, lq4, lq5, lq6]
      refine wpAnyH_done (by kernel_rfl) ?_ _
      go_wp2
      go_ret
      exact ⟨rfl, HT.out.1.below⟩
    · skip
      go_simp
      have HT := Lib.hid (HT.out.alloc (.cells #[.int .i64 fi, .int .i64 oo] 3))
      refine hK.out _ _ HT.out.eight (fun hHeld => ?_)
      clear hK K
      try simp only [Act.put, lq1, lq2, lq3, lq4, lq5, lq6]
      refine wpAnyH_ready (rs := [15]) (by kernel_rfl) (by simp) ?_
      refine AllReadyH.cons (o := _) rfl (fun K hK => ?_) AllReadyH.nil
      go_simp; go_at_call 131; refine (inodes_any b p n j _).mono ?_; rintro e w1 ⟨rfl, hb1⟩
      have HC := Lib.hid (bcell hb1).1
      have HT : Hid (Two w w1 b p n j fb fi oo mo cl) := Lib.hid (by refine Two.go ?_ hb1; repeat (first | exact HT.out | exact HT.out.drewN 1 | apply Two.alloc))
      clear hb1
      go_wp2_with fail
      refine hK.out _ _ HT.out.eight (fun hHeld => ?_)
      clear hK K
      try simp only [Act.put, lq1, lq2, lq3, lq4, lq5, lq6]
      refine wpAnyH_ready (rs := [21]) (by kernel_rfl) (by simp) ?_
      refine AllReadyH.cons (o := _) rfl (fun K hK => ?_) AllReadyH.nil
      go_simp; go_at_call 111; refine (within_two 0 (groupsI b p n j * n) fi oo _ _ _ ?_ ?_).mono ?_
      · first | (simp [go_sem]; done) | (simp [go_sem, HC.out]; done)
      · first | (simp [go_sem]; done) | (simp [go_sem, HC.out]; done)
      rintro e w' ⟨rfl, rfl⟩
      go_wp2_with fail
      refine hK.out _ _ HT.out.eight (fun hHeld => ?_)
      clear hK K
      try simp only [Act.put, lq1, lq2, lq3, lq4, lq5, lq6]
      refine tk 22 ?_ rfl ?_ hHeld ?_
      rotate_left
      · intro w hSw
        try dsimp only at hSw
        go_simp
        try with_reducible rfl
      simp only [Act.put, lq1, lq2, lq3, lq4, lq5, lq6]
      refine tk 23 ?_ rfl ?_ hHeld ?_
      rotate_left
      · intro w hSw
        try dsimp only at hSw
        go_simp
        try with_reducible rfl
      simp only [Act.put, lq1, lq2, lq3, lq4, lq5, lq6]
      refine tk 24 ?_ rfl ?_ hHeld ?_
      rotate_left
      · intro w hSw
        try dsimp only at hSw
        go_simp
        try with_reducible rfl
      simp only [Act.put, lq1, lq2, lq3, lq4, lq5, lq6]
      refine tk 25 ?_ rfl ?_ hHeld ?_
      rotate_left
      · intro w hSw
        try dsimp only at hSw
        go_simp
        try with_reducible rfl
      simp only [Act.put, lq1, lq2, lq3, lq4, lq5, lq6]
      refine wpAnyH_ready (rs := [26]) (by kernel_rfl) (by simp) ?_
      refine AllReadyH.cons (o := _) rfl (fun K hK => ?_) AllReadyH.nil
      go_simp
      have HT := Lib.hid (HT.out.alloc (.cells #[.int .i64 mo] 3))
      refine hK.out _ _ HT.out.eight (fun hHeld => ?_)
      clear hK K
      try simp only [Act.put, lq1, lq2, lq3, lq4, lq5, lq6]
      refine wpAnyH_ready (rs := [27]) (by kernel_rfl) (by simp) ?_
      refine AllReadyH.cons (o := _) rfl (fun K hK => ?_) AllReadyH.nil
      go_simp; go_at_call 111; refine (within_one 0 2147483647 mo _ _ _ ?_).mono ?_
      · first | (simp [go_sem]; done) | (simp [go_sem, HC.out]; done)
      rintro e w' ⟨rfl, rfl⟩
      go_wp2_with fail
      refine hK.out _ _ HT.out.eight (fun hHeld => ?_)
      clear hK K
      try simp only [Act.put, lq1, lq2, lq3, lq4, lq5, lq6]
      refine tk 28 ?_ rfl ?_ hHeld ?_
      rotate_left
      · intro w hSw
        try dsimp only at hSw
        go_simp
        try with_reducible rfl
      simp only [Act.put, lq1, lq2, lq3, lq4, lq5, lq6]
      refine tk 29 ?_ rfl ?_ hHeld ?_
      rotate_left
      · intro w hSw
        try dsimp only at hSw
        go_simp
        try with_reducible rfl
      simp only [Act.put, lq1, lq2, lq3, lq4, lq5, lq6]
      refine wpAnyH_done (by kernel_rfl) ?_ _
      go_wp2
      go_ret
      exact ⟨rfl, HT.out.1.below⟩
theorem superMayBe_is (q : Bool) (hq : supMay b p n j fb fi oo mo = q) :
    Calls Tryz.prog 146 #[.agg #[.int .i64 b, .int .i64 p, .int .i64 n, .int .i64 j, .int .i64 fb, .int .i64 fi, .int .i64 oo, .int .i64 mo, .bool cl]] w fun e w' => e = .returned (.bool q) ∧ Below w.heap.size w w' := by
  subst hq
  cases h1 : mayB b p n j with
  | false => rw [show supMay b p n j fb fi oo mo = false by simp only [supMay, h1]; rfl]; exact superMayBe_1 b p n j fb fi oo mo cl w h1
  | true =>
    cases h2 : inB 0 (b - fixedI b p n j) fb with
    | false => rw [show supMay b p n j fb fi oo mo = false by simp only [supMay, h1, h2]; rfl]; exact superMayBe_2 b p n j fb fi oo mo cl w h1 h2
    | true =>
      cases h3 : allIn 0 (groupsI b p n j * n) [fi, oo] with
      | false => rw [show supMay b p n j fb fi oo mo = false by simp only [supMay, h1, h2, h3]; rfl]; exact superMayBe_3 b p n j fb fi oo mo cl w h1 h2 h3
      | true => rw [show supMay b p n j fb fi oo mo = inB 0 2147483647 mo by simp only [supMay, h1, h2, h3]; rfl]; exact superMayBe_4 b p n j fb fi oo mo cl w h1 h2 h3
end
end Go.Proofs.YtgjcbfdhpbkhoaaGreatDoor.SMayBe
