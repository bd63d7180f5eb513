/- told: of a descriptor. -/
import Derived.Test.YtgegmoejhnjhjaaDoorJTold
import Derived.Test.YtgegmoejhnjhjaaDoorJRound
namespace Go.Proofs.YtgegmoejhnjhjaaDoor.JTold1
open Go.RowKit Go.Shelf WMem WPlain SNums JPlain JMem JChunk JBody JTold JRound

attribute [local go_sem] Oper.semAt_some

/-- a pair of the row, as it is told -/
def UA (seq : Int) (g N c s0 : Nat) (lf : Value) (x : Nat) (a' : Act) (_ : World) : Prop :=
  a' = { tmps := #[.int .i64 1, .int .i64 seq, .slice (some ⟨g, 0, none⟩) (2 * N) c, undef, undef, undef, .pointer (some ⟨s0, 0, none⟩), .pointer (some ⟨s0 + 1, 0, none⟩), .slice (some ⟨g, 2 * min x (N - 1), none⟩) 2 2, undef, undef, .int .i64 1, .int .i64 seq, .agg (rbox 1 seq (.slice none 0 0)), .int .i64 1, .bool true, .bool true, .slice (some ⟨g, 0, none⟩) (2 * N) c, lf, .slice (some ⟨g, 2 * min x (N - 1), none⟩) 2 2,
    undef, undef, undef, undef, undef, undef, undef, undef, undef, undef, undef, undef, undef, undef, undef, undef, undef, undef, undef, undef, undef, undef, undef, undef, undef, undef, undef, undef, undef, undef, undef, undef, undef, undef, undef, undef, undef, undef, undef, undef, undef, undef, undef, undef, undef, undef], defers := [] }
/-- what a round leaves -/
def CU (w : World) (seq : Int) (xs : List UInt64) (g N c : Nat) (pre : List Nat) (W : World) : Prop :=
  TU w 1 seq (pre.map fun i => pairE xs (min i (N - 1))) W ∧ w.heap.size + 4 ≤ W.heap.size ∧ W.heap[w.heap.size + 2]? = some (.cells #[.slice (some ⟨g, 0, none⟩) (2 * N) c] 62 (0, 0)) ∧ W.heap[w.heap.size + 3]? = some (.cells #[.int .i64 2] 3 (0, 0))
theorem own_ge {w : World} {base : Nat} {e : TypeId} {size n : Nat} {v : Value} {zs : List Value} (h : w.ownsRow base e size v n zs) : ∀ g, v.ownBlock = some g → base ≤ g := by
  rcases h.2 with ⟨rfl, _⟩ | ⟨k, cap, cur, rfl, hb, _⟩
  · intro g hg; simp [Value.ownBlock] at hg
  · intro g hg
    simp only [Value.ownBlock, Option.some.injEq] at hg
    omega
theorem cell_putObj {W : World} {D : Nat} {o o' : Obj} (hD : W.heap[D]? = some o) (ho : o.isCells = false) {p : Addr} {v : Value} (h : W.cell? p = some v) : (W.putObj D o').cell? p = some v := by
  by_cases e : p.block = D
  · subst e
    unfold World.cell? at h
    rw [hD] at h
    cases o with
    | cells a b c => simp [Obj.isCells] at ho
    | _ => simp at h
  · exact (World.cell?_of_block (World.putObj_heap_other e)).trans h
theorem Ents.putObj {W : World} {B D : Nat} {A : Option Addr} {l : List Ent} {o o' : Obj} (h : Ents W B A l) (hD : W.heap[D]? = some o) (ho : o.isCells = false) : Ents (W.putObj D o') B A l := fun i hi => by
  obtain ⟨a, hA, hab, h1, h2⟩ := h i hi
  exact ⟨a, hA, hab, cell_putObj hD ho h1, cell_putObj hD ho h2⟩
/-- what a round turns: the record's field, and the entries' row -/
theorem told_round {w W w2 : World} {seq X0 : Int} {q : Bool} {v u : Value} {n g N c : Nat} {L : List Ent} (Q1 : W.heap[w.heap.size + 1]? = some (.cells (rbox 1 seq v) 33 (0, 0))) (Q2 : W.ownsRow w.heap.size 60 2 v n (ecells L))
    (Q3 : W.heap[w.heap.size]? = some (.cells (rbox 0 0 (.slice none 0 0)) 33 (0, 0))) (Q4 : Below w.heap.size w W) (Q6 : W.heap[w.heap.size + 2]? = some (.cells #[.slice (some ⟨g, 0, none⟩) (2 * N) c] 62 (0, 0))) (Q7 : W.heap[w.heap.size + 3]? = some (.cells #[.int .i64 2] 3 (0, 0)))
    (q5 : w.heap.size + 4 ≤ W.heap.size) (hg : (W.alloc (.cells #[.int .i64 X0, .bool q] 60)).drew.grownBy w2 v.ownBlock) (B : Nat) :
    let w3 := w2.setCell ⟨w.heap.size + 1, 2, none⟩ u
    KeepsFrom B W w3 ∧ CKeep (two (w.heap.size + 2) (w.heap.size + 3)) W w3 ∧ w3.heap[w.heap.size]? = some (.cells (rbox 0 0 (.slice none 0 0)) 33 (0, 0)) ∧ w3.heap[w.heap.size + 2]? = some (.cells #[.slice (some ⟨g, 0, none⟩) (2 * N) c] 62 (0, 0)) ∧
      w3.heap[w.heap.size + 3]? = some (.cells #[.int .i64 2] 3 (0, 0)) ∧ Below w.heap.size w w3 ∧ w.heap.size + 4 ≤ w3.heap.size := by
  intro w3
  have hstay : ∀ (k : Nat) (cs : Array Value) (t : TypeId), k ≠ w.heap.size + 1 → 60 ≠ t → W.heap[k]? = some (.cells cs t (0, 0)) → w3.heap[k]? = some (.cells cs t (0, 0)) := fun k cs t hk ht h =>
    (Below.heap_setCell w2 ⟨w.heap.size + 1, 2, none⟩ u k (fun e => hk e)).trans ((hg.block k (by have := row_lt h; simp; omega) (Ne.symm (own_ne Q2 h ht))).trans (row_alloc h _))
  have k2 := hstay _ _ _ (by omega) (by decide) Q6
  have k3 := hstay _ _ _ (by omega) (by decide) Q7
  refine ⟨?_, ?_, hstay _ _ _ (by omega) (by decide) Q3, k2, k3, ?_, ?_⟩
  · refine ((((KeepsOthers.alloc W _).trans (KeepsOthers.drew _)).trans (KeepsOthers.of_grownBy hg fun j o e ho => ?_)).trans (KeepsOthers.setCell _ _ _)).from B
    rcases Q2.2 with ⟨rfl, _⟩ | ⟨k, cap, cur, rfl, _, hk, _⟩
    · simp [Value.ownBlock] at e
    · simp only [Value.ownBlock, Option.some.injEq] at e
      subst e
      have h2 : (W.alloc (.cells #[.int .i64 X0, .bool q] 60)).drew.heap[k]? = _ := row_alloc hk _
      rw [h2] at ho
      cases ho
      rfl
  · rintro k o (rfl | rfl) ho -
    · rw [Q6] at ho; cases ho; exact k2
    · rw [Q7] at ho; cases ho; exact k3
  · exact ((((Q4.alloc Q4.size _).drew)).grown hg (by have := Q4.size; simp; omega) (fun k hk => own_ge Q2 k hk)).setCell (by simp) _
  · have h1 := hg.size
    have h2 : w3.heap.size = w2.heap.size := by simp [w3]
    rw [h2]
    simp at h1
    omega
set_option maxRecDepth 100000 in
set_option maxHeartbeats 4000000 in
theorem told_1in (seq : Int) (xs : List UInt64) (N : Nat) (h1 : 1 ≤ N) (h2 : N ≤ 1000) (hxl : xs.length = 2 * N) (hx : ∀ x ∈ xs, x.toNat < 4294967296) (g : Nat) (w : World) (hR : RowV w g 63 (xs.map u64v)) :
    CallsIn Fence.wide 5 Tryd.prog 70 #[.int .i64 1, .int .i64 seq, .slice (some ⟨g, 0, none⟩) (2 * N) (2 * N)] w fun e w' => ∃ A' c', e = .returned (recV ⟨1, seq, (List.range N).map (pairE xs), 0, 0⟩ A' c') ∧ Ents w' w'.heap.size A' ((List.range N).map (pairE xs)) ∧ (∀ a, A' = some a → w.heap.size ≤ a.block) ∧ Below w.heap.size w w' := by
  have HR := Lib.hid hR
  have hgl := hR.lt
  have HXS := Lib.hid hx
  have HXL := Lib.hid hxl
  obtain ⟨i0, hi0, hz0, hz1, hz2⟩ := info_parts infoE
  have H0 := Lib.hid (lay2_is w 1 seq)
  clear hR hx hxl
  refine callsIn_of_wp_marks Tryd.func70 rfl trivial ?_ rfl
  simp only [Tryd.ntmps70, List.size_toArray, List.length_cons, List.length_nil, Nat.reduceAdd, Nat.reduceSub, Array.replicate_succ, Array.replicate_zero, List.push_toArray, List.append_toArray, List.nil_append, List.cons_append]
  gi_wp2_with fail
  refine ⟨trivial, (chunk_in _ _ _ _ _).mono ?_⟩
  rintro e w' ⟨rfl, rfl⟩
  have HC0 : Hid (CU w seq xs g N (2 * N) [] (((lay2 w 1 seq).alloc (.cells #[.slice (some ⟨g, 0, none⟩) (2 * N) (2 * N)] 62)).alloc (.cells #[.int .i64 2] 3))) := Lib.hid (by
    obtain ⟨v, q1, q2, q3, q4⟩ := H0.out
    have hs : (lay2 w 1 seq).heap.size = w.heap.size + 2 := by simp [lay2]
    have n0 := row_new (lay2 w 1 seq) (.cells #[.slice (some ⟨g, 0, none⟩) (2 * N) (2 * N)] 62)
    have n1 := row_new ((lay2 w 1 seq).alloc (.cells #[.slice (some ⟨g, 0, none⟩) (2 * N) (2 * N)] 62)) (.cells #[.int .i64 2] 3)
    simp only [World.size_alloc, hs, Nat.add_assoc, Nat.reduceAdd] at n0 n1
    exact ⟨⟨v, row_alloc (row_alloc q1 _) _, (q2.alloc _).alloc _, row_alloc (row_alloc q3 _) _, (q4.alloc q4.size _).alloc (by simp; omega) _⟩, by simp; omega, row_alloc n0 _, n1⟩)
  have HST := Lib.hid (chunk_stops 4 (by omega) (w.heap.size + 2) (w.heap.size + 3) g N (by omega) _ HC0.out.2.2.1 HC0.out.2.2.2)
  gi_wp2_with fail
  simp only [Nat.add_assoc, Nat.reduceAdd]
  rw [show ((((w.alloc (.cells #[.int .i64 0, .int .i64 0, .slice none 0 0, .int .u32 0, .int .i64 0] 33)).alloc (.cells #[.int .i64 1, .int .i64 seq, .slice none 0 0, .int .u32 0, .int .i64 0] 33)).alloc (.cells #[.slice (some ⟨g, 0, none⟩) (2 * N) (2 * N)] 62)).alloc (.cells #[.int .i64 2] 3)) = (((lay2 w 1 seq).alloc (.cells #[.slice (some ⟨g, 0, none⟩) (2 * N) (2 * N)] 62)).alloc (.cells #[.int .i64 2] 3)) from rfl]
  generalize hW0 : (((lay2 w 1 seq).alloc (.cells #[.slice (some ⟨g, 0, none⟩) (2 * N) (2 * N)] 62)).alloc (.cells #[.int .i64 2] 3)) = W0 at *
  have hsz := HC0.out.2.1
  clear hW0
  refine wpIn_rangeFunc_ownH rfl (by omega) (gf := 93) (lb := #[.pointer (some ⟨w.heap.size + 2, 0, none⟩), .pointer (some ⟨w.heap.size + 3, 0, none⟩)]) rfl trivial (enters_of Tryd.func93 (by kernel_rfl) rfl)
    HST.out CKeep.trans (fun W l o o' _ h hc _ => CKeep.turn W l o o' h hc) (Below.refl _ _) (fun _ => rfl) (CU w seq xs g N (2 * N)) (fun _ _ _ => False) ?hI ?hIx HC0.out (UA seq g N (2 * N) w.heap.size (.func (.func 93) #[] #[.pointer (some ⟨w.heap.size + 2, 0, none⟩), .pointer (some ⟨w.heap.size + 3, 0, none⟩)])) ?hAx ?assign ?body ?done ?stop
  case hI =>
    rintro pre X Y row ⟨⟨v, q1, q2, q3, q4⟩, q5, q6, q7⟩ hg hr
    have hr2 : ∀ r, row = some r → ∃ o : Obj, X.heap[r]? = some o ∧ o.isCells = false := fun r e => (hr r e).2
    refine ⟨⟨v, cells_own q1 hg hr2, q2.kept hg ?_, cells_own q3 hg hr2, q4.grown hg q4.size (fun r e => by have := (hr r e).1; omega)⟩, Nat.le_trans q5 hg.size, cells_own q6 hg hr2, cells_own q7 hg hr2⟩
    rcases q2.2 with ⟨rfl, _⟩ | ⟨gg, cap, cur, rfl, _, hgb, _⟩
    · exact .inl rfl
    · refine .inr fun e' => ?_
      obtain ⟨o, ho, hc⟩ := hr2 gg (by simpa [Value.ownBlock] using e'.symm)
      rw [hgb] at ho; cases ho; cases hc
  case hIx => intro c; exact fun _ _ _ _ hs _ _ => hs
  case hAx => intro x a'; exact fun _ _ _ _ hs _ _ => hs
  case assign =>
    intro lo pre x W K hi hK
    simp only [chunk]
    gi_wp2
    exact hK _ _ (KeepsFrom.refl _ _) (CKeep.refl _ _) hi rfl
  case body =>
    rintro lo pre x a' W hlo - ⟨⟨v, q1, q2, q3, q4⟩, q5, q6, q7⟩ rfl hlt
    obtain ⟨x', hx'⟩ : ∃ x', min x (N - 1) = x' := ⟨_, rfl⟩
    rw [hx']
    have hxn : x' < N := by omega
    have hRW := HR.out.keep q4 hgl
    have l0 : 2 * x' < xs.length := by rw [HXL.out]; omega
    have l1 : 2 * x' + 1 < xs.length := by rw [HXL.out]; omega
    have c0 : W.cell? ⟨g, 2 * x', none⟩ = some (.int .u64 (xs[2 * x'].toNat : Int)) := by
      have := hRW.cell (i := 2 * x') (by simpa using l0)
      rw [this]; simp [u64v]
    have c1 : W.cell? ⟨g, 2 * x' + 1, none⟩ = some (.int .u64 (xs[2 * x' + 1].toNat : Int)) := by
      have := hRW.cell (i := 2 * x' + 1) (by simpa using l1)
      rw [this]; simp [u64v]
    have hx0 := HXS.out _ (List.getElem_mem l0)
    have HE : Hid (pairE xs x' = ⟨(xs[2 * x'].toNat : Int), ((xs[2 * x' + 1].toNat : Nat) : Int) == 1⟩) := Lib.hid (by
      unfold pairE num_
      rw [List.getD_eq_getElem?_getD, List.getElem?_eq_getElem l0, List.getD_eq_getElem?_getD, List.getElem?_eq_getElem l1]
      rfl)
    generalize xs[2 * x'].toNat = X0 at *
    generalize xs[2 * x' + 1].toNat = X1 at *
    have s0 : IntKind.i64.wrap (X0 : Int) = (X0 : Int) := IntWalk.i64_in _ (by omega)
    have c2 : W.cell? ⟨w.heap.size + 1, 2, none⟩ = some v := (row_cell q1 2).trans rfl
    have f2 : W.frozen? ⟨w.heap.size + 1, 2, none⟩ = false := row_free q1 2
    have hlR := row_lt q1
    have hPL : (pre.map fun i => pairE xs (min i (N - 1))).length = pre.length := by simp
    have HPM : Hid ((pre ++ [x]).map (fun i => pairE xs (min i (N - 1))) = (pre.map fun i => pairE xs (min i (N - 1))) ++ [pairE xs x']) := Lib.hid (by rw [List.map_append, List.map_cons, List.map_nil, hx'])
    have HXP := Lib.hid hx'
    generalize (pre.map fun i => pairE xs (min i (N - 1))) = L at *
    have hLN : L.length ≤ 1000 := by rw [hPL]; have := hlt; omega
    have HPL := Lib.hid hPL
    have Q1 := Lib.hid q1
    have Q2 := Lib.hid q2
    have Q3 := Lib.hid q3
    have Q4 := Lib.hid q4
    have Q6 := Lib.hid q6
    have Q7 := Lib.hid q7
    obtain ⟨n, hn⟩ : ∃ n, L.length = n := ⟨_, rfl⟩
    rw [hn] at Q2 hLN
    have HN := Lib.hid hn
    obtain ⟨q, hq⟩ : ∃ q, ((X1 : Int) == 1) = q := ⟨_, rfl⟩
    rw [hq] at HE
    have HO1 : Hid ((W.alloc (.cells #[.int .i64 (X0 : Int), .bool q] 60)).ownsRow w.heap.size 60 2 v n (ecells L)) := Lib.hid (Q2.out.alloc _)
    have hqs := q4.size
    have hgr : g ≠ w.heap.size + 1 := by omega
    clear q1 q2 q3 q4 q6 q7 hRW hPL hn hx'
    gi_wp2_with fail
    refine region_in (by kernel_rfl) (by kernel_rfl) (by rintro ⟨_, _, h⟩; exact h.elim) ?_
    refine wpAny_take (i := 0) (v := ?_) rfl (by kernel_rfl) (by kernel_rfl) (by kernel_rfl) (fun _ _ _ h => h) (Or.inl ⟨by rfl, ?_⟩) ?_
    rotate_left
    · intro w
      go_simp
      try with_reducible rfl
    try simp only [Act.put, List.getElem_toArray, List.getElem_cons_zero, List.setIfInBounds_toArray, List.set_cons_zero, List.set_cons_succ]
    refine wpAny_take (i := 2) (v := ?_) rfl (by kernel_rfl) (by kernel_rfl) (by kernel_rfl) (fun _ _ _ h => h) (Or.inl ⟨by rfl, ?_⟩) ?_
    rotate_left
    · intro w
      go_simp
      try with_reducible rfl
    try simp only [Act.put, List.getElem_toArray, List.getElem_cons_zero, List.getElem_cons_succ, List.setIfInBounds_toArray, List.set_cons_zero, List.set_cons_succ]
    refine wpAny_take (i := 3) (v := ?_) rfl (by kernel_rfl) (by kernel_rfl) (by kernel_rfl) (fun _ _ _ h => h) (Or.inl ⟨by rfl, ?_⟩) ?_
    rotate_left
    · intro w
      go_simp
      try with_reducible rfl
    try simp only [Act.put, List.getElem_toArray, List.getElem_cons_zero, List.getElem_cons_succ, List.setIfInBounds_toArray, List.set_cons_zero, List.set_cons_succ]
    refine wpAny_take (i := 6) (v := ?_) rfl (by kernel_rfl) (by kernel_rfl) (by kernel_rfl) (fun _ _ _ h => h) (Or.inl ⟨by rfl, ?_⟩) ?_
    rotate_left
    · intro w
      go_simp
      try with_reducible rfl
    try simp only [Act.put, List.getElem_toArray, List.getElem_cons_zero, List.getElem_cons_succ, List.setIfInBounds_toArray, List.set_cons_zero, List.set_cons_succ]
    refine wpAny_take (i := 7) (v := ?_) rfl (by kernel_rfl) (by kernel_rfl) (by kernel_rfl) (fun _ _ _ h => h) (Or.inl ⟨by rfl, ?_⟩) ?_
    rotate_left
    · intro w
      go_simp
      try with_reducible rfl
    try simp only [Act.put, List.getElem_toArray, List.getElem_cons_zero, List.getElem_cons_succ, List.setIfInBounds_toArray, List.set_cons_zero, List.set_cons_succ]
    refine wpAny_ready (rs := [1, 4, 8]) (by kernel_rfl) (by simp) ?_
    refine AllReady.cons (o := _) rfl (fun K hK => ?_) (AllReady.cons (o := _) rfl (fun K hK => ?_) (AllReady.cons (o := _) rfl (fun K hK => ?_) (AllReady.nil)))
    · skip
      go_simp
      refine hK _ _ ?_
      clear hK K
      try simp only [Act.put, List.getElem_toArray, List.getElem_cons_zero, List.getElem_cons_succ, List.setIfInBounds_toArray, List.set_cons_zero, List.set_cons_succ]
      refine wpAny_ready (rs := [4, 8]) (by kernel_rfl) (by simp) ?_
      refine AllReady.cons (o := _) rfl (fun K hK => ?_) (AllReady.cons (o := _) rfl (fun K hK => ?_) (AllReady.nil))
      · skip
        go_simp
        refine hK _ _ ?_
        clear hK K
        try simp only [Act.put, List.getElem_toArray, List.getElem_cons_zero, List.getElem_cons_succ, List.setIfInBounds_toArray, List.set_cons_zero, List.set_cons_succ]
        refine wpAny_take (i := 5) (v := ?_) rfl (by kernel_rfl) (by kernel_rfl) (by kernel_rfl) (fun _ _ _ h => h) (Or.inl ⟨by rfl, ?_⟩) ?_
        rotate_left
        · intro w
          go_simp
          try with_reducible rfl
        try simp only [Act.put, List.getElem_toArray, List.getElem_cons_zero, List.getElem_cons_succ, List.setIfInBounds_toArray, List.set_cons_zero, List.set_cons_succ]
        refine wpAny_ready (rs := [8]) (by kernel_rfl) (by simp) ?_
        refine AllReady.cons (o := _) rfl (fun K hK => ?_) (AllReady.nil)
        · skip
          go_simp
          refine hK _ _ ?_
          clear hK K
          try simp only [Act.put, List.getElem_toArray, List.getElem_cons_zero, List.getElem_cons_succ, List.setIfInBounds_toArray, List.set_cons_zero, List.set_cons_succ]
          refine wpAny_take (i := 9) (v := ?_) rfl (by kernel_rfl) (by kernel_rfl) (by kernel_rfl) (fun _ _ _ h => h) (Or.inl ⟨by rfl, ?_⟩) ?_
          rotate_left
          · intro w
            go_simp
            try with_reducible rfl
          try simp only [Act.put, List.getElem_toArray, List.getElem_cons_zero, List.getElem_cons_succ, List.setIfInBounds_toArray, List.set_cons_zero, List.set_cons_succ]
          refine wpAny_take (i := 10) (v := ?_) rfl (by kernel_rfl) (by kernel_rfl) (by kernel_rfl) (fun _ _ _ h => h) (Or.inl ⟨by rfl, ?_⟩) ?_
          rotate_left
          · intro w
            go_simp
            try with_reducible rfl
          try simp only [Act.put, List.getElem_toArray, List.getElem_cons_zero, List.getElem_cons_succ, List.setIfInBounds_toArray, List.set_cons_zero, List.set_cons_succ]
          refine wpAny_ready (rs := [11]) (by kernel_rfl) (by simp) ?_
          refine AllReady.cons (o := _) rfl (fun K hK => ?_) (AllReady.nil)
          · skip
            go_simp
            refine hK _ _ ?_
            clear hK K
            try simp only [Act.put, List.getElem_toArray, List.getElem_cons_zero, List.getElem_cons_succ, List.setIfInBounds_toArray, List.set_cons_zero, List.set_cons_succ]
            refine wpAny_ready (rs := [12]) (by kernel_rfl) (by simp) ?_
            refine AllReady.cons (o := _) rfl (fun K hK => ?_) (AllReady.nil)
            · skip
              refine step_append_lies _ (by rfl) _ _ _ (by rfl) w.heap.size 60 i0 _ 2 16 underE hi0 hz0 hz1 hz2 rfl (by omega) v n (ecells L) (by rfl) (HO1.out.drew) ⟨W.heap.size, 0, none⟩ 1 1 (ecell ⟨(X0 : Int), q⟩) (by rfl) (by rfl) (World.news_of_block (cs := #[.int .i64 (X0 : Int), .bool q]) (t := 60) (fr := (0, 0)) (row_new W _)) (by simp [ecell, Value.oneCell']) (by omega) (by unfold maxLen; omega) (by omega) (by simp; omega) _ rfl ?_; intro gg cap w2 h1 h2 hat hlt2
              have hbx : (W.alloc (.cells #[.int .i64 (X0 : Int), .bool q] 60)).drew.heap[w.heap.size + 1]? = some (.cells (rbox 1 seq v) 33 (0, 0)) := row_alloc Q1.out _
              have hnb := own_ne HO1.out.drew hbx (by decide)
              have HTO := Lib.hid (told_append (l := L) (x := ⟨(X0 : Int), q⟩) hbx HO1.out.drew h1 h2)
              have j0 : w2.cell? ⟨w.heap.size + 1, 2, none⟩ = some v := (World.cell?_of_block (h2.block (w.heap.size + 1) (row_lt hbx) (Ne.symm hnb))).trans ((row_cell hbx 2).trans rfl)
              have j1 : w2.frozen? ⟨w.heap.size + 1, 2, none⟩ = false := (World.frozen?_of_block (h2.block (w.heap.size + 1) (row_lt hbx) (Ne.symm hnb))).trans (row_free hbx 2)
              have HG2 := Lib.hid h2
              clear h1 h2 hnb hbx hat
              refine hK _ _ ?_
              clear hK K
              try simp only [Act.put, List.getElem_toArray, List.getElem_cons_zero, List.getElem_cons_succ, List.setIfInBounds_toArray, List.set_cons_zero, List.set_cons_succ]
              refine wpAny_take (i := 13) (v := ?_) rfl (by kernel_rfl) (by kernel_rfl) (by kernel_rfl) (fun _ _ _ h => h) (Or.inl ⟨by rfl, ?_⟩) ?_
              rotate_left
              · intro w
                go_simp
                try with_reducible rfl
              try simp only [Act.put, List.getElem_toArray, List.getElem_cons_zero, List.getElem_cons_succ, List.setIfInBounds_toArray, List.set_cons_zero, List.set_cons_succ]
              refine wpAny_ready (rs := [14]) (by kernel_rfl) (by simp) ?_
              refine AllReady.cons (o := _) rfl (fun K hK => ?_) (AllReady.nil)
              · skip
                go_simp
                refine hK _ _ ?_
                clear hK K
                try simp only [Act.put, List.getElem_toArray, List.getElem_cons_zero, List.getElem_cons_succ, List.setIfInBounds_toArray, List.set_cons_zero, List.set_cons_succ]
                refine wpAny_done (by kernel_rfl) ?_ _
                have hR := told_round (u := .slice (some ⟨gg, 0, none⟩) (n + 1) cap) Q1.out Q2.out Q3.out Q4.out Q6.out Q7.out q5 HG2.out W0.heap.size
                refine ⟨hR.1, hR.2.1, ⟨.slice (some ⟨gg, 0, none⟩) (n + 1) cap, ?_, ?_, hR.2.2.1, hR.2.2.2.2.2.1⟩, hR.2.2.2.2.2.2, hR.2.2.2.1, hR.2.2.2.2.1⟩
                · exact HTO.out.1
                · rw [HPM.out, HE.out]
                  have := HTO.out.2
                  rw [List.length_append, HN.out]
                  exact this
      · skip
        go_simp
        refine hK _ _ ?_
        clear hK K
        try simp only [Act.put, List.getElem_toArray, List.getElem_cons_zero, List.getElem_cons_succ, List.setIfInBounds_toArray, List.set_cons_zero, List.set_cons_succ]
        refine wpAny_take (i := 9) (v := ?_) rfl (by kernel_rfl) (by kernel_rfl) (by kernel_rfl) (fun _ _ _ h => h) (Or.inl ⟨by rfl, ?_⟩) ?_
        rotate_left
        · intro w
          go_simp
          try with_reducible rfl
        try simp only [Act.put, List.getElem_toArray, List.getElem_cons_zero, List.getElem_cons_succ, List.setIfInBounds_toArray, List.set_cons_zero, List.set_cons_succ]
        refine wpAny_ready (rs := [4]) (by kernel_rfl) (by simp) ?_
        refine AllReady.cons (o := _) rfl (fun K hK => ?_) (AllReady.nil)
        · skip
          go_simp
          refine hK _ _ ?_
          clear hK K
          try simp only [Act.put, List.getElem_toArray, List.getElem_cons_zero, List.getElem_cons_succ, List.setIfInBounds_toArray, List.set_cons_zero, List.set_cons_succ]
          refine wpAny_take (i := 5) (v := ?_) rfl (by kernel_rfl) (by kernel_rfl) (by kernel_rfl) (fun _ _ _ h => h) (Or.inl ⟨by rfl, ?_⟩) ?_
          rotate_left
          · intro w
            go_simp
            try with_reducible rfl
          try simp only [Act.put, List.getElem_toArray, List.getElem_cons_zero, List.getElem_cons_succ, List.setIfInBounds_toArray, List.set_cons_zero, List.set_cons_succ]
          refine wpAny_take (i := 10) (v := ?_) rfl (by kernel_rfl) (by kernel_rfl) (by kernel_rfl) (fun _ _ _ h => h) (Or.inl ⟨by rfl, ?_⟩) ?_
          rotate_left
          · intro w
            go_simp
            try with_reducible rfl
          try simp only [Act.put, List.getElem_toArray, List.getElem_cons_zero, List.getElem_cons_succ, List.setIfInBounds_toArray, List.set_cons_zero, List.set_cons_succ]
          refine wpAny_ready (rs := [11]) (by kernel_rfl) (by simp) ?_
          refine AllReady.cons (o := _) rfl (fun K hK => ?_) (AllReady.nil)
          · skip
            go_simp
            refine hK _ _ ?_
            clear hK K
            try simp only [Act.put, List.getElem_toArray, List.getElem_cons_zero, List.getElem_cons_succ, List.setIfInBounds_toArray, List.set_cons_zero, List.set_cons_succ]
            refine wpAny_ready (rs := [12]) (by kernel_rfl) (by simp) ?_
            refine AllReady.cons (o := _) rfl (fun K hK => ?_) (AllReady.nil)
            · skip
              refine step_append_lies _ (by rfl) _ _ _ (by rfl) w.heap.size 60 i0 _ 2 16 underE hi0 hz0 hz1 hz2 rfl (by omega) v n (ecells L) (by rfl) (HO1.out.drew) ⟨W.heap.size, 0, none⟩ 1 1 (ecell ⟨(X0 : Int), q⟩) (by rfl) (by rfl) (World.news_of_block (cs := #[.int .i64 (X0 : Int), .bool q]) (t := 60) (fr := (0, 0)) (row_new W _)) (by simp [ecell, Value.oneCell']) (by omega) (by unfold maxLen; omega) (by omega) (by simp; omega) _ rfl ?_; intro gg cap w2 h1 h2 hat hlt2
              have hbx : (W.alloc (.cells #[.int .i64 (X0 : Int), .bool q] 60)).drew.heap[w.heap.size + 1]? = some (.cells (rbox 1 seq v) 33 (0, 0)) := row_alloc Q1.out _
              have hnb := own_ne HO1.out.drew hbx (by decide)
              have HTO := Lib.hid (told_append (l := L) (x := ⟨(X0 : Int), q⟩) hbx HO1.out.drew h1 h2)
              have j0 : w2.cell? ⟨w.heap.size + 1, 2, none⟩ = some v := (World.cell?_of_block (h2.block (w.heap.size + 1) (row_lt hbx) (Ne.symm hnb))).trans ((row_cell hbx 2).trans rfl)
              have j1 : w2.frozen? ⟨w.heap.size + 1, 2, none⟩ = false := (World.frozen?_of_block (h2.block (w.heap.size + 1) (row_lt hbx) (Ne.symm hnb))).trans (row_free hbx 2)
              have HG2 := Lib.hid h2
              clear h1 h2 hnb hbx hat
              refine hK _ _ ?_
              clear hK K
              try simp only [Act.put, List.getElem_toArray, List.getElem_cons_zero, List.getElem_cons_succ, List.setIfInBounds_toArray, List.set_cons_zero, List.set_cons_succ]
              refine wpAny_take (i := 13) (v := ?_) rfl (by kernel_rfl) (by kernel_rfl) (by kernel_rfl) (fun _ _ _ h => h) (Or.inl ⟨by rfl, ?_⟩) ?_
              rotate_left
              · intro w
                go_simp
                try with_reducible rfl
              try simp only [Act.put, List.getElem_toArray, List.getElem_cons_zero, List.getElem_cons_succ, List.setIfInBounds_toArray, List.set_cons_zero, List.set_cons_succ]
              refine wpAny_ready (rs := [14]) (by kernel_rfl) (by simp) ?_
              refine AllReady.cons (o := _) rfl (fun K hK => ?_) (AllReady.nil)
              · skip
                go_simp
                refine hK _ _ ?_
                clear hK K
                try simp only [Act.put, List.getElem_toArray, List.getElem_cons_zero, List.getElem_cons_succ, List.setIfInBounds_toArray, List.set_cons_zero, List.set_cons_succ]
                refine wpAny_done (by kernel_rfl) ?_ _
                have hR := told_round (u := .slice (some ⟨gg, 0, none⟩) (n + 1) cap) Q1.out Q2.out Q3.out Q4.out Q6.out Q7.out q5 HG2.out W0.heap.size
                refine ⟨hR.1, hR.2.1, ⟨.slice (some ⟨gg, 0, none⟩) (n + 1) cap, ?_, ?_, hR.2.2.1, hR.2.2.2.2.2.1⟩, hR.2.2.2.2.2.2, hR.2.2.2.1, hR.2.2.2.2.1⟩
                · exact HTO.out.1
                · rw [HPM.out, HE.out]
                  have := HTO.out.2
                  rw [List.length_append, HN.out]
                  exact this
    · skip
      go_simp
      refine hK _ _ ?_
      clear hK K
      try simp only [Act.put, List.getElem_toArray, List.getElem_cons_zero, List.getElem_cons_succ, List.setIfInBounds_toArray, List.set_cons_zero, List.set_cons_succ]
      refine wpAny_take (i := 5) (v := ?_) rfl (by kernel_rfl) (by kernel_rfl) (by kernel_rfl) (fun _ _ _ h => h) (Or.inl ⟨by rfl, ?_⟩) ?_
      rotate_left
      · intro w
        go_simp
        try with_reducible rfl
      try simp only [Act.put, List.getElem_toArray, List.getElem_cons_zero, List.getElem_cons_succ, List.setIfInBounds_toArray, List.set_cons_zero, List.set_cons_succ]
      refine wpAny_ready (rs := [1, 8]) (by kernel_rfl) (by simp) ?_
      refine AllReady.cons (o := _) rfl (fun K hK => ?_) (AllReady.cons (o := _) rfl (fun K hK => ?_) (AllReady.nil))
      · skip
        go_simp
        refine hK _ _ ?_
        clear hK K
        try simp only [Act.put, List.getElem_toArray, List.getElem_cons_zero, List.getElem_cons_succ, List.setIfInBounds_toArray, List.set_cons_zero, List.set_cons_succ]
        refine wpAny_ready (rs := [8]) (by kernel_rfl) (by simp) ?_
        refine AllReady.cons (o := _) rfl (fun K hK => ?_) (AllReady.nil)
        · skip
          go_simp
          refine hK _ _ ?_
          clear hK K
          try simp only [Act.put, List.getElem_toArray, List.getElem_cons_zero, List.getElem_cons_succ, List.setIfInBounds_toArray, List.set_cons_zero, List.set_cons_succ]
          refine wpAny_take (i := 9) (v := ?_) rfl (by kernel_rfl) (by kernel_rfl) (by kernel_rfl) (fun _ _ _ h => h) (Or.inl ⟨by rfl, ?_⟩) ?_
          rotate_left
          · intro w
            go_simp
            try with_reducible rfl
          try simp only [Act.put, List.getElem_toArray, List.getElem_cons_zero, List.getElem_cons_succ, List.setIfInBounds_toArray, List.set_cons_zero, List.set_cons_succ]
          refine wpAny_take (i := 10) (v := ?_) rfl (by kernel_rfl) (by kernel_rfl) (by kernel_rfl) (fun _ _ _ h => h) (Or.inl ⟨by rfl, ?_⟩) ?_
          rotate_left
          · intro w
            go_simp
            try with_reducible rfl
          try simp only [Act.put, List.getElem_toArray, List.getElem_cons_zero, List.getElem_cons_succ, List.setIfInBounds_toArray, List.set_cons_zero, List.set_cons_succ]
          refine wpAny_ready (rs := [11]) (by kernel_rfl) (by simp) ?_
          refine AllReady.cons (o := _) rfl (fun K hK => ?_) (AllReady.nil)
          · skip
            go_simp
            refine hK _ _ ?_
            clear hK K
            try simp only [Act.put, List.getElem_toArray, List.getElem_cons_zero, List.getElem_cons_succ, List.setIfInBounds_toArray, List.set_cons_zero, List.set_cons_succ]
            refine wpAny_ready (rs := [12]) (by kernel_rfl) (by simp) ?_
            refine AllReady.cons (o := _) rfl (fun K hK => ?_) (AllReady.nil)
            · skip
              refine step_append_lies _ (by rfl) _ _ _ (by rfl) w.heap.size 60 i0 _ 2 16 underE hi0 hz0 hz1 hz2 rfl (by omega) v n (ecells L) (by rfl) (HO1.out.drew) ⟨W.heap.size, 0, none⟩ 1 1 (ecell ⟨(X0 : Int), q⟩) (by rfl) (by rfl) (World.news_of_block (cs := #[.int .i64 (X0 : Int), .bool q]) (t := 60) (fr := (0, 0)) (row_new W _)) (by simp [ecell, Value.oneCell']) (by omega) (by unfold maxLen; omega) (by omega) (by simp; omega) _ rfl ?_; intro gg cap w2 h1 h2 hat hlt2
              have hbx : (W.alloc (.cells #[.int .i64 (X0 : Int), .bool q] 60)).drew.heap[w.heap.size + 1]? = some (.cells (rbox 1 seq v) 33 (0, 0)) := row_alloc Q1.out _
              have hnb := own_ne HO1.out.drew hbx (by decide)
              have HTO := Lib.hid (told_append (l := L) (x := ⟨(X0 : Int), q⟩) hbx HO1.out.drew h1 h2)
              have j0 : w2.cell? ⟨w.heap.size + 1, 2, none⟩ = some v := (World.cell?_of_block (h2.block (w.heap.size + 1) (row_lt hbx) (Ne.symm hnb))).trans ((row_cell hbx 2).trans rfl)
              have j1 : w2.frozen? ⟨w.heap.size + 1, 2, none⟩ = false := (World.frozen?_of_block (h2.block (w.heap.size + 1) (row_lt hbx) (Ne.symm hnb))).trans (row_free hbx 2)
              have HG2 := Lib.hid h2
              clear h1 h2 hnb hbx hat
              refine hK _ _ ?_
              clear hK K
              try simp only [Act.put, List.getElem_toArray, List.getElem_cons_zero, List.getElem_cons_succ, List.setIfInBounds_toArray, List.set_cons_zero, List.set_cons_succ]
              refine wpAny_take (i := 13) (v := ?_) rfl (by kernel_rfl) (by kernel_rfl) (by kernel_rfl) (fun _ _ _ h => h) (Or.inl ⟨by rfl, ?_⟩) ?_
              rotate_left
              · intro w
                go_simp
                try with_reducible rfl
              try simp only [Act.put, List.getElem_toArray, List.getElem_cons_zero, List.getElem_cons_succ, List.setIfInBounds_toArray, List.set_cons_zero, List.set_cons_succ]
              refine wpAny_ready (rs := [14]) (by kernel_rfl) (by simp) ?_
              refine AllReady.cons (o := _) rfl (fun K hK => ?_) (AllReady.nil)
              · skip
                go_simp
                refine hK _ _ ?_
                clear hK K
                try simp only [Act.put, List.getElem_toArray, List.getElem_cons_zero, List.getElem_cons_succ, List.setIfInBounds_toArray, List.set_cons_zero, List.set_cons_succ]
                refine wpAny_done (by kernel_rfl) ?_ _
                have hR := told_round (u := .slice (some ⟨gg, 0, none⟩) (n + 1) cap) Q1.out Q2.out Q3.out Q4.out Q6.out Q7.out q5 HG2.out W0.heap.size
                refine ⟨hR.1, hR.2.1, ⟨.slice (some ⟨gg, 0, none⟩) (n + 1) cap, ?_, ?_, hR.2.2.1, hR.2.2.2.2.2.1⟩, hR.2.2.2.2.2.2, hR.2.2.2.1, hR.2.2.2.2.1⟩
                · exact HTO.out.1
                · rw [HPM.out, HE.out]
                  have := HTO.out.2
                  rw [List.length_append, HN.out]
                  exact this
      · skip
        go_simp
        refine hK _ _ ?_
        clear hK K
        try simp only [Act.put, List.getElem_toArray, List.getElem_cons_zero, List.getElem_cons_succ, List.setIfInBounds_toArray, List.set_cons_zero, List.set_cons_succ]
        refine wpAny_take (i := 9) (v := ?_) rfl (by kernel_rfl) (by kernel_rfl) (by kernel_rfl) (fun _ _ _ h => h) (Or.inl ⟨by rfl, ?_⟩) ?_
        rotate_left
        · intro w
          go_simp
          try with_reducible rfl
        try simp only [Act.put, List.getElem_toArray, List.getElem_cons_zero, List.getElem_cons_succ, List.setIfInBounds_toArray, List.set_cons_zero, List.set_cons_succ]
        refine wpAny_take (i := 10) (v := ?_) rfl (by kernel_rfl) (by kernel_rfl) (by kernel_rfl) (fun _ _ _ h => h) (Or.inl ⟨by rfl, ?_⟩) ?_
        rotate_left
        · intro w
          go_simp
          try with_reducible rfl
        try simp only [Act.put, List.getElem_toArray, List.getElem_cons_zero, List.getElem_cons_succ, List.setIfInBounds_toArray, List.set_cons_zero, List.set_cons_succ]
        refine wpAny_ready (rs := [1, 11]) (by kernel_rfl) (by simp) ?_
        refine AllReady.cons (o := _) rfl (fun K hK => ?_) (AllReady.cons (o := _) rfl (fun K hK => ?_) (AllReady.nil))
        · skip
          go_simp
          refine hK _ _ ?_
          clear hK K
          try simp only [Act.put, List.getElem_toArray, List.getElem_cons_zero, List.getElem_cons_succ, List.setIfInBounds_toArray, List.set_cons_zero, List.set_cons_succ]
          refine wpAny_ready (rs := [11]) (by kernel_rfl) (by simp) ?_
          refine AllReady.cons (o := _) rfl (fun K hK => ?_) (AllReady.nil)
          · skip
            go_simp
            refine hK _ _ ?_
            clear hK K
            try simp only [Act.put, List.getElem_toArray, List.getElem_cons_zero, List.getElem_cons_succ, List.setIfInBounds_toArray, List.set_cons_zero, List.set_cons_succ]
            refine wpAny_ready (rs := [12]) (by kernel_rfl) (by simp) ?_
            refine AllReady.cons (o := _) rfl (fun K hK => ?_) (AllReady.nil)
            · skip
              refine step_append_lies _ (by rfl) _ _ _ (by rfl) w.heap.size 60 i0 _ 2 16 underE hi0 hz0 hz1 hz2 rfl (by omega) v n (ecells L) (by rfl) (HO1.out.drew) ⟨W.heap.size, 0, none⟩ 1 1 (ecell ⟨(X0 : Int), q⟩) (by rfl) (by rfl) (World.news_of_block (cs := #[.int .i64 (X0 : Int), .bool q]) (t := 60) (fr := (0, 0)) (row_new W _)) (by simp [ecell, Value.oneCell']) (by omega) (by unfold maxLen; omega) (by omega) (by simp; omega) _ rfl ?_; intro gg cap w2 h1 h2 hat hlt2
              have hbx : (W.alloc (.cells #[.int .i64 (X0 : Int), .bool q] 60)).drew.heap[w.heap.size + 1]? = some (.cells (rbox 1 seq v) 33 (0, 0)) := row_alloc Q1.out _
              have hnb := own_ne HO1.out.drew hbx (by decide)
              have HTO := Lib.hid (told_append (l := L) (x := ⟨(X0 : Int), q⟩) hbx HO1.out.drew h1 h2)
              have j0 : w2.cell? ⟨w.heap.size + 1, 2, none⟩ = some v := (World.cell?_of_block (h2.block (w.heap.size + 1) (row_lt hbx) (Ne.symm hnb))).trans ((row_cell hbx 2).trans rfl)
              have j1 : w2.frozen? ⟨w.heap.size + 1, 2, none⟩ = false := (World.frozen?_of_block (h2.block (w.heap.size + 1) (row_lt hbx) (Ne.symm hnb))).trans (row_free hbx 2)
              have HG2 := Lib.hid h2
              clear h1 h2 hnb hbx hat
              refine hK _ _ ?_
              clear hK K
              try simp only [Act.put, List.getElem_toArray, List.getElem_cons_zero, List.getElem_cons_succ, List.setIfInBounds_toArray, List.set_cons_zero, List.set_cons_succ]
              refine wpAny_take (i := 13) (v := ?_) rfl (by kernel_rfl) (by kernel_rfl) (by kernel_rfl) (fun _ _ _ h => h) (Or.inl ⟨by rfl, ?_⟩) ?_
              rotate_left
              · intro w
                go_simp
                try with_reducible rfl
              try simp only [Act.put, List.getElem_toArray, List.getElem_cons_zero, List.getElem_cons_succ, List.setIfInBounds_toArray, List.set_cons_zero, List.set_cons_succ]
              refine wpAny_ready (rs := [14]) (by kernel_rfl) (by simp) ?_
              refine AllReady.cons (o := _) rfl (fun K hK => ?_) (AllReady.nil)
              · skip
                go_simp
                refine hK _ _ ?_
                clear hK K
                try simp only [Act.put, List.getElem_toArray, List.getElem_cons_zero, List.getElem_cons_succ, List.setIfInBounds_toArray, List.set_cons_zero, List.set_cons_succ]
                refine wpAny_done (by kernel_rfl) ?_ _
                have hR := told_round (u := .slice (some ⟨gg, 0, none⟩) (n + 1) cap) Q1.out Q2.out Q3.out Q4.out Q6.out Q7.out q5 HG2.out W0.heap.size
                refine ⟨hR.1, hR.2.1, ⟨.slice (some ⟨gg, 0, none⟩) (n + 1) cap, ?_, ?_, hR.2.2.1, hR.2.2.2.2.2.1⟩, hR.2.2.2.2.2.2, hR.2.2.2.1, hR.2.2.2.2.1⟩
                · exact HTO.out.1
                · rw [HPM.out, HE.out]
                  have := HTO.out.2
                  rw [List.length_append, HN.out]
                  exact this
        · skip
          go_simp
          refine hK _ _ ?_
          clear hK K
          try simp only [Act.put, List.getElem_toArray, List.getElem_cons_zero, List.getElem_cons_succ, List.setIfInBounds_toArray, List.set_cons_zero, List.set_cons_succ]
          refine wpAny_ready (rs := [1]) (by kernel_rfl) (by simp) ?_
          refine AllReady.cons (o := _) rfl (fun K hK => ?_) (AllReady.nil)
          · skip
            go_simp
            refine hK _ _ ?_
            clear hK K
            try simp only [Act.put, List.getElem_toArray, List.getElem_cons_zero, List.getElem_cons_succ, List.setIfInBounds_toArray, List.set_cons_zero, List.set_cons_succ]
            refine wpAny_ready (rs := [12]) (by kernel_rfl) (by simp) ?_
            refine AllReady.cons (o := _) rfl (fun K hK => ?_) (AllReady.nil)
            · skip
              refine step_append_lies _ (by rfl) _ _ _ (by rfl) w.heap.size 60 i0 _ 2 16 underE hi0 hz0 hz1 hz2 rfl (by omega) v n (ecells L) (by rfl) (HO1.out.drew) ⟨W.heap.size, 0, none⟩ 1 1 (ecell ⟨(X0 : Int), q⟩) (by rfl) (by rfl) (World.news_of_block (cs := #[.int .i64 (X0 : Int), .bool q]) (t := 60) (fr := (0, 0)) (row_new W _)) (by simp [ecell, Value.oneCell']) (by omega) (by unfold maxLen; omega) (by omega) (by simp; omega) _ rfl ?_; intro gg cap w2 h1 h2 hat hlt2
              have hbx : (W.alloc (.cells #[.int .i64 (X0 : Int), .bool q] 60)).drew.heap[w.heap.size + 1]? = some (.cells (rbox 1 seq v) 33 (0, 0)) := row_alloc Q1.out _
              have hnb := own_ne HO1.out.drew hbx (by decide)
              have HTO := Lib.hid (told_append (l := L) (x := ⟨(X0 : Int), q⟩) hbx HO1.out.drew h1 h2)
              have j0 : w2.cell? ⟨w.heap.size + 1, 2, none⟩ = some v := (World.cell?_of_block (h2.block (w.heap.size + 1) (row_lt hbx) (Ne.symm hnb))).trans ((row_cell hbx 2).trans rfl)
              have j1 : w2.frozen? ⟨w.heap.size + 1, 2, none⟩ = false := (World.frozen?_of_block (h2.block (w.heap.size + 1) (row_lt hbx) (Ne.symm hnb))).trans (row_free hbx 2)
              have HG2 := Lib.hid h2
              clear h1 h2 hnb hbx hat
              refine hK _ _ ?_
              clear hK K
              try simp only [Act.put, List.getElem_toArray, List.getElem_cons_zero, List.getElem_cons_succ, List.setIfInBounds_toArray, List.set_cons_zero, List.set_cons_succ]
              refine wpAny_take (i := 13) (v := ?_) rfl (by kernel_rfl) (by kernel_rfl) (by kernel_rfl) (fun _ _ _ h => h) (Or.inl ⟨by rfl, ?_⟩) ?_
              rotate_left
              · intro w
                go_simp
                try with_reducible rfl
              try simp only [Act.put, List.getElem_toArray, List.getElem_cons_zero, List.getElem_cons_succ, List.setIfInBounds_toArray, List.set_cons_zero, List.set_cons_succ]
              refine wpAny_ready (rs := [14]) (by kernel_rfl) (by simp) ?_
              refine AllReady.cons (o := _) rfl (fun K hK => ?_) (AllReady.nil)
              · skip
                go_simp
                refine hK _ _ ?_
                clear hK K
                try simp only [Act.put, List.getElem_toArray, List.getElem_cons_zero, List.getElem_cons_succ, List.setIfInBounds_toArray, List.set_cons_zero, List.set_cons_succ]
                refine wpAny_done (by kernel_rfl) ?_ _
                have hR := told_round (u := .slice (some ⟨gg, 0, none⟩) (n + 1) cap) Q1.out Q2.out Q3.out Q4.out Q6.out Q7.out q5 HG2.out W0.heap.size
                refine ⟨hR.1, hR.2.1, ⟨.slice (some ⟨gg, 0, none⟩) (n + 1) cap, ?_, ?_, hR.2.2.1, hR.2.2.2.2.2.1⟩, hR.2.2.2.2.2.2, hR.2.2.2.1, hR.2.2.2.2.1⟩
                · exact HTO.out.1
                · rw [HPM.out, HE.out]
                  have := HTO.out.2
                  rw [List.length_append, HN.out]
                  exact this
    · skip
      go_simp
      refine hK _ _ ?_
      clear hK K
      try simp only [Act.put, List.getElem_toArray, List.getElem_cons_zero, List.getElem_cons_succ, List.setIfInBounds_toArray, List.set_cons_zero, List.set_cons_succ]
      refine wpAny_take (i := 9) (v := ?_) rfl (by kernel_rfl) (by kernel_rfl) (by kernel_rfl) (fun _ _ _ h => h) (Or.inl ⟨by rfl, ?_⟩) ?_
      rotate_left
      · intro w
        go_simp
        try with_reducible rfl
      try simp only [Act.put, List.getElem_toArray, List.getElem_cons_zero, List.getElem_cons_succ, List.setIfInBounds_toArray, List.set_cons_zero, List.set_cons_succ]
      refine wpAny_ready (rs := [1, 4]) (by kernel_rfl) (by simp) ?_
      refine AllReady.cons (o := _) rfl (fun K hK => ?_) (AllReady.cons (o := _) rfl (fun K hK => ?_) (AllReady.nil))
      · skip
        go_simp
        refine hK _ _ ?_
        clear hK K
        try simp only [Act.put, List.getElem_toArray, List.getElem_cons_zero, List.getElem_cons_succ, List.setIfInBounds_toArray, List.set_cons_zero, List.set_cons_succ]
        refine wpAny_ready (rs := [4]) (by kernel_rfl) (by simp) ?_
        refine AllReady.cons (o := _) rfl (fun K hK => ?_) (AllReady.nil)
        · skip
          go_simp
          refine hK _ _ ?_
          clear hK K
          try simp only [Act.put, List.getElem_toArray, List.getElem_cons_zero, List.getElem_cons_succ, List.setIfInBounds_toArray, List.set_cons_zero, List.set_cons_succ]
          refine wpAny_take (i := 5) (v := ?_) rfl (by kernel_rfl) (by kernel_rfl) (by kernel_rfl) (fun _ _ _ h => h) (Or.inl ⟨by rfl, ?_⟩) ?_
          rotate_left
          · intro w
            go_simp
            try with_reducible rfl
          try simp only [Act.put, List.getElem_toArray, List.getElem_cons_zero, List.getElem_cons_succ, List.setIfInBounds_toArray, List.set_cons_zero, List.set_cons_succ]
          refine wpAny_take (i := 10) (v := ?_) rfl (by kernel_rfl) (by kernel_rfl) (by kernel_rfl) (fun _ _ _ h => h) (Or.inl ⟨by rfl, ?_⟩) ?_
          rotate_left
          · intro w
            go_simp
            try with_reducible rfl
          try simp only [Act.put, List.getElem_toArray, List.getElem_cons_zero, List.getElem_cons_succ, List.setIfInBounds_toArray, List.set_cons_zero, List.set_cons_succ]
          refine wpAny_ready (rs := [11]) (by kernel_rfl) (by simp) ?_
          refine AllReady.cons (o := _) rfl (fun K hK => ?_) (AllReady.nil)
          · skip
            go_simp
            refine hK _ _ ?_
            clear hK K
            try simp only [Act.put, List.getElem_toArray, List.getElem_cons_zero, List.getElem_cons_succ, List.setIfInBounds_toArray, List.set_cons_zero, List.set_cons_succ]
            refine wpAny_ready (rs := [12]) (by kernel_rfl) (by simp) ?_
            refine AllReady.cons (o := _) rfl (fun K hK => ?_) (AllReady.nil)
            · skip
              refine step_append_lies _ (by rfl) _ _ _ (by rfl) w.heap.size 60 i0 _ 2 16 underE hi0 hz0 hz1 hz2 rfl (by omega) v n (ecells L) (by rfl) (HO1.out.drew) ⟨W.heap.size, 0, none⟩ 1 1 (ecell ⟨(X0 : Int), q⟩) (by rfl) (by rfl) (World.news_of_block (cs := #[.int .i64 (X0 : Int), .bool q]) (t := 60) (fr := (0, 0)) (row_new W _)) (by simp [ecell, Value.oneCell']) (by omega) (by unfold maxLen; omega) (by omega) (by simp; omega) _ rfl ?_; intro gg cap w2 h1 h2 hat hlt2
              have hbx : (W.alloc (.cells #[.int .i64 (X0 : Int), .bool q] 60)).drew.heap[w.heap.size + 1]? = some (.cells (rbox 1 seq v) 33 (0, 0)) := row_alloc Q1.out _
              have hnb := own_ne HO1.out.drew hbx (by decide)
              have HTO := Lib.hid (told_append (l := L) (x := ⟨(X0 : Int), q⟩) hbx HO1.out.drew h1 h2)
              have j0 : w2.cell? ⟨w.heap.size + 1, 2, none⟩ = some v := (World.cell?_of_block (h2.block (w.heap.size + 1) (row_lt hbx) (Ne.symm hnb))).trans ((row_cell hbx 2).trans rfl)
              have j1 : w2.frozen? ⟨w.heap.size + 1, 2, none⟩ = false := (World.frozen?_of_block (h2.block (w.heap.size + 1) (row_lt hbx) (Ne.symm hnb))).trans (row_free hbx 2)
              have HG2 := Lib.hid h2
              clear h1 h2 hnb hbx hat
              refine hK _ _ ?_
              clear hK K
              try simp only [Act.put, List.getElem_toArray, List.getElem_cons_zero, List.getElem_cons_succ, List.setIfInBounds_toArray, List.set_cons_zero, List.set_cons_succ]
              refine wpAny_take (i := 13) (v := ?_) rfl (by kernel_rfl) (by kernel_rfl) (by kernel_rfl) (fun _ _ _ h => h) (Or.inl ⟨by rfl, ?_⟩) ?_
              rotate_left
              · intro w
                go_simp
                try with_reducible rfl
              try simp only [Act.put, List.getElem_toArray, List.getElem_cons_zero, List.getElem_cons_succ, List.setIfInBounds_toArray, List.set_cons_zero, List.set_cons_succ]
              refine wpAny_ready (rs := [14]) (by kernel_rfl) (by simp) ?_
              refine AllReady.cons (o := _) rfl (fun K hK => ?_) (AllReady.nil)
              · skip
                go_simp
                refine hK _ _ ?_
                clear hK K
                try simp only [Act.put, List.getElem_toArray, List.getElem_cons_zero, List.getElem_cons_succ, List.setIfInBounds_toArray, List.set_cons_zero, List.set_cons_succ]
                refine wpAny_done (by kernel_rfl) ?_ _
                have hR := told_round (u := .slice (some ⟨gg, 0, none⟩) (n + 1) cap) Q1.out Q2.out Q3.out Q4.out Q6.out Q7.out q5 HG2.out W0.heap.size
                refine ⟨hR.1, hR.2.1, ⟨.slice (some ⟨gg, 0, none⟩) (n + 1) cap, ?_, ?_, hR.2.2.1, hR.2.2.2.2.2.1⟩, hR.2.2.2.2.2.2, hR.2.2.2.1, hR.2.2.2.2.1⟩
                · exact HTO.out.1
                · rw [HPM.out, HE.out]
                  have := HTO.out.2
                  rw [List.length_append, HN.out]
                  exact this
      · skip
        go_simp
        refine hK _ _ ?_
        clear hK K
        try simp only [Act.put, List.getElem_toArray, List.getElem_cons_zero, List.getElem_cons_succ, List.setIfInBounds_toArray, List.set_cons_zero, List.set_cons_succ]
        refine wpAny_take (i := 5) (v := ?_) rfl (by kernel_rfl) (by kernel_rfl) (by kernel_rfl) (fun _ _ _ h => h) (Or.inl ⟨by rfl, ?_⟩) ?_
        rotate_left
        · intro w
          go_simp
          try with_reducible rfl
        try simp only [Act.put, List.getElem_toArray, List.getElem_cons_zero, List.getElem_cons_succ, List.setIfInBounds_toArray, List.set_cons_zero, List.set_cons_succ]
        refine wpAny_take (i := 10) (v := ?_) rfl (by kernel_rfl) (by kernel_rfl) (by kernel_rfl) (fun _ _ _ h => h) (Or.inl ⟨by rfl, ?_⟩) ?_
        rotate_left
        · intro w
          go_simp
          try with_reducible rfl
        try simp only [Act.put, List.getElem_toArray, List.getElem_cons_zero, List.getElem_cons_succ, List.setIfInBounds_toArray, List.set_cons_zero, List.set_cons_succ]
        refine wpAny_ready (rs := [1, 11]) (by kernel_rfl) (by simp) ?_
        refine AllReady.cons (o := _) rfl (fun K hK => ?_) (AllReady.cons (o := _) rfl (fun K hK => ?_) (AllReady.nil))
        · skip
          go_simp
          refine hK _ _ ?_
          clear hK K
          try simp only [Act.put, List.getElem_toArray, List.getElem_cons_zero, List.getElem_cons_succ, List.setIfInBounds_toArray, List.set_cons_zero, List.set_cons_succ]
          refine wpAny_ready (rs := [11]) (by kernel_rfl) (by simp) ?_
          refine AllReady.cons (o := _) rfl (fun K hK => ?_) (AllReady.nil)
          · skip
            go_simp
            refine hK _ _ ?_
            clear hK K
            try simp only [Act.put, List.getElem_toArray, List.getElem_cons_zero, List.getElem_cons_succ, List.setIfInBounds_toArray, List.set_cons_zero, List.set_cons_succ]
            refine wpAny_ready (rs := [12]) (by kernel_rfl) (by simp) ?_
            refine AllReady.cons (o := _) rfl (fun K hK => ?_) (AllReady.nil)
            · skip
              refine step_append_lies _ (by rfl) _ _ _ (by rfl) w.heap.size 60 i0 _ 2 16 underE hi0 hz0 hz1 hz2 rfl (by omega) v n (ecells L) (by rfl) (HO1.out.drew) ⟨W.heap.size, 0, none⟩ 1 1 (ecell ⟨(X0 : Int), q⟩) (by rfl) (by rfl) (World.news_of_block (cs := #[.int .i64 (X0 : Int), .bool q]) (t := 60) (fr := (0, 0)) (row_new W _)) (by simp [ecell, Value.oneCell']) (by omega) (by unfold maxLen; omega) (by omega) (by simp; omega) _ rfl ?_; intro gg cap w2 h1 h2 hat hlt2
              have hbx : (W.alloc (.cells #[.int .i64 (X0 : Int), .bool q] 60)).drew.heap[w.heap.size + 1]? = some (.cells (rbox 1 seq v) 33 (0, 0)) := row_alloc Q1.out _
              have hnb := own_ne HO1.out.drew hbx (by decide)
              have HTO := Lib.hid (told_append (l := L) (x := ⟨(X0 : Int), q⟩) hbx HO1.out.drew h1 h2)
              have j0 : w2.cell? ⟨w.heap.size + 1, 2, none⟩ = some v := (World.cell?_of_block (h2.block (w.heap.size + 1) (row_lt hbx) (Ne.symm hnb))).trans ((row_cell hbx 2).trans rfl)
              have j1 : w2.frozen? ⟨w.heap.size + 1, 2, none⟩ = false := (World.frozen?_of_block (h2.block (w.heap.size + 1) (row_lt hbx) (Ne.symm hnb))).trans (row_free hbx 2)
              have HG2 := Lib.hid h2
              clear h1 h2 hnb hbx hat
              refine hK _ _ ?_
              clear hK K
              try simp only [Act.put, List.getElem_toArray, List.getElem_cons_zero, List.getElem_cons_succ, List.setIfInBounds_toArray, List.set_cons_zero, List.set_cons_succ]
              refine wpAny_take (i := 13) (v := ?_) rfl (by kernel_rfl) (by kernel_rfl) (by kernel_rfl) (fun _ _ _ h => h) (Or.inl ⟨by rfl, ?_⟩) ?_
              rotate_left
              · intro w
                go_simp
                try with_reducible rfl
              try simp only [Act.put, List.getElem_toArray, List.getElem_cons_zero, List.getElem_cons_succ, List.setIfInBounds_toArray, List.set_cons_zero, List.set_cons_succ]
              refine wpAny_ready (rs := [14]) (by kernel_rfl) (by simp) ?_
              refine AllReady.cons (o := _) rfl (fun K hK => ?_) (AllReady.nil)
              · skip
                go_simp
                refine hK _ _ ?_
                clear hK K
                try simp only [Act.put, List.getElem_toArray, List.getElem_cons_zero, List.getElem_cons_succ, List.setIfInBounds_toArray, List.set_cons_zero, List.set_cons_succ]
                refine wpAny_done (by kernel_rfl) ?_ _
                have hR := told_round (u := .slice (some ⟨gg, 0, none⟩) (n + 1) cap) Q1.out Q2.out Q3.out Q4.out Q6.out Q7.out q5 HG2.out W0.heap.size
                refine ⟨hR.1, hR.2.1, ⟨.slice (some ⟨gg, 0, none⟩) (n + 1) cap, ?_, ?_, hR.2.2.1, hR.2.2.2.2.2.1⟩, hR.2.2.2.2.2.2, hR.2.2.2.1, hR.2.2.2.2.1⟩
                · exact HTO.out.1
                · rw [HPM.out, HE.out]
                  have := HTO.out.2
                  rw [List.length_append, HN.out]
                  exact this
        · skip
          go_simp
          refine hK _ _ ?_
          clear hK K
          try simp only [Act.put, List.getElem_toArray, List.getElem_cons_zero, List.getElem_cons_succ, List.setIfInBounds_toArray, List.set_cons_zero, List.set_cons_succ]
          refine wpAny_ready (rs := [1]) (by kernel_rfl) (by simp) ?_
          refine AllReady.cons (o := _) rfl (fun K hK => ?_) (AllReady.nil)
          · skip
            go_simp
            refine hK _ _ ?_
            clear hK K
            try simp only [Act.put, List.getElem_toArray, List.getElem_cons_zero, List.getElem_cons_succ, List.setIfInBounds_toArray, List.set_cons_zero, List.set_cons_succ]
            refine wpAny_ready (rs := [12]) (by kernel_rfl) (by simp) ?_
            refine AllReady.cons (o := _) rfl (fun K hK => ?_) (AllReady.nil)
            · skip
              refine step_append_lies _ (by rfl) _ _ _ (by rfl) w.heap.size 60 i0 _ 2 16 underE hi0 hz0 hz1 hz2 rfl (by omega) v n (ecells L) (by rfl) (HO1.out.drew) ⟨W.heap.size, 0, none⟩ 1 1 (ecell ⟨(X0 : Int), q⟩) (by rfl) (by rfl) (World.news_of_block (cs := #[.int .i64 (X0 : Int), .bool q]) (t := 60) (fr := (0, 0)) (row_new W _)) (by simp [ecell, Value.oneCell']) (by omega) (by unfold maxLen; omega) (by omega) (by simp; omega) _ rfl ?_; intro gg cap w2 h1 h2 hat hlt2
              have hbx : (W.alloc (.cells #[.int .i64 (X0 : Int), .bool q] 60)).drew.heap[w.heap.size + 1]? = some (.cells (rbox 1 seq v) 33 (0, 0)) := row_alloc Q1.out _
              have hnb := own_ne HO1.out.drew hbx (by decide)
              have HTO := Lib.hid (told_append (l := L) (x := ⟨(X0 : Int), q⟩) hbx HO1.out.drew h1 h2)
              have j0 : w2.cell? ⟨w.heap.size + 1, 2, none⟩ = some v := (World.cell?_of_block (h2.block (w.heap.size + 1) (row_lt hbx) (Ne.symm hnb))).trans ((row_cell hbx 2).trans rfl)
              have j1 : w2.frozen? ⟨w.heap.size + 1, 2, none⟩ = false := (World.frozen?_of_block (h2.block (w.heap.size + 1) (row_lt hbx) (Ne.symm hnb))).trans (row_free hbx 2)
              have HG2 := Lib.hid h2
              clear h1 h2 hnb hbx hat
              refine hK _ _ ?_
              clear hK K
              try simp only [Act.put, List.getElem_toArray, List.getElem_cons_zero, List.getElem_cons_succ, List.setIfInBounds_toArray, List.set_cons_zero, List.set_cons_succ]
              refine wpAny_take (i := 13) (v := ?_) rfl (by kernel_rfl) (by kernel_rfl) (by kernel_rfl) (fun _ _ _ h => h) (Or.inl ⟨by rfl, ?_⟩) ?_
              rotate_left
              · intro w
                go_simp
                try with_reducible rfl
              try simp only [Act.put, List.getElem_toArray, List.getElem_cons_zero, List.getElem_cons_succ, List.setIfInBounds_toArray, List.set_cons_zero, List.set_cons_succ]
              refine wpAny_ready (rs := [14]) (by kernel_rfl) (by simp) ?_
              refine AllReady.cons (o := _) rfl (fun K hK => ?_) (AllReady.nil)
              · skip
                go_simp
                refine hK _ _ ?_
                clear hK K
                try simp only [Act.put, List.getElem_toArray, List.getElem_cons_zero, List.getElem_cons_succ, List.setIfInBounds_toArray, List.set_cons_zero, List.set_cons_succ]
                refine wpAny_done (by kernel_rfl) ?_ _
                have hR := told_round (u := .slice (some ⟨gg, 0, none⟩) (n + 1) cap) Q1.out Q2.out Q3.out Q4.out Q6.out Q7.out q5 HG2.out W0.heap.size
                refine ⟨hR.1, hR.2.1, ⟨.slice (some ⟨gg, 0, none⟩) (n + 1) cap, ?_, ?_, hR.2.2.1, hR.2.2.2.2.2.1⟩, hR.2.2.2.2.2.2, hR.2.2.2.1, hR.2.2.2.2.1⟩
                · exact HTO.out.1
                · rw [HPM.out, HE.out]
                  have := HTO.out.2
                  rw [List.length_append, HN.out]
                  exact this
  case done =>
    rintro D ys W hD rfl ⟨⟨v, q1, q2, q3, q4⟩, q5, q6, q7⟩ hK
    have HDD := Lib.hid hD
    have HRR := Lib.hid q1
    have HR0 := Lib.hid q3
    have HB := Lib.hid q4
    obtain ⟨L, hL⟩ : ∃ L, L = (List.range N).map (pairE xs) := ⟨_, rfl⟩
    have hLL : ((List.range N).map fun i => pairE xs (min i (N - 1))) = L := by
      rw [hL]
      apply List.map_congr_left
      intro i hi
      rw [Nat.min_eq_left (by have := List.mem_range.1 hi; omega)]
    rw [hLL] at q2
    have HO := Lib.hid q2
    have HLL := Lib.hid hL
    obtain ⟨n, hn2⟩ : ∃ n, L.length = n := ⟨_, rfl⟩
    have HLN := Lib.hid hn2
    clear hL hn2 hLL
    obtain ⟨A', c', rfl, hE, hfar, hb⟩ := told_end n HLN.out (kind := 1) (seq := seq) HR0.out HO.out HB.out 0 0
    have HE := Lib.hid hE
    have HBB := Lib.hid hb
    have e0 : W.cell? ⟨w.heap.size + 1, 0, none⟩ = some (.int .i64 1) := (row_cell HRR.out 0).trans rfl
    have e1 : W.cell? ⟨w.heap.size + 1, 1, none⟩ = some (.int .i64 seq) := (row_cell HRR.out 1).trans rfl
    have e2 : W.cell? ⟨w.heap.size + 1, 2, none⟩ = some (.slice A' n c') := (row_cell HRR.out 2).trans rfl
    have e3 : W.cell? ⟨w.heap.size + 1, 3, none⟩ = some (.int .u32 0) := (row_cell HRR.out 3).trans rfl
    have e4 : W.cell? ⟨w.heap.size + 1, 4, none⟩ = some (.int .i64 0) := (row_cell HRR.out 4).trans rfl
    have z0 : W.cell? ⟨w.heap.size, 0, none⟩ = some (.int .i64 0) := (row_cell HR0.out 0).trans rfl
    have z1 : W.cell? ⟨w.heap.size, 1, none⟩ = some (.int .i64 0) := (row_cell HR0.out 1).trans rfl
    have z2 : W.cell? ⟨w.heap.size, 2, none⟩ = some (.slice none 0 0) := (row_cell HR0.out 2).trans rfl
    have z3 : W.cell? ⟨w.heap.size, 3, none⟩ = some (.int .u32 0) := (row_cell HR0.out 3).trans rfl
    have z4 : W.cell? ⟨w.heap.size, 4, none⟩ = some (.int .i64 0) := (row_cell HR0.out 4).trans rfl
    have zf : ∀ i, W.frozen? ⟨w.heap.size, i, none⟩ = false := fun i => row_free HR0.out i
    clear hE hb q1 q2 q3 q4 q5 q6 q7
    have HD5 : Hid ((set5 W w.heap.size (.int .i64 1) (.int .i64 seq) (.slice A' n c') (.int .u32 0) (.int .i64 0)).heap[D]? = some (.deferred (some []))) := Lib.hid (((set5_grown W w.heap.size (.int .i64 1) (.int .i64 seq) (.slice A' n c') (.int .u32 0) (.int .i64 0)).block D (row_lt hK) (fun e => by injection e with e; have := HDD.out; omega)).trans hK)
    have HROW : Hid ((set5 W w.heap.size (.int .i64 1) (.int .i64 seq) (.slice A' n c') (.int .u32 0) (.int .i64 0)).heap[w.heap.size]? = some (.cells #[.int .i64 1, .int .i64 seq, .slice A' n c', .int .u32 0, .int .i64 0] 33 (0, 0))) := Lib.hid (set5_row _ _ _ _ _ HR0.out)
    have hsD : w.heap.size ≤ D := by have := HDD.out; omega
    clear hK hD
    gi_wp2_with fail
    refine ⟨by simp, .inl ⟨_, _, rfl, run_takeDeferred HD5.out, ?_⟩⟩
    have y0 := cell_putObj (o' := .deferred none) HD5.out rfl ((row_cell HROW.out 0).trans rfl)
    have y1 := cell_putObj (o' := .deferred none) HD5.out rfl ((row_cell HROW.out 1).trans rfl)
    have y2 := cell_putObj (o' := .deferred none) HD5.out rfl ((row_cell HROW.out 2).trans rfl)
    have y3 := cell_putObj (o' := .deferred none) HD5.out rfl ((row_cell HROW.out 3).trans rfl)
    have y4 := cell_putObj (o' := .deferred none) HD5.out rfl ((row_cell HROW.out 4).trans rfl)
    have HEP := Lib.hid (Ents.putObj (o' := .deferred none) HE.out HD5.out rfl)
    have HBP := Lib.hid (HBB.out.trans (belowK_b (w := w) (Nat.le_refl _) (set5 W w.heap.size (.int .i64 1) (.int .i64 seq) (.slice A' n c') (.int .u32 0) (.int .i64 0)) D _ (.deferred none) hsD HD5.out rfl rfl))
    refine ⟨.agg #[.int .i64 1, .int .i64 seq, .slice A' n c', .int .u32 0, .int .i64 0], ?_, ?_⟩
    · simp [results, Tryd.results70, go_sem, y0, y1, y2, y3, y4]
    · rw [← HLL.out]
      exact ⟨A', c', by unfold recV; rw [HLN.out]; rfl, HEP.out.up (by simp [World.putObj]), hfar, HBP.out⟩
  case stop =>
    rintro D c pre W _ _ h _
    exact h.elim
end Go.Proofs.YtgegmoejhnjhjaaDoor.JTold1
