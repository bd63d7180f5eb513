/- The second block, unpacked by the program. -/
import Derived.Test.YtgjcbfdhpbkhoaaGreatDoorMg20
import Derived.Test.YtgjcbfdhpbkhoaaGreatDoorMg22
import Derived.Test.YtgjcbfdhpbkhoaaGreatDoorMg10
import Derived.Test.YtgjcbfdhpbkhoaaGreatDoorMg17
import Derived.Test.YtgjcbfdhpbkhoaaGreatDoorMg18
import Derived.Test.YtgjcbfdhpbkhoaaGreatDoorMg19
namespace Go.Proofs.YtgjcbfdhpbkhoaaGreatDoor.QUnp
open Go.RowKit Go.Shelf WMem WPlain WFace2 WWide WCrc WSeal GPlain GWithin GGeo SNums SPlain SPack SRead STell SSays SEqual QPlain QMem QWidths QRepeat QPack QChunk
attribute [local go_sem] Oper.semAt_some
def grpOk (b : List UInt8) (n : Nat) : Bool := decide (b.length = 256) && grpGood b n
def unX (b : List UInt8) (n : Nat) : List Grp := if grpOk b n = true then grpSays b n else []
def unE (b : List UInt8) (n : Nat) : Int := if grpOk b n = true then 0 else 117
def gcell (b : List UInt8) (i : Nat) : List Value := [.int .i64 (f4 b (12 * i)), .int .i64 (f4 b (12 * i + 4)), .int .i64 (f4 b (12 * i + 8))]
def gcells (b : List UInt8) (n : Nat) (pre : List Nat) : List Value := pre.flatMap fun i => gcell b (min i (n - 1))
theorem gcells_snoc (b : List UInt8) (n : Nat) (pre : List Nat) (x : Nat) : gcells b n (pre ++ [x]) = gcells b n pre ++ gcell b (min x (n - 1)) := by simp [gcells]
theorem gcells_get (b : List UInt8) (n : Nat) : ∀ (pre : List Nat) (i : Nat) (h : i < pre.length), (gcells b n pre)[i * 3]? = some (.int .i64 (f4 b (12 * min pre[i] (n - 1)))) ∧ (gcells b n pre)[i * 3 + 1]? = some (.int .i64 (f4 b (12 * min pre[i] (n - 1) + 4))) ∧ (gcells b n pre)[i * 3 + 2]? = some (.int .i64 (f4 b (12 * min pre[i] (n - 1) + 8)))
  | x :: pre, 0, _ => by simp [gcells, gcell]
  | x :: pre, i + 1, h => by
    have e : ∀ j, (gcells b n (x :: pre))[(i + 1) * 3 + j]? = (gcells b n pre)[i * 3 + j]? := fun j => by
      have : gcells b n (x :: pre) = gcell b (min x (n - 1)) ++ gcells b n pre := rfl
      rw [this, List.getElem?_append_right (by simp [gcell]; omega)]
      congr 1
      simp [gcell]
      omega
    have ih := gcells_get b n pre i (by simpa using h)
    have e0 := e 0
    simp only [Nat.add_zero] at e0
    rw [e0, e 1, e 2]
    exact ih
theorem grps_of_own {w : World} {base n : Nat} {v : Value} {b : List UInt8} (h : w.ownsRow base 120 3 v n (gcells b n (List.range n))) :
    ∃ A c, v = .slice A (grpSays b n).length c ∧ Grps w w.heap.size A (grpSays b n) ∧ (∀ a, A = some a → base ≤ a.block) := by
  rw [grpSays_len]
  by_cases hn : n = 0
  · subst hn
    rcases h.2 with ⟨rfl, _⟩ | ⟨g, cap, cur, rfl, hb, _⟩
    · exact ⟨none, 0, rfl, fun i hi => (by simp [grpSays] at hi), fun a ha => by cases ha⟩
    · exact ⟨_, cap, rfl, fun i hi => (by simp [grpSays] at hi), fun a ha => by cases ha; exact hb⟩
  · obtain ⟨g, cap, rfl, hb, hg⟩ := h.form (by omega)
    refine ⟨_, cap, rfl, fun i hi => ?_, fun a ha => by cases ha; exact hb⟩
    have hi' : i < n := by simpa [grpSays] using hi
    obtain ⟨e0, e1, e2⟩ := gcells_get b n (List.range n) i (by simpa using hi')
    have hc := h.cells (g := g) rfl
    have es : (grpSays b n)[i] = saysOne b i := by simp [grpSays]
    rw [es]
    simp only [List.getElem_range] at e0 e1 e2
    rw [Nat.min_eq_left (by omega)] at e0 e1 e2
    exact ⟨⟨g, 0, none⟩, rfl, h.lt g rfl |>.2, hc _ _ e0, hc _ _ e1, hc _ _ e2⟩
theorem own_ne {w : World} {base g : Nat} {e t : TypeId} {size n : Nat} {v : Value} {zs : List Value} {cs : Array Value} {fz : Nat × Nat} (h : w.ownsRow base e size v n zs) (hg : w.heap[g]? = some (.cells cs t fz)) (hne : e ≠ t) : v.ownBlock ≠ some g := by
  rcases h.2 with ⟨rfl, _⟩ | ⟨k, cap, cur, rfl, _, hk, _⟩
  · simp [Value.ownBlock]
  · intro e0
    simp [Value.ownBlock] at e0
    subst e0
    rw [hk] at hg
    injection hg with hg
    injection hg with _ h2
    exact hne h2
theorem keep_row {W w1 : World} {B k s : Nat} {e t : TypeId} {sz m : Nat} {v : Value} {xs : List Value} {cs : Array Value} {tmp : Obj} (h : W.heap[k]? = some (.cells cs t (0, 0))) (hO : W.ownsRow B e sz v m xs) (hne : e ≠ t) (hg : (W.alloc tmp).grownBy w1 v.ownBlock) (hk : k ≠ s) (u : Value) :
    (w1.setCell ⟨s, 0, none⟩ u).heap[k]? = some (.cells cs t (0, 0)) :=
  (Below.heap_setCell w1 ⟨s, 0, none⟩ u k hk).trans ((hg.block k (by have := row_lt h; simp; omega) (Ne.symm (own_ne hO h hne))).trans (row_alloc h _))
theorem sl_third {w : World} {g : Nat} {T : TypeId} {xs : List UInt64} (h : RowV w g T (xs.map u64v)) {i : Nat} (hi : 3 * i + 2 < xs.length) : Sl w (g + 1) (some ⟨g, 3 * i, none⟩) (([xs[3 * i], xs[3 * i + 1], xs[3 * i + 2]] : List UInt64).map u64v) := by
  have hc : ∀ j (hj : 3 * i + j < xs.length), w.cell? ((⟨g, 3 * i, none⟩ : Addr).add j) = some (u64v xs[3 * i + j]) := fun j hj => by
    have e : (⟨g, 3 * i, none⟩ : Addr).add j = ⟨g, 3 * i + j, none⟩ := by unfold Addr.add; split <;> simp_all
    have := h.cell (i := 3 * i + j) (by simpa using hj)
    rw [e, this]
    simp
  intro k u hu
  match k with
  | 0 => simp at hu; subst hu; exact ⟨_, rfl, by simp, hc 0 (by omega)⟩
  | 1 => simp at hu; subst hu; exact ⟨_, rfl, by simp, hc 1 (by omega)⟩
  | 2 => simp at hu; subst hu; exact ⟨_, rfl, by simp, hc 2 (by omega)⟩
  | k + 3 => simp at hu
def pts (z : Nat) : List Addr := [⟨z, 0, none⟩, ⟨z, 1, none⟩, ⟨z, 2, none⟩]
theorem told3 (W : World) (X0 X1 X2 : UInt64) :
    let W2 := (W.alloc (.cells #[.int .i64 0, .int .i64 0, .int .i64 0] 120)).alloc (.cells ((pts W.heap.size).map ptrv).toArray 205)
    let W3 := tells (pts W.heap.size) [X0, X1, X2] W2
    W3.heap.size = W.heap.size + 2 ∧ Below W.heap.size W W3 ∧ KeepsOthers W W3 ∧ W3.heap[W.heap.size]? = some (.cells #[.int .i64 X0.toNat, .int .i64 X1.toNat, .int .i64 X2.toNat] 120 (0, 0)) := by
  intro W2 W3
  have h2 : W2.heap[W.heap.size]? = some (.cells #[.int .i64 0, .int .i64 0, .int .i64 0] 120 (0, 0)) := row_alloc (row_new _ _) _
  have e3 : W3 = ((W2.setCell ⟨W.heap.size, 0, none⟩ (.int .i64 X0.toNat)).setCell ⟨W.heap.size, 1, none⟩ (.int .i64 X1.toNat)).setCell ⟨W.heap.size, 2, none⟩ (.int .i64 X2.toNat) := rfl
  rw [e3]
  refine ⟨by simp [World.setCell, W2], ?_, ?_, ?_⟩
  · exact (((((Below.refl _ W).alloc (Nat.le_refl _) _).alloc (by simp) _).setCell (Nat.le_refl _) _).setCell (Nat.le_refl _) _).setCell (Nat.le_refl _) _
  · exact ((((KeepsOthers.alloc _ _).trans (KeepsOthers.alloc _ _)).trans (KeepsOthers.setCell _ _ _)).trans (KeepsOthers.setCell _ _ _)).trans (KeepsOthers.setCell _ _ _)
  · have h3 := row_set (row_set (row_set h2 0 (.int .i64 X0.toNat)) 1 (.int .i64 X1.toNat)) 2 (.int .i64 X2.toNat)
    simpa using h3
def lay4 (w : World) (g n : Nat) : World :=
  (((w.alloc (.cells #[.slice none 0 0] 114)).alloc (.cells #[.int .i64 4, .int .i64 4, .int .i64 4] 3)).alloc (.cells #[.slice (some ⟨g, 0, none⟩) (3 * n) (3 * n)] 48)).alloc (.cells #[.int .i64 3] 3)
theorem lay4_is (w : World) (g n : Nat) : (lay4 w g n).heap.size = w.heap.size + 4 ∧ Below w.heap.size w (lay4 w g n) ∧ (lay4 w g n).heap[w.heap.size]? = some (.cells #[.slice none 0 0] 114 (0, 0)) ∧
    (lay4 w g n).heap[w.heap.size + 2]? = some (.cells #[.slice (some ⟨g, 0, none⟩) (3 * n) (3 * n)] 48 (0, 0)) ∧ (lay4 w g n).heap[w.heap.size + 3]? = some (.cells #[.int .i64 3] 3 (0, 0)) := by
  unfold lay4
  have h0 := row_new w (.cells #[.slice none 0 0] 114)
  have h1 := row_new ((w.alloc (.cells #[.slice none 0 0] 114)).alloc (.cells #[.int .i64 4, .int .i64 4, .int .i64 4] 3)) (.cells #[.slice (some ⟨g, 0, none⟩) (3 * n) (3 * n)] 48)
  have h2 := row_new (((w.alloc (.cells #[.slice none 0 0] 114)).alloc (.cells #[.int .i64 4, .int .i64 4, .int .i64 4] 3)).alloc (.cells #[.slice (some ⟨g, 0, none⟩) (3 * n) (3 * n)] 48)) (.cells #[.int .i64 3] 3)
  simp only [World.size_alloc, Nat.add_assoc, Nat.reduceAdd] at h1 h2
  exact ⟨by simp, ((((Below.refl _ _).alloc (Nat.le_refl _) _).alloc (by simp) _).alloc (by simp; omega) _).alloc (by simp; omega) _, row_alloc (row_alloc (row_alloc h0 _) _) _, row_alloc h1 _, h2⟩
def CU (w : World) (b : List UInt8) (g n : Nat) (pre : List Nat) (W : World) : Prop :=
  (w.heap.size + 4 ≤ W.heap.size ∧ W.heap[w.heap.size + 2]? = some (.cells #[.slice (some ⟨g, 0, none⟩) (3 * n) (3 * n)] 48 (0, 0)) ∧ W.heap[w.heap.size + 3]? = some (.cells #[.int .i64 3] 3 (0, 0)) ∧
    ∃ v, W.heap[w.heap.size]? = some (.cells #[v] 114 (0, 0)) ∧ W.ownsRow w.heap.size 120 3 v pre.length (gcells b n pre)) ∧ Below w.heap.size w W
theorem infoG : (Tryz.prog.info? 120).map (fun i => (i.zero, i.size, i.bytes)) = some (some (.agg #[.int .i64 0, .int .i64 0, .int .i64 0]), 3, 24) := by kernel_rfl
theorem underG : Tryz.prog.underlying 114 = some (.slice 120) := by kernel_rfl
theorem cells_own {A B : World} {row : Option Nat} {k : Nat} {cs : Array Value} {t : TypeId} (h : A.heap[k]? = some (.cells cs t (0, 0))) (hg : A.grownBy B row) (hr : ∀ r, row = some r → ∃ o : Obj, A.heap[r]? = some o ∧ o.isCells = false) : B.heap[k]? = some (.cells cs t (0, 0)) :=
  (hg.block k (row_lt h) (fun e => by obtain ⟨o, ho, hc⟩ := hr k e.symm; rw [h] at ho; cases ho; cases hc)).trans h
theorem tell3 (W : World) (X0 X1 X2 : UInt64) (h0 : X0.toNat < 9223372036854775808) (h1 : X1.toNat < 9223372036854775808) (h2 : X2.toNat < 9223372036854775808) (g x c c' : Nat) (hS : Sl W (g + 1) (some ⟨g, 3 * x, none⟩) (([X0, X1, X2] : List UInt64).map u64v)) (hg : g < W.heap.size) :
    Calls Tryz.prog 150 #[.slice (some ⟨g, 3 * x, none⟩) 3 c, .slice (some ⟨W.heap.size + 1, 0, none⟩) 3 c'] ((W.alloc (.cells #[.int .i64 0, .int .i64 0, .int .i64 0] 120)).alloc (.cells ((pts W.heap.size).map ptrv).toArray 205))
      fun e w' => e = .returned (.tuple #[]) ∧ w' = tells (pts W.heap.size) [X0, X1, X2] ((W.alloc (.cells #[.int .i64 0, .int .i64 0, .int .i64 0] 120)).alloc (.cells ((pts W.heap.size).map ptrv).toArray 205)) := by
  have hr : RowV ((W.alloc (.cells #[.int .i64 0, .int .i64 0, .int .i64 0] 120)).alloc (.cells ((pts W.heap.size).map ptrv).toArray 205)) W.heap.size 120 [.int .i64 0, .int .i64 0, .int .i64 0] := row_alloc (row_new _ _) _
  refine tell_any [X0, X1, X2] (pts W.heap.size) rfl ?_ (g + 1) (W.heap.size + 1 + 1) _ _ c c' _ (show 3 ≤ 1000000 by decide) (alloc_sl (alloc_sl hS (by omega) _) (by simp; omega) _) (sl_new (by simp) _ _) ?_ ?_ ?_
  · intro x hx
    simp only [List.mem_cons, List.not_mem_nil, or_false] at hx
    rcases hx with e | e | e <;> subst e <;> assumption
  · intro p hp
    simp only [pts, List.mem_cons, List.not_mem_nil, or_false] at hp
    rcases hp with e | e | e <;> subst e
    · exact ⟨⟨_, hr.cell (i := 0) (by decide)⟩, hr.free _⟩
    · exact ⟨⟨_, hr.cell (i := 1) (by decide)⟩, hr.free _⟩
    · exact ⟨⟨_, hr.cell (i := 2) (by decide)⟩, hr.free _⟩
  · intro p hp a ha
    injection ha with ha
    subst ha
    simp only [pts, List.mem_cons, List.not_mem_nil, or_false] at hp
    rcases hp with e | e | e <;> subst e <;> simp only <;> omega
  · intro p hp a ha
    injection ha with ha
    subst ha
    simp only [pts, List.mem_cons, List.not_mem_nil, or_false] at hp
    rcases hp with e | e | e <;> subst e <;> simp only <;> omega
def UA (A : Option Addr) (c n s0 g1 g s2 : Nat) (x : Nat) (a' : Act) (_ : World) : Prop :=
  a' = { tmps := #[.slice A 256 c, .int .i64 n, undef, undef, .slice none 0 0, .int .i64 0, .slice (some ⟨g, 0, none⟩) (3 * n) (3 * n), .bool true, .pointer (some ⟨s2, 0, none⟩), .slice (some ⟨g, 3 * min x (n - 1), none⟩) 3 3, undef, undef, undef,
    .int .i64 n, .slice (some ⟨s0, 0, none⟩) 1 1, .bool true, .bool false, .tuple #[.slice (some ⟨g, 0, none⟩) (3 * n) (3 * n), .bool true], .slice A 256 c, .int .i64 n, .slice (some ⟨g1, 0, none⟩) (3 * n) (3 * n), .tuple #[.slice (some ⟨g, 0, none⟩) (3 * n) (3 * n), .bool true],
    .slice (some ⟨g, 0, none⟩) (3 * n) (3 * n), .bool true, .bool true, .bool false, .slice (some ⟨g, 0, none⟩) (3 * n) (3 * n), .slice (some ⟨s2 + 1, 0, none⟩) 3 3, .int .i64 3,
    .func (.func 158) #[] #[.pointer (some ⟨s2 + 2, 0, none⟩), .pointer (some ⟨s2 + 3, 0, none⟩)], .slice (some ⟨g, 3 * min x (n - 1), none⟩) 3 3,
    undef, undef, undef, undef, undef, undef, undef, undef, undef, undef, undef, undef, undef, undef, undef, undef, undef, undef, undef, undef, undef, undef, undef, undef], defers := [] }
theorem read_at (l : List UInt8) (hl : l.length = 256) (len : Nat) (ws : List Int) (hw : ws.length = len) (hf : fineI ws) (ht : tot (nats ws) ≤ 256) (hws : len ≤ 1000) (B : Nat) (A A' : Option Addr) (c c' : Nat) (hc : 256 ≤ c) (w : World) (hB : B ≤ w.heap.size)
    (hA : Sl w B A (l.map u8v)) (hA' : Sl w B A' (ws.map i64v)) :
    Calls Tryz.prog 149 #[.slice A 256 c, .slice A' len c'] w fun e w' =>
      ∃ g, e = .returned (.tuple #[.slice (some ⟨g, 0, none⟩) len len, .bool true]) ∧ w.heap.size ≤ g ∧ RowV w' g 47 ((unp (nats ws) (l.take (tot (nats ws)))).map u64v) ∧ Below w.heap.size w w' := by
  subst hw
  exact read_yes l hl ws hf ht B A A' c c' hc w hB hws hA hA'
set_option maxRecDepth 100000 in
set_option maxHeartbeats 4000000 in
theorem UnpackGroups_in (n : Nat) (h1 : 1 ≤ n) (h2 : n ≤ 14) (b : List UInt8) (hl : b.length = 256) (B : Nat) (A : Option Addr) (c : Nat) (hc : 256 ≤ c) (w : World) (hB : B ≤ w.heap.size) (hA : Sl w B A (b.map u8v)) (hT : Tab w) :
    CallsIn Fence.wide 5 Tryz.prog 130 #[.slice A 256 c, .int .i64 (n : Int)] w fun e w' => ∃ A' c', e = .returned (.tuple #[.slice A' (unX b n).length c', .int .i64 (unE b n)]) ∧ Grps w' w'.heap.size A' (unX b n) ∧ (∀ a, A' = some a → w.heap.size ≤ a.block) ∧ Below w.heap.size w w' ∧ (unE b n = 0 → w'.ownsRow w.heap.size 120 3 (.slice A' (unX b n).length c') n (gcells b n (List.range n))) := by
  have H : Hid (inB 1 14 (n : Int) = true) := Lib.hid (by rw [inB_true]; omega)
  have HA := Lib.hid hA
  have HT := Lib.hid hT
  have htl := Tab.lt hT
  obtain ⟨i0, hi0, hz0, hz1, hz2⟩ := info_parts infoG
  clear hA hT
  refine callsIn_of_wp_marks Tryz.func130 rfl trivial ?_ rfl
  simp only [Tryz.ntmps130, List.size_toArray, List.length_cons, List.length_nil, Nat.reduceAdd, Nat.reduceSub, Array.replicate_succ, Array.replicate_zero, List.push_toArray, List.append_toArray, List.nil_append, List.cons_append]
  gi_wp2_with fail
  refine ⟨trivial, (callsIn_wide.2 (within_one 1 14 n ⟨w.heap.size, 0, none⟩ 1 _ (by simp))).mono ?_⟩
  rintro e w1 ⟨rfl, rfl⟩
  rw [H.out]
  gi_wp2_with fail
  refine ⟨trivial, (callsIn_wide.2 (groupsWidths_any n h1 h2 _)).mono ?_⟩
  rintro e w1 ⟨g1, rfl, hg1, hR1, hb1⟩
  have HB1 := Lib.hid (below_up (below_box (w := w) _) hb1 (by simp))
  have HA1 := Lib.hid (HA.out.below_le HB1.out hB)
  have HW1 := Lib.hid (hR1.sl hR1.lt)
  have hs1 := HB1.out.size
  clear hg1 hR1 hb1
  gi_wp2_with fail
  refine ⟨trivial, (callsIn_wide.2 (read_at b hl (3 * n) (grpW n) (by simp [grpW]) (grp_fine n) (by rw [grp_tot]; omega) (by omega) w1.heap.size A _ c (3 * n) hc w1 (Nat.le_refl _) (HA1.out.up (by omega)) HW1.out)).mono ?_⟩
  rintro e w2 ⟨g, rfl, hg2, hR2, hb2⟩
  have HB2 := Lib.hid (below_up HB1.out hb2 hs1)
  have hR2' : RowV w2 g 47 ((grpX b n).map u64v) := by
    rw [grp_tot] at hR2
    exact hR2
  have HR2 := Lib.hid hR2'
  have hgl := hR2.lt
  have hs2 := HB2.out.size
  obtain ⟨hsz, hbl, q0, q1, q2⟩ := lay4_is w2 g n
  have HST := Lib.hid (chunk_stops 4 (by omega) (w2.heap.size + 2) (w2.heap.size + 3) g n (by omega) (lay4 w2 g n) q1 q2)
  have H0 : Hid (CU w2 b g n [] (lay4 w2 g n)) := ⟨⟨by omega, q1, q2, _, q0, World.ownsRow_nil _ _ _ _⟩, hbl⟩
  have HSZ := Lib.hid hsz
  clear hR2 hR2' hb2 hg2 hsz hbl q0 q1 q2
  gi_wp2_with fail
  refine ⟨trivial, (callsIn_wide.2 (groupWidths_is _)).mono ?_⟩
  rintro e w' ⟨rfl, rfl⟩
  gi_wp2_with fail
  refine ⟨trivial, (chunk_in _ _ _ _ _).mono ?_⟩
  rintro e w' ⟨rfl, rfl⟩
  gi_wp2_with fail
  simp only [Nat.add_assoc, Nat.reduceAdd]
  rw [show (((w2.alloc (.cells #[.slice none 0 0] 114)).alloc (.cells #[.int .i64 4, .int .i64 4, .int .i64 4] 3)).alloc (.cells #[.slice (some ⟨g, 0, none⟩) (3 * n) (3 * n)] 48)).alloc (.cells #[.int .i64 3] 3) = lay4 w2 g n from rfl]
  generalize hW0 : lay4 w2 g n = W0 at *
  have hsz := HSZ.out
  clear hW0
  refine wpIn_rangeFunc_ownH rfl (by omega) (gf := 158) (lb := #[.pointer (some ⟨w2.heap.size + 2, 0, none⟩), .pointer (some ⟨w2.heap.size + 3, 0, none⟩)]) rfl trivial (enters_of Tryz.func158 (by kernel_rfl) rfl)
    HST.out CKeep.trans (fun W l o o' _ h hc _ => CKeep.turn W l o o' h hc) (Below.refl _ _) (fun _ => rfl) (CU w2 b g n) (fun _ _ _ => False) ?hI ?hIx H0.out (UA A c n w.heap.size g1 g w2.heap.size) ?hAx ?assign ?body ?done ?stop
  case hI =>
    refine OwnFrom.and (Own.from (fun s X Y row hs hg hr => ?_) _) (ownFrom_below (by omega) (by omega))
    obtain ⟨k1, k2, k3, v, k4, k5⟩ := hs
    refine ⟨Nat.le_trans k1 hg.size, cells_own k2 hg hr, cells_own k3 hg hr, v, cells_own k4 hg hr, k5.kept hg ?_⟩
    rcases k5.2 with ⟨rfl, _⟩ | ⟨gg, cap, cur, rfl, _, hgb, _⟩
    · exact .inl rfl
    · refine .inr fun e' => ?_
      obtain ⟨o, ho, hc⟩ := hr gg (by simpa [Value.ownBlock] using e'.symm)
      rw [hgb] at ho; cases ho; cases hc
  case hIx => intro c; exact fun _ _ _ _ hs _ _ => hs
  case hAx => intro x a'; exact fun _ _ _ _ hs _ _ => hs
  case assign =>
    intro lo pre x W K hi hK
    simp only [chunk]
    gi_wp2
    exact hK _ _ (KeepsFrom.refl _ _) (CKeep.refl _ _) hi rfl
  case body =>
    rintro lo pre x a' W hlo - ⟨⟨hsW, b1, b2, v, b0, ho⟩, hB⟩ rfl hlt
    obtain ⟨x', hx'⟩ : ∃ x', min x (n - 1) = x' := ⟨_, rfl⟩
    rw [hx']
    have hxn : x' < n := by omega
    have hR := HR2.out.keep hB hgl
    have hcell := gcells_snoc b n pre x
    rw [hx'] at hcell
    have l0 : 3 * x' < 3 * n := by omega
    have l1 : 3 * x' + 1 < 3 * n := by omega
    have l2 : 3 * x' + 2 < 3 * n := by omega
    have hth := sl_third hR (i := x') (by rw [grpX_len]; omega)
    obtain ⟨f0, t0⟩ := grpX_at b n (3 * x') l0
    obtain ⟨f1, t1⟩ := grpX_at b n (3 * x' + 1) l1
    obtain ⟨f2, t2⟩ := grpX_at b n (3 * x' + 2) l2
    rw [show 4 * (3 * x') = 12 * x' by omega] at f0
    rw [show 4 * (3 * x' + 1) = 12 * x' + 4 by omega] at f1
    rw [show 4 * (3 * x' + 2) = 12 * x' + 8 by omega] at f2
    generalize (grpX b n)[3 * x']'_ = X0 at *
    generalize (grpX b n)[3 * x' + 1]'_ = X1 at *
    generalize (grpX b n)[3 * x' + 2]'_ = X2 at *
    have HTL := Lib.hid (tell3 W X0 X1 X2 (by omega) (by omega) (by omega) g x' 3 3 hth (by have := hB.size; omega))
    have HT3 := Lib.hid (told3 W X0 X1 X2)
    have HO := Lib.hid ho
    have HB0 := Lib.hid b0
    have HB1' := Lib.hid b1
    have HB2' := Lib.hid b2
    have HBB := Lib.hid hB
    have hbs := hB.size
    clear hth ho b0 b1 b2 hB hR
    gi_wp2_with fail
    refine ⟨trivial, ((callsIn_wide.2 HTL.out).inRound lo).mono ?_⟩
    rintro e W3 ⟨rfl, hW3⟩
    obtain ⟨z1, z2, z3, z4⟩ := HT3.out
    rw [← hW3] at z1 z2 z3 z4
    rw [f0, f1, f2] at z4
    clear hW3
    have x0 : W3.cell? ⟨W.heap.size, 0, none⟩ = some (.int .i64 (f4 b (12 * x'))) := (row_cell z4 0).trans rfl
    have x1 : W3.cell? ⟨W.heap.size, 1, none⟩ = some (.int .i64 (f4 b (12 * x' + 4))) := (row_cell z4 1).trans rfl
    have x2 : W3.cell? ⟨W.heap.size, 2, none⟩ = some (.int .i64 (f4 b (12 * x' + 8))) := (row_cell z4 2).trans rfl
    have HB3 := Lib.hid (row_below HB0.out z2 (by omega))
    have y0 : W3.cell? ⟨w2.heap.size, 0, none⟩ = some v := (row_cell HB3.out 0).trans rfl
    have yf : W3.frozen? ⟨w2.heap.size, 0, none⟩ = false := row_free HB3.out 0
    have HO3 := Lib.hid (owns_below HO.out z2)
    have HZ2 := Lib.hid z2
    have HZ3 := Lib.hid z3
    have hbs3 : w2.heap.size ≤ W3.heap.size := by omega
    have HZ1 := Lib.hid z1
    clear z1 z2 z3 z4
    gi_wp2_with (gi_at_builtin; go_must (refine wpListIn_append_own _ rfl _ _ 114 rfl w2.heap.size 120 i0 _ 3 24 underG hi0 hz0 hz1 hz2 rfl (by decide) _ _ _ rfl (HO3.out.alloc _) ⟨W3.heap.size, 0, none⟩ 1 1 (gcell b x') rfl rfl (World.news_of_block (cs := #[.int .i64 (f4 b (12 * x')), .int .i64 (f4 b (12 * x' + 4)), .int .i64 (f4 b (12 * x' + 8))]) (t := 120) (fr := (0, 0)) (row_new _ _)) (by simp [gcell, Value.oneCell']) (by unfold maxLen; omega) (by omega) (by simp; omega) ?_; intro v' w4 hown' hgrow _; obtain ⟨g', cap', rfl⟩ := ownsRow_succ hown'; have hnb := own_ne HO3.out HB3.out (by decide); have HB4 := Lib.hid ((hgrow.block w2.heap.size (by simp; omega) (Ne.symm hnb)).trans (row_alloc HB3.out _)); have y1 : w4.cell? ⟨w2.heap.size, 0, none⟩ = some v := (row_cell HB4.out 0).trans rfl; have f1 : w4.frozen? ⟨w2.heap.size, 0, none⟩ = false := row_free HB4.out 0; have HO4 := Lib.hid hown'; have HG4 := Lib.hid hgrow; clear hown' hgrow hnb))
    have HW4 := Lib.hid (keep_row (s := w2.heap.size) (row_below HB1'.out HZ2.out (by omega)) HO3.out (by decide) HG4.out (by omega) (.slice (some ⟨g', 0, none⟩) (pre.length + 1) cap'))
    have HW5 := Lib.hid (keep_row (s := w2.heap.size) (row_below HB2'.out HZ2.out (by omega)) HO3.out (by decide) HG4.out (by omega) (.slice (some ⟨g', 0, none⟩) (pre.length + 1) cap'))
    obtain ⟨_, q2, q3, q4, q5⟩ := Boxed.appended (v := v) HB3.out (by decide) HO3.out hbs3 (Nat.le_refl _) HO4.out HG4.out
    refine ⟨(HZ3.out.trans q4).from _, ?_, ⟨?_, HW4.out, HW5.out, _, q2, by rw [List.length_append, hcell]; exact q3⟩, HBB.out.trans ((HZ2.out.mono hbs).trans q5)⟩
    · rintro k o (rfl | rfl) ho -
      · rw [HB1'.out] at ho
        cases ho
        exact HW4.out
      · rw [HB2'.out] at ho
        cases ho
        exact HW5.out
    · have := q5.size
      have := HZ1.out
      omega
  case done =>
    rintro D ys W hD rfl ⟨⟨hsW, b1, b2, v, b0, ho⟩, hB5⟩ hK
    rw [List.length_range] at ho
    have ho2 := ho
    obtain ⟨A', c', rfl, hG, hA'⟩ := grps_of_own ho2
    have y0 : W.cell? ⟨w2.heap.size, 0, none⟩ = some (.slice A' (grpSays b n).length c') := (row_cell b0 0).trans rfl
    have HBW := Lib.hid (below_up HB2.out hB5 hs2)
    have HTW := Lib.hid (Tab.below HT.out HBW.out htl)
    have HAW := Lib.hid (HA.out.below_le HBW.out hB)
    have HG := Lib.hid hG
    have HB0 := Lib.hid b0
    have HO := Lib.hid ho
    have HK := Lib.hid hK
    have hDl := row_lt hK
    clear b0 b1 b2 ho ho2 hB5 hG hA' hK
    gi_wp2_with fail
    cases hm : grpMay (grpSays b n) with
    | false =>
      refine ⟨trivial, (callsIn_wide.2 (PackGroups_any (grpSays b n) W.heap.size A' c' W (Nat.le_refl _) HG.out HTW.out)).mono ?_⟩
      rintro e W5 ⟨_, hno, hb5⟩
      obtain rfl := hno hm
      have HB5 := Lib.hid (below_up HBW.out hb5 (by omega))
      have HK5 := Lib.hid (row_below HK.out hb5 hDl)
      clear hno hb5
      gi_wp2_with fail
      refine ⟨trivial, ?_⟩
      gi_wp2_with fail
      refine ⟨by simp, .inl ⟨_, _, rfl, run_takeDeferred HK5.out, ?_⟩⟩
      have hX : unX b n = [] := by simp [unX, grpOk, grpGood, hm]
      have hE : unE b n = 117 := by simp [unE, grpOk, grpGood, hm]
      refine ⟨.tuple #[.slice none 0 0, .int .i64 117], by simp [results, Tryz.f130, go_sem], none, 0, by rw [hX, hE]; rfl, by rw [hX]; exact fun i hi => (by cases hi), fun a ha => (by cases ha), HB5.out.trans (belowK_b (w := w) (Nat.le_refl _) W5 D _ _ (by omega) HK5.out rfl rfl), fun e => by rw [hE] at e; cases e⟩
    | true =>
      refine ⟨trivial, (callsIn_wide.2 (PackGroups_any (grpSays b n) W.heap.size A' c' W (Nat.le_refl _) HG.out HTW.out)).mono ?_⟩
      rintro e W5 ⟨hyes, _, hb5⟩
      obtain ⟨g5, rfl, hg5, hR5⟩ := hyes hm
      have HB5 := Lib.hid (below_up HBW.out hb5 (by omega))
      have HK5 := Lib.hid (row_below HK.out hb5 hDl)
      have HA5 := Lib.hid (HA.out.below_le HB5.out hB)
      have HR5 := Lib.hid (hR5.sl hR5.lt)
      have HO5 := Lib.hid (owns_below HO.out hb5)
      have y5 : W5.cell? ⟨w2.heap.size, 0, none⟩ = some (.slice A' (grpSays b n).length c') := (row_cell (row_below HB0.out hb5 (row_lt HB0.out)) 0).trans rfl
      clear hyes hb5 hR5
      gi_wp2_with fail
      cases hq : (grpBytes (grpSays b n) == b) with
      | false =>
        refine ⟨trivial, (callsIn_wide.2 (Equal_at 256 256 (grpBytes (grpSays b n)) b (grpBytes_len _ (by rw [grpSays_len]; exact h2)) hl W5.heap.size B _ A 256 c W5 HR5.out HA5.out false hq)).mono ?_⟩
        rintro e w' ⟨rfl, rfl⟩
        gi_wp2_with fail
        refine ⟨by simp, .inl ⟨_, _, rfl, run_takeDeferred HK5.out, ?_⟩⟩
        have hX : unX b n = [] := by simp [unX, grpOk, grpGood, hm, hq]
        have hE : unE b n = 117 := by simp [unE, grpOk, grpGood, hm, hq]
        refine ⟨.tuple #[.slice none 0 0, .int .i64 117], by simp [results, Tryz.f130, go_sem], none, 0, by rw [hX, hE]; rfl, by rw [hX]; exact fun i hi => (by cases hi), fun a ha => (by cases ha), HB5.out.trans (belowK_b (w := w) (Nat.le_refl _) W5 D _ _ (by omega) HK5.out rfl rfl), fun e => by rw [hE] at e; cases e⟩
      | true =>
        refine ⟨trivial, (callsIn_wide.2 (Equal_at 256 256 (grpBytes (grpSays b n)) b (grpBytes_len _ (by rw [grpSays_len]; exact h2)) hl W5.heap.size B _ A 256 c W5 HR5.out HA5.out true hq)).mono ?_⟩
        rintro e w' ⟨rfl, rfl⟩
        gi_wp2_with fail
        refine ⟨by simp, .inl ⟨_, _, rfl, run_takeDeferred HK5.out, ?_⟩⟩
        have hX : unX b n = grpSays b n := by simp [unX, grpOk, grpGood, hm, hl, beq_iff_eq.1 hq]
        have hE : unE b n = 0 := by simp [unE, grpOk, grpGood, hm, hl, beq_iff_eq.1 hq]
        have hbelow := HB5.out.trans (belowK_b (w := w) (Nat.le_refl _) W5 D _ (.deferred none) (by omega) HK5.out rfl rfl)
        have hO6 := ownsRow_putObj HO5.out (.deferred none) HK5.out rfl
        obtain ⟨A6, c6, e6, hG6, hA6⟩ := grps_of_own hO6
        cases e6
        rw [hX, hE]
        exact ⟨.tuple #[.slice A' (grpSays b n).length c', .int .i64 0], by simp [results, Tryz.f130, go_sem], A', c', rfl, hG6, fun a ha => Nat.le_trans hs2 (hA6 a ha), hbelow, fun _ => owns_base hO6 hs2⟩
  case stop =>
    rintro D c pre W _ _ h _
    exact h.elim
def anyX (b : List UInt8) (n : Int) : List Grp := if inB 1 14 n = true then unX b n.toNat else []
def anyE (b : List UInt8) (n : Int) : Int := if inB 1 14 n = true then unE b n.toNat else 22
def UnpG (b : List UInt8) (n : Int) (w : World) (e : Ending) (w' : World) : Prop :=
  ∃ A' c', e = .returned (.tuple #[.slice A' (anyX b n).length c', .int .i64 (anyE b n)]) ∧ Grps w' w'.heap.size A' (anyX b n) ∧ (∀ a, A' = some a → w.heap.size ≤ a.block) ∧ Below w.heap.size w w'
theorem UnpG.nil {b : List UInt8} {n : Int} {w w' : World} {x : Int} (hX : anyX b n = []) (hE : anyE b n = x) (hb : Below w.heap.size w w') : UnpG b n w (.returned (.tuple #[.slice none 0 0, .int .i64 x])) w' :=
  ⟨none, 0, by rw [hX, hE]; rfl, by rw [hX]; exact fun i hi => (by cases hi), fun a ha => (by cases ha), hb⟩
theorem anyX_yes {b : List UInt8} {n : Nat} (h1 : 1 ≤ n) (h2 : n ≤ 14) : anyX b n = unX b n ∧ anyE b n = unE b n := by
  have hi : inB 1 14 (n : Int) = true := by rw [inB_true]; omega
  simp [anyX, anyE, hi]
end Go.Proofs.YtgjcbfdhpbkhoaaGreatDoor.QUnp
/- What is packed says what it was packed of; a turned bit shows. -/
namespace Go.Proofs.YtgjcbfdhpbkhoaaGreatDoor.BPlain
open Go.RowKit WMem WPlain WPack WWide WAny WCrc WSeal WTurn GPlain SNums SPlain SSays QPlain QUnp
def supOk (l : List UInt8) : Bool := decide (l.length = 256) && supGood l
def us (l : List UInt8) (at_ : Nat) : Int := if supOk l = true then f4 l at_ else 0
def uc (l : List UInt8) : Bool := if supOk l = true then (f1 l 38 == 1) else false
def ue (l : List UInt8) : Int := if supOk l = true then 0 else 117
def unpV (l : List UInt8) : Value := .tuple #[.agg #[.int .i64 (us l 6), .int .i64 (us l 10), .int .i64 (us l 14), .int .i64 (us l 18), .int .i64 (us l 22), .int .i64 (us l 26), .int .i64 (us l 30), .int .i64 (us l 34), .bool (uc l)], .int .i64 (ue l)]
theorem unpV_no {l : List UInt8} (h : supOk l = false) : unpV l = .tuple #[SUnp.NoSup, .int .i64 117] := by
  simp [unpV, us, uc, ue, h, SUnp.NoSup]
theorem unpV_yes {l : List UInt8} (h : supOk l = true) : unpV l = .tuple #[.agg #[.int .i64 (f4 l 6), .int .i64 (f4 l 10), .int .i64 (f4 l 14), .int .i64 (f4 l 18), .int .i64 (f4 l 22), .int .i64 (f4 l 26), .int .i64 (f4 l 30), .int .i64 (f4 l 34), .bool (f1 l 38 == 1)], .int .i64 0] := by
  simp [unpV, us, uc, ue, h]
section
variable (l : List UInt8) (B : Nat) (A : Option Addr) (c : Nat) (w : World)
theorem Unpack_c (hc : l.length ≤ c) (hB : B ≤ w.heap.size) (hA : Sl w B A (l.map u8v)) (hT : Tab w) :
    Calls Tryz.prog 129 #[.slice A l.length c] w fun e w' => e = .returned (unpV l) ∧ Below w.heap.size w w' := by
  by_cases hl : l.length = 256
  · have hc' : 256 ≤ c := by omega
    cases h1 : supIs l with
    | false =>
      rw [unpV_no (by simp only [supOk, supGood, hl, h1]; rfl), hl]
      exact SUnp.UnpackSuper_1 l hl B A c hc' w hB hA hT h1
    | true =>
      cases h2 : (supSays l == l) with
      | false =>
        rw [unpV_no (by simp only [supOk, supGood, hl, h1, h2]; rfl), hl]
        exact SUnp.UnpackSuper_2 l hl B A c hc' w hB hA hT h1 h2
      | true =>
        rw [unpV_yes (by simp only [supOk, supGood, hl, h1, h2]; rfl), hl]
        exact SUnp.UnpackSuper_3 l hl B A c hc' w hB hA hT h1 h2
  · rw [unpV_no (by simp [supOk, hl])]
    exact SUnp.UnpackSuper_len l.length hl A c w
end
theorem block_says (xs : List UInt64) (ws : List Int) (seed : Nat) (h : packs xs ws 256) (hx : fit (nats ws) xs) (ht : tot (nats ws) ≤ 252) :
    unp (nats ws) ((blockOf xs ws seed).take (tot (nats ws))) = xs := by
  have hl := bytesOf_len ws xs 256 h
  have hl' : (bytesOf_ xs ws 256).length = 256 := hl
  have hp : (blockOf xs ws seed).take (tot (nats ws)) = (bytesOf_ xs ws 256).take (tot (nats ws)) := by
    unfold blockOf sealL
    rw [if_pos (by omega), hl']
    have := patch_apart (bytesOf_ xs ws 256) (256 - 4) (dig 4 (crc seed ((bytesOf_ xs ws 256).take (256 - 4)))) (by rw [dig_length]; omega) 0 (tot (nats ws)) (.inl (by omega))
    simpa using this
  rw [hp]
  have hn : (nats ws).length = xs.length := by rw [nats_len]; exact h.1.symm
  have hq : (bytesOf_ xs ws 256).take (tot (nats ws)) = packed (nats ws) xs := by
    have t1 : (nats ws).take (nats ws).length = nats ws := List.take_length
    have t2 : xs.take (nats ws).length = xs := by rw [hn, List.take_length]
    unfold bytesOf_ WPack.part
    rw [t1, t2]
    exact List.take_left' (packed_length (nats ws) xs hn)
  rw [hq]
  exact unp_packed (nats ws) xs hn hx
theorem num_at {xs ys : List UInt64} (h : xs = ys) (k : Nat) (h1 : k < xs.length) (h2 : k < ys.length) : xs[k] = ys[k] := by subst h; rfl
section
variable {b p n j fb fi oo mo : Int} (cl : Bool) (h : SMay b p n j fb fi oo mo)
include h
theorem sup_nums : supX (supBytes b p n j fb fi oo mo cl) = nums (supN b p n j fb fi oo mo cl) :=
  block_says (nums (supN b p n j fb fi oo mo cl)) supW 0 (sup_packs _ rfl) (sup_fit cl h) (by rw [sup_ns]; decide)
theorem sup_num (k : Nat) (hk : k < 11) : (((supX (supBytes b p n j fb fi oo mo cl))[k]'(by rw [supX_len]; exact hk)).toNat : Int) = (((supN b p n j fb fi oo mo cl)[k]'hk : Nat) : Int) := by
  have hk' : k < (supN b p n j fb fi oo mo cl).length := hk
  have e := ofNat_small (Nat.lt_trans (sup_small cl h _ (List.getElem_mem hk')) (by decide))
  have e2 : (nums (supN b p n j fb fi oo mo cl))[k]'(by rw [nums_len]; exact hk') = UInt64.ofNat ((supN b p n j fb fi oo mo cl)[k]'hk') := by simp only [nums, List.getElem_map]
  rw [num_at (sup_nums cl h) k _ (by rw [nums_len]; exact hk'), e2, e]
  rfl
theorem sup_back : let L := supBytes b p n j fb fi oo mo cl
    f4 L 6 = b ∧ f4 L 10 = p ∧ f4 L 14 = n ∧ f4 L 18 = j ∧ f4 L 22 = fb ∧ f4 L 26 = fi ∧ f4 L 30 = oo ∧ f4 L 34 = mo ∧ (f1 L 38 == 1) = cl ∧ f4 L 0 = 1213813321 := by
  intro L
  obtain ⟨a2, a3, a4, a5, a6, a7, a8, a9, a10⟩ := supX_at L
  have a0 := (unp_at [4, 2, 4, 4, 4, 4, 4, 4, 4, 4, 1] L 39 0 (by decide) (by decide) (by decide)).1
  have s := fun k hk => sup_num cl h k hk
  obtain ⟨_, b0, _, p0, _, n0, _, j0, _, fb0, _, fi0, _, oo0, _, mo0, _⟩ := h
  refine ⟨?_, ?_, ?_, ?_, ?_, ?_, ?_, ?_, ?_, ?_⟩
  · rw [← a2, s 2 (by decide)]; exact Int.toNat_of_nonneg b0
  · rw [← a3, s 3 (by decide)]; exact Int.toNat_of_nonneg p0
  · rw [← a4, s 4 (by decide)]; exact Int.toNat_of_nonneg n0
  · rw [← a5, s 5 (by decide)]; exact Int.toNat_of_nonneg j0
  · rw [← a6, s 6 (by decide)]; exact Int.toNat_of_nonneg fb0
  · rw [← a7, s 7 (by decide)]; exact Int.toNat_of_nonneg fi0
  · rw [← a8, s 8 (by decide)]; exact Int.toNat_of_nonneg oo0
  · rw [← a9, s 9 (by decide)]; exact Int.toNat_of_nonneg mo0
  · rw [← a10, s 10 (by decide)]
    cases cl <;> rfl
  · exact a0.symm.trans (s 0 (by decide))
end
theorem sup_there {b p n j fb fi oo mo : Int} (cl : Bool) (h : supMay b p n j fb fi oo mo = true) : supOk (supBytes b p n j fb fi oo mo cl) = true ∧
    unpV (supBytes b p n j fb fi oo mo cl) = .tuple #[.agg #[.int .i64 b, .int .i64 p, .int .i64 n, .int .i64 j, .int .i64 fb, .int .i64 fi, .int .i64 oo, .int .i64 mo, .bool cl], .int .i64 0] := by
  obtain ⟨e0, e1, e2, e3, e4, e5, e6, e7, e8, _⟩ := sup_back cl (supMay_of h)
  have hok : supOk (supBytes b p n j fb fi oo mo cl) = true := by
    simp only [supOk, supGood, supIs, supSays, e0, e1, e2, e3, e4, e5, e6, e7, e8, h, supBytes_len, decide_true, beq_self_eq_true, Bool.and_self]
  refine ⟨hok, ?_⟩
  rw [unpV_yes hok, e0, e1, e2, e3, e4, e5, e6, e7, e8]
theorem grpN_at (l : List Grp) : ∀ (i : Nat) (hi : i < l.length), (grpN l)[3 * i]? = some l[i].fb.toNat ∧ (grpN l)[3 * i + 1]? = some l[i].fi.toNat ∧ (grpN l)[3 * i + 2]? = some l[i].dirs.toNat := by
  induction l with
  | nil => intro i hi; cases hi
  | cons x l ih =>
    intro i hi
    have e : grpN (x :: l) = three x ++ grpN l := rfl
    match i with
    | 0 => simp [e, three]
    | i + 1 =>
      have h := ih i (by simpa using hi)
      have g : ∀ k, (grpN (x :: l))[3 * (i + 1) + k]? = (grpN l)[3 * i + k]? := fun k => by
        rw [e, List.getElem?_append_right (by simp [three]; omega)]
        congr 1
        simp [three]
        omega
      have g0 := g 0
      simp only [Nat.add_zero] at g0
      rw [g0, g 1, g 2]
      simpa using h
theorem grp_back (l : List Grp) (h : grpMay l = true) : grpSays (grpBytes l) l.length = l := by
  obtain ⟨hl, hall⟩ := grpMay_iff.1 h
  have hx : grpX (grpBytes l) l.length = nums (grpN l) := by
    have := block_says (nums (grpN l)) (grpW l.length) 1 (grp_packs l hl.2) (grp_fit l hall) (by rw [grp_tot]; omega)
    rw [grp_tot] at this
    exact this
  have hf : ∀ k (hk : k < 3 * l.length), f4 (grpBytes l) (4 * k) = (((grpN l)[k]'(by rw [grpN_len]; exact hk) : Nat) : Int) := fun k hk => by
    rw [← (grpX_at (grpBytes l) l.length k hk).1, num_at hx k _ (by rw [nums_len, grpN_len]; exact hk)]
    simp only [nums, List.getElem_map]
    rw [ofNat_small (Nat.lt_trans (grp_small l hall _ (List.getElem_mem (by rw [grpN_len]; exact hk))) (by decide))]
  refine List.ext_getElem (by rw [grpSays_len]) fun i h1 h2 => ?_
  have es : (grpSays (grpBytes l) l.length)[i] = saysOne (grpBytes l) i := by simp [grpSays]
  rw [es]
  obtain ⟨e0, e1, e2⟩ := grpN_at l i h2
  have q : ∀ (k v : Nat), (grpN l)[k]? = some v → f4 (grpBytes l) (4 * k) = (v : Int) := fun k v hk => by
    obtain ⟨hk1, hk2⟩ := List.getElem?_eq_some_iff.1 hk
    rw [hf k (by rw [grpN_len] at hk1; exact hk1), hk2]
  have k0 := q _ _ e0
  have k1 := q _ _ e1
  have k2 := q _ _ e2
  rw [show 4 * (3 * i) = 12 * i by omega] at k0
  rw [show 4 * (3 * i + 1) = 12 * i + 4 by omega] at k1
  rw [show 4 * (3 * i + 2) = 12 * i + 8 by omega] at k2
  have hm := oneMay_iff.1 (hall l[i] (List.getElem_mem h2))
  unfold saysOne
  rw [k0, k1, k2]
  generalize l[i] = x at *
  obtain ⟨fb, fi, dd⟩ := x
  simp only at hm ⊢
  rw [Int.toNat_of_nonneg (by omega), Int.toNat_of_nonneg (by omega), Int.toNat_of_nonneg (by omega)]
theorem grp_there (l : List Grp) (h : grpMay l = true) : anyX (grpBytes l) l.length = l ∧ anyE (grpBytes l) l.length = 0 := by
  obtain ⟨hl, _⟩ := grpMay_iff.1 h
  have hb := grp_back l h
  have hok : grpOk (grpBytes l) l.length = true := by
    simp only [grpOk, grpGood, hb, h, grpBytes_len l hl.2, decide_true, beq_self_eq_true, Bool.and_self]
  obtain ⟨e1, e2⟩ := anyX_yes (b := grpBytes l) (n := l.length) hl.1 hl.2
  rw [e1, e2]
  simp only [unX, unE, hok, if_true, hb]
  exact ⟨trivial, trivial⟩
end Go.Proofs.YtgjcbfdhpbkhoaaGreatDoor.BPlain
/- An inode, in plain mathematics: its numbers, its bytes, what bytes say; there and back; a turned bit shows. -/
namespace Go.Proofs.YtgjcbfdhpbkhoaaGreatDoor.IPlain
open Go.RowKit WMem WPlain WPack WWide WAny WCrc WSeal WTurn GPlain SNums SPlain SSays BPlain
structure Ino where
  kind : Int
  perm : Int
  uid : Int
  gid : Int
  links : Int
  size : Int
  blocks : Int
  at_ : Int
  mt : Int
  ct : Int
  next : Int
  parent : Int
  xattr : Int
  idx : Bool
  root : List UInt8
def Ino.nul : Ino := ⟨0, 0, 0, 0, 0, 0, 0, 0, 0, 0, 0, 0, 0, false, []⟩
def inI (x : Int) : Prop := -9223372036854775808 ≤ x ∧ x < 9223372036854775808
structure Ino.Wide (r : Ino) : Prop where
  a : inI r.at_
  m : inI r.mt
  c : inI r.ct
def u64of (x : Int) : UInt64 := UInt64.ofNat (x % 18446744073709551616).toNat
theorem u64of_nat (x : Int) : (((u64of x).toNat : Nat) : Int) = x % 18446744073709551616 := by
  unfold u64of
  rw [UInt64.toNat_ofNat', Nat.mod_eq_of_lt (by omega)]
  omega
theorem u64v_of (x : Int) : u64v (u64of x) = .int .u64 (IntKind.u64.wrap x) := by
  unfold u64v
  rw [u64of_nat, IntKind.wrap_u64]
def i64of (x : UInt64) : Int := wrap64 (x.toNat : Int)
theorem i64_back (x : Int) (h : inI x) : i64of (u64of x) = x := by
  unfold i64of inI at *
  rw [u64of_nat]
  unfold wrap64
  omega
theorem i64_in (x : UInt64) : inI (i64of x) := by
  unfold i64of inI wrap64
  omega
def kindB (r : Ino) : Bool := if r.kind = 2 then true else (decide (r.kind = 1) || (decide (r.kind = 3) && decide (r.size ≤ 512))) && decide (r.parent = 0) && !r.idx
def inoMay (r : Ino) : Bool := kindB r && inB 0 511 r.perm && allIn 0 65535 [r.uid, r.gid, r.links, r.next, r.parent, r.xattr] && inB 0 65536 r.size && inB 0 4096 r.blocks && decide (r.root.length = 48)
def inoN (r : Ino) : List UInt64 := [u64of r.kind, if r.idx = true then 1 else 0, u64of r.perm, u64of r.uid, u64of r.gid, u64of r.links, u64of r.size, u64of r.blocks, u64of r.at_, u64of r.mt, u64of r.ct, u64of r.next, u64of r.parent, u64of r.xattr]
def inoW : List Int := [1, 1, 2, 2, 2, 2, 4, 4, 8, 8, 8, 4, 4, 4]
theorem ino_ns : nats inoW = [1, 1, 2, 2, 2, 2, 4, 4, 8, 8, 8, 4, 4, 4] := rfl
theorem ino_fine : fineI inoW := by unfold fineI inoW; decide
theorem ino_tot : tot (nats inoW) = 54 := by rw [ino_ns]; rfl
theorem ino_packs (r : Ino) : packs (inoN r) inoW 128 := ⟨rfl, ino_fine, by rw [ino_tot]; decide, by decide⟩
structure IMay (r : Ino) : Prop where
  kind : r.kind = 1 ∨ r.kind = 2 ∨ r.kind = 3
  perm : 0 ≤ r.perm ∧ r.perm ≤ 511
  uid : 0 ≤ r.uid ∧ r.uid ≤ 65535
  gid : 0 ≤ r.gid ∧ r.gid ≤ 65535
  links : 0 ≤ r.links ∧ r.links ≤ 65535
  next : 0 ≤ r.next ∧ r.next ≤ 65535
  parent : 0 ≤ r.parent ∧ r.parent ≤ 65535
  xattr : 0 ≤ r.xattr ∧ r.xattr ≤ 65535
  size : 0 ≤ r.size ∧ r.size ≤ 65536
  blocks : 0 ≤ r.blocks ∧ r.blocks ≤ 4096
  root : r.root.length = 48
theorem may_of {r : Ino} (h : inoMay r = true) : IMay r := by
  simp only [inoMay, kindB, Bool.and_eq_true, inB_true, allIn, List.all_cons, List.all_nil, Bool.and_true, decide_eq_true_eq] at h
  obtain ⟨⟨⟨⟨⟨h1, h2⟩, h3, h4, h5, h6, h7, h8⟩, h9⟩, h10⟩, h11⟩ := h
  refine ⟨?_, h2, h3, h4, h5, h6, h7, h8, h9, h10, h11⟩
  split at h1
  · rename_i e; exact .inr (.inl e)
  · simp only [Bool.and_eq_true, Bool.or_eq_true, decide_eq_true_eq] at h1
    rcases h1.1.1 with e | e
    · exact .inl e
    · exact .inr (.inr e.1)
theorem u64_small {x : Int} {n : Nat} (h0 : 0 ≤ x) (h1 : x < n) (hn : n ≤ 18446744073709551616) : (u64of x).toNat < n := by
  have := u64of_nat x
  omega
theorem u64_any (x : UInt64) : x.toNat < 2 ^ (8 * 8) := x.toNat_lt
theorem ino_fit {r : Ino} (h : IMay r) : fit (nats inoW) (inoN r) := by
  obtain ⟨h1, h2, h3, h4, h5, h6, h7, h8, h9, h10, h11⟩ := h
  rw [ino_ns]
  refine ⟨u64_small (by omega) (by omega) (by decide), ?_, u64_small (by omega) (by omega) (by decide), u64_small (by omega) (by omega) (by decide), u64_small (by omega) (by omega) (by decide), u64_small (by omega) (by omega) (by decide),
    u64_small (by omega) (by omega) (by decide), u64_small (by omega) (by omega) (by decide), u64_any _, u64_any _, u64_any _, u64_small (by omega) (by omega) (by decide), u64_small (by omega) (by omega) (by decide), u64_small (by omega) (by omega) (by decide), trivial⟩
  split <;> decide
def inoRaw (r : Ino) : List UInt8 := patch (bytesOf_ (inoN r) inoW 128) 54 r.root
def inoBytes (ino : Nat) (r : Ino) : List UInt8 := sealL (inoRaw r) ino
theorem raw0_len (r : Ino) : (bytesOf_ (inoN r) inoW 128).length = 128 := bytesOf_len inoW (inoN r) 128 (ino_packs r)
theorem inoRaw_len {r : Ino} (h : r.root.length = 48) : (inoRaw r).length = 128 := by
  unfold inoRaw
  rw [patch_length _ _ _ (by rw [raw0_len]; omega), raw0_len]
theorem inoBytes_len {r : Ino} (h : r.root.length = 48) (ino : Nat) : (inoBytes ino r).length = 128 := by
  unfold inoBytes
  rw [sealL_len, inoRaw_len h]
def toldI (l : List UInt64) (root : List UInt8) : Ino :=
  ⟨i64of (l.getD 0 0), i64of (l.getD 2 0), i64of (l.getD 3 0), i64of (l.getD 4 0), i64of (l.getD 5 0), i64of (l.getD 6 0), i64of (l.getD 7 0), i64of (l.getD 8 0), i64of (l.getD 9 0), i64of (l.getD 10 0), i64of (l.getD 11 0), i64of (l.getD 12 0), i64of (l.getD 13 0), l.getD 1 0 == 1, root⟩
def inoX (b : List UInt8) : List UInt64 := unp (nats inoW) (b.take 54)
theorem inoX_len (b : List UInt8) : (inoX b).length = 14 := by unfold inoX; rw [unp_length]; rfl
def inoSays (b : List UInt8) : Ino := toldI (inoX b) ((b.drop 54).take 48)
theorem says_wide (b : List UInt8) : (inoSays b).Wide := ⟨i64_in _, i64_in _, i64_in _⟩
theorem told_back {r : Ino} (h : IMay r) (hw : r.Wide) : toldI (inoN r) r.root = r := by
  obtain ⟨h1, h2, h3, h4, h5, h6, h7, h8, h9, h10, h11⟩ := h
  obtain ⟨a, m, c⟩ := hw
  obtain ⟨kind, perm, uid, gid, links, size, blocks, at_, mt, ct, next, parent, xattr, idx, root⟩ := r
  simp only at *
  have k : ∀ x : Int, (0 ≤ x ∧ x ≤ 65536) → i64of (u64of x) = x := fun x hx => i64_back x ⟨by omega, by omega⟩
  unfold toldI inoN
  simp only [List.getD_cons_zero, List.getD_cons_succ]
  rw [k kind (by omega), k perm (by omega), k uid (by omega), k gid (by omega), k links (by omega), k size (by omega), k blocks (by omega), i64_back at_ a, i64_back mt m, i64_back ct c, k next (by omega), k parent (by omega), k xattr (by omega)]
  cases idx <;> rfl
section
variable {r : Ino} (h : IMay r) (ino : Nat)
include h
theorem bytes_ahead (k : Nat) (hk : k ≤ 124) : (inoBytes ino r).take k = (inoRaw r).take k := by
  have hl := inoRaw_len h.root
  unfold inoBytes sealL
  rw [if_pos (by omega), hl]
  have := patch_apart (inoRaw r) (128 - 4) (dig 4 (crc ino ((inoRaw r).take (128 - 4)))) (by rw [dig_length]; omega) 0 k (.inl (by omega))
  simpa using this
theorem bytes_nums : inoX (inoBytes ino r) = inoN r := by
  have hl0 := raw0_len r
  have hn : (nats inoW).length = (inoN r).length := rfl
  have e1 : (inoRaw r).take 54 = (bytesOf_ (inoN r) inoW 128).take 54 := by
    have := patch_apart (bytesOf_ (inoN r) inoW 128) 54 r.root (by rw [hl0, h.root]; decide) 0 54 (.inl (by omega))
    simpa [inoRaw] using this
  have e2 : (bytesOf_ (inoN r) inoW 128).take 54 = packed (nats inoW) (inoN r) := by
    have t1 : (nats inoW).take (nats inoW).length = nats inoW := List.take_length
    have t2 : (inoN r).take (nats inoW).length = inoN r := by rw [hn, List.take_length]
    unfold bytesOf_ WPack.part
    rw [t1, t2]
    exact List.take_left' ((packed_length (nats inoW) (inoN r) hn).trans ino_tot)
  unfold inoX
  rw [bytes_ahead h ino 54 (by decide), e1, e2]
  exact unp_packed (nats inoW) (inoN r) hn (ino_fit h)
theorem bytes_root : ((inoBytes ino r).drop 54).take 48 = r.root := by
  have hl0 := raw0_len r
  have e0 : ((inoBytes ino r).drop 54).take 48 = (((inoBytes ino r).take 102).drop 54) := by rw [List.drop_take]
  have e1 : ((inoRaw r).take 102).drop 54 = ((inoRaw r).drop 54).take 48 := by rw [List.drop_take]
  rw [e0, bytes_ahead h ino 102 (by decide), e1]
  have := patch_part (bytesOf_ (inoN r) inoW 128) 54 r.root (by rw [hl0, h.root]; decide)
  rw [h.root] at this
  exact this
theorem says_back (hw : r.Wide) : inoSays (inoBytes ino r) = r := by
  unfold inoSays
  rw [bytes_nums h ino, bytes_root h ino]
  exact told_back h hw
theorem bytes_sealed : sealB (inoBytes ino r) ino = true := sealed_sealL _ ino (by rw [inoRaw_len h.root]; decide)
end
def inoGood (ino : Nat) (b : List UInt8) : Bool := decide (b.length = 128) && inoMay (inoSays b) && (inoBytes ino (inoSays b) == b)
def zeros128 : List UInt8 := List.replicate 128 0
theorem good_iff {ino : Nat} {b : List UInt8} : inoGood ino b = true ↔ b.length = 128 ∧ inoMay (inoSays b) = true ∧ inoBytes ino (inoSays b) = b := by
  simp [inoGood, and_assoc]
theorem good_back {r : Ino} (hm : inoMay r = true) (hw : r.Wide) (ino : Nat) : inoGood ino (inoBytes ino r) = true := by
  rw [good_iff, says_back (may_of hm) ino hw]
  exact ⟨inoBytes_len (may_of hm).root ino, hm, rfl⟩
theorem zeros_num (k n : Nat) : num (((zeros128).drop k).take n) = 0 := by
  have : ∀ m : Nat, num (List.replicate m (0 : UInt8)) = 0 := by
    intro m
    induction m with
    | zero => rfl
    | succ m ih => rw [List.replicate_succ]; simp [num, ih]
  unfold zeros128
  rw [List.drop_replicate, List.take_replicate]
  exact this _
theorem says_kind (b : List UInt8) : (inoSays b).kind = ((num (b.take 1) : Nat) : Int) := by
  have hk : 0 < (nats inoW).length := by decide
  have e := unp_get (nats inoW) (b.take 54) 0 hk
  have e1 : (inoX b).getD 0 0 = UInt64.ofNat (num (b.take 1)) := by
    have hl : 0 < (inoX b).length := by rw [inoX_len]; decide
    rw [List.getD_eq_getElem?_getD, List.getElem?_eq_getElem hl, Option.getD_some]
    have e0 : (inoX b)[0]'hl = UInt64.ofNat (num (((b.take 54).drop 0).take 1)) := e
    rw [e0, List.drop_zero, List.take_take, Nat.min_eq_left (by decide)]
  show i64of ((inoX b).getD 0 0) = _
  rw [e1]
  have h1 := num_u64 (b.take 1) (Nat.le_trans (List.length_take_le _ _) (by decide))
  have h2 := num_lt (b.take 1)
  have h3 : 2 ^ (8 * (b.take 1).length) ≤ 2 ^ 8 := Nat.pow_le_pow_right (by omega) (by have := List.length_take_le 1 b; omega)
  unfold i64of
  rw [h1]
  unfold wrap64
  omega
theorem not_free {r : Ino} (h : IMay r) (hw : r.Wide) (ino : Nat) : (inoBytes ino r == zeros128) = false := by
  rw [beq_eq_false_iff_ne]
  intro e
  have h1 := says_kind (inoBytes ino r)
  rw [says_back h ino hw, e] at h1
  have := zeros_num 0 1
  rw [List.drop_zero] at this
  rw [this] at h1
  have := h.kind
  omega
theorem seal_inj {l : List UInt8} (hl : 4 ≤ l.length) {a b : Nat} (ha : a < 4294967296) (hb : b < 4294967296) (h : sealL l a = sealL l b) : a = b := by
  unfold sealL at h
  rw [if_pos hl, if_pos hl] at h
  have h1 := patch_part l (l.length - 4) (dig 4 (crc a (l.take (l.length - 4)))) (by rw [dig_length]; omega)
  have h2 := patch_part l (l.length - 4) (dig 4 (crc b (l.take (l.length - 4)))) (by rw [dig_length]; omega)
  rw [dig_length] at h1 h2
  rw [h, h2] at h1
  have h3 := congrArg num h1
  rw [num_dig, num_dig, Nat.mod_eq_of_lt (by have := crc_lt b (l.take (l.length - 4)); omega), Nat.mod_eq_of_lt (by have := crc_lt a (l.take (l.length - 4)); omega)] at h3
  unfold crc at h3
  have q1 := eats_lt (c := 4294967295 - a) (by omega) (l.take (l.length - 4))
  have q2 := eats_lt (c := 4294967295 - b) (by omega) (l.take (l.length - 4))
  have := eats_inj (a := 4294967295 - a) (b := 4294967295 - b) (by omega) (by omega) (l.take (l.length - 4)) (by omega)
  omega
theorem other_no {r : Ino} (h : IMay r) (hw : r.Wide) {ino other : Nat} (hi : ino < 4294967296) (ho : other < 4294967296) (hne : other ≠ ino) : inoGood other (inoBytes ino r) = false := by
  rw [Bool.eq_false_iff]
  intro hg
  obtain ⟨_, _, e⟩ := good_iff.1 hg
  rw [says_back h ino hw] at e
  exact hne (seal_inj (by rw [inoRaw_len h.root]; decide) ho hi e)
theorem turned_no {r : Ino} (h : IMay r) (ino i : Nat) (y : UInt8) (hi : i < (inoBytes ino r).length) (hy : y ≠ (inoBytes ino r)[i]) : inoGood ino ((inoBytes ino r).set i y) = false := by
  have h1 := turned _ ino i y (bytes_sealed h ino) hi hy
  rw [Bool.eq_false_iff]
  intro hg
  obtain ⟨_, hm, e⟩ := good_iff.1 hg
  have h2 := bytes_sealed (may_of hm) ino
  rw [e, h1] at h2
  cases h2
def seedOf (m : Nat) : Nat := [3070920065, 3070920066, 3070920068, 3070920072, 3070920080, 3070920096, 3070920128, 3070919936].getD m 0
theorem seed_big : ∀ m : Nat, m < 8 → crc (seedOf m) (UInt8.ofNat (2 ^ m) :: List.replicate 123 0) = 0 ∧ 65535 < seedOf m ∧ seedOf m < 4294967296 := by decide +kernel
theorem turned_free {r : Ino} (h : IMay r) (hw : r.Wide) (ino i : Nat) (hino : ino ≤ 65535) (m : Nat) (hm : m < 8) (y : UInt8) (hi : i < (inoBytes ino r).length) (hy : y = (inoBytes ino r)[i] ^^^ UInt8.ofNat (2 ^ m)) : ((inoBytes ino r).set i y == zeros128) = false := by
  rw [beq_eq_false_iff_ne]
  intro e
  have hlen := inoBytes_len h.root ino
  have hk := says_kind (inoBytes ino r)
  rw [says_back h ino hw] at hk
  have hs := bytes_sealed h ino
  generalize inoBytes ino r = b at *
  have hj : ∀ j, j ≠ i → j < 128 → b[j]? = some 0 := fun j hji hj => by
    have h1 : (b.set i y)[j]? = zeros128[j]? := by rw [e]
    rw [List.getElem?_set_ne (Ne.symm hji)] at h1
    rw [h1]
    unfold zeros128
    rw [List.getElem?_replicate, if_pos hj]
  have hyi : y = 0 := by
    have h1 : (b.set i y)[i]? = zeros128[i]? := by rw [e]
    rw [List.getElem?_set_self hi] at h1
    unfold zeros128 at h1
    rw [List.getElem?_replicate, if_pos (by omega)] at h1
    injection h1
  have hi0 : i = 0 := by
    by_cases hz : i = 0
    · exact hz
    · exfalso
      have h1 := hj 0 (Ne.symm hz) (by decide)
      cases b with
      | nil => simp at h1
      | cons x t =>
        simp at h1
        subst h1
        simp [num] at hk
        have := h.kind
        omega
  subst hi0
  cases b with
  | nil => simp at hlen
  | cons x t =>
    have hx : x = UInt8.ofNat (2 ^ m) := by
      simp only [List.getElem_cons_zero] at hy
      rw [hyi] at hy
      have := congrArg (x ^^^ ·) hy
      simp only [← UInt8.xor_assoc, UInt8.xor_self, UInt8.zero_xor, UInt8.xor_zero] at this
      exact this
    have ht : t = List.replicate 127 0 := by
      refine List.ext_getElem? fun j => ?_
      by_cases hj2 : j < 127
      · have := hj (j + 1) (by omega) (by omega)
        rw [List.getElem?_cons_succ] at this
        rw [this, List.getElem?_replicate, if_pos hj2]
      · rw [List.getElem?_eq_none (by simp at hlen; omega), List.getElem?_eq_none (by simp; omega)]
    subst ht
    unfold sealB at hs
    simp only [Bool.and_eq_true, beq_iff_eq] at hs
    have h2 := hs.2
    have e1 : (x :: List.replicate 127 (0 : UInt8)).length - 4 = 124 := by simp
    rw [e1] at h2
    have e2 : (x :: List.replicate 127 (0 : UInt8)).drop 124 = List.replicate 4 0 := by rw [show (124 : Nat) = 123 + 1 from rfl, List.drop_succ_cons, List.drop_replicate]
    have e3 : (x :: List.replicate 127 (0 : UInt8)).take 124 = x :: List.replicate 123 0 := by rw [show (124 : Nat) = 123 + 1 from rfl, List.take_succ_cons, List.take_replicate]; rfl
    rw [e2, e3, hx] at h2
    have e4 : num (List.replicate 4 (0 : UInt8)) = 0 := by decide
    rw [e4] at h2
    obtain ⟨hb, hs2, hs1⟩ := seed_big m hm
    generalize seedOf m = s at *
    generalize UInt8.ofNat (2 ^ m) :: List.replicate 123 (0 : UInt8) = msg at *
    rw [← hb] at h2
    unfold crc at h2
    have q1 := eats_lt (c := 4294967295 - s) (by omega) msg
    have q2 := eats_lt (c := 4294967295 - ino) (by omega) msg
    have := eats_inj (a := 4294967295 - s) (b := 4294967295 - ino) (by omega) (by omega) msg (by omega)
    omega
def unI (ino : Int) (b : List UInt8) : Ino := if 1 ≤ ino ∧ ino ≤ 65535 ∧ (b == zeros128) = false ∧ inoGood ino.toNat b = true then inoSays b else Ino.nul
def unE (ino : Int) (b : List UInt8) : Int := if 1 ≤ ino ∧ ino ≤ 65535 then (if b == zeros128 then 2 else if inoGood ino.toNat b then 0 else 117) else 22
end Go.Proofs.YtgjcbfdhpbkhoaaGreatDoor.IPlain
