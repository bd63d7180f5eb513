/- Lay: a transaction's blocks. -/
import Derived.Test.YtmlgchmladkfpaaGreatDoorMg32
import Derived.Test.YtmlgchmladkfpaaGreatDoorMg31
import Derived.RangeFuncLeaves
import Derived.Maps.OwnIn
import Derived.Test.YtmlgchmladkfpaaGreatDoorMg34
namespace Go.Proofs.YtmlgchmladkfpaaGreatDoor.JLay
open Go.RowKit Go.Shelf WMem WPlain WList WPack WHelp WAppend WWide WAny WCrc WSeal SNums JPlain JMem JMay JBody JPack JPackFace JTold JEscape JNeed JChunk JMine JLayM JLayF JLayC

attribute [local go_sem] Oper.semAt_some

theorem ko_below {W W' : World} (h : Below W.heap.size W W') : KeepsOthers W W' := ⟨h.size, fun k _ hk _ => (h.block k (Array.getElem?_eq_some_iff.1 hk).1).trans hk⟩
/-- what Lay answers -/
def LayR (seq : Int) (ws : List Wr) (rs : List Int) (w : World) (e : Ending) (w' : World) : Prop :=
  (layOk seq ws rs = true → ∃ v n, e = .returned (.tuple #[v, .int .i64 0]) ∧ Blks w' w.heap.size v n (lay seq ws rs)) ∧ (layOk seq ws rs = false → e = .returned (.tuple #[.slice none 0 0, .int .i64 22])) ∧ Below w.heap.size w w'
/-- the three boxes that Lay makes first -/
def box3 (w : World) (seq : Int) : World := ((w.alloc (.cells #[.int .i64 seq] 3)).alloc (.cells #[.slice none 0 0] 78)).alloc (.cells #[.int .i64 0] 25)
/-- the boxes, and the parts that are laid -/
structure LI (seq : Int) (ws : List Wr) (w : World) (b0 nw c : Nat) (A : Option Addr) (pre : List Nat) (W : World) : Prop where
  q0 : W.heap[w.heap.size]? = some (.cells #[.int .i64 seq] 3 (0, 0))
  q1 : W.heap[w.heap.size + 1]? = some (.cells #[.slice none 0 0] 78 (0, 0))
  q2 : W.heap[w.heap.size + 2]? = some (.cells #[.int .i64 0] 25 (0, 0))
  blk : ∃ v n, W.heap[b0]? = some (.cells #[v] 78 (0, 0)) ∧ Blks W w.heap.size v n (pre.flatMap fun i => layD seq (JLayM.part ws 48 (min i (rowsN ws.length 48 - 1))))
  may : ∀ i ∈ pre, recMay (descR seq (JLayM.part ws 48 (min i (rowsN ws.length 48 - 1)))) = true
  below : Below w.heap.size w W
  s1 : W.heap[b0 + 1]? = some (.cells #[.slice A nw c] 51 (0, 0))
  s2 : W.heap[b0 + 2]? = some (.cells #[.int .i64 48] 3 (0, 0))
theorem Blks.join {w w' : World} {base base2 n m : Nat} {v v' : Value} {L M : List (List UInt8)} {vs us : List Value} (hvs : w.ownsRow base 43 1 v n vs) (hL : L.length = n) (hvl : vs.length = n) (hv1 : ∀ u ∈ vs, u.oneCell' = true)
    (hsame : ∀ (i : Nat) (h : i < L.length), ∃ u, vs[i]? = some u ∧ WAny.Own w base u L[i]) (hM : M.length = m) (hul : us.length = m) (hu1 : ∀ u ∈ us, u.oneCell' = true) (husame : ∀ (i : Nat) (h : i < M.length), ∃ u, us[i]? = some u ∧ WAny.Own w base2 u M[i])
    (hB : base ≤ base2) (hown : w'.ownsRow base 43 1 v' (n + m) (vs ++ us)) (hg : w.grownBy w' v.ownBlock) : Blks w' base v' (n + m) (L ++ M) := by
  have hne : ∀ (k : Nat) (cs : Array Value), v.ownBlock = some k → w.heap[k]? ≠ some (.cells cs 5 (0, 0)) := fun k cs e hk => own_ne hvs hk (by decide) e
  refine ⟨vs ++ us, hown, by simp [hL, hM], by simp [hvl, hul], fun z hz => (List.mem_append.1 hz).elim (hv1 z) (hu1 z), fun i hi => ?_⟩
  by_cases hlt : i < L.length
  · obtain ⟨z, hz, hO⟩ := hsame i hlt
    refine ⟨z, ?_, ?_⟩
    · rw [List.getElem?_append_left (by omega)]; exact hz
    · rw [List.getElem_append_left hlt]; exact own_turn hO hg hne
  · have hi' : i - L.length < M.length := by simp at hi; omega
    obtain ⟨z, hz, hO⟩ := husame (i - L.length) hi'
    refine ⟨z, ?_, ?_⟩
    · rw [List.getElem?_append_right (by omega), hvl, ← hL]; exact hz
    · rw [List.getElem_append_right (by omega)]; exact own_up (own_turn hO hg hne) hB
theorem flat_le {α β : Type} (f : α → List β) (n : Nat) (h : ∀ x, (f x).length ≤ n) : ∀ l : List α, (l.flatMap f).length ≤ n * l.length
  | [] => by simp
  | x :: l => by
    have := flat_le f n h l
    have := h x
    rw [List.flatMap_cons, List.length_append, List.length_cons, Nat.mul_succ]
    omega
theorem layD_len (seq : Int) (ws : List Wr) (k : Nat) : (layD seq (JLayM.part ws 48 k)).length ≤ 49 := by
  unfold layD
  rw [List.length_cons, List.length_map, JLayM.part_len]
  omega
theorem frontW_len (seq : Int) (ws : List Wr) (n : Nat) : (frontW seq ws n).length ≤ 49 * n := by
  have h := flat_le (fun i => layD seq (JLayM.part ws 48 i)) 49 (fun i => layD_len seq ws i) (List.range n)
  rw [List.length_range] at h
  exact h
theorem elemS_info : (Tryz.prog.info? 43).map (fun i => (i.zero, i.size, i.bytes)) = some (some (.slice none 0 0), 1, 24) := by kernel_rfl
theorem underS : Tryz.prog.underlying 78 = some (.slice 43) := by kernel_rfl
/-- a part, as it is told -/
def pvW (A : Option Addr) (nw x : Nat) : Value := .slice (A.map fun a => a.add (min x (rowsN nw 48 - 1) * 48 * 2)) (min 48 (nw - min x (rowsN nw 48 - 1) * 48)) (min 48 (nw - min x (rowsN nw 48 - 1) * 48))
def tm1 (seq : Int) (s b0 nw nr c c' : Nat) (A A' : Option Addr) (lf pv : Value) : Array Value := #[.int .i64 seq, .slice A nw c, .slice A' nr c', .pointer (some ⟨s, 0, none⟩), undef, undef, .pointer (some ⟨s + 1, 0, none⟩), .pointer (some ⟨s + 2, 0, none⟩), .pointer (some ⟨b0, 0, none⟩), pv, undef, undef, undef, undef, undef, undef, undef, undef, undef, .slice A nw c, .int .i64 (nw : Int), .bool false, .bool false, .slice A' nr c', .int .i64 (nr : Int), .bool false, .bool false, .bool false, .slice A nw c, .bool false, .bool false, .slice A nw c, lf, pv, undef, undef, undef, undef, undef, undef, undef, undef, undef, undef, undef, undef, undef, undef, undef, undef, undef, undef, undef, undef, undef, undef, undef, undef, undef, undef, undef, undef, undef, undef, undef, undef, undef, undef, undef, undef, undef, undef, undef, undef, undef, undef, undef, undef, undef, undef, undef, undef, undef, undef, undef, undef, undef, undef, undef]
def UA1 (seq : Int) (s b0 nw nr c c' : Nat) (A A' : Option Addr) (lf : Value) (x : Nat) (a' : Act) (_ : World) : Prop := a' = { tmps := tm1 seq s b0 nw nr c c' A A' lf (pvW A nw x), defers := [] }
/-- how a round may end the whole -/
def LX (seq : Int) (ws : List Wr) (w : World) (cd : Code) (_ : List Nat) (W : World) : Prop :=
  cd = .ret ∧ okW seq ws = false ∧ W.heap[w.heap.size + 1]? = some (.cells #[.slice none 0 0] 78 (0, 0)) ∧ W.heap[w.heap.size + 2]? = some (.cells #[.int .i64 22] 25 (0, 0)) ∧ Below w.heap.size w W
theorem recV_at (r : Rec) (A : Option Addr) (n c : Nat) (hn : r.ents.length = n) : recV r A c = .agg #[.int .i64 r.kind, .int .i64 r.seq, .slice A n c, .int .u32 (r.sum : Int), .int .i64 r.start] := by subst hn; rfl
theorem PackD_at (seq : Int) (C : List Wr) (m : Nat) (hm : C.length = m) (B : Nat) (A : Option Addr) (c : Nat) (w : World) (hB : B ≤ w.heap.size) (hA : Ents w B A (C.map entW)) (hl : m ≤ 4096) (hT : Tab w) :
    Calls Tryz.prog 99 #[.agg #[.int .i64 1, .int .i64 seq, .slice A m c, .int .u32 0, .int .i64 0]] w (PackR (descR seq C) w) := by
  have h := Pack_any (descR seq C) (show (0 : Nat) < 4294967296 by decide) B A c w hB hA (by simp [descR]; omega) hT
  rw [recV_at _ A m c (by simp [descR, hm])] at h
  exact h
theorem PackV_at (seq : Int) (R : List Int) (m : Nat) (hm : R.length = m) (B : Nat) (A : Option Addr) (c : Nat) (w : World) (hB : B ≤ w.heap.size) (hA : Ents w B A (R.map entR)) (hl : m ≤ 4096) (hT : Tab w) :
    Calls Tryz.prog 99 #[.agg #[.int .i64 3, .int .i64 seq, .slice A m c, .int .u32 0, .int .i64 0]] w (PackR (revR seq R) w) := by
  have h := Pack_any (revR seq R) (show (0 : Nat) < 4294967296 by decide) B A c w hB hA (by simp [revR]; omega) hT
  rw [recV_at _ A m c (by simp [revR, hm])] at h
  exact h
theorem okR_no {seq : Int} {rs : List Int} {k : Nat} (hk : k < rowsN rs.length 60) (h : recMay (revR seq (JLayM.part rs 60 k)) = false) : okR seq rs = false := by
  rw [Bool.eq_false_iff]
  intro ha
  have := List.all_eq_true.1 ha k (List.mem_range.2 hk)
  rw [h] at this
  cases this
theorem okR_yes {seq : Int} {rs : List Int} (h : ∀ i ∈ List.range (rowsN rs.length 60), recMay (revR seq (JLayM.part rs 60 (min i (rowsN rs.length 60 - 1)))) = true) : okR seq rs = true := by
  unfold okR
  rw [List.all_eq_true]
  intro i hi
  have := h i hi
  rwa [Nat.min_eq_left (by have := List.mem_range.1 hi; omega)] at this
theorem okW_no {seq : Int} {ws : List Wr} {k : Nat} (hk : k < rowsN ws.length 48) (h : recMay (descR seq (JLayM.part ws 48 k)) = false) : okW seq ws = false := by
  rw [Bool.eq_false_iff]
  intro ha
  have := List.all_eq_true.1 ha k (List.mem_range.2 hk)
  rw [h] at this
  cases this
def pvR (A : Option Addr) (nr x : Nat) : Value := .slice (A.map fun a => a.add (min x (rowsN nr 60 - 1) * 60)) (min 60 (nr - min x (rowsN nr 60 - 1) * 60)) (min 60 (nr - min x (rowsN nr 60 - 1) * 60))
def tm2 (seq : Int) (s b0 nw nr c c' : Nat) (A A' : Option Addr) (lf lg pv : Value) : Array Value := #[.int .i64 seq, .slice A nw c, .slice A' nr c', .pointer (some ⟨s, 0, none⟩), undef, undef, .pointer (some ⟨s + 1, 0, none⟩), .pointer (some ⟨s + 2, 0, none⟩), .pointer (some ⟨b0, 0, none⟩), undef, undef, undef, undef, undef, pv, undef, undef, undef, undef, .slice A nw c, .int .i64 (nw : Int), .bool false, .bool false, .slice A' nr c', .int .i64 (nr : Int), .bool false, .bool false, .bool false, .slice A nw c, .bool false, .bool false, .slice A nw c, lf, undef, undef, undef, undef, undef, undef, undef, undef, undef, undef, undef, undef, undef, undef, undef, undef, undef, undef, undef, undef, undef, undef, .slice A' nr c', lg, pv, undef, undef, undef, undef, undef, undef, undef, undef, undef, undef, undef, undef, undef, undef, undef, undef, undef, undef, undef, undef, undef, undef, undef, undef, undef, undef, undef, undef, undef, undef, undef]
def tm3 (seq : Int) (s b0 nw nr c c' : Nat) (A A' : Option Addr) (lf lg v : Value) (sm : Nat) (x1 x2 : Value) : Array Value := #[.int .i64 seq, .slice A nw c, .slice A' nr c', .pointer (some ⟨s, 0, none⟩), undef, undef, .pointer (some ⟨s + 1, 0, none⟩), .pointer (some ⟨s + 2, 0, none⟩), .pointer (some ⟨b0, 0, none⟩), undef, undef, undef, undef, undef, undef, undef, undef, x1, x2, .slice A nw c, .int .i64 (nw : Int), .bool false, .bool false, .slice A' nr c', .int .i64 (nr : Int), .bool false, .bool false, .bool false, .slice A nw c, .bool false, .bool false, .slice A nw c, lf, undef, undef, undef, undef, undef, undef, undef, undef, undef, undef, undef, undef, undef, undef, undef, undef, undef, undef, undef, undef, undef, undef, .slice A' nr c', lg, undef, undef, undef, undef, undef, undef, undef, undef, undef, undef, undef, undef, undef, undef, undef, undef, .tuple #[x1, x2], .int .i64 seq, .int .i64 seq, v, .int .u32 (sm : Int), .agg #[.int .i64 2, .int .i64 seq, .slice none 0 0, .int .u32 (sm : Int), .int .i64 0], .tuple #[x1, x2], x1, x2, undef, undef, undef, undef, undef, undef, undef]
def UA2 (seq : Int) (s b0 nw nr c c' : Nat) (A A' : Option Addr) (lf lg : Value) (x : Nat) (a' : Act) (_ : World) : Prop := a' = { tmps := tm2 seq s b0 nw nr c c' A A' lf lg (pvR A' nr x), defers := [] }
/-- the boxes, and what is revoked so far -/
structure LJ (seq : Int) (ws : List Wr) (rs : List Int) (w : World) (b0 b1 nr c D : Nat) (A : Option Addr) (pre : List Nat) (W : World) : Prop where
  q0 : W.heap[w.heap.size]? = some (.cells #[.int .i64 seq] 3 (0, 0))
  q1 : W.heap[w.heap.size + 1]? = some (.cells #[.slice none 0 0] 78 (0, 0))
  q2 : W.heap[w.heap.size + 2]? = some (.cells #[.int .i64 0] 25 (0, 0))
  blk : ∃ v n, W.heap[b0]? = some (.cells #[v] 78 (0, 0)) ∧ Blks W w.heap.size v n (frontW seq ws (rowsN ws.length 48) ++ pre.map fun i => recBytes (revR seq (JLayM.part rs 60 (min i (rowsN rs.length 60 - 1)))))
  may : ∀ i ∈ pre, recMay (revR seq (JLayM.part rs 60 (min i (rowsN rs.length 60 - 1)))) = true
  below : Below w.heap.size w W
  s1 : W.heap[b1]? = some (.cells #[.slice A nr c] 55 (0, 0))
  s2 : W.heap[b1 + 1]? = some (.cells #[.int .i64 60] 3 (0, 0))
  dfr : W.heap[D]? = some (.deferred (some []))
def LX2 (seq : Int) (rs : List Int) (w : World) (D : Nat) (cd : Code) (_ : List Nat) (W : World) : Prop :=
  cd = .ret ∧ okR seq rs = false ∧ W.heap[w.heap.size + 1]? = some (.cells #[.slice none 0 0] 78 (0, 0)) ∧ W.heap[w.heap.size + 2]? = some (.cells #[.int .i64 22] 25 (0, 0)) ∧ Below w.heap.size w W ∧ W.heap[D]? = some (.deferred (some []))
theorem blks_free {W : World} {base D : Nat} {v : Value} {n : Nat} {L : List (List UInt8)} {ds : Option (List Deferred)} {o' : Obj} (h : Blks W base v n L) (hD : W.heap[D]? = some (.deferred ds)) : Blks (W.putObj D o') base v n L := by
  have hg : W.grownBy (W.putObj D o') (some D) := grownBy_putObj' W D o'
  refine h.kept hg ?_ (fun k cs e hk => ?_)
  · obtain ⟨vs, a1, _⟩ := h
    rcases a1.2 with ⟨rfl, _⟩ | ⟨g, cap, cur, rfl, _, hg', _⟩
    · exact .inl rfl
    · refine .inr fun e => ?_
      simp only [Value.ownBlock, Option.some.injEq] at e
      subst e
      rw [hD] at hg'
      cases hg'
  · injection e with e
    subst e
    rw [hD] at hk
    cases hk
theorem cell_put {W : World} {D : Nat} {o o' : Obj} (hD : W.heap[D]? = some o) (ho : o.isCells = false) {p : Addr} {v : Value} (h : W.cell? p = some v) : (W.putObj D o').cell? p = some v := by
  by_cases e : p.block = D
  · subst e
    unfold World.cell? at h
    rw [hD] at h
    cases o with
    | cells a b c => simp [Obj.isCells] at ho
    | _ => simp at h
  · exact (World.cell?_of_block (World.putObj_heap_other e)).trans h
/-- the two results as they stand, and both marks -/
def Fin (w : World) (D D2 : Nat) (x y : Value) (W : World) : Prop := W.heap[w.heap.size + 1]? = some (.cells #[x] 78 (0, 0)) ∧ W.heap[w.heap.size + 2]? = some (.cells #[y] 25 (0, 0)) ∧ Below w.heap.size w W ∧ W.heap[D]? = some (.deferred (some [])) ∧ W.heap[D2]? = some (.deferred (some []))
theorem fin_set {w W : World} {D D2 : Nat} {x y x0 y0 : Value} (h1 : W.heap[w.heap.size + 1]? = some (.cells #[x0] 78 (0, 0))) (h2 : W.heap[w.heap.size + 2]? = some (.cells #[y0] 25 (0, 0))) (hb : Below w.heap.size w W) (hD : W.heap[D]? = some (.deferred (some []))) (hD2 : W.heap[D2]? = some (.deferred (some [])))
    (l1 : w.heap.size + 3 ≤ D) (l2 : w.heap.size + 3 ≤ D2) : Fin w D D2 x y ((W.setCell ⟨w.heap.size + 1, 0, none⟩ x).setCell ⟨w.heap.size + 2, 0, none⟩ y) := by
  have stay : ∀ j, j ≠ w.heap.size + 1 → j ≠ w.heap.size + 2 → ((W.setCell ⟨w.heap.size + 1, 0, none⟩ x).setCell ⟨w.heap.size + 2, 0, none⟩ y).heap[j]? = W.heap[j]? := fun j a b => (Below.heap_setCell _ ⟨w.heap.size + 2, 0, none⟩ y j b).trans (Below.heap_setCell W ⟨w.heap.size + 1, 0, none⟩ x j a)
  exact ⟨(Below.heap_setCell _ ⟨w.heap.size + 2, 0, none⟩ _ (w.heap.size + 1) (by simp)).trans (row_set h1 0 x), row_set ((Below.heap_setCell W ⟨w.heap.size + 1, 0, none⟩ x (w.heap.size + 2) (by simp)).trans h2) 0 y,
    (hb.setCell (by simp) _).setCell (by simp) _, (stay D (by omega) (by omega)).trans hD, (stay D2 (by omega) (by omega)).trans hD2⟩
theorem fin2 {w W : World} {D D2 : Nat} {x y : Value} (h : Fin w D D2 x y W) (hne : D ≠ D2) (l1 : w.heap.size + 3 ≤ D) (l2 : w.heap.size + 3 ≤ D2) :
    (W.putObj D2 (.deferred none)).heap[D]? = some (.deferred (some [])) ∧ ((W.putObj D2 (.deferred none)).putObj D (.deferred none)).cell? ⟨w.heap.size + 1, 0, none⟩ = some x ∧ ((W.putObj D2 (.deferred none)).putObj D (.deferred none)).cell? ⟨w.heap.size + 2, 0, none⟩ = some y ∧
      Below w.heap.size w ((W.putObj D2 (.deferred none)).putObj D (.deferred none)) := by
  obtain ⟨h1, h2, hb, hD, hD2⟩ := h
  have hD' : (W.putObj D2 (.deferred none)).heap[D]? = some (.deferred (some [])) := (World.putObj_heap_other hne).trans hD
  exact ⟨hD', cell_put hD' rfl (cell_put hD2 rfl ((row_cell h1 0).trans rfl)), cell_put hD' rfl (cell_put hD2 rfl ((row_cell h2 0).trans rfl)),
    (hb.trans (belowK_b (w := w) (Nat.le_refl _) W D2 _ (.deferred none) (by omega) hD2 rfl rfl)).trans (belowK_b (w := w) (Nat.le_refl _) _ D _ (.deferred none) (by omega) hD' rfl rfl)⟩
theorem blks_set {W : World} {base b n : Nat} {v x : Value} {L : List (List UInt8)} {cs : Array Value} {T : TypeId} (h : Blks W base v n L) (hr : W.heap[b]? = some (.cells cs T (0, 0))) (h1 : 43 ≠ T) (h2 : 5 ≠ T) : Blks (W.setCell ⟨b, 0, none⟩ x) base v n L := by
  refine h.kept (row := some b) (grown_set (grown_refl _ _) 0 _) ?_ (fun k cs e hk => ?_)
  · obtain ⟨ws', j1, _⟩ := h
    exact .inr (own_ne j1 hr h1)
  · injection e with e
    subst e
    rw [hr] at hk
    injection hk with hk
    injection hk with _ hk
    exact h2 hk.symm
theorem row_set2 {w W : World} {x : Value} {a c : Array Value} (_ : W.heap[w.heap.size + 1]? = some (.cells a 78 (0, 0))) (h2 : W.heap[w.heap.size + 2]? = some (.cells c 25 (0, 0))) : (W.setCell ⟨w.heap.size + 1, 0, none⟩ x).heap[w.heap.size + 2]? = some (.cells c 25 (0, 0)) :=
  (Below.heap_setCell W ⟨w.heap.size + 1, 0, none⟩ x (w.heap.size + 2) (by simp)).trans h2
theorem front_short {seq : Int} {ws : List Wr} {rs : List Int} (hW : okW seq ws = true) (hR : okR seq rs = true) (h256 : all256 ws = true) (b : List UInt8) (hb : b ∈ front seq ws rs) : b.length = 256 := by
  unfold front at hb
  rcases List.mem_append.1 hb with hb | hb
  · obtain ⟨i, hi, hb⟩ := List.mem_flatMap.1 hb
    have hm := List.all_eq_true.1 hW i hi
    rcases List.mem_cons.1 hb with rfl | hb
    · exact recBytes_len (recMay_iff.1 hm).2.1
    · obtain ⟨x, hx, rfl⟩ := List.mem_map.1 hb
      have h1 : x ∈ ws := List.mem_of_mem_drop (List.mem_of_mem_take hx)
      have := List.all_eq_true.1 h256 x h1
      unfold escW
      rw [escL_len]
      simpa using this
  · obtain ⟨i, hi, rfl⟩ := List.mem_map.1 hb
    exact recBytes_len (recMay_iff.1 (List.all_eq_true.1 hR i hi)).2.1
theorem flat_clamp {α : Type} (f : Nat → List α) (N : Nat) : (List.range N).flatMap (fun i => f (min i (N - 1))) = (List.range N).flatMap f := by
  have : ∀ l : List Nat, (∀ i ∈ l, i < N) → l.flatMap (fun i => f (min i (N - 1))) = l.flatMap f := by
    intro l
    induction l with
    | nil => intro _; rfl
    | cons x l ih =>
      intro h
      have hx := h x (by simp)
      rw [List.flatMap_cons, List.flatMap_cons, ih (fun i hi => h i (List.mem_cons_of_mem _ hi)), Nat.min_eq_left (by omega)]
  exact this _ (fun i hi => List.mem_range.1 hi)
theorem map_clamp {α : Type} (f : Nat → α) (N : Nat) : (List.range N).map (fun i => f (min i (N - 1))) = (List.range N).map f :=
  List.map_congr_left fun i hi => by rw [Nat.min_eq_left (by have := List.mem_range.1 hi; omega)]
theorem flat_range (seq : Int) (ws : List Wr) : (List.range (rowsN ws.length 48)).flatMap (fun i => layD seq (JLayM.part ws 48 (min i (rowsN ws.length 48 - 1)))) = frontW seq ws (rowsN ws.length 48) :=
  flat_clamp (fun i => layD seq (JLayM.part ws 48 i)) (rowsN ws.length 48)
theorem map_range (seq : Int) (rs : List Int) : (List.range (rowsN rs.length 60)).map (fun i => recBytes (revR seq (JLayM.part rs 60 (min i (rowsN rs.length 60 - 1))))) = frontR seq rs (rowsN rs.length 60) :=
  map_clamp (fun i => recBytes (revR seq (JLayM.part rs 60 i))) (rowsN rs.length 60)
theorem sl_part {w : World} {B : Nat} {a : Addr} {l : List Int} (h : Sl w B (some a) (l.map i64v)) (sz i : Nat) : Sl w B (some (a.add (i * sz))) ((JLayM.part l sz i).map i64v) := fun j u hu => by
  have hj : j < (JLayM.part l sz i).length := by
    have := (List.getElem?_eq_some_iff.1 hu).1
    simpa using this
  have hj' : i * sz + j < l.length := by rw [JLayM.part_len] at hj; omega
  obtain ⟨a', e, hb, hc⟩ := h (i * sz + j) u (by
    rw [← hu]
    simp only [JLayM.part, List.getElem?_map, List.getElem?_take, List.getElem?_drop]
    rw [if_pos (by rw [JLayM.part_len] at hj; omega)])
  injection e with e
  subst e
  exact ⟨_, rfl, by rw [addr_add_block]; exact hb, by rw [addr_add_add]; exact hc⟩
theorem okW_yes {seq : Int} {ws : List Wr} (h : ∀ i ∈ List.range (rowsN ws.length 48), recMay (descR seq (JLayM.part ws 48 (min i (rowsN ws.length 48 - 1)))) = true) : okW seq ws = true := by
  unfold okW
  rw [List.all_eq_true]
  intro i hi
  have := h i hi
  rwa [Nat.min_eq_left (by have := List.mem_range.1 hi; omega)] at this
set_option maxRecDepth 100000 in
set_option maxHeartbeats 8000000 in
theorem Lay_in (seq : Int) (ws : List Wr) (rs : List Int) (nw nr : Nat) (hnw : ws.length = nw) (hnr : rs.length = nr) (hw : nw ≤ 4096) (hr : nr ≤ 4096) (h256 : all256 ws = true) (B : Nat) (A A' : Option Addr) (c c' : Nat) (hc : nw ≤ c) (hc' : nr ≤ c') (w : World) (hB : B ≤ w.heap.size)
    (hA : Wrs w B A ws) (hA' : Sl w B A' (rs.map i64v)) (hT : Tab w) :
    CallsIn Fence.wide 6 Tryz.prog 116 #[.int .i64 seq, .slice A nw c, .slice A' nr c'] w (LayR seq ws rs w) := by
  have HA := Lib.hid hA
  have HA' := Lib.hid hA'
  have HT := Lib.hid hT
  have HNW := Lib.hid hnw
  have HNR := Lib.hid hnr
  have H256 := Lib.hid h256
  have htl := Tab.lt hT
  obtain ⟨i0, hi0, hz0, hz1, hz2⟩ := info_parts elemS_info
  have d0 : decide ((4096 : Int) < (nw : Int)) = false := by simp; omega
  have d0' : decide (4096 < nw) = false := by simp; omega
  have d1 : decide ((4096 : Int) < (nr : Int)) = false := by simp; omega
  have d1' : decide (4096 < nr) = false := by simp; omega
  have HC := Lib.hid (containsW_any nw ws hnw false (by rw [h256]; rfl) B A c (box3 w seq) (by simp [box3]; omega) (((hA.below (below_box _) hB).below (below_box _) (by simp; omega)).below (below_box _) (by simp; omega)) hw)
  unfold box3 at HC
  clear hA hA' hT hnw hnr h256
  refine callsIn_of_wp_marks Tryz.func116 rfl trivial ?_ rfl
  simp only [Tryz.ntmps116, List.size_toArray, List.length_cons, List.length_nil, Nat.reduceAdd, Nat.reduceSub, Array.replicate_succ, Array.replicate_zero, List.push_toArray, List.append_toArray, List.nil_append, List.cons_append]
  gi_wp2_with fail
  refine ⟨trivial, (callsIn_wide.2 HC.out).mono ?_⟩
  rintro e w1 ⟨rfl, hb1⟩
  have HB1 := Lib.hid (((((below_box (w := w) (.cells #[.int .i64 seq] 3)).alloc (by first | (simp; omega) | simp) (.cells #[.slice none 0 0] 78)).alloc (by first | (simp; omega) | simp) (.cells #[.int .i64 0] 25))).trans (hb1.mono (by first | (simp; omega) | simp)))
  have hs3 : w.heap.size + 3 ≤ w1.heap.size := by have := hb1.size; simp at this; omega
  have HQ : Hid (w1.heap[w.heap.size]? = some (.cells #[.int .i64 seq] 3 (0, 0)) ∧ w1.heap[w.heap.size + 1]? = some (.cells #[.slice none 0 0] 78 (0, 0)) ∧ w1.heap[w.heap.size + 2]? = some (.cells #[.int .i64 0] 25 (0, 0))) := Lib.hid (by
    have n0 := row_new w (.cells #[.int .i64 seq] 3)
    have n1 := row_new (w.alloc (.cells #[.int .i64 seq] 3)) (.cells #[.slice none 0 0] 78)
    have n2 := row_new ((w.alloc (.cells #[.int .i64 seq] 3)).alloc (.cells #[.slice none 0 0] 78)) (.cells #[.int .i64 0] 25)
    simp only [World.size_alloc, Nat.add_assoc, Nat.reduceAdd] at n1 n2
    exact ⟨row_below (row_alloc (row_alloc n0 _) _) hb1 (by first | (simp; omega) | simp), row_below (row_alloc n1 _) hb1 (by first | (simp; omega) | simp), row_below n2 hb1 (by first | (simp; omega) | simp)⟩)
  have HI0 : Hid (LI seq ws w w1.heap.size nw c A [] (((w1.alloc (.cells #[.slice none 0 0] 78)).alloc (.cells #[.slice A nw c] 51)).alloc (.cells #[.int .i64 48] 3))) := Lib.hid (by
    obtain ⟨p0, p1, p2⟩ := HQ.out
    have n0 := row_new w1 (.cells #[.slice none 0 0] 78)
    have n1 := row_new (w1.alloc (.cells #[.slice none 0 0] 78)) (.cells #[.slice A nw c] 51)
    have n2 := row_new ((w1.alloc (.cells #[.slice none 0 0] 78)).alloc (.cells #[.slice A nw c] 51)) (.cells #[.int .i64 48] 3)
    simp only [World.size_alloc, Nat.add_assoc, Nat.reduceAdd] at n1 n2
    exact ⟨row_alloc (row_alloc (row_alloc p0 _) _) _, row_alloc (row_alloc (row_alloc p1 _) _) _, row_alloc (row_alloc (row_alloc p2 _) _) _, ⟨_, _, row_alloc (row_alloc n0 _) _, Blks.nil _ _⟩, by simp, ((HB1.out.alloc (by omega) _).alloc (by first | (simp; omega) | simp) _).alloc (by first | (simp; omega) | simp) _, row_alloc n1 _, n2⟩)
  clear hb1 HC
  gi_wp2_with fail
  refine ⟨trivial, (chunkW_make 5 A nw c 48 (by decide) _).mono ?_⟩
  rintro e w' ⟨rfl, rfl⟩
  have HST := Lib.hid (chunkW_stops 5 (by omega) (w1.heap.size + 1) (w1.heap.size + 2) nw 48 c A (by decide) (by decide) hw hc (by
    cases A with
    | none => exact .inl (by have := HNW.out; cases ws with | nil => simpa using this.symm | cons x l => obtain ⟨a, _, _, e, _⟩ := HA.out 0 (by simp); cases e)
    | some a => exact .inr ⟨a, rfl⟩) _ HI0.out.s1 HI0.out.s2)
  have hsz0 : w1.heap.size + 3 ≤ (((w1.alloc (.cells #[.slice none 0 0] 78)).alloc (.cells #[.slice A nw c] 51)).alloc (.cells #[.int .i64 48] 3)).heap.size := by simp
  gi_wp2_with fail
  simp only [Nat.add_assoc, Nat.reduceAdd]
  generalize (((w1.alloc (.cells #[.slice none 0 0] 78)).alloc (.cells #[.slice A nw c] 51)).alloc (.cells #[.int .i64 48] 3)) = W0 at *
  clear htl
  refine wpIn_rangeFunc_ownH rfl (by omega) (gf := 186) (lb := #[.pointer (some ⟨w1.heap.size + 1, 0, none⟩), .pointer (some ⟨w1.heap.size + 2, 0, none⟩)]) rfl trivial (enters_of Tryz.func186 (by kernel_rfl) rfl)
    HST.out CKeep.trans (fun W l o o' _ h hc _ => CKeep.turn W l o o' h hc) (Below.refl _ _) (fun _ => rfl) (LI seq ws w w1.heap.size nw c A) (LX seq ws w) ?hI ?hIx HI0.out (UA1 seq w.heap.size w1.heap.size nw nr c c' A A' (.func (.func 186) #[] #[.pointer (some ⟨w1.heap.size + 1, 0, none⟩), .pointer (some ⟨w1.heap.size + 2, 0, none⟩)])) ?hAx ?assign ?body ?done ?stop
  case hI =>
    rintro pre X Y row ⟨q0, q1, q2, ⟨v, n, hb, hB⟩, hm, hbel, s1, s2⟩ hg hr
    have hr2 : ∀ r, row = some r → ∃ o : Obj, X.heap[r]? = some o ∧ o.isCells = false := fun r e => (hr r e).2
    refine ⟨cells_own q0 hg hr2, cells_own q1 hg hr2, cells_own q2 hg hr2, ⟨v, n, cells_own hb hg hr2, hB.kept hg ?_ ?_⟩, hm, hbel.grown hg hbel.size (fun r e => by have := (hr r e).1; omega), cells_own s1 hg hr2, cells_own s2 hg hr2⟩
    · obtain ⟨vs, a1, _⟩ := hB
      rcases a1.2 with ⟨rfl, _⟩ | ⟨gg, cap, cur, rfl, _, hgb, _⟩
      · exact .inl rfl
      · refine .inr fun e' => ?_
        obtain ⟨o, ho, hc⟩ := hr2 gg (by simpa [Value.ownBlock] using e'.symm)
        rw [hgb] at ho; cases ho; cases hc
    · intro k cs e hk
      obtain ⟨o, ho, hc⟩ := hr2 k e
      rw [hk] at ho; cases ho; cases hc
  case hIx =>
    rintro cd pre X Y row ⟨e1, e2, q1, q2, hbel⟩ hg hr
    have hr2 : ∀ r, row = some r → ∃ o : Obj, X.heap[r]? = some o ∧ o.isCells = false := fun r e => (hr r e).2
    exact ⟨e1, e2, cells_own q1 hg hr2, cells_own q2 hg hr2, hbel.grown hg hbel.size (fun r e => by have := (hr r e).1; omega)⟩
  case hAx => intro x a'; exact fun _ _ _ _ hs _ _ => hs
  case assign =>
    intro lo pre x W K hi hK
    simp only [partV]
    gi_wp2
    exact hK _ _ (KeepsFrom.refl _ _) (CKeep.refl _ _) hi rfl
  case body =>
    rintro lo pre x a' W hlo - ⟨q0, q1, q2, ⟨v, n, hb, hBk⟩, hm, hbel, s1, s2⟩ rfl hlt
    have hN : 0 < rowsN nw 48 := by omega
    obtain ⟨hN1, hN2⟩ := rowsN_mul nw 48 (by decide)
    obtain ⟨kk, hkk⟩ : ∃ kk, min x (rowsN nw 48 - 1) = kk := ⟨_, rfl⟩
    have hkN : kk < rowsN nw 48 := by omega
    have hk48 := hN2 kk hkN
    obtain ⟨m, hmm⟩ : ∃ m, min 48 (nw - kk * 48) = m := ⟨_, rfl⟩
    have hm1 : 1 ≤ m := by omega
    have hm2 : m ≤ 48 := by omega
    obtain ⟨a, rfl⟩ : ∃ a, A = some a := by
      obtain ⟨a, _, _, e, _⟩ := HA.out 0 (by rw [HNW.out]; omega)
      exact ⟨a, e⟩
    obtain ⟨C, hC⟩ : ∃ C, JLayM.part ws 48 kk = C := ⟨_, rfl⟩
    have hCl : C.length = m := by rw [← hC, JLayM.part_len, HNW.out]; exact hmm
    have HWP : Hid (Wrs W B (some (a.add (kk * 48 * 2))) C) := Lib.hid (by rw [← hC]; exact ((HA.out.below hbel hB)).part 48 kk)
    have HCD : Hid (∀ y ∈ C, y.data.length = 256) := Lib.hid (fun y hy => by
      rw [← hC] at hy
      have h1 : y ∈ ws := List.mem_of_mem_drop (List.mem_of_mem_take hy)
      have := List.all_eq_true.1 H256.out y h1
      simpa using this)
    have HPV : Hid (pvW (some a) nw x = .slice (some (a.add (kk * 48 * 2))) m m) := Lib.hid (by unfold pvW; rw [hkk, hmm]; rfl)
    have HKC : Hid (∀ (q : List Nat), (q ++ [x]).flatMap (fun i => layD seq (JLayM.part ws 48 (min i (rowsN ws.length 48 - 1)))) = q.flatMap (fun i => layD seq (JLayM.part ws 48 (min i (rowsN ws.length 48 - 1)))) ++ layD seq C) := Lib.hid (fun q => by
      rw [List.flatMap_append]
      simp only [List.flatMap_cons, List.flatMap_nil, List.append_nil]
      rw [HNW.out, hkk, hC])
    have HNO := Lib.hid (fun h => okW_no (seq := seq) (ws := ws) (k := kk) (by rw [HNW.out]; exact hkN) (by rw [hC]; exact h))
    have HKX : Hid (JLayM.part ws 48 (min x (rowsN ws.length 48 - 1)) = C) := Lib.hid (by rw [HNW.out, hkk, hC])
    rw [HPV.out]
    unfold tm1
    have Q0 := Lib.hid q0
    have Q1 := Lib.hid q1
    have Q2 := Lib.hid q2
    have QB := Lib.hid hb
    have HBK := Lib.hid hBk
    have HM := Lib.hid hm
    have HBL := Lib.hid hbel
    have S1 := Lib.hid s1
    have S2 := Lib.hid s2
    have hsW := hbel.size
    have hbW := row_lt hb
    clear q0 q1 q2 hb hBk hm hbel s1 s2 hN1 hN2 hC hkk hmm hN
    have htl := Tab.lt HT.out
    gi_wp2_with fail
    refine ⟨trivial, ((callsIn_wide.2 (escaped_any m C hCl B (some (a.add (kk * 48 * 2))) m W (by omega) HWP.out (by omega) HCD.out)).inRound lo).mono ?_⟩
    rintro e W1 ⟨v1, v2, rfl, hE1, hB2, hb1⟩
    obtain ⟨A1, c1, rfl, hE, _⟩ := entsOut hE1 (by rw [List.length_map]; exact hCl)
    obtain ⟨g2, c2, rfl, hB2'⟩ : ∃ g2 c2, v2 = .slice (some ⟨g2, 0, none⟩) m c2 ∧ Blks W1 W.heap.size (.slice (some ⟨g2, 0, none⟩) m c2) m (C.map escW) := by
      obtain ⟨vs, a1, a2⟩ := hB2
      obtain ⟨g, cc, rfl, _⟩ := a1.form (by omega)
      exact ⟨g, cc, rfl, vs, a1, a2⟩
    have HE := Lib.hid hE
    have HC2 := Lib.hid hB2'
    have R0 := Lib.hid (row_below Q0.out hb1 (row_lt Q0.out))
    have R1 := Lib.hid (row_below Q1.out hb1 (row_lt Q1.out))
    have R2 := Lib.hid (row_below Q2.out hb1 (row_lt Q2.out))
    have RB := Lib.hid (row_below QB.out hb1 (row_lt QB.out))
    have T1 := Lib.hid (row_below S1.out hb1 (row_lt S1.out))
    have T2 := Lib.hid (row_below S2.out hb1 (row_lt S2.out))
    have HBK1 := Lib.hid (HBK.out.below hb1)
    have HB1' := Lib.hid (below_up HBL.out hb1 hsW)
    have HKO1 := Lib.hid (ko_below hb1)
    have hs1 := hb1.size
    have y0 : W1.cell? ⟨w.heap.size, 0, none⟩ = some (.int .i64 seq) := (row_cell R0.out 0).trans rfl
    clear hE1 hB2 hE hB2' hb1
    gi_wp2_with fail
    refine ⟨trivial, ((callsIn_wide.2 (PackD_at seq C m hCl W1.heap.size A1 c1 W1 (Nat.le_refl _) HE.out (by omega) (Tab.below HT.out HB1'.out htl))).inRound lo).mono ?_⟩
    rintro e W2 ⟨hyes, hno, hb2⟩
    have hb2' : Below W1.heap.size W1 W2 := hb2
    have P0 := Lib.hid (row_below R0.out hb2' (row_lt R0.out))
    have P1 := Lib.hid (row_below R1.out hb2' (row_lt R1.out))
    have P2 := Lib.hid (row_below R2.out hb2' (row_lt R2.out))
    have PB := Lib.hid (row_below RB.out hb2' (row_lt RB.out))
    have U1 := Lib.hid (row_below T1.out hb2' (row_lt T1.out))
    have U2 := Lib.hid (row_below T2.out hb2' (row_lt T2.out))
    have HBK2 := Lib.hid (HBK1.out.below hb2')
    have HC3 := Lib.hid (HC2.out.below hb2')
    have HB3' := Lib.hid (below_up HB1'.out hb2' HB1'.out.size)
    have HKO2 := Lib.hid (HKO1.out.trans (ko_below hb2'))
    have hs2 : W1.heap.size ≤ W2.heap.size := hb2'.size
    have z1 : W2.cell? ⟨w.heap.size + 1, 0, none⟩ = some (.slice none 0 0) := (row_cell P1.out 0).trans rfl
    have z2 : W2.cell? ⟨w.heap.size + 2, 0, none⟩ = some (.int .i64 0) := (row_cell P2.out 0).trans rfl
    have zb : W2.cell? ⟨w1.heap.size, 0, none⟩ = some v := (row_cell PB.out 0).trans rfl
    have f1 : ∀ i, W2.frozen? ⟨w.heap.size + 1, i, none⟩ = false := fun i => row_free P1.out i
    have f2 : ∀ i, W2.frozen? ⟨w.heap.size + 2, i, none⟩ = false := fun i => row_free P2.out i
    have fb : ∀ i, W2.frozen? ⟨w1.heap.size, i, none⟩ = false := fun i => row_free PB.out i
    clear hb2 hb2' y0
    cases hmay : recMay (descR seq C) with
    | false =>
      obtain rfl := hno hmay
      have HNN := Lib.hid (HNO.out hmay)
      clear hyes hno hmay
      gi_wp2
      exact ⟨((HKO2.out.trans (KeepsOthers.setCell _ _ _)).trans (KeepsOthers.setCell _ _ _)).from _, rfl, HNN.out,
        (Below.heap_setCell _ ⟨w.heap.size + 2, 0, none⟩ _ (w.heap.size + 1) (by simp)).trans (row_set P1.out 0 (.slice none 0 0)),
        row_set ((Below.heap_setCell W2 ⟨w.heap.size + 1, 0, none⟩ (.slice none 0 0) (w.heap.size + 2) (by simp)).trans P2.out) 0 (.int .i64 22),
        (HB3'.out.setCell (by simp) _).setCell (by simp) _⟩
    | true =>
      obtain ⟨g3, rfl, hg3, hR3⟩ := hyes hmay
      have HMY := Lib.hid hmay
      have HR3 := Lib.hid hR3
      have hg3l := hR3.lt
      clear hyes hno hmay hR3
      have hvlt : ∀ k, v.ownBlock = some k → k < W.heap.size := fun k e => by
        obtain ⟨vs, a1, _⟩ := HBK.out
        exact (a1.lt k e).2
      have HBA := Lib.hid (HBK2.out.alloc (.cells #[.slice (some ⟨g3, 0, none⟩) 256 256] 43))
      have HCA := Lib.hid (HC3.out.alloc (.cells #[.slice (some ⟨g3, 0, none⟩) 256 256] 43))
      obtain ⟨vs, ha1, ha2, ha3, ha4, ha5⟩ := HBA.out
      have HA1 := Lib.hid ha1
      have HA5 := Lib.hid ha5
      have HLN := Lib.hid ha2
      have hbl : (recBytes (descR seq C)).length = 256 := recBytes_len (recMay_iff.1 HMY.out).2.1
      have HOB : Hid (WAny.Own (W2.alloc (.cells #[.slice (some ⟨g3, 0, none⟩) 256 256] 43)) w.heap.size (.slice (some ⟨g3, 0, none⟩) 256 256) (recBytes (descR seq C))) := Lib.hid (.inr ⟨g3, 256, [], by rw [hbl], by omega, by omega, HR3.out.alloc _⟩)
      have HBB := Lib.hid (HB3'.out.alloc HB3'.out.size (.cells #[.slice (some ⟨g3, 0, none⟩) 256 256] 43))
      have hsB := HBB.out.size
      have NB := Lib.hid (row_alloc PB.out (.cells #[.slice (some ⟨g3, 0, none⟩) 256 256] 43))
      have hnl : n ≤ 4300 := by
        have h1 := flat_le (fun i => layD seq (JLayM.part ws 48 (min i (rowsN ws.length 48 - 1)))) 49 (fun i => layD_len seq ws _) pre
        rw [HLN.out] at h1
        have h2 : rowsN nw 48 ≤ 87 := by unfold rowsN; split <;> omega
        omega
      clear ha1 ha2 ha5 hbl
      obtain ⟨us, hu1, hu2, hu3, hu4, hu5⟩ := HCA.out
      have hg2 : W.heap.size ≤ g2 := own_ge hu1 g2 rfl
      have hg2v : Value.ownBlock (.slice (some ⟨g2, 0, none⟩) m c2) ≠ v.ownBlock := fun e => by
        have := hvlt g2 (by rw [← e]; rfl)
        omega
      clear hu1 hu5
      gi_wp2_with (first
        | (gi_at_builtin; (refine wpListIn_append_own_at _ rfl (.tmp 49) (.tmp 51) 78 rfl w.heap.size 43 i0 _ 1 24 underS hi0 hz0 hz1 hz2 rfl (by decide) v n vs rfl HA1.out ⟨W2.heap.size, 0, none⟩ 1 1 [.slice (some ⟨g3, 0, none⟩) 256 256] rfl rfl (World.news_of_block (cs := #[.slice (some ⟨g3, 0, none⟩) 256 256]) (t := 43) (fr := (0, 0)) (row_new W2 _)) (by simp [Value.oneCell']) (by unfold maxLen; omega) (by omega) hsB ?_); intro v3 W3 h1 h2 h3 h4
           have hnt : ∀ (j : Nat) (cs : Array Value), v.ownBlock = some j → (W2.alloc (.cells #[.slice (some ⟨g3, 0, none⟩) 256 256] 43)).heap[j]? ≠ some (.cells cs 5 (0, 0)) := fun j cs e hk => own_ne HA1.out hk (by decide) e
           have HJ1 := Lib.hid (Blks.join HA1.out HLN.out ha3 ha4 HA5.out (M := [recBytes (descR seq C)]) (us := [.slice (some ⟨g3, 0, none⟩) 256 256]) rfl rfl (by simp [Value.oneCell']) (fun i hi => by
             obtain rfl : i = 0 := by simpa using hi
             exact ⟨_, rfl, HOB.out⟩) (Nat.le_refl _) h1 h2)
           have HC4 := Lib.hid (HCA.out.kept h2 (.inr hg2v) hnt)
           have stay1 : ∀ (j : Nat) (cs : Array Value) (T : TypeId), 43 ≠ T → W2.heap[j]? = some (.cells cs T (0, 0)) → W3.heap[j]? = some (.cells cs T (0, 0)) := fun j cs T hT h => (h2.block j (by have := row_lt h; simp; omega) (Ne.symm (own_ne HA1.out (row_alloc h _) hT))).trans (row_alloc h _)
           have hB4 := HBB.out.grown h2 hsB (fun k hk => own_ge HA1.out k hk)
           have hKO3 : KeepsOthers W W3 := (HKO2.out.trans (KeepsOthers.alloc _ _)).trans (KeepsOthers.of_grownBy h2 fun j o e ho => by
             rcases HA1.out.2 with ⟨rfl, _⟩ | ⟨k, cap, cur, rfl, _, hk, _⟩
             · simp [Value.ownBlock] at e
             · simp only [Value.ownBlock, Option.some.injEq] at e
               subst e
               rw [hk] at ho
               cases ho
               rfl)
           have X0 := Lib.hid (stay1 _ _ _ (by decide) P0.out)
           have X1 := Lib.hid (stay1 _ _ _ (by decide) P1.out)
           have X2 := Lib.hid (stay1 _ _ _ (by decide) P2.out)
           have XB := Lib.hid (stay1 _ _ _ (by decide) PB.out)
           have Y1 := Lib.hid (stay1 _ _ _ (by decide) U1.out)
           have Y2 := Lib.hid (stay1 _ _ _ (by decide) U2.out)
           have HB4 := Lib.hid hB4
           have HKO3 := Lib.hid hKO3
           have hs4 := hB4.size
           obtain ⟨vs1, k1, k2, k3, k4, k5⟩ := HJ1.out
           obtain ⟨us1, m1, m2, m3, m4, m5⟩ := HC4.out
           have K1 := Lib.hid k1
           have K2 := Lib.hid k2
           have K5 := Lib.hid k5
           have M1 := Lib.hid m1
           have M2 := Lib.hid m2
           have M5 := Lib.hid m5
           have hcm := m1.cells (g := g2) rfl
           clear h1 h2 h3 h4 hnt stay1 hB4 hKO3 k1 k2 k5 m1 m2 m5)
        | (gi_at_builtin; (refine wpListIn_append_own_at _ rfl (.tmp 52) (.tmp 53) 78 rfl w.heap.size 43 i0 _ 1 24 underS hi0 hz0 hz1 hz2 rfl (by decide) v3 (n + 1) vs1 rfl K1.out ⟨g2, 0, none⟩ m c2 us1 rfl (by omega) hcm m4 (by unfold maxLen; omega) (by omega) hs4 ?_); intro v4 W4 h1 h2 h3 h4
           obtain ⟨g6, c6, rfl, _⟩ := h1.form (by omega)
           have HJ2 := Lib.hid (Blks.join K1.out K2.out k3 k4 K5.out M2.out m3 m4 M5.out hsW h1 h2)
           have stay2 : ∀ (j : Nat) (cs : Array Value) (T : TypeId), 43 ≠ T → W3.heap[j]? = some (.cells cs T (0, 0)) → W4.heap[j]? = some (.cells cs T (0, 0)) := fun j cs T hT h => (h2.block j (row_lt h) (Ne.symm (own_ne K1.out h hT))).trans h
           have hB5 := HB4.out.grown h2 hs4 (fun k hk => own_ge K1.out k hk)
           have hKO4 : KeepsOthers W W4 := HKO3.out.trans (KeepsOthers.of_grownBy h2 fun j o e ho => by
             rcases K1.out.2 with ⟨rfl, _⟩ | ⟨k, cap, cur, rfl, _, hk, _⟩
             · simp [Value.ownBlock] at e
             · simp only [Value.ownBlock, Option.some.injEq] at e
               subst e
               rw [hk] at ho
               cases ho
               rfl)
           have Z0 := Lib.hid (stay2 _ _ _ (by decide) X0.out)
           have Z1 := Lib.hid (stay2 _ _ _ (by decide) X1.out)
           have Z2 := Lib.hid (stay2 _ _ _ (by decide) X2.out)
           have ZB := Lib.hid (stay2 _ _ _ (by decide) XB.out)
           have V1 := Lib.hid (stay2 _ _ _ (by decide) Y1.out)
           have V2 := Lib.hid (stay2 _ _ _ (by decide) Y2.out)
           have HB5 := Lib.hid hB5
           have HKO4 := Lib.hid hKO4
           have zb4 : W4.cell? ⟨w1.heap.size, 0, none⟩ = some v := (row_cell ZB.out 0).trans rfl
           have fb4 : W4.frozen? ⟨w1.heap.size, 0, none⟩ = false := row_free ZB.out 0
           clear h1 h2 h3 h4 stay2 hB5 hKO4))
      refine ⟨(HKO4.out.trans (KeepsOthers.setCell _ _ _)).from _, ?_, ?_⟩
      · rintro k o (rfl | rfl) ho -
        · rw [S1.out] at ho
          cases ho
          exact (Below.heap_setCell W4 ⟨w1.heap.size, 0, none⟩ _ (w1.heap.size + 1) (by simp)).trans V1.out
        · rw [S2.out] at ho
          cases ho
          exact (Below.heap_setCell W4 ⟨w1.heap.size, 0, none⟩ _ (w1.heap.size + 2) (by simp)).trans V2.out
      · refine ⟨(Below.heap_setCell W4 ⟨w1.heap.size, 0, none⟩ _ w.heap.size (by simp only; omega)).trans Z0.out, (Below.heap_setCell W4 ⟨w1.heap.size, 0, none⟩ _ (w.heap.size + 1) (by simp only; omega)).trans Z1.out, (Below.heap_setCell W4 ⟨w1.heap.size, 0, none⟩ _ (w.heap.size + 2) (by simp only; omega)).trans Z2.out, ⟨.slice (some ⟨g6, 0, none⟩) (n + 1 + m) c6, n + 1 + m, row_set ZB.out 0 (.slice (some ⟨g6, 0, none⟩) (n + 1 + m) c6), ?_⟩, ?_, HB5.out.setCell (by simp only; omega) _, (Below.heap_setCell W4 ⟨w1.heap.size, 0, none⟩ _ (w1.heap.size + 1) (by simp)).trans V1.out, (Below.heap_setCell W4 ⟨w1.heap.size, 0, none⟩ _ (w1.heap.size + 2) (by simp)).trans V2.out⟩
        · rw [HKC.out]
          have hj := HJ2.out
          rw [show ∀ (L M : List (List UInt8)) (r : List UInt8), (L ++ [r]) ++ M = L ++ r :: M from fun L M r => by simp] at hj
          refine hj.kept (row := some w1.heap.size) (grown_set (grown_refl _ _) 0 _) ?_ (fun k cs e hk => ?_)
          · obtain ⟨ws', j1, _⟩ := hj
            exact .inr (own_ne j1 ZB.out (by decide))
          · injection e with e
            subst e
            rw [ZB.out] at hk
            injection hk with hk
            injection hk with _ hk
            exact absurd hk (by decide)
        · intro i hi
          rcases List.mem_append.1 hi with hi | hi
          · exact HM.out i hi
          · rw [List.mem_singleton.1 hi, HKX.out]; exact HMY.out
  case done =>
    rintro D ys W hD rfl ⟨q0, q1, q2, ⟨v, n, hb, hBk⟩, hm, hbel, _, _⟩ hK
    rw [← HNW.out, flat_range] at hBk
    rw [← HNW.out] at hm
    have HOKW := Lib.hid (okW_yes hm)
    have HFW : Hid (Blks W w.heap.size v n (frontW seq ws (rowsN ws.length 48))) := Lib.hid hBk
    have Q0 := Lib.hid q0
    have Q1 := Lib.hid q1
    have Q2 := Lib.hid q2
    have QB := Lib.hid hb
    have HBL := Lib.hid hbel
    have HK := Lib.hid hK
    have hDW := row_lt hK
    have hsW := hbel.size
    have hbW := row_lt hb
    clear q0 q1 q2 hb hBk hm hbel hK HI0 HST HQ
    gi_wp2_with fail
    refine ⟨trivial, (chunkI_make 5 A' nr c' 60 (by decide) _).mono ?_⟩
    rintro e w' ⟨rfl, rfl⟩
    have HJ0 : Hid (LJ seq ws rs w w1.heap.size W.heap.size nr c' D A' [] ((W.alloc (.cells #[.slice A' nr c'] 55)).alloc (.cells #[.int .i64 60] 3))) := Lib.hid (by
      have n0 := row_new W (.cells #[.slice A' nr c'] 55)
      have n1 := row_new (W.alloc (.cells #[.slice A' nr c'] 55)) (.cells #[.int .i64 60] 3)
      simp only [World.size_alloc] at n1
      exact ⟨row_alloc (row_alloc Q0.out _) _, row_alloc (row_alloc Q1.out _) _, row_alloc (row_alloc Q2.out _) _, ⟨v, n, row_alloc (row_alloc QB.out _) _, by simpa using (HFW.out.alloc _).alloc _⟩, by simp, (HBL.out.alloc hsW _).alloc (by simp; omega) _, row_alloc n0 _, n1, row_alloc (row_alloc HK.out _) _⟩)
    have HST := Lib.hid (chunkI_stops 5 (by omega) W.heap.size (W.heap.size + 1) nr 60 c' A' (by decide) (by decide) hr hc' (by
      cases A' with
      | none => exact .inl (by have := HNR.out; cases rs with | nil => simpa using this.symm | cons x l => obtain ⟨a, e, _⟩ := HA'.out 0 (i64v x) (by simp); cases e)
      | some a => exact .inr ⟨a, rfl⟩) _ HJ0.out.s1 HJ0.out.s2)
    have hsz1 : W.heap.size + 2 ≤ ((W.alloc (.cells #[.slice A' nr c'] 55)).alloc (.cells #[.int .i64 60] 3)).heap.size := by simp
    gi_wp2_with fail
    generalize ((W.alloc (.cells #[.slice A' nr c'] 55)).alloc (.cells #[.int .i64 60] 3)) = W0' at *
    obtain ⟨b1, hb1e⟩ : ∃ b1, W.heap.size = b1 := ⟨_, rfl⟩
    rw [hb1e] at HJ0 HST hsz1 ⊢
    have hbb : w1.heap.size < b1 := by omega
    have hDb : D < b1 := by omega
    have hsb : w.heap.size ≤ b1 := by omega
    have hwD : w.heap.size + 3 ≤ D := by omega
    clear hb1e HFW Q0 Q1 Q2 QB HBL HK hDW hsW hbW
    have htl := Tab.lt HT.out
    refine wpIn_rangeFunc_ownH rfl (by omega) (gf := 188) (lb := #[.pointer (some ⟨b1, 0, none⟩), .pointer (some ⟨b1 + 1, 0, none⟩)]) rfl trivial (enters_of Tryz.func188 (by kernel_rfl) rfl)
      HST.out CKeep.trans (fun W l o o' _ h hc _ => CKeep.turn W l o o' h hc) (Below.refl _ _) (fun _ => rfl) (LJ seq ws rs w w1.heap.size b1 nr c' D A') (LX2 seq rs w D) ?hI2 ?hIx2 HJ0.out (UA2 seq w.heap.size w1.heap.size nw nr c c' A A' (.func (.func 186) #[] #[.pointer (some ⟨w1.heap.size + 1, 0, none⟩), .pointer (some ⟨w1.heap.size + 2, 0, none⟩)]) (.func (.func 188) #[] #[.pointer (some ⟨b1, 0, none⟩), .pointer (some ⟨b1 + 1, 0, none⟩)])) ?hAx2 ?assign2 ?body2 ?done2 ?stop2
    case hI2 =>
      rintro pre X Y row ⟨q0, q1, q2, ⟨v, n, hb, hB⟩, hm, hbel, s1, s2, dfr⟩ hg hr
      have hr2 : ∀ r, row = some r → ∃ o : Obj, X.heap[r]? = some o ∧ o.isCells = false := fun r e => (hr r e).2
      refine ⟨cells_own q0 hg hr2, cells_own q1 hg hr2, cells_own q2 hg hr2, ⟨v, n, cells_own hb hg hr2, hB.kept hg ?_ ?_⟩, hm, hbel.grown hg hbel.size (fun r e => by have := (hr r e).1; omega), cells_own s1 hg hr2, cells_own s2 hg hr2, (hg.block D (row_lt dfr) (fun e => by have := (hr D e.symm).1; omega)).trans dfr⟩
      · obtain ⟨vs, a1, _⟩ := hB
        rcases a1.2 with ⟨rfl, _⟩ | ⟨gg, cap, cur, rfl, _, hgb, _⟩
        · exact .inl rfl
        · refine .inr fun e' => ?_
          obtain ⟨o, ho, hc⟩ := hr2 gg (by simpa [Value.ownBlock] using e'.symm)
          rw [hgb] at ho; cases ho; cases hc
      · intro k cs e hk
        obtain ⟨o, ho, hc⟩ := hr2 k e
        rw [hk] at ho; cases ho; cases hc
    case hIx2 =>
      rintro cd pre X Y row ⟨e1, e2, q1, q2, hbel, dfr⟩ hg hr
      have hr2 : ∀ r, row = some r → ∃ o : Obj, X.heap[r]? = some o ∧ o.isCells = false := fun r e => (hr r e).2
      exact ⟨e1, e2, cells_own q1 hg hr2, cells_own q2 hg hr2, hbel.grown hg hbel.size (fun r e => by have := (hr r e).1; omega), (hg.block D (row_lt dfr) (fun e => by have := (hr D e.symm).1; omega)).trans dfr⟩
    case hAx2 => intro x a'; exact fun _ _ _ _ hs _ _ => hs
    case assign2 =>
      intro lo pre x W K hi hK
      simp only [partV]
      gi_wp2
      exact hK _ _ (KeepsFrom.refl _ _) (CKeep.refl _ _) hi rfl
    case body2 =>
      rintro lo pre x a' W hlo - ⟨q0, q1, q2, ⟨v, n, hb, hBk⟩, hm, hbel, s1, s2, dfr⟩ rfl hlt
      have hN : 0 < rowsN nr 60 := by omega
      obtain ⟨hN1, hN2⟩ := rowsN_mul nr 60 (by decide)
      obtain ⟨kk, hkk⟩ : ∃ kk, min x (rowsN nr 60 - 1) = kk := ⟨_, rfl⟩
      have hkN : kk < rowsN nr 60 := by omega
      have hk60 := hN2 kk hkN
      obtain ⟨m, hmm⟩ : ∃ m, min 60 (nr - kk * 60) = m := ⟨_, rfl⟩
      have hm1 : 1 ≤ m := by omega
      have hm2 : m ≤ 60 := by omega
      obtain ⟨a, rfl⟩ : ∃ a, A' = some a := by
        obtain ⟨a, e, _⟩ := HA'.out.i64 (k := 0) (by rw [HNR.out]; omega)
        exact ⟨a, e⟩
      obtain ⟨R, hR⟩ : ∃ R, JLayM.part rs 60 kk = R := ⟨_, rfl⟩
      have hRl : R.length = m := by rw [← hR, JLayM.part_len, HNR.out]; exact hmm
      have HRP : Hid (Sl W B (some (a.add (kk * 60))) (R.map i64v)) := Lib.hid (by rw [← hR]; exact sl_part (HA'.out.below_le hbel hB) 60 kk)
      have HPV : Hid (pvR (some a) nr x = .slice (some (a.add (kk * 60))) m m) := Lib.hid (by unfold pvR; rw [hkk, hmm]; rfl)
      have HKC : Hid (∀ (q : List Nat), frontW seq ws (rowsN ws.length 48) ++ (q ++ [x]).map (fun i => recBytes (revR seq (JLayM.part rs 60 (min i (rowsN rs.length 60 - 1))))) = (frontW seq ws (rowsN ws.length 48) ++ q.map (fun i => recBytes (revR seq (JLayM.part rs 60 (min i (rowsN rs.length 60 - 1)))))) ++ [recBytes (revR seq R)]) := Lib.hid (fun q => by
        rw [List.map_append, ← List.append_assoc]
        simp only [List.map_cons, List.map_nil]
        rw [HNR.out, hkk, hR])
      have HNO := Lib.hid (fun h => okR_no (seq := seq) (rs := rs) (k := kk) (by rw [HNR.out]; exact hkN) (by rw [hR]; exact h))
      have HKX : Hid (JLayM.part rs 60 (min x (rowsN rs.length 60 - 1)) = R) := Lib.hid (by rw [HNR.out, hkk, hR])
      rw [HPV.out]
      unfold tm2
      have Q0 := Lib.hid q0
      have Q1 := Lib.hid q1
      have Q2 := Lib.hid q2
      have QB := Lib.hid hb
      have QD := Lib.hid dfr
      have HBK := Lib.hid hBk
      have HM := Lib.hid hm
      have HBL := Lib.hid hbel
      have S1 := Lib.hid s1
      have S2 := Lib.hid s2
      have hsW := hbel.size
      have hbW := row_lt hb
      have y0 : W.cell? ⟨w.heap.size, 0, none⟩ = some (.int .i64 seq) := (row_cell q0 0).trans rfl
      clear q0 q1 q2 hb hBk hm hbel s1 s2 hN1 hN2 hR hkk hmm hN dfr
      -- BODY2
      cases hmay : recMay (revR seq R) with
      | false =>
        have HMY := Lib.hid hmay
        have HNN := Lib.hid (HNO.out hmay)
        clear hmay
        gi_wp2_with fail
        refine JRound.region_in (by kernel_rfl) (by kernel_rfl) (by rintro ⟨_, _, h⟩; exact h.elim) ?_
        refine wpAny_take (i := 1) (v := ?_) rfl (by kernel_rfl) (by kernel_rfl) (by kernel_rfl) (fun _ _ _ h => h) (Or.inl ⟨by rfl, ?_⟩) ?_
        rotate_left
        · intro w
          go_simp
          try with_reducible rfl
        try simp only [Act.put, List.getElem_toArray, List.getElem_cons_zero, List.getElem_cons_succ, List.setIfInBounds_toArray, List.set_cons_zero, List.set_cons_succ]
        refine wpAny_ready (rs := [0, 2]) (by kernel_rfl) (by simp) ?_
        refine AllReady.cons (o := _) rfl (fun K hK => ?_) (AllReady.cons (o := _) rfl (fun K hK => ?_) (AllReady.nil))
        · skip
          go_simp
          refine hK _ _ ?_
          clear hK K
          try simp only [Act.put, List.getElem_toArray, List.getElem_cons_zero, List.getElem_cons_succ, List.setIfInBounds_toArray, List.set_cons_zero, List.set_cons_succ]
          refine wpAny_ready (rs := [2]) (by kernel_rfl) (by simp) ?_
          refine AllReady.cons (o := _) rfl (fun K hK => ?_) (AllReady.nil)
          · skip
            go_simp
            go_at_call 149
            refine (named_any m R hRl B (some (a.add (kk * 60))) m W.drew (show B ≤ W.heap.size by omega) HRP.out (by omega)).mono ?_
            rintro e W1 ⟨v1, rfl, hE1, hb1⟩
            obtain ⟨A1, c1, rfl, hE, _⟩ := entsOut hE1 (by rw [List.length_map]; exact hRl)
            have hb1' : Below W.heap.size W W1 := ⟨hb1.os, hb1.tape, hb1.output, hb1.size, hb1.block⟩
            have HE := Lib.hid hE
            have HBW := Lib.hid hb1'
            have HB1' := Lib.hid (below_up HBL.out hb1' hsW)
            have y0 : W1.cell? ⟨w.heap.size, 0, none⟩ = some (.int .i64 seq) := (row_cell (row_below Q0.out hb1' (row_lt Q0.out)) 0).trans rfl
            have hs1 : W.heap.size ≤ W1.heap.size := hb1'.size
            clear hE1 hE hb1 hb1'
            dsimp only
            refine hK _ _ ?_
            clear hK K
            try simp only [Act.put, List.getElem_toArray, List.getElem_cons_zero, List.getElem_cons_succ, List.setIfInBounds_toArray, List.set_cons_zero, List.set_cons_succ]
            refine wpAny_take (i := 3) (v := ?_) rfl (by kernel_rfl) (by kernel_rfl) (by kernel_rfl) (fun _ _ _ h => h) (Or.inl ⟨by rfl, ?_⟩) ?_
            rotate_left
            · intro w
              go_simp
              try with_reducible rfl
            try simp only [Act.put, List.getElem_toArray, List.getElem_cons_zero, List.getElem_cons_succ, List.setIfInBounds_toArray, List.set_cons_zero, List.set_cons_succ]
            refine wpAny_ready (rs := [4]) (by kernel_rfl) (by simp) ?_
            refine AllReady.cons (o := _) rfl (fun K hK => ?_) (AllReady.nil)
            · skip
              go_simp
              go_at_call 99
              refine (PackV_at seq R m hRl W1.heap.size A1 c1 W1 (Nat.le_refl _) HE.out (by omega) (Tab.below HT.out HB1'.out htl)).mono ?_
              rintro e W2 ⟨_, hno, hb2⟩
              obtain rfl := hno HMY.out
              have HB2 := Lib.hid (HBW.out.trans (hb2.mono hs1))
              clear hno hb2
              dsimp only
              refine hK _ _ ?_
              clear hK K
              try simp only [Act.put, List.getElem_toArray, List.getElem_cons_zero, List.getElem_cons_succ, List.setIfInBounds_toArray, List.set_cons_zero, List.set_cons_succ]
              refine wpAny_take (i := 5) (v := ?_) rfl (by kernel_rfl) (by kernel_rfl) (by kernel_rfl) (fun _ _ _ h => h) (Or.inl ⟨by rfl, ?_⟩) ?_
              rotate_left
              · intro w
                go_simp
                try with_reducible rfl
              try simp only [Act.put, List.getElem_toArray, List.getElem_cons_zero, List.getElem_cons_succ, List.setIfInBounds_toArray, List.set_cons_zero, List.set_cons_succ]
              refine wpAny_take (i := 6) (v := ?_) rfl (by kernel_rfl) (by kernel_rfl) (by kernel_rfl) (fun _ _ _ h => h) (Or.inl ⟨by rfl, ?_⟩) ?_
              rotate_left
              · intro w
                go_simp
                try with_reducible rfl
              try simp only [Act.put, List.getElem_toArray, List.getElem_cons_zero, List.getElem_cons_succ, List.setIfInBounds_toArray, List.set_cons_zero, List.set_cons_succ]
              refine wpAny_take (i := 7) (v := ?_) rfl (by kernel_rfl) (by kernel_rfl) (by kernel_rfl) (fun _ _ _ h => h) (Or.inl ⟨by rfl, ?_⟩) ?_
              rotate_left
              · intro w
                go_simp
                try with_reducible rfl
              try simp only [Act.put, List.getElem_toArray, List.getElem_cons_zero, List.getElem_cons_succ, List.setIfInBounds_toArray, List.set_cons_zero, List.set_cons_succ]
              refine wpAny_take (i := 8) (v := ?_) rfl (by kernel_rfl) (by kernel_rfl) (by kernel_rfl) (fun _ _ _ h => h) (Or.inl ⟨by rfl, ?_⟩) ?_
              rotate_left
              · intro w
                go_simp
                try with_reducible rfl
              try simp only [Act.put, List.getElem_toArray, List.getElem_cons_zero, List.getElem_cons_succ, List.setIfInBounds_toArray, List.set_cons_zero, List.set_cons_succ]
              refine wpAny_take (i := 9) (v := ?_) rfl (by kernel_rfl) (by kernel_rfl) (by kernel_rfl) (fun _ _ _ h => h) (Or.inl ⟨by rfl, ?_⟩) ?_
              rotate_left
              · intro w
                go_simp
                try with_reducible rfl
              try simp only [Act.put, List.getElem_toArray, List.getElem_cons_zero, List.getElem_cons_succ, List.setIfInBounds_toArray, List.set_cons_zero, List.set_cons_succ]
              refine wpAny_done (by kernel_rfl) ?_ _
              have P1 := Lib.hid (row_below Q1.out HB2.out (row_lt Q1.out))
              have P2 := Lib.hid (row_below Q2.out HB2.out (row_lt Q2.out))
              have PB := Lib.hid (row_below QB.out HB2.out (row_lt QB.out))
              have PD := Lib.hid (row_below QD.out HB2.out (row_lt QD.out))
              have HB3' := Lib.hid (below_up HBL.out HB2.out hsW)
              have HKO2 := Lib.hid (ko_below HB2.out)
              have hs2 : W.heap.size ≤ W2.heap.size := HB2.out.size
              have z1 : W2.cell? ⟨w.heap.size + 1, 0, none⟩ = some (.slice none 0 0) := (row_cell P1.out 0).trans rfl
              have z2 : W2.cell? ⟨w.heap.size + 2, 0, none⟩ = some (.int .i64 0) := (row_cell P2.out 0).trans rfl
              have f1 : ∀ i, W2.frozen? ⟨w.heap.size + 1, i, none⟩ = false := fun i => row_free P1.out i
              have f2 : ∀ i, W2.frozen? ⟨w.heap.size + 2, i, none⟩ = false := fun i => row_free P2.out i
              clear y0
              gi_wp2
              exact ⟨((HKO2.out.trans (KeepsOthers.setCell _ _ _)).trans (KeepsOthers.setCell _ _ _)).from _, rfl, HNN.out,
                (Below.heap_setCell _ ⟨w.heap.size + 2, 0, none⟩ _ (w.heap.size + 1) (by simp)).trans (row_set P1.out 0 (.slice none 0 0)),
                row_set ((Below.heap_setCell W2 ⟨w.heap.size + 1, 0, none⟩ (.slice none 0 0) (w.heap.size + 2) (by simp)).trans P2.out) 0 (.int .i64 22),
                (HB3'.out.setCell (by simp) _).setCell (by simp) _,
                (Below.heap_setCell _ ⟨w.heap.size + 2, 0, none⟩ _ D (by simp only; omega)).trans ((Below.heap_setCell W2 ⟨w.heap.size + 1, 0, none⟩ (.slice none 0 0) D (by simp only; omega)).trans PD.out)⟩
        · skip
          go_simp
          go_at_call 149
          refine (named_any m R hRl B (some (a.add (kk * 60))) m W.drew (show B ≤ W.heap.size by omega) HRP.out (by omega)).mono ?_
          rintro e W1 ⟨v1, rfl, hE1, hb1⟩
          obtain ⟨A1, c1, rfl, hE, _⟩ := entsOut hE1 (by rw [List.length_map]; exact hRl)
          have hb1' : Below W.heap.size W W1 := ⟨hb1.os, hb1.tape, hb1.output, hb1.size, hb1.block⟩
          have HE := Lib.hid hE
          have HBW := Lib.hid hb1'
          have HB1' := Lib.hid (below_up HBL.out hb1' hsW)
          have y0 : W1.cell? ⟨w.heap.size, 0, none⟩ = some (.int .i64 seq) := (row_cell (row_below Q0.out hb1' (row_lt Q0.out)) 0).trans rfl
          have hs1 : W.heap.size ≤ W1.heap.size := hb1'.size
          clear hE1 hE hb1 hb1'
          dsimp only
          refine hK _ _ ?_
          clear hK K
          try simp only [Act.put, List.getElem_toArray, List.getElem_cons_zero, List.getElem_cons_succ, List.setIfInBounds_toArray, List.set_cons_zero, List.set_cons_succ]
          refine wpAny_ready (rs := [0]) (by kernel_rfl) (by simp) ?_
          refine AllReady.cons (o := _) rfl (fun K hK => ?_) (AllReady.nil)
          · skip
            go_simp
            refine hK _ _ ?_
            clear hK K
            try simp only [Act.put, List.getElem_toArray, List.getElem_cons_zero, List.getElem_cons_succ, List.setIfInBounds_toArray, List.set_cons_zero, List.set_cons_succ]
            refine wpAny_take (i := 3) (v := ?_) rfl (by kernel_rfl) (by kernel_rfl) (by kernel_rfl) (fun _ _ _ h => h) (Or.inl ⟨by rfl, ?_⟩) ?_
            rotate_left
            · intro w
              go_simp
              try with_reducible rfl
            try simp only [Act.put, List.getElem_toArray, List.getElem_cons_zero, List.getElem_cons_succ, List.setIfInBounds_toArray, List.set_cons_zero, List.set_cons_succ]
            refine wpAny_ready (rs := [4]) (by kernel_rfl) (by simp) ?_
            refine AllReady.cons (o := _) rfl (fun K hK => ?_) (AllReady.nil)
            · skip
              go_simp
              go_at_call 99
              refine (PackV_at seq R m hRl W1.heap.size A1 c1 W1 (Nat.le_refl _) HE.out (by omega) (Tab.below HT.out HB1'.out htl)).mono ?_
              rintro e W2 ⟨_, hno, hb2⟩
              obtain rfl := hno HMY.out
              have HB2 := Lib.hid (HBW.out.trans (hb2.mono hs1))
              clear hno hb2
              dsimp only
              refine hK _ _ ?_
              clear hK K
              try simp only [Act.put, List.getElem_toArray, List.getElem_cons_zero, List.getElem_cons_succ, List.setIfInBounds_toArray, List.set_cons_zero, List.set_cons_succ]
              refine wpAny_take (i := 5) (v := ?_) rfl (by kernel_rfl) (by kernel_rfl) (by kernel_rfl) (fun _ _ _ h => h) (Or.inl ⟨by rfl, ?_⟩) ?_
              rotate_left
              · intro w
                go_simp
                try with_reducible rfl
              try simp only [Act.put, List.getElem_toArray, List.getElem_cons_zero, List.getElem_cons_succ, List.setIfInBounds_toArray, List.set_cons_zero, List.set_cons_succ]
              refine wpAny_take (i := 6) (v := ?_) rfl (by kernel_rfl) (by kernel_rfl) (by kernel_rfl) (fun _ _ _ h => h) (Or.inl ⟨by rfl, ?_⟩) ?_
              rotate_left
              · intro w
                go_simp
                try with_reducible rfl
              try simp only [Act.put, List.getElem_toArray, List.getElem_cons_zero, List.getElem_cons_succ, List.setIfInBounds_toArray, List.set_cons_zero, List.set_cons_succ]
              refine wpAny_take (i := 7) (v := ?_) rfl (by kernel_rfl) (by kernel_rfl) (by kernel_rfl) (fun _ _ _ h => h) (Or.inl ⟨by rfl, ?_⟩) ?_
              rotate_left
              · intro w
                go_simp
                try with_reducible rfl
              try simp only [Act.put, List.getElem_toArray, List.getElem_cons_zero, List.getElem_cons_succ, List.setIfInBounds_toArray, List.set_cons_zero, List.set_cons_succ]
              refine wpAny_take (i := 8) (v := ?_) rfl (by kernel_rfl) (by kernel_rfl) (by kernel_rfl) (fun _ _ _ h => h) (Or.inl ⟨by rfl, ?_⟩) ?_
              rotate_left
              · intro w
                go_simp
                try with_reducible rfl
              try simp only [Act.put, List.getElem_toArray, List.getElem_cons_zero, List.getElem_cons_succ, List.setIfInBounds_toArray, List.set_cons_zero, List.set_cons_succ]
              refine wpAny_take (i := 9) (v := ?_) rfl (by kernel_rfl) (by kernel_rfl) (by kernel_rfl) (fun _ _ _ h => h) (Or.inl ⟨by rfl, ?_⟩) ?_
              rotate_left
              · intro w
                go_simp
                try with_reducible rfl
              try simp only [Act.put, List.getElem_toArray, List.getElem_cons_zero, List.getElem_cons_succ, List.setIfInBounds_toArray, List.set_cons_zero, List.set_cons_succ]
              refine wpAny_done (by kernel_rfl) ?_ _
              have P1 := Lib.hid (row_below Q1.out HB2.out (row_lt Q1.out))
              have P2 := Lib.hid (row_below Q2.out HB2.out (row_lt Q2.out))
              have PB := Lib.hid (row_below QB.out HB2.out (row_lt QB.out))
              have PD := Lib.hid (row_below QD.out HB2.out (row_lt QD.out))
              have HB3' := Lib.hid (below_up HBL.out HB2.out hsW)
              have HKO2 := Lib.hid (ko_below HB2.out)
              have hs2 : W.heap.size ≤ W2.heap.size := HB2.out.size
              have z1 : W2.cell? ⟨w.heap.size + 1, 0, none⟩ = some (.slice none 0 0) := (row_cell P1.out 0).trans rfl
              have z2 : W2.cell? ⟨w.heap.size + 2, 0, none⟩ = some (.int .i64 0) := (row_cell P2.out 0).trans rfl
              have f1 : ∀ i, W2.frozen? ⟨w.heap.size + 1, i, none⟩ = false := fun i => row_free P1.out i
              have f2 : ∀ i, W2.frozen? ⟨w.heap.size + 2, i, none⟩ = false := fun i => row_free P2.out i
              clear y0
              gi_wp2
              exact ⟨((HKO2.out.trans (KeepsOthers.setCell _ _ _)).trans (KeepsOthers.setCell _ _ _)).from _, rfl, HNN.out,
                (Below.heap_setCell _ ⟨w.heap.size + 2, 0, none⟩ _ (w.heap.size + 1) (by simp)).trans (row_set P1.out 0 (.slice none 0 0)),
                row_set ((Below.heap_setCell W2 ⟨w.heap.size + 1, 0, none⟩ (.slice none 0 0) (w.heap.size + 2) (by simp)).trans P2.out) 0 (.int .i64 22),
                (HB3'.out.setCell (by simp) _).setCell (by simp) _,
                (Below.heap_setCell _ ⟨w.heap.size + 2, 0, none⟩ _ D (by simp only; omega)).trans ((Below.heap_setCell W2 ⟨w.heap.size + 1, 0, none⟩ (.slice none 0 0) D (by simp only; omega)).trans PD.out)⟩
      | true =>
        have HMY := Lib.hid hmay
        clear hmay
        gi_wp2_with fail
        refine JRound.region_in (by kernel_rfl) (by kernel_rfl) (by rintro ⟨_, _, h⟩; exact h.elim) ?_
        refine wpAny_take (i := 1) (v := ?_) rfl (by kernel_rfl) (by kernel_rfl) (by kernel_rfl) (fun _ _ _ h => h) (Or.inl ⟨by rfl, ?_⟩) ?_
        rotate_left
        · intro w
          go_simp
          try with_reducible rfl
        try simp only [Act.put, List.getElem_toArray, List.getElem_cons_zero, List.getElem_cons_succ, List.setIfInBounds_toArray, List.set_cons_zero, List.set_cons_succ]
        refine wpAny_ready (rs := [0, 2]) (by kernel_rfl) (by simp) ?_
        refine AllReady.cons (o := _) rfl (fun K hK => ?_) (AllReady.cons (o := _) rfl (fun K hK => ?_) (AllReady.nil))
        · skip
          go_simp
          refine hK _ _ ?_
          clear hK K
          try simp only [Act.put, List.getElem_toArray, List.getElem_cons_zero, List.getElem_cons_succ, List.setIfInBounds_toArray, List.set_cons_zero, List.set_cons_succ]
          refine wpAny_ready (rs := [2]) (by kernel_rfl) (by simp) ?_
          refine AllReady.cons (o := _) rfl (fun K hK => ?_) (AllReady.nil)
          · skip
            go_simp
            go_at_call 149
            refine (named_any m R hRl B (some (a.add (kk * 60))) m W.drew (show B ≤ W.heap.size by omega) HRP.out (by omega)).mono ?_
            rintro e W1 ⟨v1, rfl, hE1, hb1⟩
            obtain ⟨A1, c1, rfl, hE, _⟩ := entsOut hE1 (by rw [List.length_map]; exact hRl)
            have hb1' : Below W.heap.size W W1 := ⟨hb1.os, hb1.tape, hb1.output, hb1.size, hb1.block⟩
            have HE := Lib.hid hE
            have HBW := Lib.hid hb1'
            have HB1' := Lib.hid (below_up HBL.out hb1' hsW)
            have y0 : W1.cell? ⟨w.heap.size, 0, none⟩ = some (.int .i64 seq) := (row_cell (row_below Q0.out hb1' (row_lt Q0.out)) 0).trans rfl
            have hs1 : W.heap.size ≤ W1.heap.size := hb1'.size
            clear hE1 hE hb1 hb1'
            dsimp only
            refine hK _ _ ?_
            clear hK K
            try simp only [Act.put, List.getElem_toArray, List.getElem_cons_zero, List.getElem_cons_succ, List.setIfInBounds_toArray, List.set_cons_zero, List.set_cons_succ]
            refine wpAny_take (i := 3) (v := ?_) rfl (by kernel_rfl) (by kernel_rfl) (by kernel_rfl) (fun _ _ _ h => h) (Or.inl ⟨by rfl, ?_⟩) ?_
            rotate_left
            · intro w
              go_simp
              try with_reducible rfl
            try simp only [Act.put, List.getElem_toArray, List.getElem_cons_zero, List.getElem_cons_succ, List.setIfInBounds_toArray, List.set_cons_zero, List.set_cons_succ]
            refine wpAny_ready (rs := [4]) (by kernel_rfl) (by simp) ?_
            refine AllReady.cons (o := _) rfl (fun K hK => ?_) (AllReady.nil)
            · skip
              go_simp
              go_at_call 99
              refine (PackV_at seq R m hRl W1.heap.size A1 c1 W1 (Nat.le_refl _) HE.out (by omega) (Tab.below HT.out HB1'.out htl)).mono ?_
              rintro e W2 ⟨hyes, _, hb2⟩
              obtain ⟨g3, rfl, hg3, hR3⟩ := hyes HMY.out
              have HB2 := Lib.hid (HBW.out.trans (hb2.mono hs1))
              have HR3 := Lib.hid hR3
              clear hyes hb2 hR3
              dsimp only
              refine hK _ _ ?_
              clear hK K
              try simp only [Act.put, List.getElem_toArray, List.getElem_cons_zero, List.getElem_cons_succ, List.setIfInBounds_toArray, List.set_cons_zero, List.set_cons_succ]
              refine wpAny_take (i := 5) (v := ?_) rfl (by kernel_rfl) (by kernel_rfl) (by kernel_rfl) (fun _ _ _ h => h) (Or.inl ⟨by rfl, ?_⟩) ?_
              rotate_left
              · intro w
                go_simp
                try with_reducible rfl
              try simp only [Act.put, List.getElem_toArray, List.getElem_cons_zero, List.getElem_cons_succ, List.setIfInBounds_toArray, List.set_cons_zero, List.set_cons_succ]
              refine wpAny_take (i := 6) (v := ?_) rfl (by kernel_rfl) (by kernel_rfl) (by kernel_rfl) (fun _ _ _ h => h) (Or.inl ⟨by rfl, ?_⟩) ?_
              rotate_left
              · intro w
                go_simp
                try with_reducible rfl
              try simp only [Act.put, List.getElem_toArray, List.getElem_cons_zero, List.getElem_cons_succ, List.setIfInBounds_toArray, List.set_cons_zero, List.set_cons_succ]
              refine wpAny_take (i := 7) (v := ?_) rfl (by kernel_rfl) (by kernel_rfl) (by kernel_rfl) (fun _ _ _ h => h) (Or.inl ⟨by rfl, ?_⟩) ?_
              rotate_left
              · intro w
                go_simp
                try with_reducible rfl
              try simp only [Act.put, List.getElem_toArray, List.getElem_cons_zero, List.getElem_cons_succ, List.setIfInBounds_toArray, List.set_cons_zero, List.set_cons_succ]
              refine wpAny_take (i := 8) (v := ?_) rfl (by kernel_rfl) (by kernel_rfl) (by kernel_rfl) (fun _ _ _ h => h) (Or.inl ⟨by rfl, ?_⟩) ?_
              rotate_left
              · intro w
                go_simp
                try with_reducible rfl
              try simp only [Act.put, List.getElem_toArray, List.getElem_cons_zero, List.getElem_cons_succ, List.setIfInBounds_toArray, List.set_cons_zero, List.set_cons_succ]
              refine wpAny_take (i := 9) (v := ?_) rfl (by kernel_rfl) (by kernel_rfl) (by kernel_rfl) (fun _ _ _ h => h) (Or.inl ⟨by rfl, ?_⟩) ?_
              rotate_left
              · intro w
                go_simp
                try with_reducible rfl
              try simp only [Act.put, List.getElem_toArray, List.getElem_cons_zero, List.getElem_cons_succ, List.setIfInBounds_toArray, List.set_cons_zero, List.set_cons_succ]
              refine wpAny_done (by kernel_rfl) ?_ _
              have P1 := Lib.hid (row_below Q1.out HB2.out (row_lt Q1.out))
              have P2 := Lib.hid (row_below Q2.out HB2.out (row_lt Q2.out))
              have PB := Lib.hid (row_below QB.out HB2.out (row_lt QB.out))
              have PD := Lib.hid (row_below QD.out HB2.out (row_lt QD.out))
              have HB3' := Lib.hid (below_up HBL.out HB2.out hsW)
              have HKO2 := Lib.hid (ko_below HB2.out)
              have hs2 : W.heap.size ≤ W2.heap.size := HB2.out.size
              have P0 := Lib.hid (row_below Q0.out HB2.out (row_lt Q0.out))
              have U1 := Lib.hid (row_below S1.out HB2.out (row_lt S1.out))
              have U2 := Lib.hid (row_below S2.out HB2.out (row_lt S2.out))
              have zb : W2.cell? ⟨w1.heap.size, 0, none⟩ = some v := (row_cell PB.out 0).trans rfl
              have fb : ∀ i, W2.frozen? ⟨w1.heap.size, i, none⟩ = false := fun i => row_free PB.out i
              have HBA := Lib.hid ((HBK.out.below HB2.out).alloc (.cells #[.slice (some ⟨g3, 0, none⟩) 256 256] 43))
              obtain ⟨vs, ha1, ha2, ha3, ha4, ha5⟩ := HBA.out
              have HA1 := Lib.hid ha1
              have HA5 := Lib.hid ha5
              have HLN := Lib.hid ha2
              have hbl : (recBytes (revR seq R)).length = 256 := recBytes_len (recMay_iff.1 HMY.out).2.1
              have HOB : Hid (WAny.Own (W2.alloc (.cells #[.slice (some ⟨g3, 0, none⟩) 256 256] 43)) w.heap.size (.slice (some ⟨g3, 0, none⟩) 256 256) (recBytes (revR seq R))) := Lib.hid (.inr ⟨g3, 256, [], by rw [hbl], by omega, by omega, HR3.out.alloc _⟩)
              have HBB := Lib.hid (HB3'.out.alloc HB3'.out.size (.cells #[.slice (some ⟨g3, 0, none⟩) 256 256] 43))
              have hsB := HBB.out.size
              have hnl : n ≤ 4400 := by
                have h1 := HLN.out
                have h2 := frontW_len seq ws (rowsN ws.length 48)
                rw [HNW.out] at h1 h2
                rw [List.length_append, List.length_map] at h1
                have h3 : rowsN nw 48 ≤ 87 := by unfold rowsN; split <;> omega
                have h4 : rowsN nr 60 ≤ 70 := by unfold rowsN; split <;> omega
                omega
              clear ha1 ha2 ha5 hbl y0
              gi_wp2_with (gi_at_builtin; (refine wpListIn_append_own_at _ rfl (.tmp 69) (.tmp 71) 78 rfl w.heap.size 43 i0 _ 1 24 underS hi0 hz0 hz1 hz2 rfl (by decide) v n vs rfl HA1.out ⟨W2.heap.size, 0, none⟩ 1 1 [.slice (some ⟨g3, 0, none⟩) 256 256] rfl rfl (World.news_of_block (cs := #[.slice (some ⟨g3, 0, none⟩) 256 256]) (t := 43) (fr := (0, 0)) (row_new W2 _)) (by simp [Value.oneCell']) (by unfold maxLen; omega) (by omega) hsB ?_); intro v3 W3 h1 h2 h3 h4
                           obtain ⟨g6, c6, rfl, _⟩ := h1.form (by omega)
                           have HJ1 := Lib.hid (Blks.join HA1.out HLN.out ha3 ha4 HA5.out (M := [recBytes (revR seq R)]) (us := [.slice (some ⟨g3, 0, none⟩) 256 256]) rfl rfl (by simp [Value.oneCell']) (fun i hi => by
                             obtain rfl : i = 0 := by simpa using hi
                             exact ⟨_, rfl, HOB.out⟩) (Nat.le_refl _) h1 h2)
                           have stay1 : ∀ (j : Nat) (cs : Array Value) (T : TypeId), 43 ≠ T → W2.heap[j]? = some (.cells cs T (0, 0)) → W3.heap[j]? = some (.cells cs T (0, 0)) := fun j cs T hT h => (h2.block j (by have := row_lt h; simp; omega) (Ne.symm (own_ne HA1.out (row_alloc h _) hT))).trans (row_alloc h _)
                           have stayD : W3.heap[D]? = some (.deferred (some [])) := by
                             refine (h2.block D (by have := row_lt PD.out; simp; omega) (fun e => ?_)).trans (row_alloc PD.out _)
                             rcases HA1.out.2 with ⟨rfl, _⟩ | ⟨k, cap, cur, rfl, _, hk, _⟩
                             · simp [Value.ownBlock] at e
                             · simp only [Value.ownBlock, Option.some.injEq] at e
                               subst e
                               rw [row_alloc PD.out] at hk
                               cases hk
                           have hB4 := HBB.out.grown h2 hsB (fun k hk => own_ge HA1.out k hk)
                           have hKO3 : KeepsOthers W W3 := (HKO2.out.trans (KeepsOthers.alloc _ _)).trans (KeepsOthers.of_grownBy h2 fun j o e ho => by
                             rcases HA1.out.2 with ⟨rfl, _⟩ | ⟨k, cap, cur, rfl, _, hk, _⟩
                             · simp [Value.ownBlock] at e
                             · simp only [Value.ownBlock, Option.some.injEq] at e
                               subst e
                               rw [hk] at ho
                               cases ho
                               rfl)
                           have Z0 := Lib.hid (stay1 _ _ _ (by decide) P0.out)
                           have Z1 := Lib.hid (stay1 _ _ _ (by decide) P1.out)
                           have Z2 := Lib.hid (stay1 _ _ _ (by decide) P2.out)
                           have ZB := Lib.hid (stay1 _ _ _ (by decide) PB.out)
                           have V1 := Lib.hid (stay1 _ _ _ (by decide) U1.out)
                           have V2 := Lib.hid (stay1 _ _ _ (by decide) U2.out)
                           have ZD := Lib.hid stayD
                           have HB5 := Lib.hid hB4
                           have HKO4 := Lib.hid hKO3
                           have zb4 : W3.cell? ⟨w1.heap.size, 0, none⟩ = some v := (row_cell ZB.out 0).trans rfl
                           have fb4 : W3.frozen? ⟨w1.heap.size, 0, none⟩ = false := row_free ZB.out 0
                           clear h1 h2 h3 h4 stay1 stayD hB4 hKO3)
              refine ⟨(HKO4.out.trans (KeepsOthers.setCell _ _ _)).from _, ?_, ?_⟩
              · rintro k o (rfl | rfl) ho -
                · rw [S1.out] at ho
                  cases ho
                  exact (Below.heap_setCell W3 ⟨w1.heap.size, 0, none⟩ _ _ (by simp only; omega)).trans V1.out
                · rw [S2.out] at ho
                  cases ho
                  exact (Below.heap_setCell W3 ⟨w1.heap.size, 0, none⟩ _ (b1 + 1) (by simp only; omega)).trans V2.out
              · refine ⟨(Below.heap_setCell W3 ⟨w1.heap.size, 0, none⟩ _ w.heap.size (by simp only; omega)).trans Z0.out, (Below.heap_setCell W3 ⟨w1.heap.size, 0, none⟩ _ (w.heap.size + 1) (by simp only; omega)).trans Z1.out, (Below.heap_setCell W3 ⟨w1.heap.size, 0, none⟩ _ (w.heap.size + 2) (by simp only; omega)).trans Z2.out, ⟨.slice (some ⟨g6, 0, none⟩) (n + 1) c6, n + 1, row_set ZB.out 0 (.slice (some ⟨g6, 0, none⟩) (n + 1) c6), ?_⟩, ?_, HB5.out.setCell (by simp only; omega) _, (Below.heap_setCell W3 ⟨w1.heap.size, 0, none⟩ _ b1 (by simp only; omega)).trans V1.out, (Below.heap_setCell W3 ⟨w1.heap.size, 0, none⟩ _ (b1 + 1) (by simp only; omega)).trans V2.out, (Below.heap_setCell W3 ⟨w1.heap.size, 0, none⟩ _ D (by simp only; omega)).trans ZD.out⟩
                · rw [HKC.out]
                  have hj := HJ1.out
                  refine hj.kept (row := some w1.heap.size) (grown_set (grown_refl _ _) 0 _) ?_ (fun k cs e hk => ?_)
                  · obtain ⟨ws', j1, _⟩ := hj
                    exact .inr (own_ne j1 ZB.out (by decide))
                  · injection e with e
                    subst e
                    rw [ZB.out] at hk
                    injection hk with hk
                    injection hk with _ hk
                    exact absurd hk (by decide)
                · intro i hi
                  rcases List.mem_append.1 hi with hi | hi
                  · exact HM.out i hi
                  · rw [List.mem_singleton.1 hi, HKX.out]; exact HMY.out
        · skip
          go_simp
          go_at_call 149
          refine (named_any m R hRl B (some (a.add (kk * 60))) m W.drew (show B ≤ W.heap.size by omega) HRP.out (by omega)).mono ?_
          rintro e W1 ⟨v1, rfl, hE1, hb1⟩
          obtain ⟨A1, c1, rfl, hE, _⟩ := entsOut hE1 (by rw [List.length_map]; exact hRl)
          have hb1' : Below W.heap.size W W1 := ⟨hb1.os, hb1.tape, hb1.output, hb1.size, hb1.block⟩
          have HE := Lib.hid hE
          have HBW := Lib.hid hb1'
          have HB1' := Lib.hid (below_up HBL.out hb1' hsW)
          have y0 : W1.cell? ⟨w.heap.size, 0, none⟩ = some (.int .i64 seq) := (row_cell (row_below Q0.out hb1' (row_lt Q0.out)) 0).trans rfl
          have hs1 : W.heap.size ≤ W1.heap.size := hb1'.size
          clear hE1 hE hb1 hb1'
          dsimp only
          refine hK _ _ ?_
          clear hK K
          try simp only [Act.put, List.getElem_toArray, List.getElem_cons_zero, List.getElem_cons_succ, List.setIfInBounds_toArray, List.set_cons_zero, List.set_cons_succ]
          refine wpAny_ready (rs := [0]) (by kernel_rfl) (by simp) ?_
          refine AllReady.cons (o := _) rfl (fun K hK => ?_) (AllReady.nil)
          · skip
            go_simp
            refine hK _ _ ?_
            clear hK K
            try simp only [Act.put, List.getElem_toArray, List.getElem_cons_zero, List.getElem_cons_succ, List.setIfInBounds_toArray, List.set_cons_zero, List.set_cons_succ]
            refine wpAny_take (i := 3) (v := ?_) rfl (by kernel_rfl) (by kernel_rfl) (by kernel_rfl) (fun _ _ _ h => h) (Or.inl ⟨by rfl, ?_⟩) ?_
            rotate_left
            · intro w
              go_simp
              try with_reducible rfl
            try simp only [Act.put, List.getElem_toArray, List.getElem_cons_zero, List.getElem_cons_succ, List.setIfInBounds_toArray, List.set_cons_zero, List.set_cons_succ]
            refine wpAny_ready (rs := [4]) (by kernel_rfl) (by simp) ?_
            refine AllReady.cons (o := _) rfl (fun K hK => ?_) (AllReady.nil)
            · skip
              go_simp
              go_at_call 99
              refine (PackV_at seq R m hRl W1.heap.size A1 c1 W1 (Nat.le_refl _) HE.out (by omega) (Tab.below HT.out HB1'.out htl)).mono ?_
              rintro e W2 ⟨hyes, _, hb2⟩
              obtain ⟨g3, rfl, hg3, hR3⟩ := hyes HMY.out
              have HB2 := Lib.hid (HBW.out.trans (hb2.mono hs1))
              have HR3 := Lib.hid hR3
              clear hyes hb2 hR3
              dsimp only
              refine hK _ _ ?_
              clear hK K
              try simp only [Act.put, List.getElem_toArray, List.getElem_cons_zero, List.getElem_cons_succ, List.setIfInBounds_toArray, List.set_cons_zero, List.set_cons_succ]
              refine wpAny_take (i := 5) (v := ?_) rfl (by kernel_rfl) (by kernel_rfl) (by kernel_rfl) (fun _ _ _ h => h) (Or.inl ⟨by rfl, ?_⟩) ?_
              rotate_left
              · intro w
                go_simp
                try with_reducible rfl
              try simp only [Act.put, List.getElem_toArray, List.getElem_cons_zero, List.getElem_cons_succ, List.setIfInBounds_toArray, List.set_cons_zero, List.set_cons_succ]
              refine wpAny_take (i := 6) (v := ?_) rfl (by kernel_rfl) (by kernel_rfl) (by kernel_rfl) (fun _ _ _ h => h) (Or.inl ⟨by rfl, ?_⟩) ?_
              rotate_left
              · intro w
                go_simp
                try with_reducible rfl
              try simp only [Act.put, List.getElem_toArray, List.getElem_cons_zero, List.getElem_cons_succ, List.setIfInBounds_toArray, List.set_cons_zero, List.set_cons_succ]
              refine wpAny_take (i := 7) (v := ?_) rfl (by kernel_rfl) (by kernel_rfl) (by kernel_rfl) (fun _ _ _ h => h) (Or.inl ⟨by rfl, ?_⟩) ?_
              rotate_left
              · intro w
                go_simp
                try with_reducible rfl
              try simp only [Act.put, List.getElem_toArray, List.getElem_cons_zero, List.getElem_cons_succ, List.setIfInBounds_toArray, List.set_cons_zero, List.set_cons_succ]
              refine wpAny_take (i := 8) (v := ?_) rfl (by kernel_rfl) (by kernel_rfl) (by kernel_rfl) (fun _ _ _ h => h) (Or.inl ⟨by rfl, ?_⟩) ?_
              rotate_left
              · intro w
                go_simp
                try with_reducible rfl
              try simp only [Act.put, List.getElem_toArray, List.getElem_cons_zero, List.getElem_cons_succ, List.setIfInBounds_toArray, List.set_cons_zero, List.set_cons_succ]
              refine wpAny_take (i := 9) (v := ?_) rfl (by kernel_rfl) (by kernel_rfl) (by kernel_rfl) (fun _ _ _ h => h) (Or.inl ⟨by rfl, ?_⟩) ?_
              rotate_left
              · intro w
                go_simp
                try with_reducible rfl
              try simp only [Act.put, List.getElem_toArray, List.getElem_cons_zero, List.getElem_cons_succ, List.setIfInBounds_toArray, List.set_cons_zero, List.set_cons_succ]
              refine wpAny_done (by kernel_rfl) ?_ _
              have P1 := Lib.hid (row_below Q1.out HB2.out (row_lt Q1.out))
              have P2 := Lib.hid (row_below Q2.out HB2.out (row_lt Q2.out))
              have PB := Lib.hid (row_below QB.out HB2.out (row_lt QB.out))
              have PD := Lib.hid (row_below QD.out HB2.out (row_lt QD.out))
              have HB3' := Lib.hid (below_up HBL.out HB2.out hsW)
              have HKO2 := Lib.hid (ko_below HB2.out)
              have hs2 : W.heap.size ≤ W2.heap.size := HB2.out.size
              have P0 := Lib.hid (row_below Q0.out HB2.out (row_lt Q0.out))
              have U1 := Lib.hid (row_below S1.out HB2.out (row_lt S1.out))
              have U2 := Lib.hid (row_below S2.out HB2.out (row_lt S2.out))
              have zb : W2.cell? ⟨w1.heap.size, 0, none⟩ = some v := (row_cell PB.out 0).trans rfl
              have fb : ∀ i, W2.frozen? ⟨w1.heap.size, i, none⟩ = false := fun i => row_free PB.out i
              have HBA := Lib.hid ((HBK.out.below HB2.out).alloc (.cells #[.slice (some ⟨g3, 0, none⟩) 256 256] 43))
              obtain ⟨vs, ha1, ha2, ha3, ha4, ha5⟩ := HBA.out
              have HA1 := Lib.hid ha1
              have HA5 := Lib.hid ha5
              have HLN := Lib.hid ha2
              have hbl : (recBytes (revR seq R)).length = 256 := recBytes_len (recMay_iff.1 HMY.out).2.1
              have HOB : Hid (WAny.Own (W2.alloc (.cells #[.slice (some ⟨g3, 0, none⟩) 256 256] 43)) w.heap.size (.slice (some ⟨g3, 0, none⟩) 256 256) (recBytes (revR seq R))) := Lib.hid (.inr ⟨g3, 256, [], by rw [hbl], by omega, by omega, HR3.out.alloc _⟩)
              have HBB := Lib.hid (HB3'.out.alloc HB3'.out.size (.cells #[.slice (some ⟨g3, 0, none⟩) 256 256] 43))
              have hsB := HBB.out.size
              have hnl : n ≤ 4400 := by
                have h1 := HLN.out
                have h2 := frontW_len seq ws (rowsN ws.length 48)
                rw [HNW.out] at h1 h2
                rw [List.length_append, List.length_map] at h1
                have h3 : rowsN nw 48 ≤ 87 := by unfold rowsN; split <;> omega
                have h4 : rowsN nr 60 ≤ 70 := by unfold rowsN; split <;> omega
                omega
              clear ha1 ha2 ha5 hbl y0
              gi_wp2_with (gi_at_builtin; (refine wpListIn_append_own_at _ rfl (.tmp 69) (.tmp 71) 78 rfl w.heap.size 43 i0 _ 1 24 underS hi0 hz0 hz1 hz2 rfl (by decide) v n vs rfl HA1.out ⟨W2.heap.size, 0, none⟩ 1 1 [.slice (some ⟨g3, 0, none⟩) 256 256] rfl rfl (World.news_of_block (cs := #[.slice (some ⟨g3, 0, none⟩) 256 256]) (t := 43) (fr := (0, 0)) (row_new W2 _)) (by simp [Value.oneCell']) (by unfold maxLen; omega) (by omega) hsB ?_); intro v3 W3 h1 h2 h3 h4
                           obtain ⟨g6, c6, rfl, _⟩ := h1.form (by omega)
                           have HJ1 := Lib.hid (Blks.join HA1.out HLN.out ha3 ha4 HA5.out (M := [recBytes (revR seq R)]) (us := [.slice (some ⟨g3, 0, none⟩) 256 256]) rfl rfl (by simp [Value.oneCell']) (fun i hi => by
                             obtain rfl : i = 0 := by simpa using hi
                             exact ⟨_, rfl, HOB.out⟩) (Nat.le_refl _) h1 h2)
                           have stay1 : ∀ (j : Nat) (cs : Array Value) (T : TypeId), 43 ≠ T → W2.heap[j]? = some (.cells cs T (0, 0)) → W3.heap[j]? = some (.cells cs T (0, 0)) := fun j cs T hT h => (h2.block j (by have := row_lt h; simp; omega) (Ne.symm (own_ne HA1.out (row_alloc h _) hT))).trans (row_alloc h _)
                           have stayD : W3.heap[D]? = some (.deferred (some [])) := by
                             refine (h2.block D (by have := row_lt PD.out; simp; omega) (fun e => ?_)).trans (row_alloc PD.out _)
                             rcases HA1.out.2 with ⟨rfl, _⟩ | ⟨k, cap, cur, rfl, _, hk, _⟩
                             · simp [Value.ownBlock] at e
                             · simp only [Value.ownBlock, Option.some.injEq] at e
                               subst e
                               rw [row_alloc PD.out] at hk
                               cases hk
                           have hB4 := HBB.out.grown h2 hsB (fun k hk => own_ge HA1.out k hk)
                           have hKO3 : KeepsOthers W W3 := (HKO2.out.trans (KeepsOthers.alloc _ _)).trans (KeepsOthers.of_grownBy h2 fun j o e ho => by
                             rcases HA1.out.2 with ⟨rfl, _⟩ | ⟨k, cap, cur, rfl, _, hk, _⟩
                             · simp [Value.ownBlock] at e
                             · simp only [Value.ownBlock, Option.some.injEq] at e
                               subst e
                               rw [hk] at ho
                               cases ho
                               rfl)
                           have Z0 := Lib.hid (stay1 _ _ _ (by decide) P0.out)
                           have Z1 := Lib.hid (stay1 _ _ _ (by decide) P1.out)
                           have Z2 := Lib.hid (stay1 _ _ _ (by decide) P2.out)
                           have ZB := Lib.hid (stay1 _ _ _ (by decide) PB.out)
                           have V1 := Lib.hid (stay1 _ _ _ (by decide) U1.out)
                           have V2 := Lib.hid (stay1 _ _ _ (by decide) U2.out)
                           have ZD := Lib.hid stayD
                           have HB5 := Lib.hid hB4
                           have HKO4 := Lib.hid hKO3
                           have zb4 : W3.cell? ⟨w1.heap.size, 0, none⟩ = some v := (row_cell ZB.out 0).trans rfl
                           have fb4 : W3.frozen? ⟨w1.heap.size, 0, none⟩ = false := row_free ZB.out 0
                           clear h1 h2 h3 h4 stay1 stayD hB4 hKO3)
              refine ⟨(HKO4.out.trans (KeepsOthers.setCell _ _ _)).from _, ?_, ?_⟩
              · rintro k o (rfl | rfl) ho -
                · rw [S1.out] at ho
                  cases ho
                  exact (Below.heap_setCell W3 ⟨w1.heap.size, 0, none⟩ _ _ (by simp only; omega)).trans V1.out
                · rw [S2.out] at ho
                  cases ho
                  exact (Below.heap_setCell W3 ⟨w1.heap.size, 0, none⟩ _ (b1 + 1) (by simp only; omega)).trans V2.out
              · refine ⟨(Below.heap_setCell W3 ⟨w1.heap.size, 0, none⟩ _ w.heap.size (by simp only; omega)).trans Z0.out, (Below.heap_setCell W3 ⟨w1.heap.size, 0, none⟩ _ (w.heap.size + 1) (by simp only; omega)).trans Z1.out, (Below.heap_setCell W3 ⟨w1.heap.size, 0, none⟩ _ (w.heap.size + 2) (by simp only; omega)).trans Z2.out, ⟨.slice (some ⟨g6, 0, none⟩) (n + 1) c6, n + 1, row_set ZB.out 0 (.slice (some ⟨g6, 0, none⟩) (n + 1) c6), ?_⟩, ?_, HB5.out.setCell (by simp only; omega) _, (Below.heap_setCell W3 ⟨w1.heap.size, 0, none⟩ _ b1 (by simp only; omega)).trans V1.out, (Below.heap_setCell W3 ⟨w1.heap.size, 0, none⟩ _ (b1 + 1) (by simp only; omega)).trans V2.out, (Below.heap_setCell W3 ⟨w1.heap.size, 0, none⟩ _ D (by simp only; omega)).trans ZD.out⟩
                · rw [HKC.out]
                  have hj := HJ1.out
                  refine hj.kept (row := some w1.heap.size) (grown_set (grown_refl _ _) 0 _) ?_ (fun k cs e hk => ?_)
                  · obtain ⟨ws', j1, _⟩ := hj
                    exact .inr (own_ne j1 ZB.out (by decide))
                  · injection e with e
                    subst e
                    rw [ZB.out] at hk
                    injection hk with hk
                    injection hk with _ hk
                    exact absurd hk (by decide)
                · intro i hi
                  rcases List.mem_append.1 hi with hi | hi
                  · exact HM.out i hi
                  · rw [List.mem_singleton.1 hi, HKX.out]; exact HMY.out
      -- END2
    case done2 =>
      rintro D2 ys W2 hD2 rfl ⟨q0, q1, q2, ⟨v, n, hb, hBk⟩, hm, hbel, _, _, dfr⟩ hK2
      rw [← HNR.out, map_range] at hBk
      rw [← HNR.out] at hm
      have HOKR := Lib.hid (okR_yes hm)
      have HFB : Hid (Blks W2 w.heap.size v n (front seq ws rs)) := Lib.hid hBk
      have HBL := Lib.hid hbel
      have hs2 := hbel.size
      have hD1 := row_lt dfr
      have hD2' := row_lt hK2
      have hDD : D < D2 := by omega
      have HTW := Lib.hid (Tab.below HT.out hbel htl)
      obtain ⟨s, hs, hs1, hsw⟩ : ∃ s : Nat, (seqOk seq = true → seq.toNat = s) ∧ s < 4294967296 ∧ IntKind.u32.wrap seq = (s : Int) := ⟨(seq % 4294967296).toNat, fun h => by simp [seqOk] at h; omega, by omega, by rw [IntKind.wrap_u32]; omega⟩
      have hFN : (front seq ws rs).length = n := hBk.len
      have hnl : n ≤ 4400 := by
        have h2 := frontW_len seq ws (rowsN ws.length 48)
        have h1 : (front seq ws rs).length = (frontW seq ws (rowsN ws.length 48)).length + rowsN rs.length 60 := by simp [front, frontR]
        rw [HNW.out] at h1 h2
        rw [HNR.out] at h1
        have h3 : rowsN nw 48 ≤ 87 := by unfold rowsN; split <;> omega
        have h4 : rowsN nr 60 ≤ 70 := by unfold rowsN; split <;> omega
        omega
      obtain ⟨sm, hsm⟩ : ∃ sm, sumB s (front seq ws rs) = sm := ⟨_, rfl⟩
      have HSM : Hid (sm < 4294967296) := Lib.hid (by rw [← hsm]; exact sumB_lt s hs1 _)
      have HSUM : Hid (Calls Tryz.prog 150 #[.int .i64 seq, v] W2.drew fun e w' => e = .returned (.int .u32 (sm : Nat)) ∧ W2.drew = w') := Lib.hid (by
        have h := sumOf_in seq s hsw hs1 n (front seq ws rs) w.heap.size v W2.drew (show Blks W2 _ _ _ _ from hBk) (by omega) (fun b hb => ?_) (show Tab W2 from HTW.out)
        · rw [hsm] at h; exact h
        · rw [front_short HOKW.out HOKR.out H256.out b hb]; decide)
      have HPK : Hid (Calls Tryz.prog 99 #[.agg #[.int .i64 2, .int .i64 seq, .slice none 0 0, .int .u32 (sm : Nat), .int .i64 0]] W2.drew (fun e w' => ∃ x1 x2, e = .returned (.tuple #[x1, x2]) ∧ Below W2.heap.size W2 w' ∧ PackR (commR seq sm) W2.drew (.returned (.tuple #[x1, x2])) w')) := Lib.hid
        ((Pack_any (commR seq sm) HSM.out W2.heap.size none 0 W2.drew (Nat.le_refl _) (fun i hi => by cases hi) (by simp [commR]) (show Tab W2 from HTW.out)).mono fun e w' h => by
          have hb : Below W2.heap.size W2 w' := ⟨h.2.2.os, h.2.2.tape, h.2.2.output, h.2.2.size, h.2.2.block⟩
          cases hm : recMay (commR seq sm) with
          | false =>
            obtain rfl := h.2.1 hm
            exact ⟨_, _, rfl, hb, h⟩
          | true =>
            obtain ⟨g, rfl, _⟩ := h.1 hm
            exact ⟨_, _, rfl, hb, h⟩)
      have HD1 := Lib.hid dfr
      have HD2 := Lib.hid hK2
      have Q1 := Lib.hid q1
      have Q2 := Lib.hid q2
      have QB := Lib.hid hb
      have hbl2 := row_lt hb
      have y0 : W2.drew.cell? ⟨w.heap.size, 0, none⟩ = some (.int .i64 seq) := (row_cell (show W2.heap[w.heap.size]? = _ from q0) 0).trans rfl
      have zb : W2.drew.cell? ⟨w1.heap.size, 0, none⟩ = some v := (row_cell (show W2.heap[w1.heap.size]? = _ from hb) 0).trans rfl
      have HMS : Hid (recMay (commR seq sm) = seqOk seq) := Lib.hid (by simp [recMay, commR, hasOk, restOk])
      have HLO : Hid (layOk seq ws rs = seqOk seq) := Lib.hid (by unfold layOk; rw [HNW.out, HNR.out, H256.out, HOKW.out, HOKR.out]; simp [hw, hr])
      have HLY : Hid (seqOk seq = true → lay seq ws rs = front seq ws rs ++ [recBytes (commR seq sm)]) := Lib.hid (fun h => by unfold lay; rw [hs h, hsm])
      clear q0 q1 q2 hb hBk hm hbel dfr hK2 hs hsm hFN
      gi_wp2_with fail
      rename_i K hcont0
      have hcont := Lib.hid hcont0
      clear hcont0
      have LEAF : Hid (∀ (W3 : World) (x1 x2 : Value), Below W2.heap.size W2 W3 → PackR (commR seq sm) W2.drew (.returned (.tuple #[x1, x2])) W3 → K { tmps := tm3 seq w.heap.size w1.heap.size nw nr c c' A A' (.func (.func 186) #[] #[.pointer (some ⟨w1.heap.size + 1, 0, none⟩), .pointer (some ⟨w1.heap.size + 2, 0, none⟩)]) (.func (.func 188) #[] #[.pointer (some ⟨b1, 0, none⟩), .pointer (some ⟨b1 + 1, 0, none⟩)]) v sm x1 x2, defers := [{ target := .collected D2, args := #[] }, { target := .collected D, args := #[] }] } W3) := Lib.hid (by
        intro W3 x1 x2 hb3 hp
        have HB3 := Lib.hid hb3
        clear y0 zb HSUM HPK
        unfold tm3
        cases hso : seqOk seq with
        | false =>
          rw [hso] at HMS HLO
          have HMY := HMS
          obtain h9 := hp.2.1 HMY.out
          injection h9 with h9
          injection h9 with h9
          obtain ⟨rfl, rfl⟩ : x1 = .slice none 0 0 ∧ x2 = .int .i64 22 := by simpa using h9
          clear hso HLY HMS hp hb3 h9
          have P1 := Lib.hid (row_below Q1.out HB3.out (row_lt Q1.out))
          have P2 := Lib.hid (row_below Q2.out HB3.out (row_lt Q2.out))
          have PD := Lib.hid (row_below HD1.out HB3.out (row_lt HD1.out))
          have PD2 := Lib.hid (row_below HD2.out HB3.out (row_lt HD2.out))
          have HBW := Lib.hid (below_up HBL.out HB3.out hs2)
          have z1 : W3.cell? ⟨w.heap.size + 1, 0, none⟩ = some (.slice none 0 0) := (row_cell P1.out 0).trans rfl
          have z2 : W3.cell? ⟨w.heap.size + 2, 0, none⟩ = some (.int .i64 0) := (row_cell P2.out 0).trans rfl
          have zf1 : ∀ i, W3.frozen? ⟨w.heap.size + 1, i, none⟩ = false := fun i => row_free P1.out i
          have zf2 : ∀ i, W3.frozen? ⟨w.heap.size + 2, i, none⟩ = false := fun i => row_free P2.out i
          refine hcont.out _ _ ?_
          gi_wp2
          have HF := Lib.hid (fin_set (x := .slice none 0 0) (y := .int .i64 22) P1.out P2.out HBW.out PD.out PD2.out (by omega) (by omega))
          obtain ⟨f0, f1, f2, f3⟩ := fin2 HF.out (by omega) (by omega) (by omega)
          refine ⟨by simp, .inl ⟨_, _, rfl, run_takeDeferred HF.out.2.2.2.2, by simp, .inl ⟨_, _, rfl, run_takeDeferred f0, ?_⟩⟩⟩
          refine ⟨.tuple #[.slice none 0 0, .int .i64 22], by simp [results, Tryz.results116, go_sem, f1, f2], fun hl => ?_, fun _ => rfl, f3⟩
          rw [HLO.out] at hl
          cases hl
        | true =>
          rw [hso] at HMS HLO
          have HMY := HMS
          have HLAY := Lib.hid (HLY.out hso)
          obtain ⟨g3, h9, hg3, hR3⟩ := hp.1 HMY.out
          injection h9 with h9
          injection h9 with h9
          obtain ⟨rfl, rfl⟩ : x1 = .slice (some ⟨g3, 0, none⟩) 256 256 ∧ x2 = .int .i64 0 := by simpa using h9
          have HR3 := Lib.hid hR3
          clear hso HLY HMS hp hb3 h9 hR3
          have P1 := Lib.hid (row_below Q1.out HB3.out (row_lt Q1.out))
          have P2 := Lib.hid (row_below Q2.out HB3.out (row_lt Q2.out))
          have PD := Lib.hid (row_below HD1.out HB3.out (row_lt HD1.out))
          have PD2 := Lib.hid (row_below HD2.out HB3.out (row_lt HD2.out))
          have HBW := Lib.hid (below_up HBL.out HB3.out hs2)
          have PB := Lib.hid (row_below QB.out HB3.out (row_lt QB.out))
          have zb : W3.cell? ⟨w1.heap.size, 0, none⟩ = some v := (row_cell PB.out 0).trans rfl
          have HBA := Lib.hid ((HFB.out.below HB3.out).alloc (.cells #[.slice (some ⟨g3, 0, none⟩) 256 256] 43))
          obtain ⟨vs, ha1, ha2, ha3, ha4, ha5⟩ := HBA.out
          have HA1 := Lib.hid ha1
          have HA5 := Lib.hid ha5
          have HLN := Lib.hid ha2
          have hbl : (recBytes (commR seq sm)).length = 256 := recBytes_len (recMay_iff.1 HMY.out).2.1
          have HOB : Hid (WAny.Own (W3.alloc (.cells #[.slice (some ⟨g3, 0, none⟩) 256 256] 43)) w.heap.size (.slice (some ⟨g3, 0, none⟩) 256 256) (recBytes (commR seq sm))) := Lib.hid (.inr ⟨g3, 256, [], by rw [hbl], by have := HB3.out.size; simp at hg3; omega, by omega, HR3.out.alloc _⟩)
          have HBB := Lib.hid (HBW.out.alloc HBW.out.size (.cells #[.slice (some ⟨g3, 0, none⟩) 256 256] 43))
          have hsB := HBB.out.size
          have z1 : ∀ i, (W3.alloc (.cells #[.slice (some ⟨g3, 0, none⟩) 256 256] 43)).frozen? ⟨w.heap.size + 1, i, none⟩ = false := fun i => row_free (row_alloc P1.out _) i
          clear ha1 ha2 ha5 hbl z1
          refine hcont.out _ _ ?_
          gi_wp2_with (gi_at_builtin; (refine wpListIn_append_own_at _ rfl (.tmp 85) (.tmp 87) 78 rfl w.heap.size 43 i0 _ 1 24 underS hi0 hz0 hz1 hz2 rfl (by decide) v n vs rfl HA1.out ⟨W3.heap.size, 0, none⟩ 1 1 [.slice (some ⟨g3, 0, none⟩) 256 256] rfl rfl (World.news_of_block (cs := #[.slice (some ⟨g3, 0, none⟩) 256 256]) (t := 43) (fr := (0, 0)) (row_new W3 _)) (by simp [Value.oneCell']) (by unfold maxLen; omega) (by omega) hsB ?_); intro v3 W4 h1 h2 h3 h4
                       obtain ⟨g6, c6, rfl, _⟩ := h1.form (by omega)
                       have HJ1 := Lib.hid (Blks.join HA1.out HLN.out ha3 ha4 HA5.out (M := [recBytes (commR seq sm)]) (us := [.slice (some ⟨g3, 0, none⟩) 256 256]) rfl rfl (by simp [Value.oneCell']) (fun i hi => by
                         obtain rfl : i = 0 := by simpa using hi
                         exact ⟨_, rfl, HOB.out⟩) (Nat.le_refl _) h1 h2)
                       have stay1 : ∀ (j : Nat) (cs : Array Value) (T : TypeId), 43 ≠ T → W3.heap[j]? = some (.cells cs T (0, 0)) → W4.heap[j]? = some (.cells cs T (0, 0)) := fun j cs T hT h => (h2.block j (by have := row_lt h; simp; omega) (Ne.symm (own_ne HA1.out (row_alloc h _) hT))).trans (row_alloc h _)
                       have stayD : ∀ (j : Nat) (ds : List Deferred), W3.heap[j]? = some (.deferred (some ds)) → W4.heap[j]? = some (.deferred (some ds)) := fun j ds h => by
                         refine (h2.block j (by have := row_lt h; simp; omega) (fun e => ?_)).trans (row_alloc h _)
                         rcases HA1.out.2 with ⟨rfl, _⟩ | ⟨k, cap, cur, rfl, _, hk, _⟩
                         · simp [Value.ownBlock] at e
                         · simp only [Value.ownBlock, Option.some.injEq] at e
                           subst e
                           rw [row_alloc h] at hk
                           cases hk
                       have HB4 := Lib.hid (HBB.out.grown h2 hsB (fun k hk => own_ge HA1.out k hk))
                       have Z1 := Lib.hid (stay1 _ _ _ (by decide) P1.out)
                       have Z2 := Lib.hid (stay1 _ _ _ (by decide) P2.out)
                       have ZD := Lib.hid (stayD _ _ PD.out)
                       have ZD2 := Lib.hid (stayD _ _ PD2.out)
                       have z1 : W4.cell? ⟨w.heap.size + 1, 0, none⟩ = some (.slice none 0 0) := (row_cell Z1.out 0).trans rfl
                       have z2 : W4.cell? ⟨w.heap.size + 2, 0, none⟩ = some (.int .i64 0) := (row_cell Z2.out 0).trans rfl
                       have zf1 : ∀ i, W4.frozen? ⟨w.heap.size + 1, i, none⟩ = false := fun i => row_free Z1.out i
                       have zf2 : ∀ i, W4.frozen? ⟨w.heap.size + 2, i, none⟩ = false := fun i => row_free Z2.out i
                       clear h1 h2 h3 h4 stay1 stayD)
          have HF := Lib.hid (fin_set (x := .slice (some ⟨g6, 0, none⟩) (n + 1) c6) (y := .int .i64 0) Z1.out Z2.out HB4.out ZD.out ZD2.out (by omega) (by omega))
          obtain ⟨f0, f1, f2, f3⟩ := fin2 HF.out (by omega) (by omega) (by omega)
          refine ⟨by simp, .inl ⟨_, _, rfl, run_takeDeferred HF.out.2.2.2.2, by simp, .inl ⟨_, _, rfl, run_takeDeferred f0, ?_⟩⟩⟩
          refine ⟨.tuple #[.slice (some ⟨g6, 0, none⟩) (n + 1) c6, .int .i64 0], by simp [results, Tryz.results116, go_sem, f1, f2], fun _ => ⟨_, n + 1, rfl, ?_⟩, fun hl => ?_, f3⟩
          · rw [HLAY.out]
            exact blks_free (blks_free (blks_set (blks_set HJ1.out Z1.out (by decide) (by decide)) (row_set2 Z1.out Z2.out) (by decide) (by decide)) HF.out.2.2.2.2) f0
          · rw [HLO.out] at hl
            cases hl)
      clear HOKW HOKR HFB HBL HTW HSM HD1 HD2 Q1 Q2 QB HMS HLO HLY hcont
      unfold tm3 at LEAF
      refine wpIn_wide.2 (wp_only (wp_region_any (by kernel_rfl) ?_))
      refine wpAny_ready (rs := [0, 1, 2]) (by kernel_rfl) (by simp) ?_
      refine AllReady.cons (o := _) rfl (fun K hK => ?_) (AllReady.cons (o := _) rfl (fun K hK => ?_) (AllReady.cons (o := _) rfl (fun K hK => ?_) (AllReady.nil)))
      · skip
        go_simp
        refine hK _ _ ?_
        clear hK K
        try simp only [Act.put, List.getElem_toArray, List.getElem_cons_zero, List.getElem_cons_succ, List.setIfInBounds_toArray, List.set_cons_zero, List.set_cons_succ]
        refine wpAny_ready (rs := [1, 2]) (by kernel_rfl) (by simp) ?_
        refine AllReady.cons (o := _) rfl (fun K hK => ?_) (AllReady.cons (o := _) rfl (fun K hK => ?_) (AllReady.nil))
        · skip
          go_simp
          refine hK _ _ ?_
          clear hK K
          try simp only [Act.put, List.getElem_toArray, List.getElem_cons_zero, List.getElem_cons_succ, List.setIfInBounds_toArray, List.set_cons_zero, List.set_cons_succ]
          refine wpAny_ready (rs := [2]) (by kernel_rfl) (by simp) ?_
          refine AllReady.cons (o := _) rfl (fun K hK => ?_) (AllReady.nil)
          · skip
            go_simp
            refine hK _ _ ?_
            clear hK K
            try simp only [Act.put, List.getElem_toArray, List.getElem_cons_zero, List.getElem_cons_succ, List.setIfInBounds_toArray, List.set_cons_zero, List.set_cons_succ]
            refine wpAny_ready (rs := [3]) (by kernel_rfl) (by simp) ?_
            refine AllReady.cons (o := _) rfl (fun K hK => ?_) (AllReady.nil)
            · skip
              go_simp
              go_at_call 150
              refine HSUM.out.mono ?_
              rintro e w' ⟨rfl, rfl⟩
              dsimp only
              refine hK _ _ ?_
              clear hK K
              try simp only [Act.put, List.getElem_toArray, List.getElem_cons_zero, List.getElem_cons_succ, List.setIfInBounds_toArray, List.set_cons_zero, List.set_cons_succ]
              refine wpAny_take (i := 4) (v := ?_) rfl (by kernel_rfl) (by kernel_rfl) (by kernel_rfl) (fun _ _ _ h => h) (Or.inl ⟨by rfl, ?_⟩) ?_
              rotate_left
              · intro w
                go_simp
                try with_reducible rfl
              try simp only [Act.put, List.getElem_toArray, List.getElem_cons_zero, List.getElem_cons_succ, List.setIfInBounds_toArray, List.set_cons_zero, List.set_cons_succ]
              refine wpAny_ready (rs := [5]) (by kernel_rfl) (by simp) ?_
              refine AllReady.cons (o := _) rfl (fun K hK => ?_) (AllReady.nil)
              · skip
                go_simp
                go_at_call 99
                refine HPK.out.mono ?_
                rintro e W3 ⟨x1, x2, rfl, hb3, hp⟩
                have HB3 := Lib.hid hb3
                have HP := Lib.hid hp
                clear hb3 hp
                dsimp only
                refine hK _ _ ?_
                clear hK K
                try simp only [Act.put, List.getElem_toArray, List.getElem_cons_zero, List.getElem_cons_succ, List.setIfInBounds_toArray, List.set_cons_zero, List.set_cons_succ]
                refine wpAny_take (i := 6) (v := ?_) rfl (by kernel_rfl) (by kernel_rfl) (by kernel_rfl) (fun _ _ _ h => h) (Or.inl ⟨by rfl, ?_⟩) ?_
                rotate_left
                · intro w
                  go_simp
                  try with_reducible rfl
                try simp only [Act.put, List.getElem_toArray, List.getElem_cons_zero, List.getElem_cons_succ, List.setIfInBounds_toArray, List.set_cons_zero, List.set_cons_succ]
                refine wpAny_take (i := 7) (v := ?_) rfl (by kernel_rfl) (by kernel_rfl) (by kernel_rfl) (fun _ _ _ h => h) (Or.inl ⟨by rfl, ?_⟩) ?_
                rotate_left
                · intro w
                  go_simp
                  try with_reducible rfl
                try simp only [Act.put, List.getElem_toArray, List.getElem_cons_zero, List.getElem_cons_succ, List.setIfInBounds_toArray, List.set_cons_zero, List.set_cons_succ]
                refine wpAny_take (i := 8) (v := ?_) rfl (by kernel_rfl) (by kernel_rfl) (by kernel_rfl) (fun _ _ _ h => h) (Or.inl ⟨by rfl, ?_⟩) ?_
                rotate_left
                · intro w
                  go_simp
                  try with_reducible rfl
                try simp only [Act.put, List.getElem_toArray, List.getElem_cons_zero, List.getElem_cons_succ, List.setIfInBounds_toArray, List.set_cons_zero, List.set_cons_succ]
                refine wpAny_take (i := 9) (v := ?_) rfl (by kernel_rfl) (by kernel_rfl) (by kernel_rfl) (fun _ _ _ h => h) (Or.inl ⟨by rfl, ?_⟩) ?_
                rotate_left
                · intro w
                  go_simp
                  try with_reducible rfl
                try simp only [Act.put, List.getElem_toArray, List.getElem_cons_zero, List.getElem_cons_succ, List.setIfInBounds_toArray, List.set_cons_zero, List.set_cons_succ]
                refine wpAny_take (i := 10) (v := ?_) rfl (by kernel_rfl) (by kernel_rfl) (by kernel_rfl) (fun _ _ _ h => h) (Or.inl ⟨by rfl, ?_⟩) ?_
                rotate_left
                · intro w
                  go_simp
                  try with_reducible rfl
                try simp only [Act.put, List.getElem_toArray, List.getElem_cons_zero, List.getElem_cons_succ, List.setIfInBounds_toArray, List.set_cons_zero, List.set_cons_succ]
                refine wpAny_done (by kernel_rfl) ?_ _
                rw [only_normal]
                exact LEAF.out W3 x1 x2 HB3.out HP.out
        · skip
          go_simp
          refine hK _ _ ?_
          clear hK K
          try simp only [Act.put, List.getElem_toArray, List.getElem_cons_zero, List.getElem_cons_succ, List.setIfInBounds_toArray, List.set_cons_zero, List.set_cons_succ]
          refine wpAny_ready (rs := [1]) (by kernel_rfl) (by simp) ?_
          refine AllReady.cons (o := _) rfl (fun K hK => ?_) (AllReady.nil)
          · skip
            go_simp
            refine hK _ _ ?_
            clear hK K
            try simp only [Act.put, List.getElem_toArray, List.getElem_cons_zero, List.getElem_cons_succ, List.setIfInBounds_toArray, List.set_cons_zero, List.set_cons_succ]
            refine wpAny_ready (rs := [3]) (by kernel_rfl) (by simp) ?_
            refine AllReady.cons (o := _) rfl (fun K hK => ?_) (AllReady.nil)
            · skip
              go_simp
              go_at_call 150
              refine HSUM.out.mono ?_
              rintro e w' ⟨rfl, rfl⟩
              dsimp only
              refine hK _ _ ?_
              clear hK K
              try simp only [Act.put, List.getElem_toArray, List.getElem_cons_zero, List.getElem_cons_succ, List.setIfInBounds_toArray, List.set_cons_zero, List.set_cons_succ]
              refine wpAny_take (i := 4) (v := ?_) rfl (by kernel_rfl) (by kernel_rfl) (by kernel_rfl) (fun _ _ _ h => h) (Or.inl ⟨by rfl, ?_⟩) ?_
              rotate_left
              · intro w
                go_simp
                try with_reducible rfl
              try simp only [Act.put, List.getElem_toArray, List.getElem_cons_zero, List.getElem_cons_succ, List.setIfInBounds_toArray, List.set_cons_zero, List.set_cons_succ]
              refine wpAny_ready (rs := [5]) (by kernel_rfl) (by simp) ?_
              refine AllReady.cons (o := _) rfl (fun K hK => ?_) (AllReady.nil)
              · skip
                go_simp
                go_at_call 99
                refine HPK.out.mono ?_
                rintro e W3 ⟨x1, x2, rfl, hb3, hp⟩
                have HB3 := Lib.hid hb3
                have HP := Lib.hid hp
                clear hb3 hp
                dsimp only
                refine hK _ _ ?_
                clear hK K
                try simp only [Act.put, List.getElem_toArray, List.getElem_cons_zero, List.getElem_cons_succ, List.setIfInBounds_toArray, List.set_cons_zero, List.set_cons_succ]
                refine wpAny_take (i := 6) (v := ?_) rfl (by kernel_rfl) (by kernel_rfl) (by kernel_rfl) (fun _ _ _ h => h) (Or.inl ⟨by rfl, ?_⟩) ?_
                rotate_left
                · intro w
                  go_simp
                  try with_reducible rfl
                try simp only [Act.put, List.getElem_toArray, List.getElem_cons_zero, List.getElem_cons_succ, List.setIfInBounds_toArray, List.set_cons_zero, List.set_cons_succ]
                refine wpAny_take (i := 7) (v := ?_) rfl (by kernel_rfl) (by kernel_rfl) (by kernel_rfl) (fun _ _ _ h => h) (Or.inl ⟨by rfl, ?_⟩) ?_
                rotate_left
                · intro w
                  go_simp
                  try with_reducible rfl
                try simp only [Act.put, List.getElem_toArray, List.getElem_cons_zero, List.getElem_cons_succ, List.setIfInBounds_toArray, List.set_cons_zero, List.set_cons_succ]
                refine wpAny_take (i := 8) (v := ?_) rfl (by kernel_rfl) (by kernel_rfl) (by kernel_rfl) (fun _ _ _ h => h) (Or.inl ⟨by rfl, ?_⟩) ?_
                rotate_left
                · intro w
                  go_simp
                  try with_reducible rfl
                try simp only [Act.put, List.getElem_toArray, List.getElem_cons_zero, List.getElem_cons_succ, List.setIfInBounds_toArray, List.set_cons_zero, List.set_cons_succ]
                refine wpAny_take (i := 9) (v := ?_) rfl (by kernel_rfl) (by kernel_rfl) (by kernel_rfl) (fun _ _ _ h => h) (Or.inl ⟨by rfl, ?_⟩) ?_
                rotate_left
                · intro w
                  go_simp
                  try with_reducible rfl
                try simp only [Act.put, List.getElem_toArray, List.getElem_cons_zero, List.getElem_cons_succ, List.setIfInBounds_toArray, List.set_cons_zero, List.set_cons_succ]
                refine wpAny_take (i := 10) (v := ?_) rfl (by kernel_rfl) (by kernel_rfl) (by kernel_rfl) (fun _ _ _ h => h) (Or.inl ⟨by rfl, ?_⟩) ?_
                rotate_left
                · intro w
                  go_simp
                  try with_reducible rfl
                try simp only [Act.put, List.getElem_toArray, List.getElem_cons_zero, List.getElem_cons_succ, List.setIfInBounds_toArray, List.set_cons_zero, List.set_cons_succ]
                refine wpAny_done (by kernel_rfl) ?_ _
                rw [only_normal]
                exact LEAF.out W3 x1 x2 HB3.out HP.out
      · skip
        go_simp
        refine hK _ _ ?_
        clear hK K
        try simp only [Act.put, List.getElem_toArray, List.getElem_cons_zero, List.getElem_cons_succ, List.setIfInBounds_toArray, List.set_cons_zero, List.set_cons_succ]
        refine wpAny_ready (rs := [0, 2]) (by kernel_rfl) (by simp) ?_
        refine AllReady.cons (o := _) rfl (fun K hK => ?_) (AllReady.cons (o := _) rfl (fun K hK => ?_) (AllReady.nil))
        · skip
          go_simp
          refine hK _ _ ?_
          clear hK K
          try simp only [Act.put, List.getElem_toArray, List.getElem_cons_zero, List.getElem_cons_succ, List.setIfInBounds_toArray, List.set_cons_zero, List.set_cons_succ]
          refine wpAny_ready (rs := [2]) (by kernel_rfl) (by simp) ?_
          refine AllReady.cons (o := _) rfl (fun K hK => ?_) (AllReady.nil)
          · skip
            go_simp
            refine hK _ _ ?_
            clear hK K
            try simp only [Act.put, List.getElem_toArray, List.getElem_cons_zero, List.getElem_cons_succ, List.setIfInBounds_toArray, List.set_cons_zero, List.set_cons_succ]
            refine wpAny_ready (rs := [3]) (by kernel_rfl) (by simp) ?_
            refine AllReady.cons (o := _) rfl (fun K hK => ?_) (AllReady.nil)
            · skip
              go_simp
              go_at_call 150
              refine HSUM.out.mono ?_
              rintro e w' ⟨rfl, rfl⟩
              dsimp only
              refine hK _ _ ?_
              clear hK K
              try simp only [Act.put, List.getElem_toArray, List.getElem_cons_zero, List.getElem_cons_succ, List.setIfInBounds_toArray, List.set_cons_zero, List.set_cons_succ]
              refine wpAny_take (i := 4) (v := ?_) rfl (by kernel_rfl) (by kernel_rfl) (by kernel_rfl) (fun _ _ _ h => h) (Or.inl ⟨by rfl, ?_⟩) ?_
              rotate_left
              · intro w
                go_simp
                try with_reducible rfl
              try simp only [Act.put, List.getElem_toArray, List.getElem_cons_zero, List.getElem_cons_succ, List.setIfInBounds_toArray, List.set_cons_zero, List.set_cons_succ]
              refine wpAny_ready (rs := [5]) (by kernel_rfl) (by simp) ?_
              refine AllReady.cons (o := _) rfl (fun K hK => ?_) (AllReady.nil)
              · skip
                go_simp
                go_at_call 99
                refine HPK.out.mono ?_
                rintro e W3 ⟨x1, x2, rfl, hb3, hp⟩
                have HB3 := Lib.hid hb3
                have HP := Lib.hid hp
                clear hb3 hp
                dsimp only
                refine hK _ _ ?_
                clear hK K
                try simp only [Act.put, List.getElem_toArray, List.getElem_cons_zero, List.getElem_cons_succ, List.setIfInBounds_toArray, List.set_cons_zero, List.set_cons_succ]
                refine wpAny_take (i := 6) (v := ?_) rfl (by kernel_rfl) (by kernel_rfl) (by kernel_rfl) (fun _ _ _ h => h) (Or.inl ⟨by rfl, ?_⟩) ?_
                rotate_left
                · intro w
                  go_simp
                  try with_reducible rfl
                try simp only [Act.put, List.getElem_toArray, List.getElem_cons_zero, List.getElem_cons_succ, List.setIfInBounds_toArray, List.set_cons_zero, List.set_cons_succ]
                refine wpAny_take (i := 7) (v := ?_) rfl (by kernel_rfl) (by kernel_rfl) (by kernel_rfl) (fun _ _ _ h => h) (Or.inl ⟨by rfl, ?_⟩) ?_
                rotate_left
                · intro w
                  go_simp
                  try with_reducible rfl
                try simp only [Act.put, List.getElem_toArray, List.getElem_cons_zero, List.getElem_cons_succ, List.setIfInBounds_toArray, List.set_cons_zero, List.set_cons_succ]
                refine wpAny_take (i := 8) (v := ?_) rfl (by kernel_rfl) (by kernel_rfl) (by kernel_rfl) (fun _ _ _ h => h) (Or.inl ⟨by rfl, ?_⟩) ?_
                rotate_left
                · intro w
                  go_simp
                  try with_reducible rfl
                try simp only [Act.put, List.getElem_toArray, List.getElem_cons_zero, List.getElem_cons_succ, List.setIfInBounds_toArray, List.set_cons_zero, List.set_cons_succ]
                refine wpAny_take (i := 9) (v := ?_) rfl (by kernel_rfl) (by kernel_rfl) (by kernel_rfl) (fun _ _ _ h => h) (Or.inl ⟨by rfl, ?_⟩) ?_
                rotate_left
                · intro w
                  go_simp
                  try with_reducible rfl
                try simp only [Act.put, List.getElem_toArray, List.getElem_cons_zero, List.getElem_cons_succ, List.setIfInBounds_toArray, List.set_cons_zero, List.set_cons_succ]
                refine wpAny_take (i := 10) (v := ?_) rfl (by kernel_rfl) (by kernel_rfl) (by kernel_rfl) (fun _ _ _ h => h) (Or.inl ⟨by rfl, ?_⟩) ?_
                rotate_left
                · intro w
                  go_simp
                  try with_reducible rfl
                try simp only [Act.put, List.getElem_toArray, List.getElem_cons_zero, List.getElem_cons_succ, List.setIfInBounds_toArray, List.set_cons_zero, List.set_cons_succ]
                refine wpAny_done (by kernel_rfl) ?_ _
                rw [only_normal]
                exact LEAF.out W3 x1 x2 HB3.out HP.out
        · skip
          go_simp
          refine hK _ _ ?_
          clear hK K
          try simp only [Act.put, List.getElem_toArray, List.getElem_cons_zero, List.getElem_cons_succ, List.setIfInBounds_toArray, List.set_cons_zero, List.set_cons_succ]
          refine wpAny_ready (rs := [0, 3]) (by kernel_rfl) (by simp) ?_
          refine AllReady.cons (o := _) rfl (fun K hK => ?_) (AllReady.cons (o := _) rfl (fun K hK => ?_) (AllReady.nil))
          · skip
            go_simp
            refine hK _ _ ?_
            clear hK K
            try simp only [Act.put, List.getElem_toArray, List.getElem_cons_zero, List.getElem_cons_succ, List.setIfInBounds_toArray, List.set_cons_zero, List.set_cons_succ]
            refine wpAny_ready (rs := [3]) (by kernel_rfl) (by simp) ?_
            refine AllReady.cons (o := _) rfl (fun K hK => ?_) (AllReady.nil)
            · skip
              go_simp
              go_at_call 150
              refine HSUM.out.mono ?_
              rintro e w' ⟨rfl, rfl⟩
              dsimp only
              refine hK _ _ ?_
              clear hK K
              try simp only [Act.put, List.getElem_toArray, List.getElem_cons_zero, List.getElem_cons_succ, List.setIfInBounds_toArray, List.set_cons_zero, List.set_cons_succ]
              refine wpAny_take (i := 4) (v := ?_) rfl (by kernel_rfl) (by kernel_rfl) (by kernel_rfl) (fun _ _ _ h => h) (Or.inl ⟨by rfl, ?_⟩) ?_
              rotate_left
              · intro w
                go_simp
                try with_reducible rfl
              try simp only [Act.put, List.getElem_toArray, List.getElem_cons_zero, List.getElem_cons_succ, List.setIfInBounds_toArray, List.set_cons_zero, List.set_cons_succ]
              refine wpAny_ready (rs := [5]) (by kernel_rfl) (by simp) ?_
              refine AllReady.cons (o := _) rfl (fun K hK => ?_) (AllReady.nil)
              · skip
                go_simp
                go_at_call 99
                refine HPK.out.mono ?_
                rintro e W3 ⟨x1, x2, rfl, hb3, hp⟩
                have HB3 := Lib.hid hb3
                have HP := Lib.hid hp
                clear hb3 hp
                dsimp only
                refine hK _ _ ?_
                clear hK K
                try simp only [Act.put, List.getElem_toArray, List.getElem_cons_zero, List.getElem_cons_succ, List.setIfInBounds_toArray, List.set_cons_zero, List.set_cons_succ]
                refine wpAny_take (i := 6) (v := ?_) rfl (by kernel_rfl) (by kernel_rfl) (by kernel_rfl) (fun _ _ _ h => h) (Or.inl ⟨by rfl, ?_⟩) ?_
                rotate_left
                · intro w
                  go_simp
                  try with_reducible rfl
                try simp only [Act.put, List.getElem_toArray, List.getElem_cons_zero, List.getElem_cons_succ, List.setIfInBounds_toArray, List.set_cons_zero, List.set_cons_succ]
                refine wpAny_take (i := 7) (v := ?_) rfl (by kernel_rfl) (by kernel_rfl) (by kernel_rfl) (fun _ _ _ h => h) (Or.inl ⟨by rfl, ?_⟩) ?_
                rotate_left
                · intro w
                  go_simp
                  try with_reducible rfl
                try simp only [Act.put, List.getElem_toArray, List.getElem_cons_zero, List.getElem_cons_succ, List.setIfInBounds_toArray, List.set_cons_zero, List.set_cons_succ]
                refine wpAny_take (i := 8) (v := ?_) rfl (by kernel_rfl) (by kernel_rfl) (by kernel_rfl) (fun _ _ _ h => h) (Or.inl ⟨by rfl, ?_⟩) ?_
                rotate_left
                · intro w
                  go_simp
                  try with_reducible rfl
                try simp only [Act.put, List.getElem_toArray, List.getElem_cons_zero, List.getElem_cons_succ, List.setIfInBounds_toArray, List.set_cons_zero, List.set_cons_succ]
                refine wpAny_take (i := 9) (v := ?_) rfl (by kernel_rfl) (by kernel_rfl) (by kernel_rfl) (fun _ _ _ h => h) (Or.inl ⟨by rfl, ?_⟩) ?_
                rotate_left
                · intro w
                  go_simp
                  try with_reducible rfl
                try simp only [Act.put, List.getElem_toArray, List.getElem_cons_zero, List.getElem_cons_succ, List.setIfInBounds_toArray, List.set_cons_zero, List.set_cons_succ]
                refine wpAny_take (i := 10) (v := ?_) rfl (by kernel_rfl) (by kernel_rfl) (by kernel_rfl) (fun _ _ _ h => h) (Or.inl ⟨by rfl, ?_⟩) ?_
                rotate_left
                · intro w
                  go_simp
                  try with_reducible rfl
                try simp only [Act.put, List.getElem_toArray, List.getElem_cons_zero, List.getElem_cons_succ, List.setIfInBounds_toArray, List.set_cons_zero, List.set_cons_succ]
                refine wpAny_done (by kernel_rfl) ?_ _
                rw [only_normal]
                exact LEAF.out W3 x1 x2 HB3.out HP.out
          · skip
            go_simp
            go_at_call 150
            refine HSUM.out.mono ?_
            rintro e w' ⟨rfl, rfl⟩
            dsimp only
            refine hK _ _ ?_
            clear hK K
            try simp only [Act.put, List.getElem_toArray, List.getElem_cons_zero, List.getElem_cons_succ, List.setIfInBounds_toArray, List.set_cons_zero, List.set_cons_succ]
            refine wpAny_ready (rs := [0]) (by kernel_rfl) (by simp) ?_
            refine AllReady.cons (o := _) rfl (fun K hK => ?_) (AllReady.nil)
            · skip
              go_simp
              refine hK _ _ ?_
              clear hK K
              try simp only [Act.put, List.getElem_toArray, List.getElem_cons_zero, List.getElem_cons_succ, List.setIfInBounds_toArray, List.set_cons_zero, List.set_cons_succ]
              refine wpAny_take (i := 4) (v := ?_) rfl (by kernel_rfl) (by kernel_rfl) (by kernel_rfl) (fun _ _ _ h => h) (Or.inl ⟨by rfl, ?_⟩) ?_
              rotate_left
              · intro w
                go_simp
                try with_reducible rfl
              try simp only [Act.put, List.getElem_toArray, List.getElem_cons_zero, List.getElem_cons_succ, List.setIfInBounds_toArray, List.set_cons_zero, List.set_cons_succ]
              refine wpAny_ready (rs := [5]) (by kernel_rfl) (by simp) ?_
              refine AllReady.cons (o := _) rfl (fun K hK => ?_) (AllReady.nil)
              · skip
                go_simp
                go_at_call 99
                refine HPK.out.mono ?_
                rintro e W3 ⟨x1, x2, rfl, hb3, hp⟩
                have HB3 := Lib.hid hb3
                have HP := Lib.hid hp
                clear hb3 hp
                dsimp only
                refine hK _ _ ?_
                clear hK K
                try simp only [Act.put, List.getElem_toArray, List.getElem_cons_zero, List.getElem_cons_succ, List.setIfInBounds_toArray, List.set_cons_zero, List.set_cons_succ]
                refine wpAny_take (i := 6) (v := ?_) rfl (by kernel_rfl) (by kernel_rfl) (by kernel_rfl) (fun _ _ _ h => h) (Or.inl ⟨by rfl, ?_⟩) ?_
                rotate_left
                · intro w
                  go_simp
                  try with_reducible rfl
                try simp only [Act.put, List.getElem_toArray, List.getElem_cons_zero, List.getElem_cons_succ, List.setIfInBounds_toArray, List.set_cons_zero, List.set_cons_succ]
                refine wpAny_take (i := 7) (v := ?_) rfl (by kernel_rfl) (by kernel_rfl) (by kernel_rfl) (fun _ _ _ h => h) (Or.inl ⟨by rfl, ?_⟩) ?_
                rotate_left
                · intro w
                  go_simp
                  try with_reducible rfl
                try simp only [Act.put, List.getElem_toArray, List.getElem_cons_zero, List.getElem_cons_succ, List.setIfInBounds_toArray, List.set_cons_zero, List.set_cons_succ]
                refine wpAny_take (i := 8) (v := ?_) rfl (by kernel_rfl) (by kernel_rfl) (by kernel_rfl) (fun _ _ _ h => h) (Or.inl ⟨by rfl, ?_⟩) ?_
                rotate_left
                · intro w
                  go_simp
                  try with_reducible rfl
                try simp only [Act.put, List.getElem_toArray, List.getElem_cons_zero, List.getElem_cons_succ, List.setIfInBounds_toArray, List.set_cons_zero, List.set_cons_succ]
                refine wpAny_take (i := 9) (v := ?_) rfl (by kernel_rfl) (by kernel_rfl) (by kernel_rfl) (fun _ _ _ h => h) (Or.inl ⟨by rfl, ?_⟩) ?_
                rotate_left
                · intro w
                  go_simp
                  try with_reducible rfl
                try simp only [Act.put, List.getElem_toArray, List.getElem_cons_zero, List.getElem_cons_succ, List.setIfInBounds_toArray, List.set_cons_zero, List.set_cons_succ]
                refine wpAny_take (i := 10) (v := ?_) rfl (by kernel_rfl) (by kernel_rfl) (by kernel_rfl) (fun _ _ _ h => h) (Or.inl ⟨by rfl, ?_⟩) ?_
                rotate_left
                · intro w
                  go_simp
                  try with_reducible rfl
                try simp only [Act.put, List.getElem_toArray, List.getElem_cons_zero, List.getElem_cons_succ, List.setIfInBounds_toArray, List.set_cons_zero, List.set_cons_succ]
                refine wpAny_done (by kernel_rfl) ?_ _
                rw [only_normal]
                exact LEAF.out W3 x1 x2 HB3.out HP.out
      · skip
        go_simp
        refine hK _ _ ?_
        clear hK K
        try simp only [Act.put, List.getElem_toArray, List.getElem_cons_zero, List.getElem_cons_succ, List.setIfInBounds_toArray, List.set_cons_zero, List.set_cons_succ]
        refine wpAny_ready (rs := [0, 1]) (by kernel_rfl) (by simp) ?_
        refine AllReady.cons (o := _) rfl (fun K hK => ?_) (AllReady.cons (o := _) rfl (fun K hK => ?_) (AllReady.nil))
        · skip
          go_simp
          refine hK _ _ ?_
          clear hK K
          try simp only [Act.put, List.getElem_toArray, List.getElem_cons_zero, List.getElem_cons_succ, List.setIfInBounds_toArray, List.set_cons_zero, List.set_cons_succ]
          refine wpAny_ready (rs := [1]) (by kernel_rfl) (by simp) ?_
          refine AllReady.cons (o := _) rfl (fun K hK => ?_) (AllReady.nil)
          · skip
            go_simp
            refine hK _ _ ?_
            clear hK K
            try simp only [Act.put, List.getElem_toArray, List.getElem_cons_zero, List.getElem_cons_succ, List.setIfInBounds_toArray, List.set_cons_zero, List.set_cons_succ]
            refine wpAny_ready (rs := [3]) (by kernel_rfl) (by simp) ?_
            refine AllReady.cons (o := _) rfl (fun K hK => ?_) (AllReady.nil)
            · skip
              go_simp
              go_at_call 150
              refine HSUM.out.mono ?_
              rintro e w' ⟨rfl, rfl⟩
              dsimp only
              refine hK _ _ ?_
              clear hK K
              try simp only [Act.put, List.getElem_toArray, List.getElem_cons_zero, List.getElem_cons_succ, List.setIfInBounds_toArray, List.set_cons_zero, List.set_cons_succ]
              refine wpAny_take (i := 4) (v := ?_) rfl (by kernel_rfl) (by kernel_rfl) (by kernel_rfl) (fun _ _ _ h => h) (Or.inl ⟨by rfl, ?_⟩) ?_
              rotate_left
              · intro w
                go_simp
                try with_reducible rfl
              try simp only [Act.put, List.getElem_toArray, List.getElem_cons_zero, List.getElem_cons_succ, List.setIfInBounds_toArray, List.set_cons_zero, List.set_cons_succ]
              refine wpAny_ready (rs := [5]) (by kernel_rfl) (by simp) ?_
              refine AllReady.cons (o := _) rfl (fun K hK => ?_) (AllReady.nil)
              · skip
                go_simp
                go_at_call 99
                refine HPK.out.mono ?_
                rintro e W3 ⟨x1, x2, rfl, hb3, hp⟩
                have HB3 := Lib.hid hb3
                have HP := Lib.hid hp
                clear hb3 hp
                dsimp only
                refine hK _ _ ?_
                clear hK K
                try simp only [Act.put, List.getElem_toArray, List.getElem_cons_zero, List.getElem_cons_succ, List.setIfInBounds_toArray, List.set_cons_zero, List.set_cons_succ]
                refine wpAny_take (i := 6) (v := ?_) rfl (by kernel_rfl) (by kernel_rfl) (by kernel_rfl) (fun _ _ _ h => h) (Or.inl ⟨by rfl, ?_⟩) ?_
                rotate_left
                · intro w
                  go_simp
                  try with_reducible rfl
                try simp only [Act.put, List.getElem_toArray, List.getElem_cons_zero, List.getElem_cons_succ, List.setIfInBounds_toArray, List.set_cons_zero, List.set_cons_succ]
                refine wpAny_take (i := 7) (v := ?_) rfl (by kernel_rfl) (by kernel_rfl) (by kernel_rfl) (fun _ _ _ h => h) (Or.inl ⟨by rfl, ?_⟩) ?_
                rotate_left
                · intro w
                  go_simp
                  try with_reducible rfl
                try simp only [Act.put, List.getElem_toArray, List.getElem_cons_zero, List.getElem_cons_succ, List.setIfInBounds_toArray, List.set_cons_zero, List.set_cons_succ]
                refine wpAny_take (i := 8) (v := ?_) rfl (by kernel_rfl) (by kernel_rfl) (by kernel_rfl) (fun _ _ _ h => h) (Or.inl ⟨by rfl, ?_⟩) ?_
                rotate_left
                · intro w
                  go_simp
                  try with_reducible rfl
                try simp only [Act.put, List.getElem_toArray, List.getElem_cons_zero, List.getElem_cons_succ, List.setIfInBounds_toArray, List.set_cons_zero, List.set_cons_succ]
                refine wpAny_take (i := 9) (v := ?_) rfl (by kernel_rfl) (by kernel_rfl) (by kernel_rfl) (fun _ _ _ h => h) (Or.inl ⟨by rfl, ?_⟩) ?_
                rotate_left
                · intro w
                  go_simp
                  try with_reducible rfl
                try simp only [Act.put, List.getElem_toArray, List.getElem_cons_zero, List.getElem_cons_succ, List.setIfInBounds_toArray, List.set_cons_zero, List.set_cons_succ]
                refine wpAny_take (i := 10) (v := ?_) rfl (by kernel_rfl) (by kernel_rfl) (by kernel_rfl) (fun _ _ _ h => h) (Or.inl ⟨by rfl, ?_⟩) ?_
                rotate_left
                · intro w
                  go_simp
                  try with_reducible rfl
                try simp only [Act.put, List.getElem_toArray, List.getElem_cons_zero, List.getElem_cons_succ, List.setIfInBounds_toArray, List.set_cons_zero, List.set_cons_succ]
                refine wpAny_done (by kernel_rfl) ?_ _
                rw [only_normal]
                exact LEAF.out W3 x1 x2 HB3.out HP.out
        · skip
          go_simp
          refine hK _ _ ?_
          clear hK K
          try simp only [Act.put, List.getElem_toArray, List.getElem_cons_zero, List.getElem_cons_succ, List.setIfInBounds_toArray, List.set_cons_zero, List.set_cons_succ]
          refine wpAny_ready (rs := [0, 3]) (by kernel_rfl) (by simp) ?_
          refine AllReady.cons (o := _) rfl (fun K hK => ?_) (AllReady.cons (o := _) rfl (fun K hK => ?_) (AllReady.nil))
          · skip
            go_simp
            refine hK _ _ ?_
            clear hK K
            try simp only [Act.put, List.getElem_toArray, List.getElem_cons_zero, List.getElem_cons_succ, List.setIfInBounds_toArray, List.set_cons_zero, List.set_cons_succ]
            refine wpAny_ready (rs := [3]) (by kernel_rfl) (by simp) ?_
            refine AllReady.cons (o := _) rfl (fun K hK => ?_) (AllReady.nil)
            · skip
              go_simp
              go_at_call 150
              refine HSUM.out.mono ?_
              rintro e w' ⟨rfl, rfl⟩
              dsimp only
              refine hK _ _ ?_
              clear hK K
              try simp only [Act.put, List.getElem_toArray, List.getElem_cons_zero, List.getElem_cons_succ, List.setIfInBounds_toArray, List.set_cons_zero, List.set_cons_succ]
              refine wpAny_take (i := 4) (v := ?_) rfl (by kernel_rfl) (by kernel_rfl) (by kernel_rfl) (fun _ _ _ h => h) (Or.inl ⟨by rfl, ?_⟩) ?_
              rotate_left
              · intro w
                go_simp
                try with_reducible rfl
              try simp only [Act.put, List.getElem_toArray, List.getElem_cons_zero, List.getElem_cons_succ, List.setIfInBounds_toArray, List.set_cons_zero, List.set_cons_succ]
              refine wpAny_ready (rs := [5]) (by kernel_rfl) (by simp) ?_
              refine AllReady.cons (o := _) rfl (fun K hK => ?_) (AllReady.nil)
              · skip
                go_simp
                go_at_call 99
                refine HPK.out.mono ?_
                rintro e W3 ⟨x1, x2, rfl, hb3, hp⟩
                have HB3 := Lib.hid hb3
                have HP := Lib.hid hp
                clear hb3 hp
                dsimp only
                refine hK _ _ ?_
                clear hK K
                try simp only [Act.put, List.getElem_toArray, List.getElem_cons_zero, List.getElem_cons_succ, List.setIfInBounds_toArray, List.set_cons_zero, List.set_cons_succ]
                refine wpAny_take (i := 6) (v := ?_) rfl (by kernel_rfl) (by kernel_rfl) (by kernel_rfl) (fun _ _ _ h => h) (Or.inl ⟨by rfl, ?_⟩) ?_
                rotate_left
                · intro w
                  go_simp
                  try with_reducible rfl
                try simp only [Act.put, List.getElem_toArray, List.getElem_cons_zero, List.getElem_cons_succ, List.setIfInBounds_toArray, List.set_cons_zero, List.set_cons_succ]
                refine wpAny_take (i := 7) (v := ?_) rfl (by kernel_rfl) (by kernel_rfl) (by kernel_rfl) (fun _ _ _ h => h) (Or.inl ⟨by rfl, ?_⟩) ?_
                rotate_left
                · intro w
                  go_simp
                  try with_reducible rfl
                try simp only [Act.put, List.getElem_toArray, List.getElem_cons_zero, List.getElem_cons_succ, List.setIfInBounds_toArray, List.set_cons_zero, List.set_cons_succ]
                refine wpAny_take (i := 8) (v := ?_) rfl (by kernel_rfl) (by kernel_rfl) (by kernel_rfl) (fun _ _ _ h => h) (Or.inl ⟨by rfl, ?_⟩) ?_
                rotate_left
                · intro w
                  go_simp
                  try with_reducible rfl
                try simp only [Act.put, List.getElem_toArray, List.getElem_cons_zero, List.getElem_cons_succ, List.setIfInBounds_toArray, List.set_cons_zero, List.set_cons_succ]
                refine wpAny_take (i := 9) (v := ?_) rfl (by kernel_rfl) (by kernel_rfl) (by kernel_rfl) (fun _ _ _ h => h) (Or.inl ⟨by rfl, ?_⟩) ?_
                rotate_left
                · intro w
                  go_simp
                  try with_reducible rfl
                try simp only [Act.put, List.getElem_toArray, List.getElem_cons_zero, List.getElem_cons_succ, List.setIfInBounds_toArray, List.set_cons_zero, List.set_cons_succ]
                refine wpAny_take (i := 10) (v := ?_) rfl (by kernel_rfl) (by kernel_rfl) (by kernel_rfl) (fun _ _ _ h => h) (Or.inl ⟨by rfl, ?_⟩) ?_
                rotate_left
                · intro w
                  go_simp
                  try with_reducible rfl
                try simp only [Act.put, List.getElem_toArray, List.getElem_cons_zero, List.getElem_cons_succ, List.setIfInBounds_toArray, List.set_cons_zero, List.set_cons_succ]
                refine wpAny_done (by kernel_rfl) ?_ _
                rw [only_normal]
                exact LEAF.out W3 x1 x2 HB3.out HP.out
          · skip
            go_simp
            go_at_call 150
            refine HSUM.out.mono ?_
            rintro e w' ⟨rfl, rfl⟩
            dsimp only
            refine hK _ _ ?_
            clear hK K
            try simp only [Act.put, List.getElem_toArray, List.getElem_cons_zero, List.getElem_cons_succ, List.setIfInBounds_toArray, List.set_cons_zero, List.set_cons_succ]
            refine wpAny_ready (rs := [0]) (by kernel_rfl) (by simp) ?_
            refine AllReady.cons (o := _) rfl (fun K hK => ?_) (AllReady.nil)
            · skip
              go_simp
              refine hK _ _ ?_
              clear hK K
              try simp only [Act.put, List.getElem_toArray, List.getElem_cons_zero, List.getElem_cons_succ, List.setIfInBounds_toArray, List.set_cons_zero, List.set_cons_succ]
              refine wpAny_take (i := 4) (v := ?_) rfl (by kernel_rfl) (by kernel_rfl) (by kernel_rfl) (fun _ _ _ h => h) (Or.inl ⟨by rfl, ?_⟩) ?_
              rotate_left
              · intro w
                go_simp
                try with_reducible rfl
              try simp only [Act.put, List.getElem_toArray, List.getElem_cons_zero, List.getElem_cons_succ, List.setIfInBounds_toArray, List.set_cons_zero, List.set_cons_succ]
              refine wpAny_ready (rs := [5]) (by kernel_rfl) (by simp) ?_
              refine AllReady.cons (o := _) rfl (fun K hK => ?_) (AllReady.nil)
              · skip
                go_simp
                go_at_call 99
                refine HPK.out.mono ?_
                rintro e W3 ⟨x1, x2, rfl, hb3, hp⟩
                have HB3 := Lib.hid hb3
                have HP := Lib.hid hp
                clear hb3 hp
                dsimp only
                refine hK _ _ ?_
                clear hK K
                try simp only [Act.put, List.getElem_toArray, List.getElem_cons_zero, List.getElem_cons_succ, List.setIfInBounds_toArray, List.set_cons_zero, List.set_cons_succ]
                refine wpAny_take (i := 6) (v := ?_) rfl (by kernel_rfl) (by kernel_rfl) (by kernel_rfl) (fun _ _ _ h => h) (Or.inl ⟨by rfl, ?_⟩) ?_
                rotate_left
                · intro w
                  go_simp
                  try with_reducible rfl
                try simp only [Act.put, List.getElem_toArray, List.getElem_cons_zero, List.getElem_cons_succ, List.setIfInBounds_toArray, List.set_cons_zero, List.set_cons_succ]
                refine wpAny_take (i := 7) (v := ?_) rfl (by kernel_rfl) (by kernel_rfl) (by kernel_rfl) (fun _ _ _ h => h) (Or.inl ⟨by rfl, ?_⟩) ?_
                rotate_left
                · intro w
                  go_simp
                  try with_reducible rfl
                try simp only [Act.put, List.getElem_toArray, List.getElem_cons_zero, List.getElem_cons_succ, List.setIfInBounds_toArray, List.set_cons_zero, List.set_cons_succ]
                refine wpAny_take (i := 8) (v := ?_) rfl (by kernel_rfl) (by kernel_rfl) (by kernel_rfl) (fun _ _ _ h => h) (Or.inl ⟨by rfl, ?_⟩) ?_
                rotate_left
                · intro w
                  go_simp
                  try with_reducible rfl
                try simp only [Act.put, List.getElem_toArray, List.getElem_cons_zero, List.getElem_cons_succ, List.setIfInBounds_toArray, List.set_cons_zero, List.set_cons_succ]
                refine wpAny_take (i := 9) (v := ?_) rfl (by kernel_rfl) (by kernel_rfl) (by kernel_rfl) (fun _ _ _ h => h) (Or.inl ⟨by rfl, ?_⟩) ?_
                rotate_left
                · intro w
                  go_simp
                  try with_reducible rfl
                try simp only [Act.put, List.getElem_toArray, List.getElem_cons_zero, List.getElem_cons_succ, List.setIfInBounds_toArray, List.set_cons_zero, List.set_cons_succ]
                refine wpAny_take (i := 10) (v := ?_) rfl (by kernel_rfl) (by kernel_rfl) (by kernel_rfl) (fun _ _ _ h => h) (Or.inl ⟨by rfl, ?_⟩) ?_
                rotate_left
                · intro w
                  go_simp
                  try with_reducible rfl
                try simp only [Act.put, List.getElem_toArray, List.getElem_cons_zero, List.getElem_cons_succ, List.setIfInBounds_toArray, List.set_cons_zero, List.set_cons_succ]
                refine wpAny_done (by kernel_rfl) ?_ _
                rw [only_normal]
                exact LEAF.out W3 x1 x2 HB3.out HP.out
    case stop2 =>
      rintro D2 cd pre W2 hD2 - ⟨rfl, hno, q1, q2, hbel, dfr⟩ hK2
      have hD1 := row_lt dfr
      have hDD : D < D2 := by omega
      have HLO : Hid (layOk seq ws rs = false) := Lib.hid (by unfold layOk; rw [hno]; simp)
      have HF : Hid (Fin w D D2 (.slice none 0 0) (.int .i64 22) W2) := Lib.hid ⟨q1, q2, hbel, dfr, hK2⟩
      clear hno q1 q2 hbel dfr hK2
      gi_wp2
      obtain ⟨f0, f1, f2, f3⟩ := fin2 HF.out (by omega) (by omega) (by omega)
      refine ⟨by simp, .inl ⟨_, _, rfl, run_takeDeferred HF.out.2.2.2.2, by simp, .inl ⟨_, _, rfl, run_takeDeferred f0, ?_⟩⟩⟩
      refine ⟨.tuple #[.slice none 0 0, .int .i64 22], by simp [results, Tryz.results116, go_sem, f1, f2], fun hl => ?_, fun _ => rfl, f3⟩
      rw [HLO.out] at hl
      cases hl
  case stop =>
    rintro D cd pre W hD - ⟨rfl, hno, q1, q2, hbel⟩ hK
    have HLO : Hid (layOk seq ws rs = false) := Lib.hid (by unfold layOk; rw [hno]; simp)
    have Q1 := Lib.hid q1
    have Q2 := Lib.hid q2
    have HBL := Lib.hid hbel
    have HK := Lib.hid hK
    clear hno q1 q2 hbel hK
    gi_wp2
    refine ⟨by simp, .inl ⟨_, _, rfl, run_takeDeferred HK.out, ?_⟩⟩
    have f1 := cell_put (o' := .deferred none) HK.out rfl ((row_cell Q1.out 0).trans rfl)
    have f2 := cell_put (o' := .deferred none) HK.out rfl ((row_cell Q2.out 0).trans rfl)
    have f3 := HBL.out.trans (belowK_b (w := w) (Nat.le_refl _) W D _ (.deferred none) (by omega) HK.out rfl rfl)
    refine ⟨.tuple #[.slice none 0 0, .int .i64 22], by simp [results, Tryz.results116, go_sem, f1, f2], fun hl => ?_, fun _ => rfl, f3⟩
    rw [HLO.out] at hl
    cases hl
theorem end_set {w W : World} {x y x0 y0 : Value} (h1 : W.heap[w.heap.size + 1]? = some (.cells #[x0] 78 (0, 0))) (h2 : W.heap[w.heap.size + 2]? = some (.cells #[y0] 25 (0, 0))) (hb : Below w.heap.size w W) :
    ((W.setCell ⟨w.heap.size + 1, 0, none⟩ x).setCell ⟨w.heap.size + 2, 0, none⟩ y).cell? ⟨w.heap.size + 1, 0, none⟩ = some x ∧ ((W.setCell ⟨w.heap.size + 1, 0, none⟩ x).setCell ⟨w.heap.size + 2, 0, none⟩ y).cell? ⟨w.heap.size + 2, 0, none⟩ = some y ∧ Below w.heap.size w ((W.setCell ⟨w.heap.size + 1, 0, none⟩ x).setCell ⟨w.heap.size + 2, 0, none⟩ y) :=
  ⟨(row_cell ((Below.heap_setCell _ ⟨w.heap.size + 2, 0, none⟩ _ (w.heap.size + 1) (by simp)).trans (row_set h1 0 x)) 0).trans rfl, (row_cell (row_set ((Below.heap_setCell W ⟨w.heap.size + 1, 0, none⟩ x (w.heap.size + 2) (by simp)).trans h2) 0 y) 0).trans rfl, (hb.setCell (by simp) _).setCell (by simp) _⟩
set_option maxRecDepth 100000 in
set_option maxHeartbeats 4000000 in
theorem Lay_no1 (seq : Int) (ws : List Wr) (rs : List Int) (nw nr : Nat) (hnw : ws.length = nw) (_ : rs.length = nr) (h : 4096 < nw) (B : Nat) (A A' : Option Addr) (c c' : Nat) (w : World) (_ : B ≤ w.heap.size) (_ : Wrs w B A ws) :
    CallsIn Fence.wide 6 Tryz.prog 116 #[.int .i64 seq, .slice A nw c, .slice A' nr c'] w (LayR seq ws rs w) := by
  have d0 : decide ((4096 : Int) < (nw : Int)) = true := by simp; omega
  have d0' : decide (4096 < nw) = true := by simp; omega
  have HLO : Hid (layOk seq ws rs = false) := Lib.hid (by unfold layOk; rw [hnw]; simp; omega)
  refine callsIn_of_wp_marks Tryz.func116 rfl trivial ?_ rfl
  simp only [Tryz.ntmps116, List.size_toArray, List.length_cons, List.length_nil, Nat.reduceAdd, Nat.reduceSub, Array.replicate_succ, Array.replicate_zero, List.push_toArray, List.append_toArray, List.nil_append, List.cons_append]
  gi_wp2_with fail
  refine ⟨trivial, ?_⟩
  gi_wp2
  have c3 := ((below_box (w := w) (.cells #[.int .i64 seq] 3)).alloc (by first | (simp; omega) | simp) (.cells #[.slice none 0 0] 78)).alloc (by first | (simp; omega) | simp) (.cells #[.int .i64 22] 25)
  refine ⟨.tuple #[.slice none 0 0, .int .i64 22], by simp [results, Tryz.results116, go_sem], fun hl => ?_, fun _ => rfl, c3⟩
  rw [HLO.out] at hl
  cases hl
set_option maxRecDepth 100000 in
set_option maxHeartbeats 4000000 in
theorem Lay_no2 (seq : Int) (ws : List Wr) (rs : List Int) (nw nr : Nat) (_ : ws.length = nw) (hnr : rs.length = nr) (hw : nw ≤ 4096) (h : 4096 < nr) (B : Nat) (A A' : Option Addr) (c c' : Nat) (w : World) (_ : B ≤ w.heap.size) (_ : Wrs w B A ws) :
    CallsIn Fence.wide 6 Tryz.prog 116 #[.int .i64 seq, .slice A nw c, .slice A' nr c'] w (LayR seq ws rs w) := by
  have d0 : decide ((4096 : Int) < (nw : Int)) = false := by simp; omega
  have d0' : decide (4096 < nw) = false := by simp; omega
  have d1 : decide ((4096 : Int) < (nr : Int)) = true := by simp; omega
  have d1' : decide (4096 < nr) = true := by simp; omega
  have HLO : Hid (layOk seq ws rs = false) := Lib.hid (by unfold layOk; rw [hnr]; simp; omega)
  refine callsIn_of_wp_marks Tryz.func116 rfl trivial ?_ rfl
  simp only [Tryz.ntmps116, List.size_toArray, List.length_cons, List.length_nil, Nat.reduceAdd, Nat.reduceSub, Array.replicate_succ, Array.replicate_zero, List.push_toArray, List.append_toArray, List.nil_append, List.cons_append]
  gi_wp2_with fail
  refine ⟨trivial, ?_⟩
  gi_wp2
  have c3 := ((below_box (w := w) (.cells #[.int .i64 seq] 3)).alloc (by first | (simp; omega) | simp) (.cells #[.slice none 0 0] 78)).alloc (by first | (simp; omega) | simp) (.cells #[.int .i64 22] 25)
  refine ⟨.tuple #[.slice none 0 0, .int .i64 22], by simp [results, Tryz.results116, go_sem], fun hl => ?_, fun _ => rfl, c3⟩
  rw [HLO.out] at hl
  cases hl
set_option maxRecDepth 100000 in
set_option maxHeartbeats 4000000 in
theorem Lay_no3 (seq : Int) (ws : List Wr) (rs : List Int) (nw nr : Nat) (hnw : ws.length = nw) (_ : rs.length = nr) (hw : nw ≤ 4096) (hr : nr ≤ 4096) (h : all256 ws = false) (B : Nat) (A A' : Option Addr) (c c' : Nat) (w : World) (hB : B ≤ w.heap.size) (hA : Wrs w B A ws) :
    CallsIn Fence.wide 6 Tryz.prog 116 #[.int .i64 seq, .slice A nw c, .slice A' nr c'] w (LayR seq ws rs w) := by
  have d0 : decide ((4096 : Int) < (nw : Int)) = false := by simp; omega
  have d0' : decide (4096 < nw) = false := by simp; omega
  have d1 : decide ((4096 : Int) < (nr : Int)) = false := by simp; omega
  have d1' : decide (4096 < nr) = false := by simp; omega
  have HLO : Hid (layOk seq ws rs = false) := Lib.hid (by unfold layOk; rw [h]; simp)
  have n1 : (box3 w seq).heap[w.heap.size + 1]? = some (.cells #[.slice none 0 0] 78 (0, 0)) := by
    have h := row_new (w.alloc (.cells #[.int .i64 seq] 3)) (.cells #[.slice none 0 0] 78)
    simp only [World.size_alloc] at h
    exact row_alloc h _
  have n2 : (box3 w seq).heap[w.heap.size + 2]? = some (.cells #[.int .i64 0] 25 (0, 0)) := by
    have h := row_new ((w.alloc (.cells #[.int .i64 seq] 3)).alloc (.cells #[.slice none 0 0] 78)) (.cells #[.int .i64 0] 25)
    simp only [World.size_alloc, Nat.add_assoc, Nat.reduceAdd] at h
    exact h
  have HB0 : Hid (Below w.heap.size w (box3 w seq)) := Lib.hid (((below_box (w := w) (.cells #[.int .i64 seq] 3)).alloc (by first | (simp; omega) | simp) (.cells #[.slice none 0 0] 78)).alloc (by first | (simp; omega) | simp) (.cells #[.int .i64 0] 25))
  have N1 := Lib.hid n1
  have N2 := Lib.hid n2
  unfold box3 at N1 N2 HB0
  clear n1 n2
  have HC := Lib.hid (containsW_any nw ws hnw true (by rw [h]; rfl) B A c (box3 w seq) (by simp [box3]; omega) (((hA.below (below_box _) hB).below (below_box _) (by simp; omega)).below (below_box _) (by simp; omega)) hw)
  unfold box3 at HC
  refine callsIn_of_wp_marks Tryz.func116 rfl trivial ?_ rfl
  simp only [Tryz.ntmps116, List.size_toArray, List.length_cons, List.length_nil, Nat.reduceAdd, Nat.reduceSub, Array.replicate_succ, Array.replicate_zero, List.push_toArray, List.append_toArray, List.nil_append, List.cons_append]
  gi_wp2_with fail
  refine ⟨trivial, (callsIn_wide.2 HC.out).mono ?_⟩
  rintro e w1 ⟨rfl, hb1⟩
  have M1 := Lib.hid (row_below N1.out hb1 (row_lt N1.out))
  have M2 := Lib.hid (row_below N2.out hb1 (row_lt N2.out))
  have HB1 := Lib.hid (below_up HB0.out hb1 HB0.out.size)
  have z1 : w1.cell? ⟨w.heap.size + 1, 0, none⟩ = some (.slice none 0 0) := (row_cell M1.out 0).trans rfl
  have z2 : w1.cell? ⟨w.heap.size + 2, 0, none⟩ = some (.int .i64 0) := (row_cell M2.out 0).trans rfl
  have f1 : ∀ i, w1.frozen? ⟨w.heap.size + 1, i, none⟩ = false := fun i => row_free M1.out i
  have f2 : ∀ i, w1.frozen? ⟨w.heap.size + 2, i, none⟩ = false := fun i => row_free M2.out i
  clear hb1 HC
  gi_wp2
  obtain ⟨c1, c2, c3⟩ := end_set (x := .slice none 0 0) (y := .int .i64 22) M1.out M2.out HB1.out
  refine ⟨.tuple #[.slice none 0 0, .int .i64 22], by simp [results, Tryz.results116, go_sem, c1, c2], fun hl => ?_, fun _ => rfl, c3⟩
  rw [HLO.out] at hl
  cases hl
theorem Lay_any (seq : Int) (ws : List Wr) (rs : List Int) (nw nr : Nat) (hnw : ws.length = nw) (hnr : rs.length = nr) (B : Nat) (A A' : Option Addr) (c c' : Nat) (hc : nw ≤ c) (hc' : nr ≤ c') (w : World) (hB : B ≤ w.heap.size)
    (hA : Wrs w B A ws) (hA' : Sl w B A' (rs.map i64v)) (hT : Tab w) :
    Calls Tryz.prog 116 #[.int .i64 seq, .slice A nw c, .slice A' nr c'] w (LayR seq ws rs w) := by
  refine callsIn_wide.1 (?_ : CallsIn Fence.wide 6 Tryz.prog 116 #[.int .i64 seq, .slice A nw c, .slice A' nr c'] w (LayR seq ws rs w))
  by_cases h1 : nw ≤ 4096
  · by_cases h2 : nr ≤ 4096
    · cases h3 : all256 ws with
      | true => exact Lay_in seq ws rs nw nr hnw hnr h1 h2 h3 B A A' c c' hc hc' w hB hA hA' hT
      | false => exact Lay_no3 seq ws rs nw nr hnw hnr h1 h2 h3 B A A' c c' w hB hA
    · exact Lay_no2 seq ws rs nw nr hnw hnr h1 (by omega) B A A' c c' w hB hA
  · exact Lay_no1 seq ws rs nw nr hnw hnr (by omega) B A A' c c' w hB hA
end Go.Proofs.YtmlgchmladkfpaaGreatDoor.JLay
