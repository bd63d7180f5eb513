/- The document's Lay: the blocks of a transaction. -/
import Derived.Test.YtkkcipjlinfieaaDoorJRLayF
import Derived.Test.YtkkcipjlinfieaaDoorJMine
import Derived.Test.YtkkcipjlinfieaaDoorJLay
namespace Go.Proofs.YtkkcipjlinfieaaDoor.JRLay
open Go.RowKit Go.Shelf WMem WPlain WHelp WAppend WFace2 WWide WAny WCrc WSeal WRefSeal SNums JPlain JMem JMay JBody JTold JPack JRPack JEscape JNeed JChunk JMine JLayM JLayF JLay JRLayF

theorem all_parts {α : Type} (f : α → Bool) (l : List α) (sz : Nat) (hz : 0 < sz) : l.all f = (List.range (rowsN l.length sz)).all fun i => (JLayM.part l sz i).all f := by
  have hr := rowsN_mul l.length sz hz
  rw [Bool.eq_iff_iff, List.all_eq_true, List.all_eq_true]
  constructor
  · intro h i hi
    rw [List.all_eq_true]
    intro x hx
    exact h x (List.mem_of_mem_drop (List.mem_of_mem_take hx))
  · intro h x hx
    obtain ⟨k, hk, rfl⟩ := List.getElem_of_mem hx
    have hkq : k / sz < rowsN l.length sz := by
      have h1 := hr.1
      have h2 := Nat.div_add_mod k sz
      have h3 : k / sz * sz ≤ k := Nat.div_mul_le_self k sz
      rcases Nat.lt_or_ge (k / sz) (rowsN l.length sz) with h4 | h4
      · exact h4
      · have := Nat.mul_le_mul_right sz h4
        omega
    have h5 := List.all_eq_true.1 (h _ (List.mem_range.2 hkq)) l[k]
    apply h5
    have h6 : k / sz * sz + k % sz = k := by rw [Nat.mul_comm]; exact Nat.div_add_mod k sz
    have h7 := Nat.mod_lt k hz
    have h8 : k % sz < (JLayM.part l sz (k / sz)).length := by rw [part_len]; omega
    have h9 : (JLayM.part l sz (k / sz))[k % sz] = l[k] := by
      simp only [JLayM.part, List.getElem_take, List.getElem_drop, h6]
    rw [← h9]
    exact List.getElem_mem h8
theorem descMay {seq : Int} {c : List Wr} (hs : seqOk seq = true) (h1 : 1 ≤ c.length) (h2 : c.length ≤ 48) : recMay (descR seq c) = c.all fun x => decide (0 ≤ x.blk) && decide (x.blk < 4096) := by
  have hh : hasOk 1 c.length = true := by simp [hasOk]; omega
  have : (descR seq c).ents.all blkOk = c.all fun x => decide (0 ≤ x.blk) && decide (x.blk < 4096) := by
    simp only [descR, List.all_map]
    congr 1
    funext x
    show decide (0 ≤ x.blk ∧ x.blk ≤ 4095) = (decide (0 ≤ x.blk) && decide (x.blk < 4096))
    rw [Bool.eq_iff_iff]
    simp only [decide_eq_true_eq, Bool.and_eq_true]
    omega
  simp only [recMay, this]
  simp [descR, hs, hh, restOk]
theorem revMay {seq : Int} {c : List Int} (hs : seqOk seq = true) (h1 : 1 ≤ c.length) (h2 : c.length ≤ 60) : recMay (revR seq c) = c.all okN := by
  have hh : hasOk 3 c.length = true := by simp [hasOk]; omega
  have : (revR seq c).ents.all blkOk = c.all okN := by
    simp only [revR, List.all_map]
    congr 1
    funext x
    show decide (0 ≤ x ∧ x ≤ 4095) = (decide (0 ≤ x) && decide (x < 4096))
    rw [Bool.eq_iff_iff]
    simp only [decide_eq_true_eq, Bool.and_eq_true]
    omega
  have hn : (c.map entR).any (·.esc) = false := by simp [entR]
  simp only [recMay, this]
  simp [revR, hs, hh, restOk, hn]
theorem part_ne {α : Type} {l : List α} {sz i : Nat} (hz : 0 < sz) (hi : i < rowsN l.length sz) : 1 ≤ (JLayM.part l sz i).length ∧ (JLayM.part l sz i).length ≤ sz := by
  have := (rowsN_mul l.length sz hz).2 i hi
  rw [part_len]
  omega
theorem all_congr {n : Nat} {f g : Nat → Bool} (h : ∀ i, i < n → f i = g i) : (List.range n).all f = (List.range n).all g := by
  rw [Bool.eq_iff_iff, List.all_eq_true, List.all_eq_true]
  constructor
  · intro k i hi; rw [← h i (List.mem_range.1 hi)]; exact k i hi
  · intro k i hi; rw [h i (List.mem_range.1 hi)]; exact k i hi
theorem all_and {α : Type} (f g : α → Bool) : ∀ l : List α, (l.all fun x => f x && g x) = (l.all f && l.all g)
  | [] => rfl
  | x :: l => by
    simp only [List.all_cons, all_and f g l]
    cases f x <;> cases g x <;> cases l.all f <;> cases l.all g <;> rfl
theorem right_eq (seq : Int) (ws : List Wr) (rs : List Int) : rightB seq ws rs = layOk seq ws rs := by
  unfold rightB layOk
  cases hs : seqOk seq with
  | false => simp
  | true =>
    have e1 : okR seq rs = rs.all okN := by
      unfold okR
      rw [all_parts okN rs 60 (by decide)]
      exact all_congr fun i hi => revMay hs (part_ne (by decide) hi).1 (part_ne (by decide) hi).2
    have e2 : okW seq ws = ws.all fun x => decide (0 ≤ x.blk) && decide (x.blk < 4096) := by
      unfold okW
      rw [all_parts _ ws 48 (by decide)]
      exact all_congr fun i hi => descMay hs (part_ne (by decide) hi).1 (part_ne (by decide) hi).2
    have e3 : ws.all okB = ((ws.all fun x => decide (0 ≤ x.blk) && decide (x.blk < 4096)) && all256 ws) := by
      exact all_and _ _ ws
    rw [e1, e2, e3]
    simp only [Bool.and_true, Bool.true_and]
    cases decide (ws.length ≤ 4096) <;> cases decide (rs.length ≤ 4096) <;> cases all256 ws <;> cases (ws.all fun x => decide (0 ≤ x.blk) && decide (x.blk < 4096)) <;> cases rs.all okN <;> rfl
/-- a row of blocks, each of one's own -/
def BRow (w : World) (B base : Nat) (A : Option Addr) (M : List (List UInt8)) : Prop :=
  ∃ us : List Value, Sl w B A us ∧ us.length = M.length ∧ (∀ u ∈ us, u.oneCell' = true) ∧ ∀ (i : Nat) (h : i < M.length), ∃ u, us[i]? = some u ∧ WAny.Own w base u M[i]
theorem BRow.one {W : World} {base : Nat} {u : Value} {b : List UInt8} (h : WAny.Own W base u b) : BRow (W.alloc (.cells #[u] 31)) (W.alloc (.cells #[u] 31)).heap.size base (some ⟨W.heap.size, 0, none⟩) [b] :=
  ⟨[u], Sl.of_row (row_new W _) (by simp) (n := 1) rfl, rfl, by simpa using own_one h, fun i hi => by
    obtain rfl : i = 0 := by simpa using hi
    exact ⟨u, rfl, h.keep (below_box _)⟩⟩
theorem blks_row {w : World} {base n : Nat} {v : Value} {L : List (List UInt8)} (h : Blks w base v n L) : ∃ A c, v = .slice A n c ∧ BRow w w.heap.size base A L := by
  obtain ⟨vs, a1, a2, a3, a4, a5⟩ := h
  rcases Nat.eq_zero_or_pos n with rfl | hn
  · rcases a1.2 with ⟨rfl, _⟩ | ⟨g, cap, cur, rfl, hb, hg, _⟩
    · exact ⟨none, 0, rfl, [], Sl.nil _ _ _, by simp [a2], by simp, fun i hi => by omega⟩
    · obtain rfl : vs = [] := List.eq_nil_of_length_eq_zero a3
      exact ⟨some ⟨g, 0, none⟩, cap, rfl, [], Sl.nil _ _ _, by simp [a2], by simp, fun i hi => by omega⟩
  · obtain ⟨g, c, rfl, hS⟩ := own_sl a1 hn
    exact ⟨_, c, rfl, vs, hS, by omega, a4, a5⟩
theorem wl_blks {ops : Array Oper} {rest : List Oper} {o : Oper} {a : Act} {Q : Exit → Act → World → Prop} {w : World} (hgd : o.guard = none) (s x : Operand)
    (ho : o.op = .call { callee := .builtin .append, args := #[s, x], argTypes := #[25, 25] })
    (base : Nat) (v : Value) (n : Nat) (L : List (List UInt8)) (hs : a.eval s = v) (hv : Blks w base v n L)
    (B base2 : Nat) (A : Option Addr) (m c : Nat) (M : List (List UInt8)) (hx : a.eval x = .slice A m c) (hm : M.length = m) (hA : BRow w B base2 A M) (hbb : base ≤ base2)
    (hbytes : (n + m) * 24 ≤ 140737488355328) (hbase : base ≤ w.heap.size)
    (h : ∀ v' w', Blks w' base v' (n + m) (L ++ M) → w.grownBy w' v.ownBlock → (∀ j, v.ownBlock = some j → base ≤ j) → (∀ (j : Nat) (cs : Array Value) (T : TypeId), 31 ≠ T → w.heap[j]? = some (.cells cs T (0, 0)) → w'.heap[j]? = some (.cells cs T (0, 0))) → wpList Tryd.prog ops Q rest (a.put o.dst v') w') :
    wpList Tryd.prog ops Q (o :: rest) a w := by
  obtain ⟨vs, a1, a2, a3, a4, a5⟩ := hv
  obtain ⟨us, b1, b2, b3, b4⟩ := hA
  refine wl_append hgd s x 25 ho base 31 24 elemS v n vs hs a1 B A m c us hx (by omega) b1 b3 hbytes (by unfold maxLen; omega) hbase ?_
  intro v' w' h1 h2 _
  exact h v' w' (Blks.join a1 a2 a3 a4 a5 hm (by omega) b3 b4 hbb h1 h2) h2 (JRPack.own_ge a1) (fun j cs T hT hj => (h2.block j (row_lt hj) (Ne.symm (own_ne a1 hj hT))).trans hj)
/-- the inner loop over a part: the record's box, its entries, the copies -/
structure IL (seq : Int) (P : List Wr) (wr : World) (m : Nat) (W : World) (vD : Value) : Prop where
  box : ∃ vE, W.heap[wr.heap.size]? = some (.cells (fbox 1 seq vE 0 0) 61 (0, 0)) ∧ W.ownsRow wr.heap.size 62 2 vE m (ecells ((P.take m).map entW))
  data : Blks W wr.heap.size vD m ((P.take m).map escW)
  below : Below wr.heap.size wr W
theorem blks_turn {W w' : World} {base n : Nat} {v : Value} {L : List (List UInt8)} {k : Nat} {cs : Array Value} {T : TypeId} (h : Blks W base v n L) (hg : W.grownBy w' (some k)) (hr : W.heap[k]? = some (.cells cs T (0, 0))) (h1 : 31 ≠ T) (h2 : 5 ≠ T) : Blks w' base v n L := by
  refine h.kept (row := some k) hg ?_ (fun k' cs e hk => ?_)
  · obtain ⟨ws', j1, _⟩ := h
    exact .inr (own_ne j1 hr h1)
  · injection e with e
    subst e
    rw [hr] at hk
    injection hk with hk
    injection hk with _ hk
    exact h2 hk.symm
theorem own_turn2 {W w' : World} {base : Nat} {v : Value} {l : List UInt8} {k : Nat} {cs : Array Value} {T : TypeId} (h : WAny.Own W base v l) (hg : W.grownBy w' (some k)) (hr : W.heap[k]? = some (.cells cs T (0, 0))) (h2 : 5 ≠ T) : WAny.Own w' base v l := by
  refine own_turn h hg (fun k' cs e hk => ?_)
  injection e with e
  subst e
  rw [hr] at hk
  injection hk with hk
  injection hk with _ hk
  exact h2 hk.symm
/-- what a growing row of entries leaves -/
theorem ent_grown {W w' : World} {base n : Nat} {v : Value} {L : List (List UInt8)} {base1 : Nat} {v1 : Value} {b : List UInt8} {base2 m : Nat} {vE : Value} {zs : List Value} (hD : Blks W base v n L) (hO : WAny.Own W base1 v1 b) (hE : W.ownsRow base2 62 2 vE m zs) (hg : W.grownBy w' vE.ownBlock) : Blks w' base v n L ∧ WAny.Own w' base1 v1 b := by
  rcases hE.2 with ⟨rfl, _⟩ | ⟨k, cap, cur, rfl, hb, hk, _⟩
  · have hbl : W.grownBy w' none := hg
    exact ⟨hD.kept hbl (by cases v.ownBlock <;> simp) (fun k cs e => by cases e), own_turn hO hbl (fun k cs e => by cases e)⟩
  · exact ⟨blks_turn hD hg hk (by decide) (by decide), own_turn2 hO hg hk (by decide)⟩
def newE (w1 : World) (bk : Int) (mk : Bool) : World := (w1.alloc (.cells #[.int .i64 bk, .bool mk] 62)).drew
theorem IL.mid {kind seq : Int} {W0 w1 w2 : World} {m gg cap n base1 : Nat} {vE vD v1 : Value} {b : List UInt8} {bk : Int} {mk : Bool} {l : List Ent} {M : List (List UInt8)} (hbx : w1.heap[W0.heap.size]? = some (.cells (fbox kind seq vE 0 0) 61 (0, 0)))
    (hE : (newE w1 bk mk).ownsRow W0.heap.size 62 2 vE m (ecells l)) (hD : Blks w1 W0.heap.size vD n M) (hO : WAny.Own w1 base1 v1 b) (hbl : Below W0.heap.size W0 w1)
    (h1 : w2.ownsRow W0.heap.size 62 2 (.slice (some ⟨gg, 0, none⟩) (m + 1) cap) (m + 1) (ecells l ++ ecell ⟨bk, mk⟩)) (h2 : (newE w1 bk mk).grownBy w2 vE.ownBlock) :
    (w2.setCell ⟨W0.heap.size, 2, none⟩ (.slice (some ⟨gg, 0, none⟩) (m + 1) cap)).heap[W0.heap.size]? = some (.cells (fbox kind seq (.slice (some ⟨gg, 0, none⟩) (m + 1) cap) 0 0) 61 (0, 0)) ∧
      (w2.setCell ⟨W0.heap.size, 2, none⟩ (.slice (some ⟨gg, 0, none⟩) (m + 1) cap)).ownsRow W0.heap.size 62 2 (.slice (some ⟨gg, 0, none⟩) (m + 1) cap) (m + 1) (ecells (l ++ [⟨bk, mk⟩])) ∧
      Blks (w2.setCell ⟨W0.heap.size, 2, none⟩ (.slice (some ⟨gg, 0, none⟩) (m + 1) cap)) W0.heap.size vD n M ∧ WAny.Own (w2.setCell ⟨W0.heap.size, 2, none⟩ (.slice (some ⟨gg, 0, none⟩) (m + 1) cap)) base1 v1 b ∧
      Below W0.heap.size W0 (w2.setCell ⟨W0.heap.size, 2, none⟩ (.slice (some ⟨gg, 0, none⟩) (m + 1) cap)) ∧ w2.cell? ⟨W0.heap.size, 2, none⟩ = some vE ∧ w2.frozen? ⟨W0.heap.size, 2, none⟩ = false := by
  have hsz := hbl.size
  have hbx' : (newE w1 bk mk).heap[W0.heap.size]? = some (.cells (fbox kind seq vE 0 0) 61 (0, 0)) := row_alloc hbx _
  have hnb := own_ne hE hbx' (by decide)
  obtain ⟨g1, g2⟩ := grow_field (by decide) hbx' hE h1 h2
  have hbx2 : w2.heap[W0.heap.size]? = some (.cells (fbox kind seq vE 0 0) 61 (0, 0)) := (h2.block _ (row_lt hbx') (Ne.symm hnb)).trans hbx'
  obtain ⟨k1, k2⟩ := ent_grown (W := newE w1 bk mk) (hD.below ((below_box _).drew)) (hO.keep ((below_box _).drew)) hE h2
  refine ⟨g1, g2, blks_turn k1 (grown_set (grown_refl _ _) 2 _) hbx2 (by decide) (by decide), own_turn2 k2 (grown_set (grown_refl _ _) 2 _) hbx2 (by decide), ?_, (row_cell hbx2 2).trans rfl, row_free hbx2 2⟩
  exact (((hbl.alloc hsz _).drew).grown h2 (by have := hsz; show W0.heap.size ≤ (w1.alloc _).heap.size; simp; omega) (fun j hj => JRPack.own_ge hE j hj)).setCell (Nat.le_refl _) _
theorem IL.last {seq : Int} {P : List Wr} {W0 W w4 : World} {m : Nat} {vE u v' : Value} {x : Wr} {e : Ent} {b : List UInt8} (kA : W.heap[W0.heap.size]? = some (.cells (fbox 1 seq vE 0 0) 61 (0, 0)))
    (kB : W.ownsRow W0.heap.size 62 2 vE (m + 1) (ecells ((P.take m).map entW ++ [e]))) {L : List (List UInt8)} (hD : Blks W W0.heap.size u m L) (kE : Below W0.heap.size W0 W)
    (h1 : Blks w4 W0.heap.size v' (m + 1) ((P.take m).map escW ++ [b])) (h2 : W.grownBy w4 u.ownBlock) (h3 : ∀ j, u.ownBlock = some j → W0.heap.size ≤ j) (h4 : ∀ (j : Nat) (cs : Array Value) (T : TypeId), 31 ≠ T → W.heap[j]? = some (.cells cs T (0, 0)) → w4.heap[j]? = some (.cells cs T (0, 0)))
    (hP : P.take (m + 1) = P.take m ++ [x]) (he : entW x = e) (hb : escW x = b) : IL seq P W0 (m + 1) w4 v' := by
  subst he
  subst hb
  obtain ⟨vs, a1, _⟩ := hD
  refine ⟨⟨vE, h4 _ _ _ (by decide) kA, ?_⟩, ?_, kE.grown h2 kE.size (fun j hj => h3 j hj)⟩
  · rw [hP, List.map_append]
    exact kB.kept h2 (owns_apart kB a1 (by decide))
  · rw [hP, List.map_append]
    exact h1
theorem blks_apart {W0 W : World} {base base2 n m : Nat} {v vD : Value} {L M : List (List UInt8)} (hv : Blks W0 base v n L) (hd : Blks W base2 vD m M) (h : W0.heap.size ≤ base2) : vD.ownBlock = none ∨ vD.ownBlock ≠ v.ownBlock := by
  obtain ⟨vs, a1, _⟩ := hv
  obtain ⟨us, b1, _⟩ := hd
  cases hb : vD.ownBlock with
  | none => exact .inl rfl
  | some j =>
    refine .inr fun e => ?_
    have h1 := JRPack.own_ge b1 j hb
    rcases a1.2 with ⟨rfl, _⟩ | ⟨k, cap, cur, rfl, _, hk, _⟩
    · simp [Value.ownBlock] at e
    · simp only [Value.ownBlock, Option.some.injEq] at e
      have := row_lt hk
      omega
/-- a row of blocks stays, while another row of blocks grows -/
theorem blks_other {w w' : World} {base base2 n : Nat} {v vD : Value} {M : List (List UInt8)} {vs : List Value} {k : Nat} (hd : Blks w base2 vD n M) (hvs : w.ownsRow base 31 1 v k vs) (hg : w.grownBy w' v.ownBlock) (ha : vD.ownBlock = none ∨ vD.ownBlock ≠ v.ownBlock) : Blks w' base2 vD n M :=
  hd.kept hg ha (fun j cs hj hk => own_ne hvs hk (by decide) hj)
theorem refPack_at (r : Rec) (hs : r.sum < 4294967296) (n : Nat) (hn : r.ents.length = n) (B : Nat) (A : Option Addr) (c : Nat) (w : World) (hB : B ≤ w.heap.size) (hA : Ents w B A r.ents) (hl : n ≤ 140737488355328) :
    Calls Tryd.prog 22 #[.agg #[.int .i64 r.kind, .int .i64 r.seq, .slice A n c, .int .u32 (r.sum : Int), .int .i64 r.start]] w (RefR r w) := by
  subst hn
  exact refPack_any r hs B A c w hB hA hl
/-- the inner loop over a part of what is revoked -/
structure IR (seq : Int) (P : List Int) (wr : World) (m : Nat) (W : World) : Prop where
  box : ∃ vE, W.heap[wr.heap.size]? = some (.cells (fbox 3 seq vE 0 0) 61 (0, 0)) ∧ W.ownsRow wr.heap.size 62 2 vE m (ecells ((P.take m).map entR))
  below : Below wr.heap.size wr W
theorem crc_nil (s : Nat) (hs : s < 4294967296) : crc s [] = s := by
  unfold crc eats
  simp only [List.foldl_nil]
  omega
theorem sumB_flat (L : List (List UInt8)) : ∀ (s : Nat), s < 4294967296 → sumB s L = crc s L.flatten := by
  induction L with
  | nil => exact fun s hs => (crc_nil s hs).symm
  | cons b L ih =>
    intro s hs
    rw [List.flatten_cons, crc_append s hs, ← ih _ (crc_lt s b)]
    rfl
theorem flat_take (L : List (List UInt8)) (k : Nat) (h : k < L.length) : (L.take (k + 1)).flatten = (L.take k).flatten ++ L[k] := by
  rw [List.take_succ_eq_append_getElem h, List.flatten_append]
  simp
theorem flat_len (n : Nat) (L : List (List UInt8)) (h : ∀ b ∈ L, b.length = n) : L.flatten.length = n * L.length := by
  induction L with
  | nil => simp
  | cons b L ih =>
    rw [List.flatten_cons, List.length_append, h b (by simp), ih (fun x hx => h x (by simp [hx])), List.length_cons, Nat.mul_add]
    omega
theorem info_R : (Tryd.prog.info? 62).map (fun i => (i.zero, i.size, i.bytes)) = some (some (.agg #[.int .i64 0, .bool false]), 2, 16) := by kernel_rfl
theorem under_R : Tryd.prog.underlying 59 = some (.slice 62) := by kernel_rfl
set_option maxRecDepth 100000 in
set_option maxHeartbeats 8000000 in
theorem refLay_yes (seq : Int) (ws : List Wr) (rs : List Int) (hok : layOk seq ws rs = true) (nw nr : Nat) (hnw : ws.length = nw) (hnr : rs.length = nr) (B : Nat) (A A' : Option Addr) (c c' : Nat) (w : World) (hB : B ≤ w.heap.size)
    (hA : Wrs w B A ws) (hcap : Caps w A nw) (hA' : Sl w B A' (rs.map i64v)) :
    Calls Tryd.prog 6 #[.int .i64 seq, .slice A nw c, .slice A' nr c'] w fun e w' => (∃ v n, e = .returned (.tuple #[v, .int .i64 0]) ∧ Blks w' w.heap.size v n (lay seq ws rs)) ∧ Below w.heap.size w w' := by
  have h7 := hok
  unfold layOk at h7
  simp only [Bool.and_eq_true, decide_eq_true_eq] at h7
  obtain ⟨⟨⟨⟨⟨hw, hr⟩, h256⟩, hW⟩, hR⟩, hso⟩ := h7
  have hs2 : 1 ≤ seq ∧ seq ≤ 2147483647 := by simpa [seqOk] using hso
  rw [hnw] at hw
  rw [hnr] at hr
  have HRT := Lib.hid (right_any seq ws rs true ((right_eq seq ws rs).trans hok) nw nr hnw hnr B A A' c c' w hA hA' (by omega) (by omega))
  have HA := Lib.hid hA
  have HA' := Lib.hid hA'
  have HCAP := Lib.hid hcap
  have HNW := Lib.hid hnw
  have HNR := Lib.hid hnr
  have H256 : Hid (∀ (k : Nat) (h : k < ws.length), ws[k].data.length = 256) := Lib.hid (fun k h => by have := List.all_eq_true.1 h256 ws[k] (List.getElem_mem h); simpa using this)
  have HWM : Hid (∀ k, k < rowsN nw 48 → recMay (descR seq (JLayM.part ws 48 k)) = true) := Lib.hid (fun k h => List.all_eq_true.1 hW k (List.mem_range.2 (by rw [hnw]; exact h)))
  have HRM : Hid (∀ k, k < rowsN nr 60 → recMay (revR seq (JLayM.part rs 60 k)) = true) := Lib.hid (fun k h => List.all_eq_true.1 hR k (List.mem_range.2 (by rw [hnr]; exact h)))
  obtain ⟨i0, hi0, hz0, hz1, hz2⟩ := info_parts info_R
  have HF6 := Lib.hid (front_short hW hR h256)
  obtain ⟨sq, hsq⟩ : ∃ sq, seq.toNat = sq := ⟨_, rfl⟩
  have hwq : IntKind.u32.wrap seq = (sq : Int) := by rw [IntKind.wrap_u32]; omega
  have hq4 : sq < 4294967296 := by omega
  have HLY : Hid (lay seq ws rs = front seq ws rs ++ [recBytes (commR seq (sumB sq (front seq ws rs)))]) := Lib.hid (by rw [← hsq]; rfl)
  have HCM : Hid (∀ sm, recMay (commR seq sm) = true) := Lib.hid (fun sm => by simp [recMay, commR, hasOk, restOk, hso])
  clear hsq
  have HRW := Lib.hid (rowsN_mul nw 48 (by decide))
  have HRR := Lib.hid (rowsN_mul nr 60 (by decide))
  have hN1 : rowsN nw 48 ≤ 87 := by unfold rowsN; split <;> omega
  have hN2 : rowsN nr 60 ≤ 70 := by unfold rowsN; split <;> omega
  obtain ⟨N, hN⟩ : ∃ N, rowsN nw 48 = N := ⟨_, rfl⟩
  obtain ⟨M, hM⟩ : ∃ M, rowsN nr 60 = M := ⟨_, rfl⟩
  rw [hN] at HWM HRW hN1
  rw [hM] at HRM HRR hN2
  have HNN := Lib.hid hN
  have HMM := Lib.hid hM
  clear hok hnw hnr hA hA' hcap h256 hW hR hso hN hM
  go_enter Tryd.func6, Tryd.ntmps6
  go_wp2_with fail
  refine HRT.out.mono ?_
  rintro e w' ⟨rfl, rfl⟩
  go_wp2_with fail
  go_loopw [8, 9] (fun v i wr => ∃ t q n : Nat, t ≤ N ∧ q = 48 * t ∧ i = .int .i64 q ∧ n ≤ 49 * t ∧ Blks wr w.heap.size v n (frontW seq ws t) ∧ Below w.heap.size w wr) (fun _ i _ => 48 * N - (intOf i).toNat)
  case atStart => exact ⟨0, 0, 0, Nat.zero_le _, rfl, rfl, Nat.le_refl _, Blks.nil _ _, Below.refl _ _⟩
  case round =>
    obtain ⟨t, q, n, ht, hq, rfl, hn, hv, hb⟩ := hrel
    obtain ⟨W0, rfl⟩ : ∃ W0 : World, W0 = wr := ⟨_, rfl⟩
    have HV := Lib.hid hv
    have HB := Lib.hid hb
    have hsz := hb.size
    have HQ := Lib.hid hq
    have hq1 : q ≤ 4176 := by omega
    clear hv hb
    by_cases hlt : t < N
    · have htw := HRW.out.2 t hlt
      have hqw : q < nw := by omega
      have hqN : q + 48 ≤ 48 * N := by omega
      clear hq htw
      have d1 : decide ((q : Int) < (nw : Int)) = true := by simp; omega
      obtain ⟨P, hP⟩ : ∃ P, JLayM.part ws 48 t = P := ⟨_, rfl⟩
      obtain ⟨p, hp⟩ : ∃ p, P.length = p := ⟨_, rfl⟩
      have hp1 : p = min 48 (nw - q) := by rw [← hp, ← hP, part_len, HNW.out, HQ.out]; omega
      have hp2 : 1 ≤ p ∧ p ≤ 48 ∧ q + p ≤ nw := by omega
      have HPE : Hid (∀ m (h : m < P.length), ∃ h2 : q + m < ws.length, P[m] = ws[q + m]) := Lib.hid (fun m h => by
        subst hP
        have h' := h
        rw [part_len] at h'
        refine ⟨by have := HQ.out; omega, ?_⟩
        simp only [JLayM.part, List.getElem_take, List.getElem_drop]
        congr 1
        have := HQ.out
        omega)
      have HPM : Hid (recMay (descR seq P) = true) := Lib.hid (by rw [← hP]; exact HWM.out t hlt)
      have HPP := Lib.hid hP
      have HPL := Lib.hid hp
      have HP1 := Lib.hid hp1
      have HI0 : Hid (IL seq P W0 0 (W0.alloc (.cells #[.int .i64 1, .int .i64 seq, .slice none 0 0, .int .u32 0, .int .i64 0] 61)) (.slice none 0 0)) :=
        Lib.hid ⟨⟨_, row_new W0 _, World.ownsRow_nil _ _ _ _⟩, Blks.nil _ _, below_box _⟩
      clear hP hp hp1
      go_wp2_with fail
      go_loopw [11, 12] (fun vD i W => ∃ m kk : Nat, m ≤ p ∧ kk = q + m ∧ i = .int .i64 kk ∧ IL seq P W0 m W vD) (fun _ i _ => nw - (intOf i).toNat)
      case atStart => exact ⟨0, q, Nat.zero_le _, rfl, rfl, HI0.out⟩
      case round =>
        obtain ⟨m, kk, hm, hkk, rfl, ⟨⟨vE, hbx, hE⟩, hD, hbl⟩⟩ := hrel
        have HKK := Lib.hid hkk
        have hkk1 : kk ≤ 4500 := by omega
        have HBX := Lib.hid hbx
        have HE := Lib.hid hE
        have HD := Lib.hid hD
        have HBL := Lib.hid hbl
        have hsW := hbl.size
        by_cases hltm : m < p
        · have hk1 : (kk : Int) < (q : Int) + 48 := by omega
          have hk2 : (kk : Int) < (nw : Int) := by omega
          have hk0 : (0 : Int) ≤ (kk : Int) := by omega
          have hlt' : kk < ws.length := by rw [HNW.out]; omega
          have HBW := Lib.hid (HB.out.trans (hbl.mono hsz))
          obtain ⟨a, K, cc, rfl, hab, c0, c1, hS⟩ := HA.out.at_ hlt'
          have hcc := HCAP.out kk (by omega) a K _ cc rfl (by rw [← addr_field a (kk * 2) 1 (by decide)]; exact c1)
          have hab2 : (a.add (kk * 2)).block < w.heap.size := by rw [addr_add_block]; omega
          have c0 := (HBW.out.cell hab2).trans c0
          have c1 := (HBW.out.cell (p := ⟨(a.add (kk * 2)).block, (a.add (kk * 2)).off + 1, none⟩) hab2).trans c1
          have hS := hS.below_le HBW.out hB
          have hc256 := H256.out kk hlt'
          have HPW : Hid (P.take (m + 1) = P.take m ++ [ws[kk]]) := Lib.hid (by
            have hmp : m < P.length := by rw [HPL.out]; exact hltm
            obtain ⟨h2, e⟩ := HPE.out m hmp
            rw [List.take_succ_eq_append_getElem hmp, e]
            congr 3
            exact HKK.out.symm)
          generalize hx : ws[kk] = x at *
          obtain ⟨bk, dat⟩ := x
          simp only at c0 c1 hS hc256 hcc
          rw [hc256] at c1 hcc
          have H2 := Lib.hid hc256
          have HS := Lib.hid hS
          clear hx hbx hE hD hbl hkk hc256 hS
          go_wp2_with fail
          refine (refEscape_any 256 dat H2.out B K cc hcc wr (by have := HBW.out.size; omega) (by decide) HS.out).mono ?_
          rintro e w1 ⟨v1, rfl, hO1, hb1⟩
          obtain ⟨A1, cp1, rfl, _, _⟩ := hO1.sl
          have hel : (escL dat).length = 256 := (escL_len dat).trans H2.out
          rw [hel] at hO1 ⊢
          have HO1 := Lib.hid hO1
          have HB1 := Lib.hid hb1
          have hs1 := hb1.size
          have c0 := (hb1.cell (by rw [addr_add_block]; have := HBW.out.size; omega)).trans c0
          have HBX1 := Lib.hid (row_below HBX.out hb1 (row_lt HBX.out))
          have hlR := row_lt HBX1.out
          have e2 : w1.cell? ⟨W0.heap.size, 2, none⟩ = some vE := (row_cell HBX1.out 2).trans rfl
          have e2f : w1.frozen? ⟨W0.heap.size, 2, none⟩ = false := row_free HBX1.out 2
          have HE1 := Lib.hid (show (newE w1 bk (marked dat)).ownsRow _ _ _ _ _ _ from ((HE.out.kept (below_grown hb1 none) (by cases vE.ownBlock <;> simp)).alloc (.cells #[.int .i64 bk, .bool (marked dat)] 62)).drew)
          have HEW : Hid (entW ⟨bk, dat⟩ = ⟨bk, marked dat⟩) := Lib.hid rfl
          have HD1 := Lib.hid (HD.out.below hb1)
          have HBL1 := Lib.hid (HBL.out.trans (hb1.mono hsW))
          generalize hmk : marked dat = mk at *
          clear hO1 hb1 c1 HE HD HBX HBL hel
          go_wp2_with fail
          go_region_law
            ((first
            | (refine step_append_lies _ (by rfl) _ _ _ (by rfl) W0.heap.size 62 i0 _ 2 16 under_R hi0 hz0 hz1 hz2 rfl (by omega) vE m (ecells ((P.take m).map entW)) (by rfl) HE1.out ⟨w1.heap.size, 0, none⟩ 1 1 (ecell ⟨bk, mk⟩) (by rfl) (by rfl) (World.news_of_block (cs := #[.int .i64 bk, .bool mk]) (t := 62) (fr := (0, 0)) (row_new w1 _)) (by simp [ecell, Value.oneCell']) (by omega) (by unfold maxLen; omega) (by omega) (by simp; omega) _ rfl ?_; intro gg cap w2 h1 h2 hat hlt2
               obtain ⟨k1, k2, k3, k4, k5, j0, j1⟩ := IL.mid HBX1.out HE1.out HD1.out HO1.out HBL1.out h1 h2
               have K1 := Lib.hid k1
               have K2 := Lib.hid k2
               have K3 := Lib.hid k3
               have K4 := Lib.hid k4
               have K5 := Lib.hid k5
               clear h1 h2 hat k1 k2 k3 k4 k5)))
          all_goals
            clear j0 j1 e2 e2f HBX1 HE1 HD1 HO1 HBL1
            generalize w2.setCell ⟨W0.heap.size, 2, none⟩ (.slice (some ⟨gg, 0, none⟩) (m + 1) cap) = w3 at *
            have KA := Lib.hid (row_alloc K1.out (.cells #[.slice A1 256 cp1] 31))
            have KB := Lib.hid (K2.out.alloc (.cells #[.slice A1 256 cp1] 31))
            have KC := Lib.hid (K3.out.alloc (.cells #[.slice A1 256 cp1] 31))
            have KD := Lib.hid (BRow.one K4.out)
            have KE := Lib.hid (K5.out.alloc K5.out.size (.cells #[.slice A1 256 cp1] 31))
            have hs3 := K5.out.size
            have hsr := hsW
            clear K1 K2 K3 K4 K5
            go_wp2_with (at_builtin; go_loud (refine wl_blks rfl (.tmp 73) (.tmp 75) rfl W0.heap.size u11 m _ rfl KC.out _ wr.heap.size (some ⟨w3.heap.size, 0, none⟩) 1 1 _ rfl rfl KD.out hsr (by omega) (by simp; omega) ?_); intro v' w4 h1 h2 h3 h4)
            have HNX := Lib.hid (IL.last KA.out KB.out KC.out KE.out h1 h2 h3 h4 HPW.out HEW.out rfl)
            clear h1 h2 h3 h4 KA KB KC KD KE
            go_roundw
            case rel => exact ⟨m + 1, kk + 1, by omega, by have := HKK.out; omega, by go_num, HNX.out⟩
            case measure => simp [intOf]; omega
        · obtain rfl : m = p := by omega
          have hPT : P.take m = P := List.take_of_length_le (by rw [HPL.out]; exact Nat.le_refl _)
          rw [hPT] at hE hD
          obtain ⟨AE, cE, rfl, hEn, _⟩ := entsOut hE (by simp [HPL.out])
          obtain ⟨AD, cD, rfl, _⟩ := blks_row hD
          have HEN := Lib.hid hEn
          have HVW := Lib.hid (HV.out.below hbl)
          have HAP := Lib.hid (blks_apart HV.out hD (Nat.le_refl _))
          have HBW := Lib.hid (HB.out.trans (hbl.mono hsz))
          have HDD := Lib.hid hD
          have e0 : wr.cell? ⟨W0.heap.size, 0, none⟩ = some (.int .i64 1) := (row_cell hbx 0).trans rfl
          have e1 : wr.cell? ⟨W0.heap.size, 1, none⟩ = some (.int .i64 seq) := (row_cell hbx 1).trans rfl
          have e2 : wr.cell? ⟨W0.heap.size, 2, none⟩ = some (.slice AE m cE) := (row_cell hbx 2).trans rfl
          have e3 : wr.cell? ⟨W0.heap.size, 3, none⟩ = some (.int .u32 0) := (row_cell hbx 3).trans rfl
          have e4 : wr.cell? ⟨W0.heap.size, 4, none⟩ = some (.int .i64 0) := (row_cell hbx 4).trans rfl
          have HPK := Lib.hid (refPack_at (descR seq P) (show (0 : Nat) < 4294967296 by decide) m (by simp [descR, HPL.out]) wr.heap.size AE cE wr (Nat.le_refl _) hEn (by omega))
          have HRL := Lib.hid (recBytes_len (recMay_iff.1 HPM.out).2.1)
          have HFS := Lib.hid (frontW_succ seq ws t)
          rw [HPP.out] at HFS
          have hwy : ((kk : Int) < (q : Int) + 48 ∧ ¬ ((kk : Int) < (nw : Int))) ∨ ¬ ((kk : Int) < (q : Int) + 48) := by have := HP1.out; omega
          have hsB := HBW.out.size
          clear hE hD hbx hbl hEn hPT
          rcases hwy with ⟨g1, g2⟩ | g1
          all_goals
            have hk0 : (0 : Int) ≤ (kk : Int) := by omega
            go_wp2_with fail
            refine (HPK.out).mono ?_
            rintro e w2 ⟨hyes, _, hb2⟩
            obtain ⟨v2, rfl, hO2⟩ := hyes HPM.out
            obtain ⟨A2, c2, rfl, _, _⟩ := hO2.sl
            rw [HRL.out] at hO2 ⊢
            have hs2' := hb2.size
            have HV2 := Lib.hid ((HVW.out.below hb2).alloc (.cells #[.slice A2 256 c2] 31))
            have HD2 := Lib.hid ((HDD.out.below hb2).alloc (.cells #[.slice A2 256 c2] 31))
            have HB2 := Lib.hid ((below_up HBW.out hb2 hsB).alloc (by omega) (.cells #[.slice A2 256 c2] 31))
            have HO2 := Lib.hid (BRow.one hO2)
            clear hyes hb2 hO2 e0 e1 e2 e3 e4
            go_wp2_with (
              at_builtin
              go_loud (refine wl_blks rfl (.tmp 82) (.tmp 84) rfl w.heap.size u8 n _ rfl HV2.out _ wr.heap.size (some ⟨w2.heap.size, 0, none⟩) 1 1 _ rfl rfl HO2.out hsB (by omega) (by simp; omega) ?_)
              intro v' w3 h1 h2 h3 h4
              have HV3 := Lib.hid h1
              have HD3 := Lib.hid (by obtain ⟨vs, a1, _⟩ := HV2.out; exact blks_other HD2.out a1 h2 HAP.out)
              have HB3 := Lib.hid (HB2.out.grown h2 (by simp; omega) (fun j hj => h3 j hj))
              have hs3 := HB3.out.size
              clear h1 h2 h3 h4 HV2 HD2 HB2 HO2
              obtain ⟨AD', cD', he', HBR⟩ := blks_row HD3.out
              injection he' with ea eb ec
              subst ea
              subst ec
              have HBR := Lib.hid HBR
              go_wp2_with (
                at_builtin
                go_loud (refine wl_blks rfl (.tmp 86) (.tmp 87) rfl w.heap.size v' (n + 1) _ rfl HV3.out _ W0.heap.size AD m cD _ rfl (by simp [HPL.out]) HBR.out hsz (by omega) (by omega) ?_)
                intro v3 w4 h1 h2 h3 h4
                have HV4 := Lib.hid h1
                have HB4 := Lib.hid (HB3.out.grown h2 (by omega) (fun j hj => h3 j hj))
                clear h1 h2 h3 h4 HV3 HB3 HD3 HBR)
              have HFF : Hid (Blks w4 w.heap.size v3 (n + 1 + m) (frontW seq ws (t + 1))) := Lib.hid (by
                rw [HFS.out]
                have := HV4.out
                rw [List.append_assoc] at this
                exact this)
              have hqq : ((q : Int) + 48) = ((q + 48 : Nat) : Int) := by simp
              go_roundw
              case rel => exact ⟨t + 1, q + 48, n + 1 + m, by omega, by have := HQ.out; omega, by go_num, by omega, HFF.out, HB4.out⟩
              case measure => simp [intOf]; omega)
    · obtain rfl : t = N := by omega
      have hnq : ¬ ((q : Int) < (nw : Int)) := by have := HRW.out.1; omega
      have HBR0 := Lib.hid HB.out
      have HV0 := Lib.hid HV.out
      clear hq hq1 HV HQ
      go_wp2_with fail
      go_loopw [8, 17] (fun v i wr => ∃ t2 q n : Nat, t2 ≤ M ∧ q = 60 * t2 ∧ i = .int .i64 q ∧ n ≤ 49 * t + t2 ∧ Blks wr w.heap.size v n (frontW seq ws t ++ frontR seq rs t2) ∧ Below w.heap.size w wr) (fun _ i _ => 60 * M - (intOf i).toNat)
      case atStart => exact ⟨0, 0, n, Nat.zero_le _, rfl, rfl, by omega, by simpa [frontR] using HV0.out, HBR0.out⟩
      case round =>
        obtain ⟨t2, q, n, ht2, hq, rfl, hn, hv, hb⟩ := hrel
        obtain ⟨W0, rfl⟩ : ∃ W0 : World, W0 = wr := ⟨_, rfl⟩
        have HV := Lib.hid hv
        have HB := Lib.hid hb
        have hsz := hb.size
        have HQ := Lib.hid hq
        have hq1 : q ≤ 4200 := by omega
        clear hv hb
        by_cases hlt : t2 < M
        · have htw := HRR.out.2 t2 hlt
          have hqw : q < nr := by omega
          have hqN : q + 60 ≤ 60 * M := by omega
          clear hq htw
          have d1 : decide ((q : Int) < (nr : Int)) = true := by simp; omega
          obtain ⟨P, hP⟩ : ∃ P, JLayM.part rs 60 t2 = P := ⟨_, rfl⟩
          obtain ⟨p, hp⟩ : ∃ p, P.length = p := ⟨_, rfl⟩
          have hp1 : p = min 60 (nr - q) := by rw [← hp, ← hP, part_len, HNR.out, HQ.out]; omega
          have hp2 : 1 ≤ p ∧ p ≤ 60 ∧ q + p ≤ nr := by omega
          have HPE : Hid (∀ m (h : m < P.length), ∃ h2 : q + m < rs.length, P[m] = rs[q + m]) := Lib.hid (fun m h => by
            subst hP
            have h' := h
            rw [part_len] at h'
            refine ⟨by have := HQ.out; omega, ?_⟩
            simp only [JLayM.part, List.getElem_take, List.getElem_drop]
            congr 1
            have := HQ.out
            omega)
          have HPM : Hid (recMay (revR seq P) = true) := Lib.hid (by rw [← hP]; exact HRM.out t2 hlt)
          have HPP := Lib.hid hP
          have HPL := Lib.hid hp
          have HP1 := Lib.hid hp1
          have HI0 : Hid (IR seq P W0 0 (W0.alloc (.cells #[.int .i64 3, .int .i64 seq, .slice none 0 0, .int .u32 0, .int .i64 0] 61))) :=
            Lib.hid ⟨⟨_, row_new W0 _, World.ownsRow_nil _ _ _ _⟩, below_box _⟩
          clear hP hp hp1
          go_wp2_with fail
          go_loopw [19] (fun i W => ∃ m kk : Nat, m ≤ p ∧ kk = q + m ∧ i = .int .i64 kk ∧ IR seq P W0 m W) (fun i _ => nr - (intOf i).toNat)
          case atStart => exact ⟨0, q, Nat.zero_le _, rfl, rfl, HI0.out⟩
          case round =>
            obtain ⟨m, kk, hm, hkk, rfl, ⟨⟨vE, hbx, hE⟩, hbl⟩⟩ := hrel
            have HKK := Lib.hid hkk
            have hkk1 : kk ≤ 4500 := by omega
            have HBX1 := Lib.hid hbx
            have HE := Lib.hid hE
            have HBL1 := Lib.hid hbl
            have hsW := hbl.size
            by_cases hltm : m < p
            · have hk1 : (kk : Int) < (q : Int) + 60 := by omega
              have hk2 : (kk : Int) < (nr : Int) := by omega
              have hk0 : (0 : Int) ≤ (kk : Int) := by omega
              have hlt' : kk < rs.length := by rw [HNR.out]; omega
              have HBW := Lib.hid (HB.out.trans (hbl.mono hsz))
              obtain ⟨a, rfl, hab, c0⟩ := Sl.i64 (HA'.out.below_le HBW.out hB) hlt'
              have HPW : Hid (P.take (m + 1) = P.take m ++ [rs[kk]]) := Lib.hid (by
                have hmp : m < P.length := by rw [HPL.out]; exact hltm
                obtain ⟨h2, e⟩ := HPE.out m hmp
                rw [List.take_succ_eq_append_getElem hmp, e]
                congr 3
                exact HKK.out.symm)
              generalize hx : rs[kk] = bk at *
              have hlR := row_lt HBX1.out
              have hsB := HBW.out.size
              have e2 : wr.cell? ⟨W0.heap.size, 2, none⟩ = some vE := (row_cell HBX1.out 2).trans rfl
              have e2f : wr.frozen? ⟨W0.heap.size, 2, none⟩ = false := row_free HBX1.out 2
              have HE1 := Lib.hid (show (newE wr bk false).ownsRow _ _ _ _ _ _ from (HE.out.alloc (.cells #[.int .i64 bk, .bool false] 62)).drew)
              clear hx hbx hE hbl hkk HE
              go_wp2_with fail
              go_region_law
                ((first
                | (refine step_append_lies _ (by rfl) _ _ _ (by rfl) W0.heap.size 62 i0 _ 2 16 under_R hi0 hz0 hz1 hz2 rfl (by omega) vE m (ecells ((P.take m).map entR)) (by rfl) HE1.out ⟨wr.heap.size, 0, none⟩ 1 1 (ecell ⟨bk, false⟩) (by rfl) (by rfl) (World.news_of_block (cs := #[.int .i64 bk, .bool false]) (t := 62) (fr := (0, 0)) (row_new wr _)) (by simp [ecell, Value.oneCell']) (by omega) (by unfold maxLen; omega) (by omega) (by simp; omega) _ rfl ?_; intro gg cap w2 h1 h2 hat hlt2
                   obtain ⟨k1, k2, _, _, k5, j0, j1⟩ := IL.mid HBX1.out HE1.out (Blks.nil wr W0.heap.size) (base1 := 0) (v1 := .slice none 0 0) (b := []) (.inl ⟨rfl, rfl⟩) HBL1.out h1 h2
                   have HNX : Hid (IR seq P W0 (m + 1) (w2.setCell ⟨W0.heap.size, 2, none⟩ (.slice (some ⟨gg, 0, none⟩) (m + 1) cap))) := Lib.hid ⟨⟨_, k1, by rw [HPW.out, List.map_append]; exact k2⟩, k5⟩
                   clear h1 h2 hat k1 k2 k5)))
              all_goals
                go_wp2
                go_roundw
                case rel => exact ⟨m + 1, kk + 1, by omega, by have := HKK.out; omega, by go_num, HNX.out⟩
                case measure => simp [intOf]; omega
            · obtain rfl : m = p := by omega
              have hPT : P.take m = P := List.take_of_length_le (by rw [HPL.out]; exact Nat.le_refl _)
              rw [hPT] at hE
              obtain ⟨AE, cE, rfl, hEn, _⟩ := entsOut hE (by simp [HPL.out])
              have HVW := Lib.hid (HV.out.below hbl)
              have HBW := Lib.hid (HB.out.trans (hbl.mono hsz))
              have e0 : wr.cell? ⟨W0.heap.size, 0, none⟩ = some (.int .i64 3) := (row_cell hbx 0).trans rfl
              have e1 : wr.cell? ⟨W0.heap.size, 1, none⟩ = some (.int .i64 seq) := (row_cell hbx 1).trans rfl
              have e2 : wr.cell? ⟨W0.heap.size, 2, none⟩ = some (.slice AE m cE) := (row_cell hbx 2).trans rfl
              have e3 : wr.cell? ⟨W0.heap.size, 3, none⟩ = some (.int .u32 0) := (row_cell hbx 3).trans rfl
              have e4 : wr.cell? ⟨W0.heap.size, 4, none⟩ = some (.int .i64 0) := (row_cell hbx 4).trans rfl
              have HPK := Lib.hid (refPack_at (revR seq P) (show (0 : Nat) < 4294967296 by decide) m (by simp [revR, HPL.out]) wr.heap.size AE cE wr (Nat.le_refl _) hEn (by omega))
              have HRL := Lib.hid (recBytes_len (recMay_iff.1 HPM.out).2.1)
              have HFS := Lib.hid (frontR_succ seq rs t2)
              rw [HPP.out] at HFS
              have hwy : ((kk : Int) < (q : Int) + 60 ∧ ¬ ((kk : Int) < (nr : Int))) ∨ ¬ ((kk : Int) < (q : Int) + 60) := by have := HP1.out; omega
              have hsB := HBW.out.size
              clear hE hbx hbl hEn hPT
              rcases hwy with ⟨g1, g2⟩ | g1
              all_goals
                have hk0 : (0 : Int) ≤ (kk : Int) := by omega
                go_wp2_with fail
                refine (HPK.out).mono ?_
                rintro e w2 ⟨hyes, _, hb2⟩
                obtain ⟨v2, rfl, hO2⟩ := hyes HPM.out
                obtain ⟨A2, c2, rfl, _, _⟩ := hO2.sl
                rw [HRL.out] at hO2 ⊢
                have hs2' := hb2.size
                have HV2 := Lib.hid ((HVW.out.below hb2).alloc (.cells #[.slice A2 256 c2] 31))
                have HB2 := Lib.hid ((below_up HBW.out hb2 hsB).alloc (by omega) (.cells #[.slice A2 256 c2] 31))
                have HO2 := Lib.hid (BRow.one hO2)
                clear hyes hb2 hO2 e0 e1 e2 e3 e4
                go_wp2_with (
                  at_builtin
                  go_loud (refine wl_blks rfl (.tmp 125) (.tmp 127) rfl w.heap.size u8 n _ rfl HV2.out _ wr.heap.size (some ⟨w2.heap.size, 0, none⟩) 1 1 _ rfl rfl HO2.out hsB (by omega) (by simp; omega) ?_)
                  intro v' w3 h1 h2 h3 h4
                  have HV3 := Lib.hid h1
                  have HB3 := Lib.hid (HB2.out.grown h2 (by simp; omega) (fun j hj => h3 j hj))
                  clear h1 h2 h3 h4 HV2 HB2 HO2)
                have HFF : Hid (Blks w3 w.heap.size v' (n + 1) (frontW seq ws t ++ frontR seq rs (t2 + 1))) := Lib.hid (by
                  rw [HFS.out]
                  have := HV3.out
                  rw [List.append_assoc] at this
                  exact this)
                have hqq : ((q : Int) + 60) = ((q + 60 : Nat) : Int) := by simp
                go_roundw
                case rel => exact ⟨t2 + 1, q + 60, n + 1, by omega, by have := HQ.out; omega, by go_num, by omega, HFF.out, HB3.out⟩
                case measure => simp [intOf]; omega
        · obtain rfl : t2 = M := by omega
          have hnq2 : ¬ ((q : Int) < (nr : Int)) := by have := HRR.out.1; omega
          have HFE : Hid (frontW seq ws t ++ frontR seq rs t2 = front seq ws rs) := Lib.hid (by rw [← HNN.out, ← HMM.out, ← HNW.out, ← HNR.out]; rfl)
          have HVF : Hid (Blks W0 w.heap.size u8 n (front seq ws rs)) := Lib.hid (by rw [← HFE.out]; exact HV.out)
          obtain ⟨AF, cF, rfl, hBR⟩ := blks_row HVF.out
          have HBRF := Lib.hid hBR
          have HLN := Lib.hid HVF.out.len
          have hnn : n ≤ 5000 := by omega
          clear hq hq1 HV HQ hBR
          generalize front seq ws rs = F at *
          go_wp2_with fail
          go_loopw [22, 23] (fun x i wr => ∃ k : Nat, k ≤ n ∧ i = .int .i64 k ∧ wr.ownsRow W0.heap.size 5 1 x (256 * k) ((F.take k).flatten.map u8v) ∧ Below W0.heap.size W0 wr) (fun _ i _ => n - (intOf i).toNat)
          case atStart => exact ⟨0, Nat.zero_le _, rfl, by simpa using World.ownsRow_nil _ _ _ _, Below.refl _ _⟩
          case round =>
            obtain ⟨k, hk, rfl, hO, hbw⟩ := hrel
            by_cases hlt : k < n
            · have hlt' : k < F.length := by rw [HLN.out]; exact hlt
              obtain ⟨us, b1, b2, b3, b4⟩ := HBRF.out
              obtain ⟨u, hu, hOu⟩ := b4 k hlt'
              obtain ⟨Au, cu, rfl, hSu, _⟩ := hOu.sl
              obtain ⟨ad, rfl, hadb, hcu⟩ := b1 k _ hu
              rw [HF6.out _ (List.getElem_mem hlt')] at hcu
              have hsw := hbw.size
              have y0 : wr.cell? (ad.add k) = some (.slice Au 256 cu) := (hbw.cell (by rw [addr_add_block]; exact hadb)).trans hcu
              have HS := Lib.hid (hSu.below_le hbw (Nat.le_refl _))
              have HO := Lib.hid hO
              have HFT := Lib.hid (flat_take F k hlt')
              have HBW := Lib.hid hbw
              have hk0 : (0 : Int) ≤ (k : Int) := by omega
              have hk1 : (k : Int) < (n : Int) := by omega
              have HBK := Lib.hid (HF6.out F[k] (List.getElem_mem hlt'))
              generalize F[k] = bk at *
              clear hcu hSu hO hbw b1 b2 b3 b4 hu hOu
              go_wp2_with (at_builtin; go_loud (refine wl_append rfl (.tmp 135) (.tmp 139) 31 rfl W0.heap.size 5 1 elem8 u22 (256 * k) _ rfl HO.out W0.heap.size Au 256 cu (bk.map u8v) rfl (by simp [HBK.out]) HS.out (one_u8 _) (by omega) (by unfold maxLen; omega) hsw ?_); intro v' w3 h1 h2 h3)
              have HO1 := Lib.hid h1
              have HB1' := Lib.hid (HBW.out.grown h2 hsw (fun j hj => JRPack.own_ge HO.out j hj))
              clear h1 h2 h3
              go_roundw
              case rel => exact ⟨k + 1, by omega, by go_num, by rw [HFT.out, List.map_append, show 256 * (k + 1) = 256 * k + 256 by omega]; exact HO1.out, HB1'.out⟩
              case measure => simp [intOf]; omega
            · obtain rfl : k = n := by omega
              have hnk : ¬ ((k : Int) < (k : Int)) := by omega
              have hfd : (F.take k).flatten = F.flatten := by rw [List.take_of_length_le (by rw [HLN.out]; exact Nat.le_refl _)]
              rw [hfd] at hO
              have hDL : F.flatten.length = 256 * k := by rw [flat_len 256 F HF6.out, HLN.out]
              obtain ⟨sm, hsm⟩ : ∃ sm, crc sq F.flatten = sm := ⟨_, rfl⟩
              have hsl : sm < 4294967296 := by rw [← hsm]; exact crc_lt _ _
              have HLY2 : Hid (lay seq ws rs = F ++ [recBytes (commR seq sm)]) := Lib.hid (by rw [HLY.out, sumB_flat F sq hq4, hsm])
              rw [← hDL] at hO
              obtain ⟨AX, cX, rfl, hSX, _⟩ := (Own.of_row hO).sl
              have HCR := Lib.hid (ref_crc sq F.flatten wr.heap.size AX cX wr hq4 (by omega) hSX)
              rw [hsm] at HCR
              rw [hDL] at HCR ⊢
              have HBW := Lib.hid (HB.out.trans (hbw.mono hsz))
              have HVW := Lib.hid (HVF.out.below hbw)
              have hsB := HBW.out.size
              clear hO hbw hfd hDL hsm hSX
              go_wp2_with fail
              refine (HCR.out).mono ?_
              rintro e w' ⟨rfl, rfl⟩
              go_wp2_with fail
              have HRL := Lib.hid (recBytes_len (recMay_iff.1 (HCM.out sm)).2.1)
              refine (refPack_at (commR seq sm) hsl 0 rfl 0 none 0 wr (Nat.zero_le _) (fun i hi => by cases hi) (by decide)).mono ?_
              rintro e w2 ⟨hyes, _, hb2⟩
              obtain ⟨v2, rfl, hO2⟩ := hyes (HCM.out sm)
              obtain ⟨A2, c2, rfl, _, _⟩ := hO2.sl
              rw [HRL.out] at hO2 ⊢
              have hs2' := hb2.size
              have HV2 := Lib.hid ((HVW.out.below hb2).alloc (.cells #[.slice A2 256 c2] 31))
              have HB2 := Lib.hid ((below_up HBW.out hb2 hsB).alloc (by omega) (.cells #[.slice A2 256 c2] 31))
              have HO2 := Lib.hid (BRow.one hO2)
              clear hyes hb2 hO2
              go_wp2_with (
                at_builtin
                go_loud (refine wl_blks rfl (.tmp 151) (.tmp 153) rfl w.heap.size _ k _ rfl HV2.out _ wr.heap.size (some ⟨w2.heap.size, 0, none⟩) 1 1 _ rfl rfl HO2.out hsB (by omega) (by simp; omega) ?_)
                intro v' w3 h1 h2 h3 h4
                have HV3 := Lib.hid h1
                have HB3 := Lib.hid (HB2.out.grown h2 (by simp; omega) (fun j hj => h3 j hj))
                clear h1 h2 h3 h4 HV2 HB2 HO2)
              go_ret2
              exact ⟨⟨v', _, rfl, by rw [HLY2.out]; exact HV3.out⟩, HB3.out⟩
theorem refLay_no (seq : Int) (ws : List Wr) (rs : List Int) (hok : layOk seq ws rs = false) (nw nr : Nat) (hnw : ws.length = nw) (hnr : rs.length = nr) (B : Nat) (A A' : Option Addr) (c c' : Nat) (w : World)
    (hA : Wrs w B A ws) (hA' : Sl w B A' (rs.map i64v)) (hlw : nw ≤ 140737488355328) (hlr : nr ≤ 140737488355328) :
    Calls Tryd.prog 6 #[.int .i64 seq, .slice A nw c, .slice A' nr c'] w fun e w' => e = .returned (.tuple #[.slice none 0 0, .int .i64 22]) ∧ w = w' := by
  have HRT := Lib.hid (right_any seq ws rs false ((right_eq seq ws rs).trans hok) nw nr hnw hnr B A A' c c' w hA hA' hlw hlr)
  clear hA hA' hok
  go_enter Tryd.func6, Tryd.ntmps6
  go_wp2_with fail
  refine HRT.out.mono ?_
  rintro e w' ⟨rfl, rfl⟩
  go_wp2
  go_ret2
  exact ⟨rfl, rfl⟩
theorem refLay_any (seq : Int) (ws : List Wr) (rs : List Int) (nw nr : Nat) (hnw : ws.length = nw) (hnr : rs.length = nr) (B : Nat) (A A' : Option Addr) (c c' : Nat) (w : World) (hB : B ≤ w.heap.size)
    (hA : Wrs w B A ws) (hcap : Caps w A nw) (hA' : Sl w B A' (rs.map i64v)) (hlw : nw ≤ 140737488355328) (hlr : nr ≤ 140737488355328) :
    Calls Tryd.prog 6 #[.int .i64 seq, .slice A nw c, .slice A' nr c'] w (LayR seq ws rs w) := by
  cases hok : layOk seq ws rs with
  | false => exact (refLay_no seq ws rs hok nw nr hnw hnr B A A' c c' w hA hA' hlw hlr).mono fun e w' ⟨h1, h2⟩ => ⟨fun h => (by rw [hok] at h; cases h), fun _ => h1, by subst h2; exact Below.refl _ _⟩
  | true => exact (refLay_yes seq ws rs hok nw nr hnw hnr B A A' c c' w hB hA hcap hA').mono fun e w' ⟨h1, h2⟩ => ⟨fun _ => h1, fun h => (by rw [hok] at h; cases h), h2⟩
end Go.Proofs.YtkkcipjlinfieaaDoor.JRLay
