/- A transaction laid. -/
import Derived.Test.YtmlgchmladkfpaaGreatDoorMg38
namespace Go.Proofs.YtmlgchmladkfpaaGreatDoor.NLay3
open Go.RowKit WMem WPlain WAppend WCrc WSeal Ext Map DPlain DMem EPlain EMem EFace ECommit JPlain JMem JNeed JLayM JLay NPlain NMem NFace NCred NMake NCheck NRun NHead NPart NRevoke NIns NLay2

theorem puts_append : ∀ (l m : List Bk) (a : Nat), puts a (l ++ m) = puts a l ++ puts (a + l.length) m
  | [], m, a => rfl
  | b :: l, m, a => by
    show Thing.put a b :: puts (a + 1) (l ++ m) = Thing.put a b :: (puts (a + 1) l ++ puts (a + (l.length + 1)) m)
    rw [puts_append l m (a + 1), show a + 1 + l.length = a + (l.length + 1) by omega]
theorem puts_len : ∀ (l : List Bk) (a : Nat), (puts a l).length = l.length
  | [], _ => rfl
  | b :: l, a => by show (puts (a + 1) l).length + 1 = l.length + 1; rw [puts_len l]
theorem lay_256 {seq : Int} {ws : List Wr} {rs : List Int} (h : layOk seq ws rs = true) : ∀ b ∈ lay seq ws rs, b.length = 256 := by
  have h7 := h
  unfold layOk at h7
  simp only [Bool.and_eq_true, decide_eq_true_eq] at h7
  obtain ⟨⟨⟨⟨⟨hw, hr⟩, h256⟩, hW⟩, hR⟩, hso⟩ := h7
  intro b hb
  rcases List.mem_append.1 hb with hb | hb
  · exact front_short hW hR h256 b hb
  · rw [List.mem_singleton.1 hb]
    exact recBytes_len (recMay_iff.1 (show recMay (commR seq _) = true by simp [recMay, commR, hasOk, restOk, hso])).2.1
theorem JGo.plus {w w' : World} {K : Nat → Prop} {ρ : Ro} {D : Nat → Prop} {jb ml mc b db : Nat} {j j' : Jr} {s s' : Sto} (g : JGo w w' ρ D K ρ D K jb ml mc b db j' s') (h : JO w ρ D K jb ml mc b db j s) : JGo w w' ρ D K ρ D (Plus K w w') jb ml mc b db j' s' := by
  refine ⟨JO.plus g.own h.there, g.ext, fun q hq => ?_, g.same, fun q hq => .inl hq⟩
  rcases hq with hq | e | e | e | e
  · exact .inl (.inl hq)
  · exact .inl (.inr (.inl e))
  · exact .inl (.inr (.inr (.inl e)))
  · exact .inl (.inr (.inr (.inr (.inl e))))
  · rcases e with e | e
    · exact .inl (.inr (.inr (.inr (.inr e))))
    · exact .inr e.1
theorem underT : Tryz.prog.underlying 59 = some (.slice 47) := by kernel_rfl
/-- a thing is appended -/
theorem TR.push {w W W' : World} {K : Nat → Prop} {jb n : Nat} {v v' x : Value} {l : List Thing} {t : Thing} {vs : List Value} (h1 : W.ownsRow w.heap.size 47 1 v n vs) (h2 : AreThings W (New K w W) jb vs l) (h4 : l.length = n) (h5 : Below w.heap.size w W) (ht : There K w)
    (hx : ThingIs W (New K w W) jb x t) (g1 : W'.ownsRow w.heap.size 47 1 v' (n + 1) (vs ++ [x])) (g2 : W.grownBy W' v.ownBlock) : TR w K jb W' v' (n + 1) (l ++ [t]) := by
  have hk := new_grown h1 g2 h5.size ht
  have hAT : AreThings W' (New K w W') jb (vs ++ [x]) (l ++ [t]) := AreThings.append (h2.keep hk (new_up g2.size hk)) ⟨rfl, fun i hi => by
    obtain rfl : i = 0 := by simpa using hi
    exact ⟨x, rfl, hx.keep hk (new_up g2.size hk)⟩⟩
  exact ⟨⟨vs ++ [x], g1, hAT, things_one hAT⟩, by simp [h4], h5.grown g2 h5.size (fun j hj => own_ge h1 j hj)⟩
theorem TR.put {w wr w1 w2 : World} {K : Nat → Prop} {jb n : Nat} {v v' x : Value} {l : List Thing} {t : Thing} {vs : List Value} (h1 : wr.ownsRow w.heap.size 47 1 v n vs) (h2 : AreThings wr (New K w wr) jb vs l) (h4 : l.length = n) (h5 : Below w.heap.size w wr) (ht : There K w)
    (hth : ThingIs w1 (New (New K w wr) wr.drew w1) jb x t) (hb1 : Below wr.drew.heap.size wr.drew w1) (g1 : w2.ownsRow w.heap.size 47 1 v' (n + 1) (vs ++ [x])) (g2 : (w1.alloc (.cells #[x] 47)).grownBy w2 v.ownBlock) : TR w K jb w2 v' (n + 1) (l ++ [t]) := by
  have hb0 : Below wr.heap.size wr w1 := ⟨hb1.os, hb1.tape, hb1.output, hb1.size, hb1.block⟩
  have hb2 : Below wr.heap.size wr (w1.alloc (.cells #[x] 47)) := hb0.trans ((JMem.below_box _).mono hb0.size)
  have hk1 : ∀ q, New K w wr q → w1.heap[q]? = wr.heap[q]? := fun q hq => hb0.block q (new_there ht h5.size q hq)
  have hk2 : ∀ q, New K w wr q → (w1.alloc (.cells #[x] 47)).heap[q]? = wr.heap[q]? := fun q hq => hb2.block q (new_there ht h5.size q hq)
  have hs1 : w.heap.size ≤ w1.heap.size := Nat.le_trans h5.size hb0.size
  have hth1 : ThingIs w1 (New K w w1) jb x t := hth.keep (fun _ _ => rfl) (new_step (w' := wr) h5.size hb0.size hk1)
  have hk3 : ∀ q, New K w w1 q → (w1.alloc (.cells #[x] 47)).heap[q]? = w1.heap[q]? := fun q hq => (JMem.below_box _).block q (new_there ht hs1 q hq)
  exact TR.push (own_same h1 (fun q hq => hb2.block q (own_lt h1 q hq))) (h2.keep hk2 (new_up hb2.size hk2)) h4 (h5.trans (hb2.mono h5.size)) ht (hth1.keep hk3 (new_up (by simp) hk3)) g1 g2
theorem thing_box {w wr W1 w1 : World} {K : Nat → Prop} {jb : Nat} {x : Value} {t : Thing} (h5 : Below w.heap.size w wr) (ht : There K w) (hth : ThingIs w1 (New (New K w wr) W1 w1) jb x t) (hW : W1.heap = wr.heap) (hb1 : Below W1.heap.size W1 w1) : ThingIs (w1.alloc (.cells #[x] 47)) (New K w (w1.alloc (.cells #[x] 47))) jb x t := by
  have hsz : wr.heap.size ≤ w1.heap.size := by rw [← hW]; exact hb1.size
  have hk1 : ∀ q, New K w wr q → w1.heap[q]? = wr.heap[q]? := fun q hq => by rw [← hW]; exact hb1.block q (by rw [hW]; exact new_there ht h5.size q hq)
  have hs1 : w.heap.size ≤ w1.heap.size := Nat.le_trans h5.size hsz
  have hth1 : ThingIs w1 (New K w w1) jb x t := hth.keep (fun _ _ => rfl) (fun q hq => new_step (w' := wr) h5.size hsz hk1 q (by
    rcases hq with hq | hq
    · exact .inl hq
    · exact .inr (by rw [← hW]; exact hq)))
  have hk3 : ∀ q, New K w w1 q → (w1.alloc (.cells #[x] 47)).heap[q]? = w1.heap[q]? := fun q hq => (JMem.below_box _).block q (new_there ht hs1 q hq)
  exact hth1.keep hk3 (new_up (by simp) hk3)
theorem TR.put2 {w wr w1 w2 W1 : World} {o : Obj} {K : Nat → Prop} {jb n : Nat} {v v' x : Value} {l : List Thing} {t : Thing} {vs : List Value} (h1 : wr.ownsRow w.heap.size 47 1 v n vs) (h2 : AreThings wr (New K w wr) jb vs l) (h4 : l.length = n) (h5 : Below w.heap.size w wr) (ht : There K w)
    (hW : W1.heap = (wr.alloc o).heap) (hth : ThingIs w1 (New (New K w (wr.alloc o)) W1 w1) jb x t) (hb1 : Below W1.heap.size W1 w1) (hb0 : Below wr.heap.size wr w1) (g1 : w2.ownsRow w.heap.size 47 1 v' (n + 1) (vs ++ [x])) (g2 : (w1.alloc (.cells #[x] 47)).grownBy w2 v.ownBlock) : TR w K jb w2 v' (n + 1) (l ++ [t]) := by
  have hb2 : Below wr.heap.size wr (w1.alloc (.cells #[x] 47)) := hb0.trans ((JMem.below_box _).mono hb0.size)
  have hk2 : ∀ q, New K w wr q → (w1.alloc (.cells #[x] 47)).heap[q]? = wr.heap[q]? := fun q hq => hb2.block q (new_there ht h5.size q hq)
  exact TR.push (own_same h1 (fun q hq => hb2.block q (own_lt h1 q hq))) (h2.keep hk2 (new_up hb2.size hk2)) h4 (h5.trans (hb2.mono h5.size)) ht (thing_box (wr := wr.alloc o) (h5.alloc h5.size o) ht hth hW hb1) g1 g2
/-- the box of the blocks, and what it holds -/
structure LaidB (W wx : World) (B6 N : Nat) (A : Option Addr) (c : Nat) (L : List (List UInt8)) : Prop where
  box : wx.heap[B6]? = some (.cells #[.slice A N c] 78 (0, 0))
  ge : W.heap.size ≤ B6
  blks : Blks wx W.heap.size (.slice A N c) N L
  below : Below W.heap.size W wx
theorem blks_form {w : World} {base n : Nat} {v : Value} {L : List (List UInt8)} (h : Blks w base v n L) : ∃ A c, v = .slice A n c ∧ L.length = n ∧ n ≤ c := by
  obtain ⟨vs, h1, h2, _⟩ := h
  obtain ⟨A, c, e, hc, _⟩ := own_cell1 (S := fun _ => True) ⟨own_base h1 (fun _ _ => Nat.zero_le _), fun _ _ => trivial⟩
  exact ⟨A, c, e, h2, hc⟩
theorem blks_base {w : World} {base base2 n : Nat} {v : Value} {L : List (List UInt8)} (h : Blks w base2 v n L) (hb : base ≤ base2) : Blks w base v n L := by
  obtain ⟨vs, h1, h2, h3, h4, h5⟩ := h
  refine ⟨vs, own_base h1 (fun q hq => Nat.le_trans hb (own_ge h1 q hq)), h2, h3, h4, fun i hi => ?_⟩
  obtain ⟨u, hu, hO⟩ := h5 i hi
  refine ⟨u, hu, ?_⟩
  rcases hO with hO | ⟨g, c, rest, e1, e2, e3⟩
  · exact .inl hO
  · exact .inr ⟨g, c, rest, e1, Nat.le_trans hb e2, e3⟩
theorem laid_last {W w4 : World} {base N c : Nat} {A : Option Addr} {L : List (List UInt8)} (h : Blks w4 base (.slice A N c) N L) (hb : W.heap.size ≤ base) (hw : Below W.heap.size W w4) : LaidB W (w4.alloc (.cells #[.slice A N c] 78)) w4.heap.size N A c L :=
  ⟨row_new _ _, hw.size, blks_base (h.alloc _) hb, hw.alloc hw.size _⟩
theorem laid_first {W w4 : World} {base B6 N c : Nat} {A : Option Addr} {L : List (List UInt8)} (h : Blks w4 base (.slice A N c) N L) (h6 : w4.heap[B6]? = some (.cells #[.slice none 0 0] 78 (0, 0))) (hge : W.heap.size ≤ B6) (hb : B6 < base) (hw : Below W.heap.size W w4) : LaidB W (w4.setCell ⟨B6, 0, none⟩ (.slice A N c)) B6 N A c L := by
  refine ⟨row_set h6 0 _, hge, blks_base (h.kept (grown_set (grown_refl w4 _) 0 _) ?_ ?_) (by omega), ?_⟩
  · obtain ⟨vs, h1, _⟩ := h
    cases e : (Value.slice A N c).ownBlock with
    | none => exact .inl rfl
    | some q =>
      refine .inr (fun e2 => ?_)
      injection e2 with e2
      have := own_ge h1 q e
      omega
  · intro k cs e
    injection e with e
    subst e
    rw [h6]
    intro e2
    injection e2 with e2
    injection e2 with _ e3 _
    exact absurd e3 (by decide)
  · exact ⟨hw.os, hw.tape, hw.output, by rw [set_size]; exact hw.size, fun q hq => (Below.heap_setCell w4 _ _ q (show q ≠ B6 by omega)).trans (hw.block q hq)⟩
theorem Goes.keeps {w w' : World} {ρ ρ' : Ro} {D D' : Nat → Prop} {b db : Nat} {s' : Sto} (h : Goes w w' ρ D ρ' D' b db s') {q : Nat} (h1 : q < w.heap.size) (h2 : ¬ All ρ D q) : w'.heap[q]? = w.heap[q]? := h.ext.block q h1 h2
set_option maxRecDepth 100000 in
set_option maxHeartbeats 4000000 in
theorem Lay_own {w : World} {K : Nat → Prop} {ρ : Ro} {D : Nat → Prop} {jb ml mc b db : Nat} {j : Jr} {s : Sto} (h : JO w ρ D K jb ml mc b db j s) (hT : Tab w) (base : Nat) (vR : Value) (rv : List Nat) (hR : w.ownsRow base 3 1 vR rv.length (rv.map natv))
    (hRa : ∀ q, vR.ownBlock = some q → ¬ All ρ D q) (hga : ¬ All ρ D 0)
    (hok : layOk j.seq (wrsOf (wrs s.now.chg s.N)) (rv.map fun n : Nat => (n : Int)) = true) (ht : j.tail ≤ 4096) (hu : j.used ≤ 100000) (_hsq : j.seq ≤ 2147483647) (hll : (lay j.seq (wrsOf (wrs s.now.chg s.N)) (rv.map fun n : Nat => (n : Int))).length ≤ 100000) :
    Calls Tryz.prog 88 #[.pointer (some ⟨jb, 0, none⟩), vR] w fun e w' => e = .returned (.int .i64 0) ∧ ∃ K', JGo w w' ρ D K ρ D K' jb ml mc b db (layAll j s rv).1 (layAll j s rv).2 := by
  have hlj : jb < w.heap.size := by obtain ⟨A, c, hx, _⟩ := h.jx; exact hx.lt
  obtain ⟨Ar, cr, rfl, hcr, hcr2⟩ := own_cell1 (S := fun _ => True) ⟨own_base hR (fun _ _ => Nat.zero_le _), fun _ _ => trivial⟩
  have HSL : Hid (Sl w w.heap.size Ar ((rv.map fun n : Nat => (n : Int)).map i64v)) := Lib.hid (fun i u hu => by
    rw [List.map_map] at hu
    obtain ⟨g, rfl, _, hcl⟩ := hcr2 i u hu
    have hadd : (⟨g, 0, none⟩ : Addr).add i = ⟨g, i, none⟩ := by unfold Addr.add; split <;> simp_all
    exact ⟨_, rfl, by have := World.block_lt_of_cell? _ _ hcl; exact this, by rw [hadd]; exact hcl⟩)
  have HRA := Lib.hid (fun i u (hu : (rv.map natv)[i]? = some u) => by
    obtain ⟨g, e, _, hcl⟩ := hcr2 i u hu
    exact (⟨g, e, hRa g (by rw [e]; rfl)⟩ : ∃ g, Ar = some ⟨g, 0, none⟩ ∧ ¬ All ρ D g))
  have HO := Lib.hid h
  have HT := Lib.hid hT
  have HW1 := Lib.hid ((JGo.refl h).below (JMem.below_box (.cells #[.pointer (some ⟨jb, 0, none⟩)] 31)))
  have hb0 := row_new w (.cells #[.pointer (some ⟨jb, 0, none⟩)] 31)
  have hc0 : (w.alloc (.cells #[.pointer (some ⟨jb, 0, none⟩)] 31)).cell? ⟨jb, 0, none⟩ = some (.pointer (some ⟨b, 0, none⟩)) := by
    obtain ⟨A, c, hx, _⟩ := HW1.out.own.jx
    exact hx.cells.1
  have HOK := Lib.hid hok
  have HLL := Lib.hid hll
  have HB0 := Lib.hid hb0
  have HT1 := Lib.hid (show Tab (w.alloc (.cells #[.pointer (some ⟨jb, 0, none⟩)] 31)) from Tab.below hT (JMem.below_box _) (Tab.lt hT))
  have HSL1 := Lib.hid (HSL.out.below_le (JMem.below_box (.cells #[.pointer (some ⟨jb, 0, none⟩)] 31)) (Nat.le_refl _))
  have hTl := Tab.lt hT
  clear hR h hT hok hll hb0 hcr2 hRa
  go_enter Tryz.func88, Tryz.ntmps88
  go_wp2_with fail
  have hs1 : w.heap.size + 1 = (w.alloc (.cells #[.pointer (some ⟨jb, 0, none⟩)] 31)).heap.size := by simp
  have HS1 := Lib.hid hs1
  generalize w.alloc (.cells #[.pointer (some ⟨jb, 0, none⟩)] 31) = W1 at *
  refine (Commit_own HW1.out.own.own).mono ?_
  rintro e W2 ⟨v, ys, rfl, hgot, hgo⟩
  obtain ⟨Aw, cw, rfl, hcw, hat⟩ := got_at hgot
  have HW2 := Lib.hid (HW1.out.trans (HW1.out.own.goes hgo rfl))
  have hB2 := (Goes.keeps hgo (show w.heap.size < W1.heap.size by omega) (fun hq => by have := HO.out.own.there _ hq; omega)).trans HB0.out
  have HT2 : Hid (Tab W2) := Lib.hid (fun r hr => (World.cell?_of_block (Goes.keeps hgo (show 0 < W1.heap.size by omega) hga)).trans (HT1.out r hr))
  have HSL2 : Hid (Sl W2 w.heap.size Ar ((rv.map fun n : Nat => (n : Int)).map i64v)) := Lib.hid (fun i u hu => by
    obtain ⟨a, e, hab, hcl⟩ := HSL1.out i u hu
    obtain ⟨g, e2, hna⟩ := HRA.out i u (by rw [List.map_map] at hu; exact hu)
    rw [e] at e2
    injection e2 with e2
    subst e2
    exact ⟨_, e, hab, (World.cell?_of_block (w' := W2) (w := W1) (Goes.keeps hgo (by rw [addr_add_block]; omega) (by rw [addr_add_block]; exact hna))).trans hcl⟩)
  have HAT := Lib.hid hat
  have HB2 := Lib.hid hB2
  have HS2 := Lib.hid hgo.ext.size
  clear hgot hgo hat hB2 hc0
  generalize hP : wrs s.now.chg s.N = P at *
  obtain ⟨n, hn⟩ : ∃ n, P.length = n := ⟨_, rfl⟩
  have HN := Lib.hid hn
  rw [hn] at hcw ⊢
  have HP := Lib.hid hP
  clear hn hP
  have d0 : W2.cell? ⟨w.heap.size, 0, none⟩ = some (.pointer (some ⟨jb, 0, none⟩)) := (row_cell HB2.out 0).trans rfl
  go_upto_region 2 with fail
  have hs2 := HS2.out
  have hBx := JMem.below_box (w := W2) (.cells #[.slice Aw n cw] 51)
  have HW3 := Lib.hid (HW2.out.below hBx)
  have HB3 := Lib.hid ((hBx.block _ (row_lt HB2.out)).trans HB2.out)
  have HBW3 := Lib.hid (row_new W2 (.cells #[.slice Aw n cw] 51))
  have HA3 : Hid (Wrs (W2.alloc (.cells #[.slice Aw n cw] 51)) W2.heap.size Aw (wrsOf P)) := Lib.hid (fun i hi => by
    have hi' : i < P.length := by simpa [wrsOf] using hi
    obtain ⟨g, u, rfl, g1, g2, q0, q1, hblk, _⟩ := HAT.out i hi'
    obtain ⟨gu, cu, ru, rfl, hS, hl, hcu, hrow⟩ := hblk
    have hadd : ∀ k, (⟨g, 0, none⟩ : Addr).add k = ⟨g, k, none⟩ := fun k => by unfold Addr.add; split <;> simp_all
    refine ⟨_, some ⟨gu, 0, none⟩, cu, rfl, g2, ?_, ?_, ?_⟩
    · rw [hadd, hBx.cell (p := ⟨g, i * 2, none⟩) g2, q0]; simp [wrsOf]
    · rw [hadd, hBx.cell (p := ⟨g, i * 2 + 1, none⟩) g2, q1]; simp [wrsOf, hl]
    · simp only [wrsOf, List.getElem_map]
      exact Row.sl (hrow.alloc _) hS.2)
  have HC3 := Lib.hid (fun i (hi : i < P.length) => by
    obtain ⟨g, u, e, g1, g2, q0, q1, ⟨gu, cu, _, eu, _⟩, _⟩ := HAT.out i hi
    exact (⟨g, u, e, g1, g2, (hBx.cell (p := ⟨g, i * 2, none⟩) g2).trans q0, (hBx.cell (p := ⟨g, i * 2 + 1, none⟩) g2).trans q1, _, _, _, eu⟩ : ∃ g u, Aw = some ⟨g, 0, none⟩ ∧ W1.heap.size ≤ g ∧ g < W2.heap.size ∧ (W2.alloc (.cells #[.slice Aw n cw] 51)).cell? ⟨g, i * 2, none⟩ = some (.int .i64 (P[i].1 : Int)) ∧ (W2.alloc (.cells #[.slice Aw n cw] 51)).cell? ⟨g, i * 2 + 1, none⟩ = some u ∧ ∃ Au mu cu, u = .slice Au mu cu))
  have hs3 : W2.heap.size + 1 = (W2.alloc (.cells #[.slice Aw n cw] 51)).heap.size := by simp
  have HT3 := Lib.hid (show Tab (W2.alloc (.cells #[.slice Aw n cw] 51)) from Tab.below HT2.out hBx (Tab.lt HT2.out))
  have HSL3 := Lib.hid (HSL2.out.below_le hBx (by omega))
  clear d0 hBx HAT
  generalize W2.alloc (.cells #[.slice Aw n cw] 51) = W3 at *
  have d0 : W3.cell? ⟨w.heap.size, 0, none⟩ = some (.pointer (some ⟨jb, 0, none⟩)) := (row_cell HB3.out 0).trans rfl
  have d1 : W3.cell? ⟨W2.heap.size, 0, none⟩ = some (.slice Aw n cw) := (row_cell HBW3.out 0).trans rfl
  have d3 : W3.cell? ⟨jb, 3, none⟩ = some (.int .i64 (j.seq : Int)) := by
    obtain ⟨A, c, hx, _⟩ := HW3.out.own.jx
    exact hx.cells.2.2.2.1
  have HLY := Lib.hid (fun W (hb : Below W3.heap.size W3 W) => Lay_any (j.seq : Int) (wrsOf P) (rv.map fun n : Nat => (n : Int)) n rv.length (by simp [wrsOf, HN.out]) (by simp) W2.heap.size Aw Ar cw cr hcw hcr W (by have := hb.size; omega) (HA3.out.below hb (by omega)) (HSL3.out.below_le (B := w.heap.size) hb (by omega) |>.up (by omega)) (Tab.below HT3.out hb (Tab.lt HT3.out)))
  obtain ⟨L, hL⟩ : ∃ L, lay (j.seq : Int) (wrsOf P) (rv.map fun n : Nat => (n : Int)) = L := ⟨_, rfl⟩
  have HL := Lib.hid hL
  obtain ⟨N, hNN⟩ : ∃ N, L.length = N := ⟨_, rfl⟩
  have HNN := Lib.hid hNN
  have hNl : N ≤ 100000 := by rw [← hNN, ← hL]; exact HLL.out
  clear hL hNN
  have lj3 : jb < W3.heap.size := by omega
  have lj2 : W2.heap.size < W3.heap.size := by omega
  have lj1 : w.heap.size < W3.heap.size := by omega
  have nj3 : jb ≠ W3.heap.size := by omega
  have nj2 : W2.heap.size ≠ W3.heap.size := by omega
  have nj1 : w.heap.size ≠ W3.heap.size := by omega
  go_cut [6, 7] (fun s6 s7 wx => ∃ B6 A c, s6 = .pointer (some ⟨B6, 0, none⟩) ∧ s7 = .int .i64 0 ∧ Hid (LaidB W3 wx B6 N A c L))
  case first =>
    go_region_held3 (fun w' => w'.cell? ⟨jb, 3, none⟩ = some (.int .i64 (j.seq : Int)) ∧ w'.cell? ⟨W2.heap.size, 0, none⟩ = some (.slice Aw n cw) ∧ w'.cell? ⟨w.heap.size, 0, none⟩ = some (.pointer (some ⟨jb, 0, none⟩))) (first | exact ⟨k3, k1, k0⟩ | exact ⟨(World.cell?_of_block (Below.heap_setCell w4 ⟨W3.heap.size, 0, none⟩ _ jb nj3)).trans k3, (World.cell?_of_block (Below.heap_setCell w4 ⟨W3.heap.size, 0, none⟩ _ W2.heap.size nj2)).trans k1, (World.cell?_of_block (Below.heap_setCell w4 ⟨W3.heap.size, 0, none⟩ _ w.heap.size nj1)).trans k0⟩ | (go_keep; done))
      ((go_at_call 116; refine (HLY.out _ ?_).mono ?_; · first | exact below_drewN (Below.refl _ _) _ | exact below_drewN ((Below.refl _ _).alloc (Nat.le_refl _) _) _ | exact ((below_drewN (Below.refl _ _) _).alloc (Nat.le_refl _) _)
        rintro e w4 ⟨hyes, _, hb4⟩
        obtain ⟨v4, n4, rfl, hbl⟩ := hyes HOK.out
        rw [HL.out] at hbl
        obtain ⟨A4, c4, rfl, hn4, _⟩ := blks_form hbl
        have hn4 : N = n4 := HNN.out.symm.trans hn4
        subst hn4
        have hb5 : Below W3.heap.size W3 w4 := by
          first
            | exact (below_drewN (Below.refl _ _) _).trans (hb4.mono (Nat.le_refl _))
            | exact (below_drewN ((Below.refl _ _).alloc (Nat.le_refl _) _) _).trans (hb4.mono (by simp))
            | exact ((below_drewN (Below.refl _ _) _).alloc (Nat.le_refl _) _).trans (hb4.mono (by simp))
        have k3 : w4.cell? ⟨jb, 3, none⟩ = some (.int .i64 (j.seq : Int)) := (hb5.cell (p := ⟨jb, 3, none⟩) lj3).trans d3
        have k1 : w4.cell? ⟨W2.heap.size, 0, none⟩ = some (.slice Aw n cw) := (hb5.cell (p := ⟨W2.heap.size, 0, none⟩) lj2).trans d1
        have k0 : w4.cell? ⟨w.heap.size, 0, none⟩ = some (.pointer (some ⟨jb, 0, none⟩)) := (hb5.cell (p := ⟨w.heap.size, 0, none⟩) lj1).trans d0
        first
          | (have kbx : w4.heap[W3.heap.size]? = some (.cells #[.slice none 0 0] 78 (0, 0)) := (hb4.block W3.heap.size (by simp)).trans (row_new W3 _)
             have kbc : w4.cell? ⟨W3.heap.size, 0, none⟩ = some (.slice none 0 0) := (row_cell kbx 0).trans rfl
             have kbf : w4.frozen? ⟨W3.heap.size, 0, none⟩ = false := row_free kbx 0
             have KBX := Lib.hid kbx
             clear kbx)
          | skip
        have HBL := Lib.hid hbl
        have HB4 := Lib.hid hb4
        have HB5 := Lib.hid hb5
        clear hbl hyes hb4 hb5))
    all_goals go_wp2_with fail
    all_goals go_meet
    all_goals first
      | exact ⟨_, _, _, rfl, rfl, Lib.hid (laid_last HBL.out (Nat.le_refl _) HB5.out)⟩
      | exact ⟨_, _, _, rfl, rfl, Lib.hid (laid_first HBL.out KBX.out (Nat.le_refl _) (by simp) HB5.out)⟩
  case rest =>
    obtain ⟨B6, A6, c6, rfl, rfl, HLD⟩ := hcut
    obtain ⟨W5, hW5⟩ : ∃ W, W = wc := ⟨_, rfl⟩
    subst hW5
    have HJ0 : Hid (JGo w W5 ρ D K ρ D (Plus K w W5) jb ml mc b db j s.commit) := Lib.hid (JGo.plus (HW3.out.below HLD.out.below) HO.out)
    have hsc := HLD.out.below.size
    have hb6l := row_lt HLD.out.box
    have HK0 : Hid (KBox W5 (Plus K w W5) w.heap.size (.pointer (some ⟨jb, 0, none⟩))) := Lib.hid ⟨.inr ⟨Nat.le_refl _, by omega⟩, (row_cell ((HLD.out.below.block _ lj1).trans HB3.out) 0).trans rfl⟩
    have HK1 : Hid (KBox W5 (Plus K w W5) W2.heap.size (.slice Aw n cw)) := Lib.hid ⟨.inr ⟨by omega, by omega⟩, (row_cell ((HLD.out.below.block _ lj2).trans HBW3.out) 0).trans rfl⟩
    have HK2 : Hid (KBox W5 (Plus K w W5) B6 (.slice A6 N c6)) := Lib.hid ⟨.inr ⟨by have := HLD.out.ge; omega, hb6l⟩, (row_cell HLD.out.box 0).trans rfl⟩
    have HK3 := Lib.hid (fun i (hi : i < P.length) => by
      obtain ⟨g, u, e, g1, g2, q0, q1, eu⟩ := HC3.out i hi
      exact (⟨g, u, e, .inr ⟨by omega, by omega⟩, (HLD.out.below.cell (p := ⟨g, i * 2, none⟩) (by show g < _; omega)).trans q0, (HLD.out.below.cell (p := ⟨g, i * 2 + 1, none⟩) (by show g < _; omega)).trans q1, eu⟩ : ∃ g u, Aw = some ⟨g, 0, none⟩ ∧ Plus K w W5 g ∧ W5.cell? ⟨g, i * 2, none⟩ = some (.int .i64 (P[i].1 : Int)) ∧ W5.cell? ⟨g, i * 2 + 1, none⟩ = some u ∧ ∃ Au mu cu, u = .slice Au mu cu))
    have H256 := lay_256 HOK.out
    rw [HL.out] at H256
    have HK4 := Lib.hid (fun i (hi : i < L.length) => by
      obtain ⟨vs, h1, h2, h3, h4, h5⟩ := HLD.out.blks
      obtain ⟨u, hu, hO⟩ := h5 i hi
      obtain ⟨A', c', e, hcc, hat⟩ := own_cell1 (S := fun _ => True) ⟨own_base h1 (fun _ _ => Nat.zero_le _), fun _ _ => trivial⟩
      obtain ⟨g, e2, _, hcl⟩ := hat i u hu
      simp only [Value.slice.injEq] at e
      obtain ⟨e, _, _⟩ := e
      have hlen := H256 L[i] (List.getElem_mem hi)
      rcases hO with ⟨_, hO⟩ | ⟨gu, cu, ru, e3, e4, e5, e6⟩
      · rw [hO] at hlen; cases hlen
      · rw [hlen] at e3 e5
        have hgu := row_lt e6
        exact (⟨g, u, by rw [e, e2], hcl, World.block_lt_of_cell? _ _ hcl, gu, cu, ru, e3, .inr ⟨by omega, hgu⟩, hlen, e5, e6⟩ : ∃ g u, A6 = some ⟨g, 0, none⟩ ∧ W5.cell? ⟨g, i, none⟩ = some u ∧ g < W5.heap.size ∧ IsBlk W5 (Plus K w W5) u L[i]))
    generalize Plus K w W5 = K5 at *
    have HT5 := Lib.hid (HJ0.out.own.jthere)
    have HTK : Hid (There K5 W5) := Lib.hid (fun q hq => HT5.out q (.inr (.inr (.inr hq))))
    have c0 : W5.cell? ⟨w.heap.size, 0, none⟩ = some (.pointer (some ⟨jb, 0, none⟩)) := HK0.out.2
    have c6b : W5.cell? ⟨B6, 0, none⟩ = some (.slice A6 N c6) := HK2.out.2
    have ljc : jb < W5.heap.size := by omega
    have lwc : w.heap.size < W5.heap.size := by omega
    have hjx : W5.cell? ⟨jb, 4, none⟩ = some (.int .i64 (j.tail : Int)) ∧ W5.cell? ⟨jb, 5, none⟩ = some (.int .i64 (j.used : Int)) := by
      obtain ⟨A, c, hx, _⟩ := HJ0.out.own.jx
      exact ⟨hx.cells.2.2.2.2.1, hx.cells.2.2.2.2.2.1⟩
    have HJX := Lib.hid hjx
    clear hjx HLD H256 d0 d1 d3
    go_wp2_with fail
    go_loopw [9, 34] (fun v9 i wr => ∃ k : Nat, k ≤ N ∧ i = .int .i64 k ∧ TR W5 K5 jb wr v9 k (puts (j.tail + j.used) (L.take k))) (fun _ i _ => N - (intOf i).toNat)
    case atStart => exact ⟨0, Nat.zero_le _, rfl, TR.nil W5 K5 jb⟩
    case round =>
      obtain ⟨k, hk, rfl, htr⟩ := hrel
      have HTR := Lib.hid htr
      have hbw := htr.below
      have hsw := hbw.size
      have q0 : wr.cell? ⟨w.heap.size, 0, none⟩ = some (.pointer (some ⟨jb, 0, none⟩)) := (hbw.cell (p := ⟨w.heap.size, 0, none⟩) lwc).trans c0
      have q4 : wr.cell? ⟨jb, 4, none⟩ = some (.int .i64 (j.tail : Int)) := (hbw.cell (p := ⟨jb, 4, none⟩) ljc).trans HJX.out.1
      have q5 : wr.cell? ⟨jb, 5, none⟩ = some (.int .i64 (j.used : Int)) := (hbw.cell (p := ⟨jb, 5, none⟩) ljc).trans HJX.out.2
      have HBW := Lib.hid hbw
      clear htr hbw c0 c6b
      by_cases hlt : k < N
      · have hlt' : k < L.length := by rw [HNN.out]; exact hlt
        obtain ⟨g, u, rfl, hcu, hgl, hblk⟩ := HK4.out k hlt'
        have ce := (HBW.out.cell (p := ⟨g, k, none⟩) hgl).trans hcu
        have HPT : Hid (puts (j.tail + j.used) (L.take (k + 1)) = puts (j.tail + j.used) (L.take k) ++ [.put (j.tail + j.used + k) L[k]]) := Lib.hid (by
          rw [List.take_succ_eq_append_getElem hlt', puts_append, List.length_take, Nat.min_eq_left (by omega)]
          rfl)
        generalize L[k] = bk at *
        have HBK := Lib.hid (hblk.keep (w' := wr) (fun q _ hq _ => HBW.out.block q (HTK.out q hq)))
        obtain ⟨gu, cu, ru, rfl, _⟩ := hblk
        have hk0 : (0 : Int) ≤ (k : Int) := by omega
        have hk1 : (k : Int) < (N : Int) := by omega
        have s1 : IntKind.i64.wrap ((j.tail : Int) + (j.used : Int)) = (j.tail : Int) + (j.used : Int) := by rw [IntWalk.i64_in _ (by omega)]
        have s2 : IntKind.i64.wrap ((j.tail : Int) + (j.used : Int) + (k : Int)) = (j.tail : Int) + (j.used : Int) + (k : Int) := by rw [IntWalk.i64_in _ (by omega)]
        clear hcu hgl
        go_wp2_with fail
        obtain ⟨vs, t1, t2, t3⟩ := HTR.out.row
        have HT1v := Lib.hid t1
        have HT2v := Lib.hid t2
        have HT4v := Lib.hid HTR.out.len
        obtain ⟨A9, c9, e9, _, _⟩ := own_cell1 (S := fun _ => True) ⟨own_base t1 (fun _ _ => Nat.zero_le _), fun _ _ => trivial⟩
        subst e9
        have HWR := Lib.hid (write_any (New K5 W5 wr) jb (j.tail + j.used + k) (.slice (some ⟨gu, 0, none⟩) 256 cu) bk wr.drew (HBK.out.keep (fun _ _ _ _ => rfl) |>.more new_old) (new_there HTK.out hsw))
        have hpl : ((j.tail + j.used + k : Nat) : Int) = (j.tail : Int) + (j.used : Int) + (k : Int) := by omega
        rw [hpl] at HWR
        obtain ⟨i0, hi0, hz0, hz1, hz2⟩ := info_parts (P := Tryz.prog) (e := 47) (z := .nilFunc) (size := 1) (bytes := 8) (by kernel_rfl)
        clear t1 t2 t3 hpl
        go_region_law
          ((first
            | (refine step_append_lies _ (by rfl) _ _ _ (by rfl) W5.heap.size 47 i0 _ 1 8 underT hi0 hz0 hz1 hz2 rfl (by omega) (.slice A9 k c9) k vs (by rfl) (own_same HO1.out (fun q hq => Below.heap_alloc w1 _ q (own_lt HO1.out q hq)))
                ⟨w1.heap.size, 0, none⟩ 1 1 [.func f1 #[] cs1] (by rfl) (by rfl) (World.news_of_block (cs := #[.func f1 #[] cs1]) (t := 47) (fr := (0, 0)) (row_new w1 _)) (by simp [Value.oneCell'])
                (by omega) (by unfold maxLen; omega) (by omega) (by simp; omega) (w1.heap.size + 1) (by simp) ?_; intro gg cap w2 hown1 hgrow hat hlt2)
            | (go_simp; go_at_call 118; refine HWR.out.mono ?_; rintro e w1 ⟨f1, cs1, rfl, hth, hb1⟩
               have HTH := Lib.hid hth
               have HB1 := Lib.hid hb1
               have hs1w : wr.heap.size ≤ w1.heap.size := hb1.size
               have HO1 := Lib.hid (own_same (w' := w1) HT1v.out (fun g hg => hb1.block g (own_lt HT1v.out g hg)))
               clear hth hb1)))
        all_goals
          go_wp2_with fail
          go_roundw
          case rel => exact ⟨k + 1, by omega, by go_num, by rw [HPT.out]; exact TR.put HT1v.out HT2v.out HT4v.out HBW.out HTK.out HTH.out HB1.out hown1 hgrow⟩
          case measure => simp [intOf]; omega
      · obtain rfl : k = N := by omega
        have hfull : L.take k = L := List.take_of_length_le (by have := HNN.out; omega)
        rw [hfull] at HTR
        obtain ⟨A9, c9, rfl, hc9, _⟩ := things_of HTR.out
        have d1 : ¬ ((k : Int) < (k : Int)) := by omega
        clear hfull
        have hN1 : 1 ≤ k := by
          have h1 := HNN.out
          have h2 := HL.out
          rw [← h2] at h1
          unfold JLayM.lay at h1
          simp at h1
          omega
        obtain ⟨m, hm⟩ : ∃ m, k = m + 1 := ⟨k - 1, by omega⟩
        have hwm : IntKind.i64.wrap ((k : Int) - 1) = (m : Int) := by rw [IntWalk.i64_in _ (by omega)]; omega
        have HM := Lib.hid hm
        have hTRm : TR W5 K5 jb wr (.slice A9 k c9) (m + 1) (puts (j.tail + j.used) L) := by rw [← hm]; exact HTR.out
        have HTRM := Lib.hid hTRm
        have hme : m + 1 ≤ 1000000 := by omega
        have hown9 : ∀ q, (Value.slice A9 k c9).ownBlock = some q → q < wr.heap.size := fun q hq => by
          obtain ⟨vs, h1, _⟩ := HTR.out.row
          exact own_lt h1 q hq
        have HOWN := Lib.hid hown9
        have hj12 : W5.cell? ⟨jb, 12, none⟩ ≠ none ∧ W5.frozen? ⟨jb, 12, none⟩ = false := by
          obtain ⟨A, c, hx, _⟩ := HJ0.out.own.jx
          exact ⟨by rw [hx.cells.2.2.2.2.2.2.2.2.2.2.2.2]; simp, hx.free 12⟩
        obtain ⟨v12, hv12⟩ := Option.ne_none_iff_exists'.1 hj12.1
        have HV12 := Lib.hid (And.intro hv12 hj12.2)
        have HFL := Lib.hid (fun (W : World) (hW : W.heap = wr.heap) => flush_any (New K5 W5 wr) jb [] none 0 [] W (fun i v hv => (by cases hv)) rfl (fun i hi => (by cases hi)) (fun q hq => by rw [hW]; exact new_there HTK.out hsw q hq))
        clear hm hTRm hown9 hj12 hv12
        have njw : w.heap.size ≠ jb := by omega
        go_upto_region 13 with fail
        go_cut [62] (fun _ wx => ∃ W6 A6 c6, wx = (W6.setCell ⟨jb, 12, none⟩ (.slice A6 (m + 1 + 1) c6)) ∧ Hid (TR W5 K5 jb W6 (.slice A6 (m + 1 + 1) c6) (m + 1 + 1) ((puts (j.tail + j.used) L).take m ++ .flush [] :: (puts (j.tail + j.used) L).drop m)))
        case first =>
          go_region_held3 (fun w' => w'.cell? ⟨w.heap.size, 0, none⟩ = some (.pointer (some ⟨jb, 0, none⟩))) (first | exact k0 | exact k6 | exact (World.cell?_of_block (Below.heap_setCell w6 ⟨jb, 12, none⟩ _ w.heap.size njw)).trans k6 | (go_keep; done))
            ((first
              | (go_at_call 112; refine (HFL.out _ (by rfl)).mono ?_; rintro e w4 ⟨f, cc, rfl, hth, hb4⟩
                 have hb5 : Below wr.heap.size wr w4 := ⟨hb4.os, hb4.tape, hb4.output, hb4.size, hb4.block⟩
                 have k0 : w4.cell? ⟨w.heap.size, 0, none⟩ = some (.pointer (some ⟨jb, 0, none⟩)) := (hb5.cell (p := ⟨w.heap.size, 0, none⟩) (by show w.heap.size < _; omega)).trans q0
                 have HTH := Lib.hid (thing_box HBW.out HTK.out hth rfl hb4)
                 have HB5 := Lib.hid hb5
                 clear hth hb4 hb5)
              | (go_at_call 119; refine (Insert_things (k := m) (vb := w4.heap.size) (HTRM.out.go (HB5.out.trans ((JMem.below_box (.cells #[.func f #[] cc] 47)).mono HB5.out.size)) HTK.out) HTK.out (row_new w4 _) (fun q hq => by have := HOWN.out q hq; have := HB5.out.size; omega) hme HTH.out).mono ?_
                 rintro e w6 ⟨v6, rfl, htr6⟩
                 obtain ⟨A6', c6', rfl, _, _⟩ := things_of htr6
                 have hbb := htr6.below
                 have k6 : w6.cell? ⟨w.heap.size, 0, none⟩ = some (.pointer (some ⟨jb, 0, none⟩)) := (hbb.cell (p := ⟨w.heap.size, 0, none⟩) lwc).trans HK0.out.2
                 have k12 : w6.cell? ⟨jb, 12, none⟩ = some v12 := (hbb.cell (p := ⟨jb, 12, none⟩) ljc).trans HV12.out.1
                 have kf12 : w6.frozen? ⟨jb, 12, none⟩ = false := (World.frozen?_of_block (hbb.block jb ljc)).trans HV12.out.2
                 have HTR6 := Lib.hid htr6
                 clear htr6 hbb)))
          all_goals
            go_wp2_with fail
            go_meet
            exact ⟨w6, A6', c6', rfl, HTR6⟩
        case rest =>
          obtain ⟨W6, A7, c7, rfl, HTR6⟩ := hcut
          generalize hl6 : (puts (j.tail + j.used) L).take m ++ Thing.flush [] :: (puts (j.tail + j.used) L).drop m = l6 at *
          have HL6 := Lib.hid hl6
          clear hl6
          obtain ⟨n2, hn2⟩ : ∃ n2, m + 1 + 1 = n2 := ⟨_, rfl⟩
          rw [hn2] at HTR6 ⊢
          have hn2b : n2 ≤ 200000 := by have := HM.out; omega
          have hjb : ∃ cs, W5.heap[jb]? = some (.cells cs 105 (0, 0)) := by
            obtain ⟨A, c, hx, _⟩ := HJ0.out.own.jx
            exact ⟨_, hx.block⟩
          obtain ⟨csj, hjb⟩ := hjb
          have hnK : ¬ K5 jb := by
            obtain ⟨A, c, hx, _⟩ := HJ0.out.own.jx
            exact hx.nk.1
          have HTR7 := Lib.hid (TR.set (i := 12) (u := .slice A7 n2 c7) HTR6.out hjb hnK)
          have HFIN := Lib.hid (fun W A n' c l (hT : TR (W5.setCell ⟨jb, 12, none⟩ (.slice A7 n2 c7)) K5 jb W (.slice A n' c) n' l) => relay2 HJ0.out.own hT)
          have hbb6 := HTR6.out.below
          have hj6 := (hbb6.block jb ljc).trans hjb
          have hlj6 := row_lt hj6
          have e12 : 12 < csj.size := by
            obtain ⟨A, c, hx, _⟩ := HJ0.out.own.jx
            have := hjb.symm.trans hx.block
            injection this with this
            injection this with this
            rw [this]
            simp [jcells]
          have k12 : (W6.setCell ⟨jb, 12, none⟩ (.slice A7 n2 c7)).cell? ⟨jb, 12, none⟩ = some (.slice A7 n2 c7) := by
            rw [row_cell (row_set hj6 12 (.slice A7 n2 c7))]
            simp [e12]
          have kf12 : (W6.setCell ⟨jb, 12, none⟩ (.slice A7 n2 c7)).frozen? ⟨jb, 12, none⟩ = false := row_free (row_set hj6 12 _) 12
          have hKd : ∀ q, K5 q → (W5.setCell ⟨jb, 12, none⟩ (.slice A7 n2 c7)).heap[q]? = W5.heap[q]? := fun q hq => Below.heap_setCell W5 _ _ q (fun e => hnK (by have e : q = jb := e; exact e ▸ hq))
          have HK0d := Lib.hid (HK0.out.keep (w' := W5.setCell ⟨jb, 12, none⟩ (.slice A7 n2 c7)) hKd (fun _ h => h))
          have HK1d := Lib.hid (HK1.out.keep (w' := W5.setCell ⟨jb, 12, none⟩ (.slice A7 n2 c7)) hKd (fun _ h => h))
          have HK2d := Lib.hid (HK2.out.keep (w' := W5.setCell ⟨jb, 12, none⟩ (.slice A7 n2 c7)) hKd (fun _ h => h))
          have HK3d := Lib.hid (fun i (hi : i < P.length) => by
            obtain ⟨g, u, e, g1, q0, q1, eu⟩ := HK3.out i hi
            exact (⟨g, u, e, g1, (World.cell?_of_block (a := ⟨g, i * 2, none⟩) (hKd g g1)).trans q0, (World.cell?_of_block (a := ⟨g, i * 2 + 1, none⟩) (hKd g g1)).trans q1, eu⟩ : ∃ g u, Aw = some ⟨g, 0, none⟩ ∧ K5 g ∧ (W5.setCell ⟨jb, 12, none⟩ (.slice A7 n2 c7)).cell? ⟨g, i * 2, none⟩ = some (.int .i64 (P[i].1 : Int)) ∧ (W5.setCell ⟨jb, 12, none⟩ (.slice A7 n2 c7)).cell? ⟨g, i * 2 + 1, none⟩ = some u ∧ ∃ Au mu cu, u = .slice Au mu cu))
          have HTKd : Hid (There K5 (W5.setCell ⟨jb, 12, none⟩ (.slice A7 n2 c7))) := Lib.hid (fun q hq => by rw [set_size]; exact HTK.out q hq)
          have HJ7 := Lib.hid (row_set hj6 12 (.slice A7 n2 c7))
          clear hKd hj6 hjb e12 hbb6
          generalize W5.setCell ⟨jb, 12, none⟩ (.slice A7 n2 c7) = Wd at *
          generalize W6.setCell ⟨jb, 12, none⟩ (.slice A7 n2 c7) = W7 at *
          have hb7 := HTR7.out.below
          have q7 : W7.cell? ⟨w.heap.size, 0, none⟩ = some (.pointer (some ⟨jb, 0, none⟩)) := (hb7.cell (p := ⟨w.heap.size, 0, none⟩) (HTKd.out _ HK0d.out.1)).trans HK0d.out.2
          have HB7 := Lib.hid hb7
          have HCOME : Hid (ComeIs Wd K5 jb (.func (.func 117) #[] #[.pointer (some ⟨w.heap.size, 0, none⟩), .pointer (some ⟨B6, 0, none⟩), .pointer (some ⟨W2.heap.size, 0, none⟩)]) (.laid k (P.map (·.1)))) := Lib.hid ⟨_, _, _, _, _, _, _, rfl, HK0d.out, HK2d.out, by rw [List.length_map, HN.out]; exact HK1d.out, fun i hi => by
            have hi' : i < P.length := by simpa using hi
            obtain ⟨g, u, e, g1, q0, q1, Au, mu, cu, rfl⟩ := HK3d.out i hi'
            have hadd : ∀ x, (⟨g, 0, none⟩ : Addr).add x = ⟨g, x, none⟩ := fun x => by unfold Addr.add; split <;> simp_all
            exact ⟨_, Au, mu, cu, e, g1, by rw [hadd]; simpa using q0, by rw [hadd]; exact q1⟩⟩
          clear hb7
          generalize hfl : Value.func (.func 117) #[] #[.pointer (some ⟨w.heap.size, 0, none⟩), .pointer (some ⟨B6, 0, none⟩), .pointer (some ⟨W2.heap.size, 0, none⟩)] = fl at HCOME
          obtain ⟨bs, hbs⟩ : ∃ bs, P.map (·.1) = bs := ⟨_, rfl⟩
          have HBS := Lib.hid hbs
          rw [hbs] at HCOME
          have HFL2 := Lib.hid (fun (W : World) (hW : W.heap = (W7.alloc (.cells #[fl, .func (.func 85) #[.pointer (some ⟨jb, 0, none⟩)] #[]] 1)).heap) => flush_at (New K5 Wd (W7.alloc (.cells #[fl, .func (.func 85) #[.pointer (some ⟨jb, 0, none⟩)] #[]] 1))) jb [.laid k bs, .part] 2 rfl (some ⟨W7.heap.size, 0, none⟩) 2 [fl, .func (.func 85) #[.pointer (some ⟨jb, 0, none⟩)] #[]] W
            (fun i v hv => by
              have hrw := row_new W7 (.cells #[fl, .func (.func 85) #[.pointer (some ⟨jb, 0, none⟩)] #[]] 1)
              have hadd : (⟨W7.heap.size, 0, none⟩ : Addr).add i = ⟨W7.heap.size, i, none⟩ := by unfold Addr.add; split <;> simp_all
              refine ⟨_, rfl, new_box hrw HB7.out.size (by decide), ?_⟩
              rw [hadd, row_cell (w := W) (by rw [hW]; exact hrw)]
              simpa using hv) rfl
            (fun i hi => by
              have hkk : ∀ q, K5 q → W.heap[q]? = Wd.heap[q]? := fun q hq => by
                rw [hW]
                exact ((JMem.below_box (w := W7) _).block q (Nat.lt_of_lt_of_le (HTKd.out q hq) HB7.out.size)).trans (HB7.out.block q (HTKd.out q hq))
              match i, hi with
              | 0, _ => exact ⟨fl, rfl, HCOME.out.keep hkk new_old⟩
              | 1, _ => exact ⟨_, rfl, rfl⟩)
            (fun q hq => by rw [hW]; exact new_there HTKd.out (by have := HB7.out.size; simp; omega) q hq))
          obtain ⟨vs, t1, t2, t3⟩ := HTR7.out.row
          have HT1v := Lib.hid t1
          have HT2v := Lib.hid t2
          have HT4v := Lib.hid HTR7.out.len
          obtain ⟨i0, hi0, hz0, hz1, hz2⟩ := info_parts (P := Tryz.prog) (e := 47) (z := .nilFunc) (size := 1) (bytes := 8) (by kernel_rfl)
          have hsd := HB7.out.size
          have hjw7 : jb < W7.heap.size := World.block_lt_of_cell? _ _ k12
          subst hfl
          clear t1 t2 t3 hbs
          have hlwd : w.heap.size < Wd.heap.size := HTKd.out _ HK0d.out.1
          have AJ : Hid ((Value.slice A7 n2 c7).ownBlock ≠ some jb) := Lib.hid (fun e => by have := own_ge HT1v.out jb e; omega)
          have AB : Hid ((Value.slice A7 n2 c7).ownBlock ≠ some w.heap.size) := Lib.hid (fun e => by have := own_ge HT1v.out w.heap.size e; omega)
          have hlw7 : w.heap.size < W7.heap.size := by omega
          have a7 : ∀ o : Obj, (W7.alloc o).cell? ⟨w.heap.size, 0, none⟩ = some (.pointer (some ⟨jb, 0, none⟩)) := fun o => ((JMem.below_box (w := W7) o).cell (p := ⟨w.heap.size, 0, none⟩) hlw7).trans q7
          have a12 : ∀ o : Obj, (W7.alloc o).cell? ⟨jb, 12, none⟩ = some (.slice A7 n2 c7) := fun o => ((JMem.below_box (w := W7) o).cell (p := ⟨jb, 12, none⟩) hjw7).trans k12
          go_upto_region 14 with fail
          go_cut [69] (fun _ wx => ∃ W8 A8 c8, wx = (W8.setCell ⟨jb, 12, none⟩ (.slice A8 (n2 + 1) c8)) ∧ Hid (TR Wd K5 jb W8 (.slice A8 (n2 + 1) c8) (n2 + 1) (l6 ++ [.flush [.laid k bs, .part]])))
          case first =>
            -- WALK14 begin
            refine wp_region_held_drew (S := (fun w' => w'.cell? ⟨w.heap.size, 0, none⟩ = some (.pointer (some ⟨jb, 0, none⟩)))) (by kernel_rfl) (show W7.drew.cell? _ = _ from q7) (fun hHeld => ?_)
            refine wpAnyH_take (i := 0) (v := ?_) rfl (by kernel_rfl) (by kernel_rfl) (by kernel_rfl) (fun _ _ _ h => h) (Or.inl ⟨by rfl, ?_⟩) hHeld ?_
            rotate_left
            · intro wq hSw
              try dsimp only at hSw
              go_simp
              try with_reducible rfl
            try simp only [Act.put, List.getElem_toArray, List.getElem_cons_zero, List.setIfInBounds_toArray, List.set_cons_zero, List.set_cons_succ]
            refine wpAnyH_take (i := 1) (v := ?_) rfl (by kernel_rfl) (by kernel_rfl) (by kernel_rfl) (fun _ _ _ h => h) (Or.inl ⟨by rfl, ?_⟩) hHeld ?_
            rotate_left
            · intro wq hSw
              try dsimp only at hSw
              go_simp
              try with_reducible rfl
            try simp only [Act.put, List.getElem_toArray, List.getElem_cons_zero, List.getElem_cons_succ, List.setIfInBounds_toArray, List.set_cons_zero, List.set_cons_succ]
            refine wpAnyH_take (i := 2) (v := ?_) rfl (by kernel_rfl) (by kernel_rfl) (by kernel_rfl) (fun _ _ _ h => h) (Or.inl ⟨by rfl, ?_⟩) hHeld ?_
            rotate_left
            · intro wq hSw
              try dsimp only at hSw
              go_simp
              try with_reducible rfl
            try simp only [Act.put, List.getElem_toArray, List.getElem_cons_zero, List.getElem_cons_succ, List.setIfInBounds_toArray, List.set_cons_zero, List.set_cons_succ]
            refine wpAnyH_take (i := 3) (v := ?_) rfl (by kernel_rfl) (by kernel_rfl) (by kernel_rfl) (fun _ _ _ h => h) (Or.inl ⟨by rfl, ?_⟩) hHeld ?_
            rotate_left
            · intro wq hSw
              try dsimp only at hSw
              go_simp
              try with_reducible rfl
            try simp only [Act.put, List.getElem_toArray, List.getElem_cons_zero, List.getElem_cons_succ, List.setIfInBounds_toArray, List.set_cons_zero, List.set_cons_succ]
            refine wpAnyH_take (i := 5) (v := ?_) rfl (by kernel_rfl) (by kernel_rfl) (by kernel_rfl) (fun _ _ _ h => h) (Or.inl ⟨by rfl, ?_⟩) hHeld ?_
            rotate_left
            · intro wq hSw
              try dsimp only at hSw
              go_simp
              try with_reducible rfl
            try simp only [Act.put, List.getElem_toArray, List.getElem_cons_zero, List.getElem_cons_succ, List.setIfInBounds_toArray, List.set_cons_zero, List.set_cons_succ]
            refine wpAnyH_take (i := 6) (v := ?_) rfl (by kernel_rfl) (by kernel_rfl) (by kernel_rfl) (fun _ _ _ h => h) (Or.inl ⟨by rfl, ?_⟩) hHeld ?_
            rotate_left
            · intro wq hSw
              try dsimp only at hSw
              go_simp
              try with_reducible rfl
            try simp only [Act.put, List.getElem_toArray, List.getElem_cons_zero, List.getElem_cons_succ, List.setIfInBounds_toArray, List.set_cons_zero, List.set_cons_succ]
            refine wpAnyH_take (i := 7) (v := ?_) rfl (by kernel_rfl) (by kernel_rfl) (by kernel_rfl) (fun _ _ _ h => h) (Or.inl ⟨by rfl, ?_⟩) hHeld ?_
            rotate_left
            · intro wq hSw
              try dsimp only at hSw
              go_simp
              try with_reducible rfl
            try simp only [Act.put, List.getElem_toArray, List.getElem_cons_zero, List.getElem_cons_succ, List.setIfInBounds_toArray, List.set_cons_zero, List.set_cons_succ]
            refine wpAnyH_take (i := 8) (v := ?_) rfl (by kernel_rfl) (by kernel_rfl) (by kernel_rfl) (fun _ _ _ h => h) (Or.inl ⟨by rfl, ?_⟩) hHeld ?_
            rotate_left
            · intro wq hSw
              try dsimp only at hSw
              go_simp
              try with_reducible rfl
            try simp only [Act.put, List.getElem_toArray, List.getElem_cons_zero, List.getElem_cons_succ, List.setIfInBounds_toArray, List.set_cons_zero, List.set_cons_succ]
            refine wpAnyH_ready (rs := [4, 9]) (by kernel_rfl) (by simp) ?_
            refine AllReadyH.cons (o := _) rfl (fun K hK => ?_) (AllReadyH.cons (o := _) rfl (fun K hK => ?_) (AllReadyH.nil))
            · skip
              go_simp
              refine hK.out _ _ hHeld (fun hHeld => ?_)
              clear hK K
              try simp only [Act.put, List.getElem_toArray, List.getElem_cons_zero, List.getElem_cons_succ, List.setIfInBounds_toArray, List.set_cons_zero, List.set_cons_succ]
              refine wpAnyH_ready (rs := [9]) (by kernel_rfl) (by simp) ?_
              refine AllReadyH.cons (o := _) rfl (fun K hK => ?_) (AllReadyH.nil)
              · skip
                go_simp
                refine hK.out _ _ (a7 _) (fun hHeld => ?_)
                clear hK K
                try simp only [Act.put, List.getElem_toArray, List.getElem_cons_zero, List.getElem_cons_succ, List.setIfInBounds_toArray, List.set_cons_zero, List.set_cons_succ]
                refine wpAnyH_ready (rs := [10]) (by kernel_rfl) (by simp) ?_
                refine AllReadyH.cons (o := _) rfl (fun K hK => ?_) (AllReadyH.nil)
                · skip
                  go_simp
                  go_at_call 112
                  refine (HFL2.out _ (by rfl)).mono ?_
                  rintro e w1 ⟨f1, cs1, rfl, hth, hb1⟩
                  have hb0 : Below W7.heap.size W7 w1 := ⟨hb1.os, hb1.tape, hb1.output, Nat.le_trans (by simp) hb1.size, fun q hq => (hb1.block q (by simp; omega)).trans ((JMem.below_box (w := W7) _).block q hq)⟩
                  have hs1w : W7.heap.size ≤ w1.heap.size := hb0.size
                  have HJ1 := Lib.hid ((hb0.block jb hjw7).trans HJ7.out)
                  have b0 : w1.cell? ⟨w.heap.size, 0, none⟩ = some (.pointer (some ⟨jb, 0, none⟩)) := (hb0.cell (p := ⟨w.heap.size, 0, none⟩) hlw7).trans q7
                  have b1 : w1.cell? ⟨jb, 12, none⟩ = some (.slice A7 n2 c7) := (hb0.cell (p := ⟨jb, 12, none⟩) hjw7).trans k12
                  have b3 : ∀ o : Obj, (w1.alloc o).cell? ⟨w.heap.size, 0, none⟩ = some (.pointer (some ⟨jb, 0, none⟩)) := fun o => ((JMem.below_box (w := w1) o).cell (p := ⟨w.heap.size, 0, none⟩) (by show w.heap.size < _; omega)).trans b0
                  have b12 : ∀ o : Obj, (w1.alloc o).cell? ⟨jb, 12, none⟩ = some (.slice A7 n2 c7) := fun o => ((JMem.below_box (w := w1) o).cell (p := ⟨jb, 12, none⟩) (by show jb < _; omega)).trans b1
                  have HO1 := Lib.hid (own_same (w' := w1) HT1v.out (fun q hq => hb0.block q (own_lt HT1v.out q hq)))
                  have HPUT := Lib.hid (fun w2 v' g1 g2 => TR.put2 (w2 := w2) (v' := v') HT1v.out HT2v.out HT4v.out HB7.out HTKd.out (by rfl) hth hb1 hb0 g1 g2)
                  clear hth hb1 hb0
                  go_wp2_with fail
                  refine hK.out _ _ b0 (fun hHeld => ?_)
                  clear hK K
                  try simp only [Act.put, List.getElem_toArray, List.getElem_cons_zero, List.getElem_cons_succ, List.setIfInBounds_toArray, List.set_cons_zero, List.set_cons_succ]
                  refine wpAnyH_ready (rs := [11]) (by kernel_rfl) (by simp) ?_
                  refine AllReadyH.cons (o := _) rfl (fun K hK => ?_) (AllReadyH.nil)
                  · skip
                    go_simp
                    refine hK.out _ _ (b3 _) (fun hHeld => ?_)
                    clear hK K
                    try simp only [Act.put, List.getElem_toArray, List.getElem_cons_zero, List.getElem_cons_succ, List.setIfInBounds_toArray, List.set_cons_zero, List.set_cons_succ]
                    refine wpAnyH_ready (rs := [12]) (by kernel_rfl) (by simp) ?_
                    refine AllReadyH.cons (o := _) rfl (fun K hK => ?_) (AllReadyH.nil)
                    · skip
                      refine step_append_lies _ (by rfl) _ _ _ (by rfl) Wd.heap.size 47 i0 _ 1 8 underT hi0 hz0 hz1 hz2 rfl (by omega) (.slice A7 n2 c7) n2 vs (by rfl) (own_same HO1.out (fun q hq => Below.heap_alloc w1 _ q (own_lt HO1.out q hq))) ⟨w1.heap.size, 0, none⟩ 1 1 [.func f1 #[] cs1] (by rfl) (by rfl) (World.news_of_block (cs := #[.func f1 #[] cs1]) (t := 47) (fr := (0, 0)) (row_new w1 _)) (by simp [Value.oneCell']) (by omega) (by unfold maxLen; omega) (by omega) (by simp; omega) (w1.heap.size + 1) (by simp) ?_
                      intro gg cap w2 hown1 hgrow hat hlt2
                      have j0 : w2.cell? ⟨w.heap.size, 0, none⟩ = some (.pointer (some ⟨jb, 0, none⟩)) := (hgrow.cell_far _ (by simp; omega) (Ne.symm AB.out)).trans (b3 _)
                      have j1 : w2.cell? ⟨jb, 12, none⟩ = some (.slice A7 n2 c7) := (hgrow.cell_far _ (by simp; omega) (Ne.symm AJ.out)).trans (b12 _)
                      have j2 : w2.frozen? ⟨jb, 12, none⟩ = false := (hgrow.frozen_far _ (by simp; omega) (Ne.symm AJ.out)).trans (row_free (row_alloc HJ1.out _) 12)
                      have j3 : ∀ v, (w2.setCell ⟨jb, 12, none⟩ v).cell? ⟨w.heap.size, 0, none⟩ = some (.pointer (some ⟨jb, 0, none⟩)) := fun v => (World.cell?_of_block (Below.heap_setCell w2 ⟨jb, 12, none⟩ v w.heap.size njw)).trans j0
                      refine hK.out _ _ j0 (fun hHeld => ?_)
                      clear hK K
                      try simp only [Act.put, List.getElem_toArray, List.getElem_cons_zero, List.getElem_cons_succ, List.setIfInBounds_toArray, List.set_cons_zero, List.set_cons_succ]
                      refine wpAnyH_take (i := 13) (v := ?_) rfl (by kernel_rfl) (by kernel_rfl) (by kernel_rfl) (fun _ _ _ h => h) (Or.inl ⟨by rfl, ?_⟩) hHeld ?_
                      rotate_left
                      · intro wq hSw
                        try dsimp only at hSw
                        go_simp
                        try with_reducible rfl
                      try simp only [Act.put, List.getElem_toArray, List.getElem_cons_zero, List.getElem_cons_succ, List.setIfInBounds_toArray, List.set_cons_zero, List.set_cons_succ]
                      refine wpAnyH_take (i := 14) (v := ?_) rfl (by kernel_rfl) (by kernel_rfl) (by kernel_rfl) (fun _ _ _ h => h) (Or.inl ⟨by rfl, ?_⟩) hHeld ?_
                      rotate_left
                      · intro wq hSw
                        try dsimp only at hSw
                        go_simp
                        try with_reducible rfl
                      try simp only [Act.put, List.getElem_toArray, List.getElem_cons_zero, List.getElem_cons_succ, List.setIfInBounds_toArray, List.set_cons_zero, List.set_cons_succ]
                      refine wpAnyH_ready (rs := [15]) (by kernel_rfl) (by simp) ?_
                      refine AllReadyH.cons (o := _) rfl (fun K hK => ?_) (AllReadyH.nil)
                      · skip
                        go_simp
                        refine hK.out _ _ (j3 _) (fun hHeld => ?_)
                        clear hK K
                        try simp only [Act.put, List.getElem_toArray, List.getElem_cons_zero, List.getElem_cons_succ, List.setIfInBounds_toArray, List.set_cons_zero, List.set_cons_succ]
                        refine wpAnyH_done (by kernel_rfl) ?_ _
                        have hr := Lib.hid (HPUT.out _ _ hown1 hgrow)
                        go_wp2_with fail
                        go_meet
                        exact ⟨w2, _, _, rfl, hr⟩
            · skip
              go_simp
              refine hK.out _ _ (a7 _) (fun hHeld => ?_)
              clear hK K
              try simp only [Act.put, List.getElem_toArray, List.getElem_cons_zero, List.getElem_cons_succ, List.setIfInBounds_toArray, List.set_cons_zero, List.set_cons_succ]
              refine wpAnyH_ready (rs := [4, 10]) (by kernel_rfl) (by simp) ?_
              refine AllReadyH.cons (o := _) rfl (fun K hK => ?_) (AllReadyH.cons (o := _) rfl (fun K hK => ?_) (AllReadyH.nil))
              · skip
                go_simp
                refine hK.out _ _ (a7 _) (fun hHeld => ?_)
                clear hK K
                try simp only [Act.put, List.getElem_toArray, List.getElem_cons_zero, List.getElem_cons_succ, List.setIfInBounds_toArray, List.set_cons_zero, List.set_cons_succ]
                refine wpAnyH_ready (rs := [10]) (by kernel_rfl) (by simp) ?_
                refine AllReadyH.cons (o := _) rfl (fun K hK => ?_) (AllReadyH.nil)
                · skip
                  go_simp
                  go_at_call 112
                  refine (HFL2.out _ (by rfl)).mono ?_
                  rintro e w1 ⟨f1, cs1, rfl, hth, hb1⟩
                  have hb0 : Below W7.heap.size W7 w1 := ⟨hb1.os, hb1.tape, hb1.output, Nat.le_trans (by simp) hb1.size, fun q hq => (hb1.block q (by simp; omega)).trans ((JMem.below_box (w := W7) _).block q hq)⟩
                  have hs1w : W7.heap.size ≤ w1.heap.size := hb0.size
                  have HJ1 := Lib.hid ((hb0.block jb hjw7).trans HJ7.out)
                  have b0 : w1.cell? ⟨w.heap.size, 0, none⟩ = some (.pointer (some ⟨jb, 0, none⟩)) := (hb0.cell (p := ⟨w.heap.size, 0, none⟩) hlw7).trans q7
                  have b1 : w1.cell? ⟨jb, 12, none⟩ = some (.slice A7 n2 c7) := (hb0.cell (p := ⟨jb, 12, none⟩) hjw7).trans k12
                  have b3 : ∀ o : Obj, (w1.alloc o).cell? ⟨w.heap.size, 0, none⟩ = some (.pointer (some ⟨jb, 0, none⟩)) := fun o => ((JMem.below_box (w := w1) o).cell (p := ⟨w.heap.size, 0, none⟩) (by show w.heap.size < _; omega)).trans b0
                  have b12 : ∀ o : Obj, (w1.alloc o).cell? ⟨jb, 12, none⟩ = some (.slice A7 n2 c7) := fun o => ((JMem.below_box (w := w1) o).cell (p := ⟨jb, 12, none⟩) (by show jb < _; omega)).trans b1
                  have HO1 := Lib.hid (own_same (w' := w1) HT1v.out (fun q hq => hb0.block q (own_lt HT1v.out q hq)))
                  have HPUT := Lib.hid (fun w2 v' g1 g2 => TR.put2 (w2 := w2) (v' := v') HT1v.out HT2v.out HT4v.out HB7.out HTKd.out (by rfl) hth hb1 hb0 g1 g2)
                  clear hth hb1 hb0
                  go_wp2_with fail
                  refine hK.out _ _ b0 (fun hHeld => ?_)
                  clear hK K
                  try simp only [Act.put, List.getElem_toArray, List.getElem_cons_zero, List.getElem_cons_succ, List.setIfInBounds_toArray, List.set_cons_zero, List.set_cons_succ]
                  refine wpAnyH_ready (rs := [11]) (by kernel_rfl) (by simp) ?_
                  refine AllReadyH.cons (o := _) rfl (fun K hK => ?_) (AllReadyH.nil)
                  · skip
                    go_simp
                    refine hK.out _ _ (b3 _) (fun hHeld => ?_)
                    clear hK K
                    try simp only [Act.put, List.getElem_toArray, List.getElem_cons_zero, List.getElem_cons_succ, List.setIfInBounds_toArray, List.set_cons_zero, List.set_cons_succ]
                    refine wpAnyH_ready (rs := [12]) (by kernel_rfl) (by simp) ?_
                    refine AllReadyH.cons (o := _) rfl (fun K hK => ?_) (AllReadyH.nil)
                    · skip
                      refine step_append_lies _ (by rfl) _ _ _ (by rfl) Wd.heap.size 47 i0 _ 1 8 underT hi0 hz0 hz1 hz2 rfl (by omega) (.slice A7 n2 c7) n2 vs (by rfl) (own_same HO1.out (fun q hq => Below.heap_alloc w1 _ q (own_lt HO1.out q hq))) ⟨w1.heap.size, 0, none⟩ 1 1 [.func f1 #[] cs1] (by rfl) (by rfl) (World.news_of_block (cs := #[.func f1 #[] cs1]) (t := 47) (fr := (0, 0)) (row_new w1 _)) (by simp [Value.oneCell']) (by omega) (by unfold maxLen; omega) (by omega) (by simp; omega) (w1.heap.size + 1) (by simp) ?_
                      intro gg cap w2 hown1 hgrow hat hlt2
                      have j0 : w2.cell? ⟨w.heap.size, 0, none⟩ = some (.pointer (some ⟨jb, 0, none⟩)) := (hgrow.cell_far _ (by simp; omega) (Ne.symm AB.out)).trans (b3 _)
                      have j1 : w2.cell? ⟨jb, 12, none⟩ = some (.slice A7 n2 c7) := (hgrow.cell_far _ (by simp; omega) (Ne.symm AJ.out)).trans (b12 _)
                      have j2 : w2.frozen? ⟨jb, 12, none⟩ = false := (hgrow.frozen_far _ (by simp; omega) (Ne.symm AJ.out)).trans (row_free (row_alloc HJ1.out _) 12)
                      have j3 : ∀ v, (w2.setCell ⟨jb, 12, none⟩ v).cell? ⟨w.heap.size, 0, none⟩ = some (.pointer (some ⟨jb, 0, none⟩)) := fun v => (World.cell?_of_block (Below.heap_setCell w2 ⟨jb, 12, none⟩ v w.heap.size njw)).trans j0
                      refine hK.out _ _ j0 (fun hHeld => ?_)
                      clear hK K
                      try simp only [Act.put, List.getElem_toArray, List.getElem_cons_zero, List.getElem_cons_succ, List.setIfInBounds_toArray, List.set_cons_zero, List.set_cons_succ]
                      refine wpAnyH_take (i := 13) (v := ?_) rfl (by kernel_rfl) (by kernel_rfl) (by kernel_rfl) (fun _ _ _ h => h) (Or.inl ⟨by rfl, ?_⟩) hHeld ?_
                      rotate_left
                      · intro wq hSw
                        try dsimp only at hSw
                        go_simp
                        try with_reducible rfl
                      try simp only [Act.put, List.getElem_toArray, List.getElem_cons_zero, List.getElem_cons_succ, List.setIfInBounds_toArray, List.set_cons_zero, List.set_cons_succ]
                      refine wpAnyH_take (i := 14) (v := ?_) rfl (by kernel_rfl) (by kernel_rfl) (by kernel_rfl) (fun _ _ _ h => h) (Or.inl ⟨by rfl, ?_⟩) hHeld ?_
                      rotate_left
                      · intro wq hSw
                        try dsimp only at hSw
                        go_simp
                        try with_reducible rfl
                      try simp only [Act.put, List.getElem_toArray, List.getElem_cons_zero, List.getElem_cons_succ, List.setIfInBounds_toArray, List.set_cons_zero, List.set_cons_succ]
                      refine wpAnyH_ready (rs := [15]) (by kernel_rfl) (by simp) ?_
                      refine AllReadyH.cons (o := _) rfl (fun K hK => ?_) (AllReadyH.nil)
                      · skip
                        go_simp
                        refine hK.out _ _ (j3 _) (fun hHeld => ?_)
                        clear hK K
                        try simp only [Act.put, List.getElem_toArray, List.getElem_cons_zero, List.getElem_cons_succ, List.setIfInBounds_toArray, List.set_cons_zero, List.set_cons_succ]
                        refine wpAnyH_done (by kernel_rfl) ?_ _
                        have hr := Lib.hid (HPUT.out _ _ hown1 hgrow)
                        go_wp2_with fail
                        go_meet
                        exact ⟨w2, _, _, rfl, hr⟩
              · skip
                go_simp
                go_at_call 112
                refine (HFL2.out _ (by rfl)).mono ?_
                rintro e w1 ⟨f1, cs1, rfl, hth, hb1⟩
                have hb0 : Below W7.heap.size W7 w1 := ⟨hb1.os, hb1.tape, hb1.output, Nat.le_trans (by simp) hb1.size, fun q hq => (hb1.block q (by simp; omega)).trans ((JMem.below_box (w := W7) _).block q hq)⟩
                have hs1w : W7.heap.size ≤ w1.heap.size := hb0.size
                have HJ1 := Lib.hid ((hb0.block jb hjw7).trans HJ7.out)
                have b0 : w1.cell? ⟨w.heap.size, 0, none⟩ = some (.pointer (some ⟨jb, 0, none⟩)) := (hb0.cell (p := ⟨w.heap.size, 0, none⟩) hlw7).trans q7
                have b1 : w1.cell? ⟨jb, 12, none⟩ = some (.slice A7 n2 c7) := (hb0.cell (p := ⟨jb, 12, none⟩) hjw7).trans k12
                have b3 : ∀ o : Obj, (w1.alloc o).cell? ⟨w.heap.size, 0, none⟩ = some (.pointer (some ⟨jb, 0, none⟩)) := fun o => ((JMem.below_box (w := w1) o).cell (p := ⟨w.heap.size, 0, none⟩) (by show w.heap.size < _; omega)).trans b0
                have b12 : ∀ o : Obj, (w1.alloc o).cell? ⟨jb, 12, none⟩ = some (.slice A7 n2 c7) := fun o => ((JMem.below_box (w := w1) o).cell (p := ⟨jb, 12, none⟩) (by show jb < _; omega)).trans b1
                have HO1 := Lib.hid (own_same (w' := w1) HT1v.out (fun q hq => hb0.block q (own_lt HT1v.out q hq)))
                have HPUT := Lib.hid (fun w2 v' g1 g2 => TR.put2 (w2 := w2) (v' := v') HT1v.out HT2v.out HT4v.out HB7.out HTKd.out (by rfl) hth hb1 hb0 g1 g2)
                clear hth hb1 hb0
                go_wp2_with fail
                refine hK.out _ _ b0 (fun hHeld => ?_)
                clear hK K
                try simp only [Act.put, List.getElem_toArray, List.getElem_cons_zero, List.getElem_cons_succ, List.setIfInBounds_toArray, List.set_cons_zero, List.set_cons_succ]
                refine wpAnyH_ready (rs := [4, 11]) (by kernel_rfl) (by simp) ?_
                refine AllReadyH.cons (o := _) rfl (fun K hK => ?_) (AllReadyH.cons (o := _) rfl (fun K hK => ?_) (AllReadyH.nil))
                · skip
                  go_simp
                  refine hK.out _ _ b0 (fun hHeld => ?_)
                  clear hK K
                  try simp only [Act.put, List.getElem_toArray, List.getElem_cons_zero, List.getElem_cons_succ, List.setIfInBounds_toArray, List.set_cons_zero, List.set_cons_succ]
                  refine wpAnyH_ready (rs := [11]) (by kernel_rfl) (by simp) ?_
                  refine AllReadyH.cons (o := _) rfl (fun K hK => ?_) (AllReadyH.nil)
                  · skip
                    go_simp
                    refine hK.out _ _ (b3 _) (fun hHeld => ?_)
                    clear hK K
                    try simp only [Act.put, List.getElem_toArray, List.getElem_cons_zero, List.getElem_cons_succ, List.setIfInBounds_toArray, List.set_cons_zero, List.set_cons_succ]
                    refine wpAnyH_ready (rs := [12]) (by kernel_rfl) (by simp) ?_
                    refine AllReadyH.cons (o := _) rfl (fun K hK => ?_) (AllReadyH.nil)
                    · skip
                      refine step_append_lies _ (by rfl) _ _ _ (by rfl) Wd.heap.size 47 i0 _ 1 8 underT hi0 hz0 hz1 hz2 rfl (by omega) (.slice A7 n2 c7) n2 vs (by rfl) (own_same HO1.out (fun q hq => Below.heap_alloc w1 _ q (own_lt HO1.out q hq))) ⟨w1.heap.size, 0, none⟩ 1 1 [.func f1 #[] cs1] (by rfl) (by rfl) (World.news_of_block (cs := #[.func f1 #[] cs1]) (t := 47) (fr := (0, 0)) (row_new w1 _)) (by simp [Value.oneCell']) (by omega) (by unfold maxLen; omega) (by omega) (by simp; omega) (w1.heap.size + 1) (by simp) ?_
                      intro gg cap w2 hown1 hgrow hat hlt2
                      have j0 : w2.cell? ⟨w.heap.size, 0, none⟩ = some (.pointer (some ⟨jb, 0, none⟩)) := (hgrow.cell_far _ (by simp; omega) (Ne.symm AB.out)).trans (b3 _)
                      have j1 : w2.cell? ⟨jb, 12, none⟩ = some (.slice A7 n2 c7) := (hgrow.cell_far _ (by simp; omega) (Ne.symm AJ.out)).trans (b12 _)
                      have j2 : w2.frozen? ⟨jb, 12, none⟩ = false := (hgrow.frozen_far _ (by simp; omega) (Ne.symm AJ.out)).trans (row_free (row_alloc HJ1.out _) 12)
                      have j3 : ∀ v, (w2.setCell ⟨jb, 12, none⟩ v).cell? ⟨w.heap.size, 0, none⟩ = some (.pointer (some ⟨jb, 0, none⟩)) := fun v => (World.cell?_of_block (Below.heap_setCell w2 ⟨jb, 12, none⟩ v w.heap.size njw)).trans j0
                      refine hK.out _ _ j0 (fun hHeld => ?_)
                      clear hK K
                      try simp only [Act.put, List.getElem_toArray, List.getElem_cons_zero, List.getElem_cons_succ, List.setIfInBounds_toArray, List.set_cons_zero, List.set_cons_succ]
                      refine wpAnyH_take (i := 13) (v := ?_) rfl (by kernel_rfl) (by kernel_rfl) (by kernel_rfl) (fun _ _ _ h => h) (Or.inl ⟨by rfl, ?_⟩) hHeld ?_
                      rotate_left
                      · intro wq hSw
                        try dsimp only at hSw
                        go_simp
                        try with_reducible rfl
                      try simp only [Act.put, List.getElem_toArray, List.getElem_cons_zero, List.getElem_cons_succ, List.setIfInBounds_toArray, List.set_cons_zero, List.set_cons_succ]
                      refine wpAnyH_take (i := 14) (v := ?_) rfl (by kernel_rfl) (by kernel_rfl) (by kernel_rfl) (fun _ _ _ h => h) (Or.inl ⟨by rfl, ?_⟩) hHeld ?_
                      rotate_left
                      · intro wq hSw
                        try dsimp only at hSw
                        go_simp
                        try with_reducible rfl
                      try simp only [Act.put, List.getElem_toArray, List.getElem_cons_zero, List.getElem_cons_succ, List.setIfInBounds_toArray, List.set_cons_zero, List.set_cons_succ]
                      refine wpAnyH_ready (rs := [15]) (by kernel_rfl) (by simp) ?_
                      refine AllReadyH.cons (o := _) rfl (fun K hK => ?_) (AllReadyH.nil)
                      · skip
                        go_simp
                        refine hK.out _ _ (j3 _) (fun hHeld => ?_)
                        clear hK K
                        try simp only [Act.put, List.getElem_toArray, List.getElem_cons_zero, List.getElem_cons_succ, List.setIfInBounds_toArray, List.set_cons_zero, List.set_cons_succ]
                        refine wpAnyH_done (by kernel_rfl) ?_ _
                        have hr := Lib.hid (HPUT.out _ _ hown1 hgrow)
                        go_wp2_with fail
                        go_meet
                        exact ⟨w2, _, _, rfl, hr⟩
                · skip
                  go_simp
                  refine hK.out _ _ (b3 _) (fun hHeld => ?_)
                  clear hK K
                  try simp only [Act.put, List.getElem_toArray, List.getElem_cons_zero, List.getElem_cons_succ, List.setIfInBounds_toArray, List.set_cons_zero, List.set_cons_succ]
                  refine wpAnyH_ready (rs := [4]) (by kernel_rfl) (by simp) ?_
                  refine AllReadyH.cons (o := _) rfl (fun K hK => ?_) (AllReadyH.nil)
                  · skip
                    go_simp
                    refine hK.out _ _ (b3 _) (fun hHeld => ?_)
                    clear hK K
                    try simp only [Act.put, List.getElem_toArray, List.getElem_cons_zero, List.getElem_cons_succ, List.setIfInBounds_toArray, List.set_cons_zero, List.set_cons_succ]
                    refine wpAnyH_ready (rs := [12]) (by kernel_rfl) (by simp) ?_
                    refine AllReadyH.cons (o := _) rfl (fun K hK => ?_) (AllReadyH.nil)
                    · skip
                      refine step_append_lies _ (by rfl) _ _ _ (by rfl) Wd.heap.size 47 i0 _ 1 8 underT hi0 hz0 hz1 hz2 rfl (by omega) (.slice A7 n2 c7) n2 vs (by rfl) (own_same HO1.out (fun q hq => Below.heap_alloc w1 _ q (own_lt HO1.out q hq))) ⟨w1.heap.size, 0, none⟩ 1 1 [.func f1 #[] cs1] (by rfl) (by rfl) (World.news_of_block (cs := #[.func f1 #[] cs1]) (t := 47) (fr := (0, 0)) (row_new w1 _)) (by simp [Value.oneCell']) (by omega) (by unfold maxLen; omega) (by omega) (by simp; omega) (w1.heap.size + 1) (by simp) ?_
                      intro gg cap w2 hown1 hgrow hat hlt2
                      have j0 : w2.cell? ⟨w.heap.size, 0, none⟩ = some (.pointer (some ⟨jb, 0, none⟩)) := (hgrow.cell_far _ (by simp; omega) (Ne.symm AB.out)).trans (b3 _)
                      have j1 : w2.cell? ⟨jb, 12, none⟩ = some (.slice A7 n2 c7) := (hgrow.cell_far _ (by simp; omega) (Ne.symm AJ.out)).trans (b12 _)
                      have j2 : w2.frozen? ⟨jb, 12, none⟩ = false := (hgrow.frozen_far _ (by simp; omega) (Ne.symm AJ.out)).trans (row_free (row_alloc HJ1.out _) 12)
                      have j3 : ∀ v, (w2.setCell ⟨jb, 12, none⟩ v).cell? ⟨w.heap.size, 0, none⟩ = some (.pointer (some ⟨jb, 0, none⟩)) := fun v => (World.cell?_of_block (Below.heap_setCell w2 ⟨jb, 12, none⟩ v w.heap.size njw)).trans j0
                      refine hK.out _ _ j0 (fun hHeld => ?_)
                      clear hK K
                      try simp only [Act.put, List.getElem_toArray, List.getElem_cons_zero, List.getElem_cons_succ, List.setIfInBounds_toArray, List.set_cons_zero, List.set_cons_succ]
                      refine wpAnyH_take (i := 13) (v := ?_) rfl (by kernel_rfl) (by kernel_rfl) (by kernel_rfl) (fun _ _ _ h => h) (Or.inl ⟨by rfl, ?_⟩) hHeld ?_
                      rotate_left
                      · intro wq hSw
                        try dsimp only at hSw
                        go_simp
                        try with_reducible rfl
                      try simp only [Act.put, List.getElem_toArray, List.getElem_cons_zero, List.getElem_cons_succ, List.setIfInBounds_toArray, List.set_cons_zero, List.set_cons_succ]
                      refine wpAnyH_take (i := 14) (v := ?_) rfl (by kernel_rfl) (by kernel_rfl) (by kernel_rfl) (fun _ _ _ h => h) (Or.inl ⟨by rfl, ?_⟩) hHeld ?_
                      rotate_left
                      · intro wq hSw
                        try dsimp only at hSw
                        go_simp
                        try with_reducible rfl
                      try simp only [Act.put, List.getElem_toArray, List.getElem_cons_zero, List.getElem_cons_succ, List.setIfInBounds_toArray, List.set_cons_zero, List.set_cons_succ]
                      refine wpAnyH_ready (rs := [15]) (by kernel_rfl) (by simp) ?_
                      refine AllReadyH.cons (o := _) rfl (fun K hK => ?_) (AllReadyH.nil)
                      · skip
                        go_simp
                        refine hK.out _ _ (j3 _) (fun hHeld => ?_)
                        clear hK K
                        try simp only [Act.put, List.getElem_toArray, List.getElem_cons_zero, List.getElem_cons_succ, List.setIfInBounds_toArray, List.set_cons_zero, List.set_cons_succ]
                        refine wpAnyH_done (by kernel_rfl) ?_ _
                        have hr := Lib.hid (HPUT.out _ _ hown1 hgrow)
                        go_wp2_with fail
                        go_meet
                        exact ⟨w2, _, _, rfl, hr⟩
            -- WALK14 end
          case rest =>
            obtain ⟨W8, A8, c8, rfl, HTR8⟩ := hcut
            have hlw : layLeft (j.tail + j.used) L bs = l6 ++ [.flush [.laid k bs, .part]] := by
              have h1 := HNN.out
              have h2 := HM.out
              have hA : L = L.take m ++ L.drop m := (List.take_append_drop m L).symm
              have hlt : (L.take m).length = m := by rw [List.length_take]; omega
              have hP : puts (j.tail + j.used) L = puts (j.tail + j.used) (L.take m) ++ puts (j.tail + j.used + m) (L.drop m) := by
                conv => lhs; rw [hA]
                rw [puts_append, hlt]
              have hpl : (puts (j.tail + j.used) (L.take m)).length = m := by rw [puts_len, hlt]
              rw [← HL6.out, hP, List.take_left' hpl, List.drop_left' hpl]
              unfold layLeft
              rw [List.dropLast_eq_take, h1, h2, show m + 1 - 1 = m by omega]
              simp
            have HG := Lib.hid (HJ0.out.trans (HFIN.out _ _ _ _ _ HTR8.out))
            have HAL : Hid (layAll j s rv = ({ j with left := l6 ++ [.flush [.laid k bs, .part]] }, s.commit)) := Lib.hid (by
              unfold layAll
              simp only [HP.out, HL.out, HBS.out, hlw])
            clear hlw
            go_wp2
            go_ret
            exact ⟨rfl, _, by rw [HAL.out]; exact HG.out⟩
end Go.Proofs.YtmlgchmladkfpaaGreatDoor.NLay3
