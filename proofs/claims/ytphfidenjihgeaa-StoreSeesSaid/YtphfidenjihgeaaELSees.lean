/- The law StoreSees: two stores with other shards and other room answer alike, and home the same blocks. -/
import Derived.Test.YtphfidenjihgeaaESame
import Derived.Test.YtphfidenjihgeaaDPending
import Derived.Deep.RegionHeld3
namespace Go.Proofs.Ytphfidenjihgeaa.ELSees
open DPlain hiding OpV low7 low7_lt
open Go.RowKit WMem WPlain WAppend Ext Map DMem Mk DBase DRead DWrite DPending EPlain EMem ECache EFace EUnwrite EPush EWrite EHold ERead EHome EWrites ECommit EBack EFill EAny EFix EAwM EAwake EScript EBits ELaw ESame

/-! ### two stores with the same blocks, whatever they keep -/
structure Sim (s t : Sto) : Prop where
  d : t.d = s.d
  now : t.now = s.now
  wai : t.wai = s.wai
  acts : t.acts = s.acts
section
variable {s t : Sto} (h : Sim s t)
include h
theorem Sim.N : t.N = s.N := by unfold Sto.N; rw [h.d]
theorem Sim.val (n : Nat) : t.val n = s.val n := by unfold Sto.val; rw [h.d, h.now, h.wai]
theorem Sim.inN (n : Int) : inN t n = inN s n := by unfold EAny.inN; rw [h.N]
theorem Sim.read (n : Int) : Sim (readI s n) (readI t n) := by
  have hr : ∀ (s : Sto) (n : Nat), (s.read n).d = s.d ∧ (s.read n).now = s.now ∧ (s.read n).wai = s.wai ∧ (s.read n).acts = s.acts := fun s n => by
    unfold Sto.read
    split
    · exact ⟨rfl, rfl, rfl, rfl⟩
    · split <;> exact ⟨rfl, rfl, rfl, rfl⟩
  unfold readI
  rw [h.inN]
  split
  · obtain ⟨a1, a2, a3, a4⟩ := hr s n.toNat
    obtain ⟨b1, b2, b3, b4⟩ := hr t n.toNat
    exact ⟨by rw [a1, b1, h.d], by rw [a2, b2, h.now], by rw [a3, b3, h.wai], by rw [a4, b4, h.acts]⟩
  · exact h
theorem Sim.write (n : Int) (l : Bk) : Sim (writeI s n l) (writeI t n l) := by
  unfold writeI
  rw [h.inN]
  split
  · exact ⟨h.d, by simp only [Sto.write, h.now], h.wai, by simp only [Sto.write, h.now, h.acts]⟩
  · exact h
theorem Sim.back (m : Int) : Sim (backI s m) (backI t m) := by
  have e : backOk t m = backOk s m := by unfold backOk; rw [h.acts]
  unfold backI
  rw [e]
  split
  · exact ⟨h.d, by simp only [Sto.back, h.now, h.acts], h.wai, by simp only [Sto.back, h.acts]⟩
  · exact h
theorem Sim.commit : Sim s.commit t.commit := ⟨h.d, by simp only [Sto.commit, h.now], by simp only [Sto.commit, h.now, h.wai], rfl⟩
theorem Sim.home (n : Int) : Sim (homeI s n) (homeI t n) := by
  have e : homeOk t n = homeOk s n := by unfold homeOk; rw [h.inN, h.wai]
  have hh : ∀ (s : Sto) (n : Nat) (l : Bk), (s.home n l).d = s.d.write n l ∧ (s.home n l).now = s.now ∧ (s.home n l).wai = (fun j => if j = n then none else s.wai j) ∧ (s.home n l).acts = s.acts := fun s n l => by
    unfold Sto.home
    split <;> exact ⟨rfl, rfl, rfl, rfl⟩
  unfold homeI
  rw [e, h.wai]
  split
  · obtain ⟨a1, a2, a3, a4⟩ := hh s n.toNat ((s.wai n.toNat).getD [])
    obtain ⟨b1, b2, b3, b4⟩ := hh t n.toNat ((s.wai n.toNat).getD [])
    exact ⟨by rw [a1, b1, h.d], by rw [a2, b2, h.now], by rw [a3, b3, h.wai], by rw [a4, b4, h.acts]⟩
  · exact h
end
theorem sim_fresh (d : St) (n1 r1 n2 r2 : Nat) : Sim (fresh d n1 r1) (fresh d n2 r2) := ⟨rfl, rfl, rfl, rfl⟩

/-! ### two stores in memory, each with a disk of its own -/
structure Duo (a w : World) (ρ : Ro) (D : Nat → Prop) (b db : Nat) (s : Sto) (σ : Ro) (E : Nat → Prop) (c dc : Nat) (t : Sto) : Prop where
  one : Live a w ρ D b db s
  two : Live a w σ E c dc t
  far : Far (All ρ D) (All σ E)
/-- blocks that neither turns -/
structure Fx (S : Nat → Prop) (w0 w : World) (ρ : Ro) (D : Nat → Prop) (σ : Ro) (E : Nat → Prop) : Prop where
  one : Fix S w0 w ρ D
  two : Fix S w0 w σ E
section
variable {a w w' : World} {ρ ρ' σ σ' : Ro} {D D' E E' : Nat → Prop} {b db c dc : Nat} {s s' t t' : Sto} {S : Nat → Prop} {w0 : World}
theorem Duo.left (h : Duo a w ρ D b db s σ E c dc t) (g : Goes w w' ρ D ρ' D' b db s') : Duo a w' ρ' D' b db s' σ E c dc t :=
  ⟨h.one.goes g, h.two.ext g.ext h.far h.one.new, h.far.step g.new h.two.own.there⟩
theorem Duo.right (h : Duo a w ρ D b db s σ E c dc t) (g : Goes w w' σ E σ' E' c dc t') : Duo a w' ρ D b db s σ' E' c dc t' :=
  ⟨h.one.ext g.ext h.far.symm h.two.new, h.two.goes g, (h.far.symm.step g.new h.one.own.there).symm⟩
theorem Duo.go (h : Duo a w ρ D b db s σ E c dc t) (hb : Below w.heap.size w w') : Duo a w' ρ D b db s σ E c dc t := ⟨h.one.go hb, h.two.go hb, h.far⟩
theorem Fx.left (h : Fx S w0 w ρ D σ E) (g : Goes w w' ρ D ρ' D' b db s') : Fx S w0 w' ρ' D' σ E :=
  ⟨h.one.goes g, ⟨(h.one.goes g).same, fun q hq => ⟨(h.two.far q hq).1, Nat.lt_of_lt_of_le (h.two.far q hq).2 g.ext.size⟩⟩⟩
theorem Fx.right (h : Fx S w0 w ρ D σ E) (g : Goes w w' σ E σ' E' c dc t') : Fx S w0 w' ρ D σ' E' :=
  ⟨⟨(h.two.goes g).same, fun q hq => ⟨(h.one.far q hq).1, Nat.lt_of_lt_of_le (h.one.far q hq).2 g.ext.size⟩⟩, h.two.goes g⟩
theorem Fx.below (h : Fx S w0 w ρ D σ E) (hb : Below w.heap.size w w') : Fx S w0 w' ρ D σ E := ⟨h.one.below hb, h.two.below hb⟩
end
/-- the second: any shards, any room -/
theorem l_second {S : Nat → Prop} {db : Nat} {w : World} {d : St} (hd : DD w S db d) (hl : d.L.length = 128) (ns room : Nat) (h1 : ns < 16) (h2 : room < 256) (x y : Int) (hx : x = ((1 + ns : Nat) : Int)) (hy : y = ((1 + room : Nat) : Int)) : Calls Try.prog 24 #[.pointer (some ⟨db, 0, none⟩), .int .i64 x, .int .i64 y] w fun e w' => ∃ b ρ, e = .returned (.tuple #[.pointer (some ⟨b, 0, none⟩), .int .i64 0]) ∧ SS w' ρ b db (fresh d (1 + ns) (1 + room)) ∧ (∀ k, Mine ρ k → w.heap.size ≤ k) ∧ Below w.heap.size w w' := by
  subst hx hy
  exact ENew.New_yes db (1 + ns) (1 + room) d w hd.c0 (by omega) (by omega) (by omega) (by omega) (by omega) (by omega)
theorem l_first {S : Nat → Prop} {db : Nat} {w : World} {d : St} (hd : DD w S db d) (hl : d.L.length = 128) : Calls Try.prog 24 #[.pointer (some ⟨db, 0, none⟩), .int .i64 1, .int .i64 1] w fun e w' => ∃ b ρ, e = .returned (.tuple #[.pointer (some ⟨b, 0, none⟩), .int .i64 0]) ∧ SS w' ρ b db (fresh d 1 1) ∧ (∀ k, Mine ρ k → w.heap.size ≤ k) ∧ Below w.heap.size w w' :=
  ENew.New_yes db 1 1 d w hd.c0 (by omega) (by omega) (by omega) (by omega) (by omega) (by omega)
theorem same_nil (w : World) : Calls Try.prog 25 #[.slice none 0 0, .slice none 0 0] w fun e w' => e = .returned (.bool true) ∧ ∃ n, w' = w.drewN n :=
  Same_yes [] 0 0 none none 0 0 w (Sl.nil _ _ _) (Sl.nil _ _ _) (by decide)
/-- a read of either -/
theorem l_read_yes {a w : World} {ρ : Ro} {D : Nat → Prop} {b db : Nat} {s : Sto} (h : Live a w ρ D b db s) (n : Int) (hq : inN s n = true) (hload : s.load ≤ 1073741824) (l : Bk) (hl : s.val n.toNat = l) :
    Calls Try.prog 10 #[.pointer (some ⟨b, 0, none⟩), .int .i64 n] w fun e w' => ∃ u, e = .returned (.tuple #[u, .int .i64 0]) ∧ ∃ ρ' D', Goes w w' ρ D ρ' D' b db (readI s n) ∧ IsBlk w' (Free w w' ρ') u l := by
  subst hl
  refine (read_go h.own n hload).mono ?_
  rintro e w' ⟨u, rfl, ρ', D', hg, h1, -, -⟩
  rw [hq]
  exact ⟨u, rfl, ρ', D', hg, h1 hq⟩
theorem l_read_no {a w : World} {ρ : Ro} {D : Nat → Prop} {b db : Nat} {s : Sto} (h : Live a w ρ D b db s) (n : Int) (hq : inN s n = false) :
    Calls Try.prog 10 #[.pointer (some ⟨b, 0, none⟩), .int .i64 n] w fun e w' => e = .returned (.tuple #[.slice none 0 0, .int .i64 5]) ∧ w = w' :=
  SRead_out _ n w (hasn_own h.own (inN_no hq))
theorem readI_no {s : Sto} {n : Int} (h : inN s n = false) : readI s n = s := by unfold readI; rw [h]; rfl
theorem l_back {a w : World} {ρ : Ro} {D : Nat → Prop} {b db : Nat} {s : Sto} (h : Live a w ρ D b db s) (n : Int) (hload : s.load ≤ 1073741824) :
    Calls Try.prog 15 #[.pointer (some ⟨b, 0, none⟩), .int .i64 n] w fun e w' => ∃ q, e = .returned (.int .i64 q) ∧ ∃ ρ' D', Goes w w' ρ D ρ' D' b db (backI s n) := by
  refine (back_go h.own n hload).mono ?_
  rintro e w' ⟨rfl, ρ', D', hg⟩
  exact ⟨_, rfl, ρ', D', hg⟩
theorem l_homeI {a w : World} {ρ : Ro} {D : Nat → Prop} {b db : Nat} {s : Sto} (h : Live a w ρ D b db s) (n : Int) (hf : Fits n) (hload : s.load ≤ 1073741824) :
    Calls Try.prog 16 #[.pointer (some ⟨b, 0, none⟩), .int .i64 n] w fun e w' => ∃ q, e = .returned (.int .i64 q) ∧ ∃ ρ' D', Goes w w' ρ D ρ' D' b db (homeI s n) := by
  refine (home_go h.own n hf hload).mono ?_
  rintro e w' ⟨rfl, ρ', D', hg⟩
  exact ⟨_, rfl, ρ', D', hg⟩
theorem l_writeI {a w : World} {ρ : Ro} {D : Nat → Prop} {b db : Nat} {s : Sto} (h : Live a w ρ D b db s) (n : Int) (g : Nat) (l : Bk) (hv : IsBlk w (fun q => q = g) (.slice (some ⟨g, 0, none⟩) 256 256) l) (hg : ¬ Mine ρ g) (hgl : g < w.heap.size) (hload : s.load ≤ 1073741824) :
    Calls Try.prog 12 #[.pointer (some ⟨b, 0, none⟩), .int .i64 n, .slice (some ⟨g, 0, none⟩) 256 256] w fun e w' => ∃ q, e = .returned (.int .i64 q) ∧ ∃ ρ' D', Goes w w' ρ D ρ' D' b db (writeI s n l) := by
  refine (l_write h n g l hv hg hgl hload).mono ?_
  rintro e w' ⟨rfl, ρ', D', hg⟩
  exact ⟨_, rfl, ρ', D', hg⟩

/-- what is pending, as it was answered -/
def PendAt (w : World) (S : Nat → Prop) (g : Nat) (P : List (Nat × List UInt8)) : Prop :=
  ∀ (i : Nat) (hi : i < P.length), ∃ g' u, (some (⟨g, 0, none⟩ : Addr)) = some ⟨g', 0, none⟩ ∧ S g' ∧ w.cell? ⟨g', i * 2, none⟩ = some (.int .i64 (P[i].1 : Int)) ∧ w.cell? ⟨g', i * 2 + 1, none⟩ = some u ∧ IsBlk w S u P[i].2
theorem PendAt.keep {w w' : World} {S : Nat → Prop} {g : Nat} {P : List (Nat × List UInt8)} (h : PendAt w S g P) (hk : ∀ q, S q → w'.heap[q]? = w.heap[q]?) : PendAt w' S g P := fun i hi => by
  obtain ⟨g', u, h1, h2, h3, h4, h5⟩ := h i hi
  exact ⟨g', u, h1, h2, (World.cell?_of_block (a := ⟨g', i * 2, none⟩) (hk g' h2)).trans h3, (World.cell?_of_block (a := ⟨g', i * 2 + 1, none⟩) (hk g' h2)).trans h4, h5.keep (fun q _ hq _ => hk q hq)⟩
theorem l_pendP {a w : World} {ρ : Ro} {D : Nat → Prop} {b db : Nat} {s : Sto} (h : Live a w ρ D b db s) (P : List (Nat × List UInt8)) (hP : s.d.P = P) (hN : s.load ≤ 1073741824) : Calls Try.prog 27 #[.pointer (some ⟨db, 0, none⟩)] w fun e w' =>
    ∃ g, e = .returned (.slice (some ⟨g, 0, none⟩) P.length P.length) ∧ PendAt w' (Made w w') g P ∧ Below w.heap.size w w' := by
  subst hP
  refine (Pending_ok D db s.d w h.own.dd (by unfold Sto.load at hN; omega)).mono ?_
  rintro e w' ⟨g, xs, rfl, hg, hRV, hPO, hb⟩
  refine ⟨g, rfl, fun i hi => ?_, hb⟩
  obtain ⟨u, h1, h2, h3⟩ := hPO.2 i hi
  have hl : i * 2 + 1 < xs.length := by rw [hPO.1]; omega
  refine ⟨g, u, rfl, ⟨hg, hRV.lt⟩, ?_, ?_, h3⟩
  · rw [hRV.cell (by omega)]
    rw [List.getElem?_eq_getElem (by omega)] at h1
    exact h1
  · rw [hRV.cell hl]
    rw [List.getElem?_eq_getElem hl] at h2
    exact h2

set_option maxHeartbeats 4000000 in
set_option maxRecDepth 100000 in
theorem sees_true (x y : Int) (ops : List OpV) (A : Option Addr) (c : Nat) (w : World) (hA : OpsIn w w.heap.size A ops) (_hl : ops.length ≤ 140737488355328) :
    Calls Try.prog 4 #[.int .i64 x, .int .i64 y, .slice A ops.length c] w fun e w' => e = .returned (.bool true) ∧ Below w.heap.size w w' := by
  have HA := Lib.hid hA
  have hx := and15 x
  have hx2 := low15_lt x
  have hy := and255 y
  have hy2 := low255_lt y
  generalize low15 x = ns at *
  generalize low255 y = room at *
  clear hA
  go_enter Try.func4, Try.ntmps4
  go_wp2_with fail
  refine (awake_any w).mono ?_
  rintro e w0 ⟨rfl, hb0⟩
  have HB0 := Lib.hid hb0
  clear hb0
  go_wp2_with fail
  refine (a_new (w := w0)).mono ?_
  rintro e w1 ⟨db, rfl, hd, hb⟩
  have HD1 := Lib.hid hd
  have HB1 := Lib.hid hb
  clear hd hb
  go_wp2_with fail
  refine (a_new (w := w1)).mono ?_
  rintro e w2 ⟨dc, rfl, hd, hb⟩
  have HE1 := Lib.hid hd
  have HD2 := Lib.hid (HD1.out.below hb)
  have HB2 := Lib.hid (HB1.out.trans (hb.mono HB1.out.size))
  have HFA : Hid (Far (Made w0 w1) (Made w1 w2)) := Lib.hid fun q h1 h2 => by have := h1.2; have := h2.1; omega
  have HNW : Hid (∀ q, Made w1 w2 q → w0.heap.size ≤ q) := Lib.hid fun q hq => Nat.le_trans HB1.out.size hq.1
  clear hd hb HD1
  go_wp2_with fail
  refine (l_first HD2.out (by show (St.new 128).L.length = 128; simp [St.new])).mono ?_
  rintro e w3 ⟨b, ρ0, rfl, hs, hm, hb3⟩
  have H0 : Hid (Live w0 w3 ρ0 (Made w0 w1) b db (fresh d0 1 1)) := live_new HD2.out (fun q hq => hq.1) HB2.out hs hm hb3
  have HE3 := Lib.hid (HE1.out.below hb3)
  have HF3 : Hid (Far (All ρ0 (Made w0 w1)) (Made w1 w2)) := Lib.hid fun q h1 h2 => by
    rcases h1 with h1 | h1
    · have := hm q h1; have := HE1.out.there q h2; omega
    · exact HFA.out q h1 h2
  have HB3 := Lib.hid (HB2.out.trans (hb3.mono HB2.out.size))
  clear hs hm hb3 HE1 HD2 HFA
  go_wp2_with fail
  refine (l_second HE3.out (by show (St.new 128).L.length = 128; simp [St.new]) ns room hx2 hy2 _ _ (by omega) (by omega)).mono ?_
  rintro e w4 ⟨b2, σ0, rfl, hs, hm, hb4⟩
  have H4 : Hid (Duo w0 w4 ρ0 (Made w0 w1) b db (fresh d0 1 1) σ0 (Made w1 w2) b2 dc (fresh d0 (1 + ns) (1 + room))) := by
    have hth := H0.out.own.there
    refine Lib.hid ⟨H0.out.go hb4, live_new HE3.out HNW.out HB3.out hs hm hb4, fun q h1 h2 => ?_⟩
    rcases h2 with h2 | h2
    · have := hm q h2; have := hth q h1; omega
    · exact HF3.out q h1 h2
  have HSIM : Hid (Sim (fresh d0 1 1) (fresh d0 (1 + ns) (1 + room))) := Lib.hid (sim_fresh _ _ _ _ _)
  clear hs hm hb4 HE3 HF3 H0 HB1 HB2 HB3 HNW
  generalize Made w0 w1 = D0 at *
  generalize Made w1 w2 = E0 at *
  go_wp2_with fail
  go_loopw [16] (fun i wr => ∃ (k : Nat) (ρ : Ro) (D : Nat → Prop) (s : Sto) (σ : Ro) (E : Nat → Prop) (t : Sto), k ≤ ops.length ∧ k ≤ 1500 ∧ i = .int .i64 k ∧ Duo w0 wr ρ D b db s σ E b2 dc t ∧ Sim s t ∧ s.load ≤ k ∧ t.load ≤ k) (fun i _ => ops.length - (RowKit.intOf i).toNat)
  case atStart => exact ⟨0, ρ0, D0, _, σ0, E0, _, Nat.zero_le _, Nat.zero_le _, rfl, H4.out, HSIM.out, Nat.le_refl _, Nat.le_refl _⟩
  case round =>
    obtain ⟨k, ρ, D, s, σ, E, t, hk, hk3, rfl, hl, hL, hs, ht⟩ := hrel
    have H5 := Lib.hid hl
    have HSM := Lib.hid hL
    clear hl hL H4 HSIM
    by_cases hlt : k < ops.length ∧ k < 1500
    · obtain ⟨hlt1, hlt2⟩ := hlt
      have hbw : Below w.heap.size w wr := HB0.out.trans (H5.out.one.below.mono HB0.out.size)
      obtain ⟨a, rfl, hab, hop, hfk⟩ := op_at HA.out hbw hlt1
      clear hbw
      have hk0 : (0 : Int) ≤ (k : Int) := Int.natCast_nonneg _
      have hk1 : (k : Int) < (ops.length : Int) := by omega
      have hk2 : (k : Int) < 1500 := by omega
      generalize ops[k] = o at *
      have r0 := hop.c0
      have r1 := hop.c1
      have r2 := hop.c2
      clear hop
      have hand := and15 o.what
      have h7 := low15_lt o.what
      generalize low15 o.what = lo at *
      have hal := (Below.refl wr.heap.size wr).alloc (Nat.le_refl _) (.cells #[.int .i64 o.what, .int .i64 o.block, .int .i64 o.fill] 55)
      have hcop := cop_new wr o (T := 55)
      have hth1 := H5.out.one.own.there
      have hth2 := H5.out.two.own.there
      have hgo1 : ∀ q, q = wr.heap.size → ¬ All ρ D q ∧ q < (wr.alloc (.cells #[.int .i64 o.what, .int .i64 o.block, .int .i64 o.fill] 55)).heap.size := fun q hq => by
        subst hq
        exact ⟨fun h1 => by have := hth1 _ h1; omega, by simp⟩
      have hgo2 : ∀ q, q = wr.heap.size → ¬ All σ E q ∧ q < (wr.alloc (.cells #[.int .i64 o.what, .int .i64 o.block, .int .i64 o.fill] 55)).heap.size := fun q hq => by
        subst hq
        exact ⟨fun h1 => by have := hth2 _ h1; omega, by simp⟩
      have H6 := Lib.hid (H5.out.go hal)
      have HF6 : Hid (Fx (fun q => q = wr.heap.size) (wr.alloc (.cells #[.int .i64 o.what, .int .i64 o.block, .int .i64 o.fill] 55)) (wr.alloc (.cells #[.int .i64 o.what, .int .i64 o.block, .int .i64 o.fill] 55)) ρ D σ E) := Lib.hid ⟨Fix.refl hgo1, Fix.refl hgo2⟩
      have HC := Lib.hid hcop
      have HFK := Lib.hid hfk
      clear hgo1 hgo2 hth1 hth2 hal hcop hfk H5
      have hcase : lo = 0 ∨ lo = 1 ∨ lo = 2 ∨ lo = 3 ∨ lo = 4 ∨ lo = 5 ∨ lo = 6 ∨ lo = 7 ∨ lo = 8 ∨ lo = 9 ∨ lo = 10 ∨ lo = 11 ∨ lo = 12 ∨ lo = 13 ∨ lo = 14 ∨ lo = 15 := by omega
      rcases hcase with rfl | rfl | rfl | rfl | rfl | rfl | rfl | rfl | rfl | rfl | rfl | rfl | rfl | rfl | rfl | rfl
      · cases hq : inN s o.block with
        | true =>
          have hq2 : inN t o.block = true := (HSM.out.inN _).trans hq
          have hv2 := HSM.out.val o.block.toNat
          have HQ := Lib.hid (And.intro hq (And.intro hq2 hv2))
          clear hq hq2 hv2
          go_wp2_with fail
          generalize wr.alloc (.cells #[.int .i64 o.what, .int .i64 o.block, .int .i64 o.fill] 55) = W2 at *
          generalize wr.heap.size = go at *
          refine (l_read_yes H6.out.one o.block HQ.out.1 (by omega) _ rfl).mono ?_
          rintro e w5 ⟨u, rfl, ρ5, D5, g5, hu⟩
          have H7 := Lib.hid (H6.out.left g5)
          have HF7 := Lib.hid (HF6.out.left g5)
          have HU := Lib.hid hu
          have q1 := (HC.out.fix HF7.out.one rfl).c1
          have hth := H6.out.two.own.there
          have hsz := g5.ext.size
          clear g5 hu
          go_wp2_with fail
          refine (l_read_yes H7.out.two o.block HQ.out.2.1 (by omega) _ HQ.out.2.2).mono ?_
          rintro e w6 ⟨u2, rfl, σ6, E6, g6, hu2⟩
          have H8 := Lib.hid (H7.out.right g6)
          have HU2 := Lib.hid (HU.out.keep (w' := w6) (fun q _ hq _ => g6.ext.block q hq.2.1 (fun h => by have := hth q h; have := hq.1; omega)))
          have HV2 := Lib.hid hu2
          have hl1 := readI_load s o.block
          have hl2 := readI_load t o.block
          have HSM2 := Lib.hid (HSM.out.read o.block)
          clear g6 hu2 hth q1
          go_wp2_with fail
          refine (Same_blk _ _ _ _ _ w6 HU2.out HV2.out).mono ?_
          rintro e wq ⟨rfl, nd, rfl⟩
          have H9 := Lib.hid (H8.out.go (below_drewN (Below.refl _ _) nd))
          clear HU HU2 HV2 H7 HF7 H8
          go_wp2_with fail
          go_roundw
          case rel => exact ⟨k + 1, ρ5, D5, _, σ6, E6, _, by omega, by omega, by go_num, H9.out, HSM2.out, by omega, by omega⟩
          case measure => simp [RowKit.intOf]; omega
        | false =>
          have hq2 : inN t o.block = false := (HSM.out.inN _).trans hq
          have HQ := Lib.hid (And.intro hq hq2)
          clear hq hq2
          go_wp2_with fail
          generalize wr.alloc (.cells #[.int .i64 o.what, .int .i64 o.block, .int .i64 o.fill] 55) = W2 at *
          generalize wr.heap.size = go at *
          refine (l_read_no H6.out.one o.block HQ.out.1).mono ?_
          rintro e w5 ⟨rfl, rfl⟩
          have q1 := HC.out.c1
          go_wp2_with fail
          refine (l_read_no H6.out.two o.block HQ.out.2).mono ?_
          rintro e w6 ⟨rfl, rfl⟩
          clear q1
          go_wp2_with fail
          refine (same_nil W2).mono ?_
          rintro e wq ⟨rfl, nd, rfl⟩
          have H9 := Lib.hid (H6.out.go (below_drewN (Below.refl _ _) nd))
          go_wp2_with fail
          go_roundw
          case rel => exact ⟨k + 1, ρ, D, s, σ, E, t, by omega, by omega, by go_num, H9.out, HSM.out, by omega, by omega⟩
          case measure => simp [RowKit.intOf]; omega
      · cases hq : inN s o.block with
        | true =>
          have hq2 : inN t o.block = true := (HSM.out.inN _).trans hq
          have hv2 := HSM.out.val o.block.toNat
          have HQ := Lib.hid (And.intro hq (And.intro hq2 hv2))
          clear hq hq2 hv2
          go_wp2_with fail
          generalize wr.alloc (.cells #[.int .i64 o.what, .int .i64 o.block, .int .i64 o.fill] 55) = W2 at *
          generalize wr.heap.size = go at *
          refine (l_read_yes H6.out.one o.block HQ.out.1 (by omega) _ rfl).mono ?_
          rintro e w5 ⟨u, rfl, ρ5, D5, g5, hu⟩
          have H7 := Lib.hid (H6.out.left g5)
          have HF7 := Lib.hid (HF6.out.left g5)
          have HU := Lib.hid hu
          have q1 := (HC.out.fix HF7.out.one rfl).c1
          have hth := H6.out.two.own.there
          have hsz := g5.ext.size
          clear g5 hu
          go_wp2_with fail
          refine (l_read_yes H7.out.two o.block HQ.out.2.1 (by omega) _ HQ.out.2.2).mono ?_
          rintro e w6 ⟨u2, rfl, σ6, E6, g6, hu2⟩
          have H8 := Lib.hid (H7.out.right g6)
          have HU2 := Lib.hid (HU.out.keep (w' := w6) (fun q _ hq _ => g6.ext.block q hq.2.1 (fun h => by have := hth q h; have := hq.1; omega)))
          have HV2 := Lib.hid hu2
          have hl1 := readI_load s o.block
          have hl2 := readI_load t o.block
          have HSM2 := Lib.hid (HSM.out.read o.block)
          clear g6 hu2 hth q1
          go_wp2_with fail
          refine (Same_blk _ _ _ _ _ w6 HU2.out HV2.out).mono ?_
          rintro e wq ⟨rfl, nd, rfl⟩
          have H9 := Lib.hid (H8.out.go (below_drewN (Below.refl _ _) nd))
          clear HU HU2 HV2 H7 HF7 H8
          go_wp2_with fail
          go_roundw
          case rel => exact ⟨k + 1, ρ5, D5, _, σ6, E6, _, by omega, by omega, by go_num, H9.out, HSM2.out, by omega, by omega⟩
          case measure => simp [RowKit.intOf]; omega
        | false =>
          have hq2 : inN t o.block = false := (HSM.out.inN _).trans hq
          have HQ := Lib.hid (And.intro hq hq2)
          clear hq hq2
          go_wp2_with fail
          generalize wr.alloc (.cells #[.int .i64 o.what, .int .i64 o.block, .int .i64 o.fill] 55) = W2 at *
          generalize wr.heap.size = go at *
          refine (l_read_no H6.out.one o.block HQ.out.1).mono ?_
          rintro e w5 ⟨rfl, rfl⟩
          have q1 := HC.out.c1
          go_wp2_with fail
          refine (l_read_no H6.out.two o.block HQ.out.2).mono ?_
          rintro e w6 ⟨rfl, rfl⟩
          clear q1
          go_wp2_with fail
          refine (same_nil W2).mono ?_
          rintro e wq ⟨rfl, nd, rfl⟩
          have H9 := Lib.hid (H6.out.go (below_drewN (Below.refl _ _) nd))
          go_wp2_with fail
          go_roundw
          case rel => exact ⟨k + 1, ρ, D, s, σ, E, t, by omega, by omega, by go_num, H9.out, HSM.out, by omega, by omega⟩
          case measure => simp [RowKit.intOf]; omega
      · cases hq : inN s o.block with
        | true =>
          have hq2 : inN t o.block = true := (HSM.out.inN _).trans hq
          have hv2 := HSM.out.val o.block.toNat
          have HQ := Lib.hid (And.intro hq (And.intro hq2 hv2))
          clear hq hq2 hv2
          go_wp2_with fail
          generalize wr.alloc (.cells #[.int .i64 o.what, .int .i64 o.block, .int .i64 o.fill] 55) = W2 at *
          generalize wr.heap.size = go at *
          refine (l_read_yes H6.out.one o.block HQ.out.1 (by omega) _ rfl).mono ?_
          rintro e w5 ⟨u, rfl, ρ5, D5, g5, hu⟩
          have H7 := Lib.hid (H6.out.left g5)
          have HF7 := Lib.hid (HF6.out.left g5)
          have HU := Lib.hid hu
          have q1 := (HC.out.fix HF7.out.one rfl).c1
          have hth := H6.out.two.own.there
          have hsz := g5.ext.size
          clear g5 hu
          go_wp2_with fail
          refine (l_read_yes H7.out.two o.block HQ.out.2.1 (by omega) _ HQ.out.2.2).mono ?_
          rintro e w6 ⟨u2, rfl, σ6, E6, g6, hu2⟩
          have H8 := Lib.hid (H7.out.right g6)
          have HU2 := Lib.hid (HU.out.keep (w' := w6) (fun q _ hq _ => g6.ext.block q hq.2.1 (fun h => by have := hth q h; have := hq.1; omega)))
          have HV2 := Lib.hid hu2
          have hl1 := readI_load s o.block
          have hl2 := readI_load t o.block
          have HSM2 := Lib.hid (HSM.out.read o.block)
          clear g6 hu2 hth q1
          go_wp2_with fail
          refine (Same_blk _ _ _ _ _ w6 HU2.out HV2.out).mono ?_
          rintro e wq ⟨rfl, nd, rfl⟩
          have H9 := Lib.hid (H8.out.go (below_drewN (Below.refl _ _) nd))
          clear HU HU2 HV2 H7 HF7 H8
          go_wp2_with fail
          go_roundw
          case rel => exact ⟨k + 1, ρ5, D5, _, σ6, E6, _, by omega, by omega, by go_num, H9.out, HSM2.out, by omega, by omega⟩
          case measure => simp [RowKit.intOf]; omega
        | false =>
          have hq2 : inN t o.block = false := (HSM.out.inN _).trans hq
          have HQ := Lib.hid (And.intro hq hq2)
          clear hq hq2
          go_wp2_with fail
          generalize wr.alloc (.cells #[.int .i64 o.what, .int .i64 o.block, .int .i64 o.fill] 55) = W2 at *
          generalize wr.heap.size = go at *
          refine (l_read_no H6.out.one o.block HQ.out.1).mono ?_
          rintro e w5 ⟨rfl, rfl⟩
          have q1 := HC.out.c1
          go_wp2_with fail
          refine (l_read_no H6.out.two o.block HQ.out.2).mono ?_
          rintro e w6 ⟨rfl, rfl⟩
          clear q1
          go_wp2_with fail
          refine (same_nil W2).mono ?_
          rintro e wq ⟨rfl, nd, rfl⟩
          have H9 := Lib.hid (H6.out.go (below_drewN (Below.refl _ _) nd))
          go_wp2_with fail
          go_roundw
          case rel => exact ⟨k + 1, ρ, D, s, σ, E, t, by omega, by omega, by go_num, H9.out, HSM.out, by omega, by omega⟩
          case measure => simp [RowKit.intOf]; omega
      · cases hq : inN s o.block with
        | true =>
          have hq2 : inN t o.block = true := (HSM.out.inN _).trans hq
          have hv2 := HSM.out.val o.block.toNat
          have HQ := Lib.hid (And.intro hq (And.intro hq2 hv2))
          clear hq hq2 hv2
          go_wp2_with fail
          generalize wr.alloc (.cells #[.int .i64 o.what, .int .i64 o.block, .int .i64 o.fill] 55) = W2 at *
          generalize wr.heap.size = go at *
          refine (l_read_yes H6.out.one o.block HQ.out.1 (by omega) _ rfl).mono ?_
          rintro e w5 ⟨u, rfl, ρ5, D5, g5, hu⟩
          have H7 := Lib.hid (H6.out.left g5)
          have HF7 := Lib.hid (HF6.out.left g5)
          have HU := Lib.hid hu
          have q1 := (HC.out.fix HF7.out.one rfl).c1
          have hth := H6.out.two.own.there
          have hsz := g5.ext.size
          clear g5 hu
          go_wp2_with fail
          refine (l_read_yes H7.out.two o.block HQ.out.2.1 (by omega) _ HQ.out.2.2).mono ?_
          rintro e w6 ⟨u2, rfl, σ6, E6, g6, hu2⟩
          have H8 := Lib.hid (H7.out.right g6)
          have HU2 := Lib.hid (HU.out.keep (w' := w6) (fun q _ hq _ => g6.ext.block q hq.2.1 (fun h => by have := hth q h; have := hq.1; omega)))
          have HV2 := Lib.hid hu2
          have hl1 := readI_load s o.block
          have hl2 := readI_load t o.block
          have HSM2 := Lib.hid (HSM.out.read o.block)
          clear g6 hu2 hth q1
          go_wp2_with fail
          refine (Same_blk _ _ _ _ _ w6 HU2.out HV2.out).mono ?_
          rintro e wq ⟨rfl, nd, rfl⟩
          have H9 := Lib.hid (H8.out.go (below_drewN (Below.refl _ _) nd))
          clear HU HU2 HV2 H7 HF7 H8
          go_wp2_with fail
          go_roundw
          case rel => exact ⟨k + 1, ρ5, D5, _, σ6, E6, _, by omega, by omega, by go_num, H9.out, HSM2.out, by omega, by omega⟩
          case measure => simp [RowKit.intOf]; omega
        | false =>
          have hq2 : inN t o.block = false := (HSM.out.inN _).trans hq
          have HQ := Lib.hid (And.intro hq hq2)
          clear hq hq2
          go_wp2_with fail
          generalize wr.alloc (.cells #[.int .i64 o.what, .int .i64 o.block, .int .i64 o.fill] 55) = W2 at *
          generalize wr.heap.size = go at *
          refine (l_read_no H6.out.one o.block HQ.out.1).mono ?_
          rintro e w5 ⟨rfl, rfl⟩
          have q1 := HC.out.c1
          go_wp2_with fail
          refine (l_read_no H6.out.two o.block HQ.out.2).mono ?_
          rintro e w6 ⟨rfl, rfl⟩
          clear q1
          go_wp2_with fail
          refine (same_nil W2).mono ?_
          rintro e wq ⟨rfl, nd, rfl⟩
          have H9 := Lib.hid (H6.out.go (below_drewN (Below.refl _ _) nd))
          go_wp2_with fail
          go_roundw
          case rel => exact ⟨k + 1, ρ, D, s, σ, E, t, by omega, by omega, by go_num, H9.out, HSM.out, by omega, by omega⟩
          case measure => simp [RowKit.intOf]; omega
      · go_wp2_with fail
        generalize wr.alloc (.cells #[.int .i64 o.what, .int .i64 o.block, .int .i64 o.fill] 55) = W2 at *
        generalize wr.heap.size = go at *
        have H6d := Lib.hid (H6.out.go (below_drewN (Below.refl _ _) 1))
        have HF6d := Lib.hid (HF6.out.below (below_drewN (Below.refl _ _) 1))
        have r1 := HC.out.c1
        have r2 := HC.out.c2
        go_region_held3 (fun w' => w'.cell? ⟨go, 1, none⟩ = some (.int .i64 o.block) ∧ w'.cell? ⟨go, 2, none⟩ = some (.int .i64 o.fill)) (go_keep)
          ((first
            | (go_at_call 13; refine (filled_at o.fill _).mono ?_; rintro e w5 ⟨gw5, rfl, hv, hg1, hg2, hb5⟩
               have HMw5 := Lib.hid (live_not H6d.out.one hg1)
               have HVw5 := Lib.hid hv
               have HXw5 := Lib.hid (H6d.out.go hb5)
               have HYw5 := Lib.hid (HF6d.out.below hb5)
               have t1 := (HC.out.fix HYw5.out.one rfl).c1
               have t2 := (HC.out.fix HYw5.out.one rfl).c2
               clear hv hb5 hg1)
            | (go_at_call 12; refine (l_writeI HXw5.out.one o.block gw5 _ HVw5.out HMw5.out hg2 (by omega)).mono ?_; rintro e w6 ⟨vw6, rfl, ρ6, D6, hgo6⟩
               have H7 := Lib.hid (HXw5.out.left hgo6)
               have HF7 := Lib.hid (HYw5.out.left hgo6)
               have s1 := (HC.out.fix HF7.out.one rfl).c1
               have s2 := (HC.out.fix HF7.out.one rfl).c2
               clear hgo6 hg2 HXw5 HYw5 HVw5 HMw5)))
        all_goals
          clear H6d HF6d
          have H7d := Lib.hid (H7.out.go (below_drewN (Below.refl _ _) 1))
          have HF7d := Lib.hid (HF7.out.below (below_drewN (Below.refl _ _) 1))
          go_wp2_with fail
          go_region_held3 (fun w' => w'.cell? ⟨go, 1, none⟩ = some (.int .i64 o.block) ∧ w'.cell? ⟨go, 2, none⟩ = some (.int .i64 o.fill)) (go_keep)
            ((first
              | (go_at_call 13; refine (filled_at o.fill _).mono ?_; rintro e w7 ⟨gw7, rfl, hv, hg1, hg2, hb5⟩
                 have HMw7 := Lib.hid (live_not H7d.out.two hg1)
                 have HVw7 := Lib.hid hv
                 have HXw7 := Lib.hid (H7d.out.go hb5)
                 have HYw7 := Lib.hid (HF7d.out.below hb5)
                 have t1 := (HC.out.fix HYw7.out.one rfl).c1
                 have t2 := (HC.out.fix HYw7.out.one rfl).c2
                 clear hv hb5 hg1)
              | (go_at_call 12; refine (l_writeI HXw7.out.two o.block gw7 _ HVw7.out HMw7.out hg2 (by omega)).mono ?_; rintro e w8 ⟨vw8, rfl, σ8, E8, hgo6⟩
                 have H8 := Lib.hid (HXw7.out.right hgo6)
                 have HF8 := Lib.hid (HYw7.out.right hgo6)
                 have s1 := (HC.out.fix HF8.out.one rfl).c1
                 have s2 := (HC.out.fix HF8.out.one rfl).c2
                 clear hgo6 hg2 HXw7 HYw7 HVw7 HMw7)))
          all_goals
            have hl1 := writeI_load s o.block (full (octet o.fill))
            have hl2 := writeI_load t o.block (full (octet o.fill))
            have HSM2 := Lib.hid (HSM.out.write o.block (full (octet o.fill)))
            go_wp2_with fail
            go_roundw
            case rel => exact ⟨k + 1, ρ6, D6, _, σ8, E8, _, by omega, by omega, by go_num, H8.out, HSM2.out, by omega, by omega⟩
            case measure => simp [RowKit.intOf]; omega
      · go_wp2_with fail
        generalize wr.alloc (.cells #[.int .i64 o.what, .int .i64 o.block, .int .i64 o.fill] 55) = W2 at *
        generalize wr.heap.size = go at *
        have H6d := Lib.hid (H6.out.go (below_drewN (Below.refl _ _) 1))
        have HF6d := Lib.hid (HF6.out.below (below_drewN (Below.refl _ _) 1))
        have r1 := HC.out.c1
        have r2 := HC.out.c2
        go_region_held3 (fun w' => w'.cell? ⟨go, 1, none⟩ = some (.int .i64 o.block) ∧ w'.cell? ⟨go, 2, none⟩ = some (.int .i64 o.fill)) (go_keep)
          ((first
            | (go_at_call 13; refine (filled_at o.fill _).mono ?_; rintro e w5 ⟨gw5, rfl, hv, hg1, hg2, hb5⟩
               have HMw5 := Lib.hid (live_not H6d.out.one hg1)
               have HVw5 := Lib.hid hv
               have HXw5 := Lib.hid (H6d.out.go hb5)
               have HYw5 := Lib.hid (HF6d.out.below hb5)
               have t1 := (HC.out.fix HYw5.out.one rfl).c1
               have t2 := (HC.out.fix HYw5.out.one rfl).c2
               clear hv hb5 hg1)
            | (go_at_call 12; refine (l_writeI HXw5.out.one o.block gw5 _ HVw5.out HMw5.out hg2 (by omega)).mono ?_; rintro e w6 ⟨vw6, rfl, ρ6, D6, hgo6⟩
               have H7 := Lib.hid (HXw5.out.left hgo6)
               have HF7 := Lib.hid (HYw5.out.left hgo6)
               have s1 := (HC.out.fix HF7.out.one rfl).c1
               have s2 := (HC.out.fix HF7.out.one rfl).c2
               clear hgo6 hg2 HXw5 HYw5 HVw5 HMw5)))
        all_goals
          clear H6d HF6d
          have H7d := Lib.hid (H7.out.go (below_drewN (Below.refl _ _) 1))
          have HF7d := Lib.hid (HF7.out.below (below_drewN (Below.refl _ _) 1))
          go_wp2_with fail
          go_region_held3 (fun w' => w'.cell? ⟨go, 1, none⟩ = some (.int .i64 o.block) ∧ w'.cell? ⟨go, 2, none⟩ = some (.int .i64 o.fill)) (go_keep)
            ((first
              | (go_at_call 13; refine (filled_at o.fill _).mono ?_; rintro e w7 ⟨gw7, rfl, hv, hg1, hg2, hb5⟩
                 have HMw7 := Lib.hid (live_not H7d.out.two hg1)
                 have HVw7 := Lib.hid hv
                 have HXw7 := Lib.hid (H7d.out.go hb5)
                 have HYw7 := Lib.hid (HF7d.out.below hb5)
                 have t1 := (HC.out.fix HYw7.out.one rfl).c1
                 have t2 := (HC.out.fix HYw7.out.one rfl).c2
                 clear hv hb5 hg1)
              | (go_at_call 12; refine (l_writeI HXw7.out.two o.block gw7 _ HVw7.out HMw7.out hg2 (by omega)).mono ?_; rintro e w8 ⟨vw8, rfl, σ8, E8, hgo6⟩
                 have H8 := Lib.hid (HXw7.out.right hgo6)
                 have HF8 := Lib.hid (HYw7.out.right hgo6)
                 have s1 := (HC.out.fix HF8.out.one rfl).c1
                 have s2 := (HC.out.fix HF8.out.one rfl).c2
                 clear hgo6 hg2 HXw7 HYw7 HVw7 HMw7)))
          all_goals
            have hl1 := writeI_load s o.block (full (octet o.fill))
            have hl2 := writeI_load t o.block (full (octet o.fill))
            have HSM2 := Lib.hid (HSM.out.write o.block (full (octet o.fill)))
            go_wp2_with fail
            go_roundw
            case rel => exact ⟨k + 1, ρ6, D6, _, σ8, E8, _, by omega, by omega, by go_num, H8.out, HSM2.out, by omega, by omega⟩
            case measure => simp [RowKit.intOf]; omega
      · go_wp2_with fail
        generalize wr.alloc (.cells #[.int .i64 o.what, .int .i64 o.block, .int .i64 o.fill] 55) = W2 at *
        generalize wr.heap.size = go at *
        have H6d := Lib.hid (H6.out.go (below_drewN (Below.refl _ _) 1))
        have HF6d := Lib.hid (HF6.out.below (below_drewN (Below.refl _ _) 1))
        have r1 := HC.out.c1
        have r2 := HC.out.c2
        go_region_held3 (fun w' => w'.cell? ⟨go, 1, none⟩ = some (.int .i64 o.block) ∧ w'.cell? ⟨go, 2, none⟩ = some (.int .i64 o.fill)) (go_keep)
          ((first
            | (go_at_call 13; refine (filled_at o.fill _).mono ?_; rintro e w5 ⟨gw5, rfl, hv, hg1, hg2, hb5⟩
               have HMw5 := Lib.hid (live_not H6d.out.one hg1)
               have HVw5 := Lib.hid hv
               have HXw5 := Lib.hid (H6d.out.go hb5)
               have HYw5 := Lib.hid (HF6d.out.below hb5)
               have t1 := (HC.out.fix HYw5.out.one rfl).c1
               have t2 := (HC.out.fix HYw5.out.one rfl).c2
               clear hv hb5 hg1)
            | (go_at_call 12; refine (l_writeI HXw5.out.one o.block gw5 _ HVw5.out HMw5.out hg2 (by omega)).mono ?_; rintro e w6 ⟨vw6, rfl, ρ6, D6, hgo6⟩
               have H7 := Lib.hid (HXw5.out.left hgo6)
               have HF7 := Lib.hid (HYw5.out.left hgo6)
               have s1 := (HC.out.fix HF7.out.one rfl).c1
               have s2 := (HC.out.fix HF7.out.one rfl).c2
               clear hgo6 hg2 HXw5 HYw5 HVw5 HMw5)))
        all_goals
          clear H6d HF6d
          have H7d := Lib.hid (H7.out.go (below_drewN (Below.refl _ _) 1))
          have HF7d := Lib.hid (HF7.out.below (below_drewN (Below.refl _ _) 1))
          go_wp2_with fail
          go_region_held3 (fun w' => w'.cell? ⟨go, 1, none⟩ = some (.int .i64 o.block) ∧ w'.cell? ⟨go, 2, none⟩ = some (.int .i64 o.fill)) (go_keep)
            ((first
              | (go_at_call 13; refine (filled_at o.fill _).mono ?_; rintro e w7 ⟨gw7, rfl, hv, hg1, hg2, hb5⟩
                 have HMw7 := Lib.hid (live_not H7d.out.two hg1)
                 have HVw7 := Lib.hid hv
                 have HXw7 := Lib.hid (H7d.out.go hb5)
                 have HYw7 := Lib.hid (HF7d.out.below hb5)
                 have t1 := (HC.out.fix HYw7.out.one rfl).c1
                 have t2 := (HC.out.fix HYw7.out.one rfl).c2
                 clear hv hb5 hg1)
              | (go_at_call 12; refine (l_writeI HXw7.out.two o.block gw7 _ HVw7.out HMw7.out hg2 (by omega)).mono ?_; rintro e w8 ⟨vw8, rfl, σ8, E8, hgo6⟩
                 have H8 := Lib.hid (HXw7.out.right hgo6)
                 have HF8 := Lib.hid (HYw7.out.right hgo6)
                 have s1 := (HC.out.fix HF8.out.one rfl).c1
                 have s2 := (HC.out.fix HF8.out.one rfl).c2
                 clear hgo6 hg2 HXw7 HYw7 HVw7 HMw7)))
          all_goals
            have hl1 := writeI_load s o.block (full (octet o.fill))
            have hl2 := writeI_load t o.block (full (octet o.fill))
            have HSM2 := Lib.hid (HSM.out.write o.block (full (octet o.fill)))
            go_wp2_with fail
            go_roundw
            case rel => exact ⟨k + 1, ρ6, D6, _, σ8, E8, _, by omega, by omega, by go_num, H8.out, HSM2.out, by omega, by omega⟩
            case measure => simp [RowKit.intOf]; omega
      · go_wp2_with fail
        generalize wr.alloc (.cells #[.int .i64 o.what, .int .i64 o.block, .int .i64 o.fill] 55) = W2 at *
        generalize wr.heap.size = go at *
        have H6d := Lib.hid (H6.out.go (below_drewN (Below.refl _ _) 1))
        have HF6d := Lib.hid (HF6.out.below (below_drewN (Below.refl _ _) 1))
        have r1 := HC.out.c1
        have r2 := HC.out.c2
        go_region_held3 (fun w' => w'.cell? ⟨go, 1, none⟩ = some (.int .i64 o.block) ∧ w'.cell? ⟨go, 2, none⟩ = some (.int .i64 o.fill)) (go_keep)
          ((first
            | (go_at_call 13; refine (filled_at o.fill _).mono ?_; rintro e w5 ⟨gw5, rfl, hv, hg1, hg2, hb5⟩
               have HMw5 := Lib.hid (live_not H6d.out.one hg1)
               have HVw5 := Lib.hid hv
               have HXw5 := Lib.hid (H6d.out.go hb5)
               have HYw5 := Lib.hid (HF6d.out.below hb5)
               have t1 := (HC.out.fix HYw5.out.one rfl).c1
               have t2 := (HC.out.fix HYw5.out.one rfl).c2
               clear hv hb5 hg1)
            | (go_at_call 12; refine (l_writeI HXw5.out.one o.block gw5 _ HVw5.out HMw5.out hg2 (by omega)).mono ?_; rintro e w6 ⟨vw6, rfl, ρ6, D6, hgo6⟩
               have H7 := Lib.hid (HXw5.out.left hgo6)
               have HF7 := Lib.hid (HYw5.out.left hgo6)
               have s1 := (HC.out.fix HF7.out.one rfl).c1
               have s2 := (HC.out.fix HF7.out.one rfl).c2
               clear hgo6 hg2 HXw5 HYw5 HVw5 HMw5)))
        all_goals
          clear H6d HF6d
          have H7d := Lib.hid (H7.out.go (below_drewN (Below.refl _ _) 1))
          have HF7d := Lib.hid (HF7.out.below (below_drewN (Below.refl _ _) 1))
          go_wp2_with fail
          go_region_held3 (fun w' => w'.cell? ⟨go, 1, none⟩ = some (.int .i64 o.block) ∧ w'.cell? ⟨go, 2, none⟩ = some (.int .i64 o.fill)) (go_keep)
            ((first
              | (go_at_call 13; refine (filled_at o.fill _).mono ?_; rintro e w7 ⟨gw7, rfl, hv, hg1, hg2, hb5⟩
                 have HMw7 := Lib.hid (live_not H7d.out.two hg1)
                 have HVw7 := Lib.hid hv
                 have HXw7 := Lib.hid (H7d.out.go hb5)
                 have HYw7 := Lib.hid (HF7d.out.below hb5)
                 have t1 := (HC.out.fix HYw7.out.one rfl).c1
                 have t2 := (HC.out.fix HYw7.out.one rfl).c2
                 clear hv hb5 hg1)
              | (go_at_call 12; refine (l_writeI HXw7.out.two o.block gw7 _ HVw7.out HMw7.out hg2 (by omega)).mono ?_; rintro e w8 ⟨vw8, rfl, σ8, E8, hgo6⟩
                 have H8 := Lib.hid (HXw7.out.right hgo6)
                 have HF8 := Lib.hid (HYw7.out.right hgo6)
                 have s1 := (HC.out.fix HF8.out.one rfl).c1
                 have s2 := (HC.out.fix HF8.out.one rfl).c2
                 clear hgo6 hg2 HXw7 HYw7 HVw7 HMw7)))
          all_goals
            have hl1 := writeI_load s o.block (full (octet o.fill))
            have hl2 := writeI_load t o.block (full (octet o.fill))
            have HSM2 := Lib.hid (HSM.out.write o.block (full (octet o.fill)))
            go_wp2_with fail
            go_roundw
            case rel => exact ⟨k + 1, ρ6, D6, _, σ8, E8, _, by omega, by omega, by go_num, H8.out, HSM2.out, by omega, by omega⟩
            case measure => simp [RowKit.intOf]; omega
      · go_wp2_with fail
        go_roundw
        case rel => exact ⟨k + 1, ρ, D, s, σ, E, t, by omega, by omega, by go_num, H6.out, HSM.out, by omega, by omega⟩
        case measure => simp [RowKit.intOf]; omega
      · go_wp2_with fail
        generalize wr.alloc (.cells #[.int .i64 o.what, .int .i64 o.block, .int .i64 o.fill] 55) = W2 at *
        generalize wr.heap.size = go at *
        refine (l_back H6.out.one o.fill (by omega)).mono ?_
        rintro e w5 ⟨v5, rfl, ρ5, D5, g5⟩
        have H7 := Lib.hid (H6.out.left g5)
        have HF7 := Lib.hid (HF6.out.left g5)
        have q1 := (HC.out.fix HF7.out.one rfl).c1
        have q2 := (HC.out.fix HF7.out.one rfl).c2
        clear g5
        go_wp2_with fail
        refine (l_back H7.out.two o.fill (by omega)).mono ?_
        rintro e w6 ⟨v6, rfl, σ6, E6, g6⟩
        have H8 := Lib.hid (H7.out.right g6)
        have hl1 := backI_load s o.fill
        have hl2 := backI_load t o.fill
        have HSM2 := Lib.hid (HSM.out.back o.fill)
        clear g6 q1 q2
        go_wp2_with fail
        go_roundw
        case rel => exact ⟨k + 1, ρ5, D5, _, σ6, E6, _, by omega, by omega, by go_num, H8.out, HSM2.out, by omega, by omega⟩
        case measure => simp [RowKit.intOf]; omega
      · go_wp2_with fail
        generalize wr.alloc (.cells #[.int .i64 o.what, .int .i64 o.block, .int .i64 o.fill] 55) = W2 at *
        generalize wr.heap.size = go at *
        refine (l_back H6.out.one o.fill (by omega)).mono ?_
        rintro e w5 ⟨v5, rfl, ρ5, D5, g5⟩
        have H7 := Lib.hid (H6.out.left g5)
        have HF7 := Lib.hid (HF6.out.left g5)
        have q1 := (HC.out.fix HF7.out.one rfl).c1
        have q2 := (HC.out.fix HF7.out.one rfl).c2
        clear g5
        go_wp2_with fail
        refine (l_back H7.out.two o.fill (by omega)).mono ?_
        rintro e w6 ⟨v6, rfl, σ6, E6, g6⟩
        have H8 := Lib.hid (H7.out.right g6)
        have hl1 := backI_load s o.fill
        have hl2 := backI_load t o.fill
        have HSM2 := Lib.hid (HSM.out.back o.fill)
        clear g6 q1 q2
        go_wp2_with fail
        go_roundw
        case rel => exact ⟨k + 1, ρ5, D5, _, σ6, E6, _, by omega, by omega, by go_num, H8.out, HSM2.out, by omega, by omega⟩
        case measure => simp [RowKit.intOf]; omega
      · go_wp2_with fail
        generalize wr.alloc (.cells #[.int .i64 o.what, .int .i64 o.block, .int .i64 o.fill] 55) = W2 at *
        generalize wr.heap.size = go at *
        refine (Commit_own H6.out.one.own).mono ?_
        rintro e w5 ⟨v5, ys5, rfl, -, g5⟩
        have H7 := Lib.hid (H6.out.left g5)
        have HF7 := Lib.hid (HF6.out.left g5)
        have q1 := (HC.out.fix HF7.out.one rfl).c1
        have q2 := (HC.out.fix HF7.out.one rfl).c2
        clear g5
        go_wp2_with fail
        refine (Commit_own H7.out.two.own).mono ?_
        rintro e w6 ⟨v6, ys6, rfl, -, g6⟩
        have H8 := Lib.hid (H7.out.right g6)
        have hl1 := Sto.load_commit s
        have hl2 := Sto.load_commit t
        have HSM2 := Lib.hid (HSM.out.commit)
        clear g6 q1 q2
        go_wp2_with fail
        go_roundw
        case rel => exact ⟨k + 1, ρ, D, _, σ, E, _, by omega, by omega, by go_num, H8.out, HSM2.out, by omega, by omega⟩
        case measure => simp [RowKit.intOf]; omega
      · go_wp2_with fail
        go_roundw
        case rel => exact ⟨k + 1, ρ, D, s, σ, E, t, by omega, by omega, by go_num, H6.out, HSM.out, by omega, by omega⟩
        case measure => simp [RowKit.intOf]; omega
      · go_wp2_with fail
        generalize wr.alloc (.cells #[.int .i64 o.what, .int .i64 o.block, .int .i64 o.fill] 55) = W2 at *
        generalize wr.heap.size = go at *
        refine (l_homeI H6.out.one o.block HFK.out (by omega)).mono ?_
        rintro e w5 ⟨v5, rfl, ρ5, D5, g5⟩
        have H7 := Lib.hid (H6.out.left g5)
        have HF7 := Lib.hid (HF6.out.left g5)
        have q1 := (HC.out.fix HF7.out.one rfl).c1
        have q2 := (HC.out.fix HF7.out.one rfl).c2
        clear g5
        go_wp2_with fail
        refine (l_homeI H7.out.two o.block HFK.out (by omega)).mono ?_
        rintro e w6 ⟨v6, rfl, σ6, E6, g6⟩
        have H8 := Lib.hid (H7.out.right g6)
        have hl1 := homeI_load s o.block
        have hl2 := homeI_load t o.block
        have HSM2 := Lib.hid (HSM.out.home o.block)
        clear g6 q1 q2
        go_wp2_with fail
        go_roundw
        case rel => exact ⟨k + 1, ρ5, D5, _, σ6, E6, _, by omega, by omega, by go_num, H8.out, HSM2.out, by omega, by omega⟩
        case measure => simp [RowKit.intOf]; omega
      · go_wp2_with fail
        generalize wr.alloc (.cells #[.int .i64 o.what, .int .i64 o.block, .int .i64 o.fill] 55) = W2 at *
        generalize wr.heap.size = go at *
        refine (l_homeI H6.out.one o.block HFK.out (by omega)).mono ?_
        rintro e w5 ⟨v5, rfl, ρ5, D5, g5⟩
        have H7 := Lib.hid (H6.out.left g5)
        have HF7 := Lib.hid (HF6.out.left g5)
        have q1 := (HC.out.fix HF7.out.one rfl).c1
        have q2 := (HC.out.fix HF7.out.one rfl).c2
        clear g5
        go_wp2_with fail
        refine (l_homeI H7.out.two o.block HFK.out (by omega)).mono ?_
        rintro e w6 ⟨v6, rfl, σ6, E6, g6⟩
        have H8 := Lib.hid (H7.out.right g6)
        have hl1 := homeI_load s o.block
        have hl2 := homeI_load t o.block
        have HSM2 := Lib.hid (HSM.out.home o.block)
        clear g6 q1 q2
        go_wp2_with fail
        go_roundw
        case rel => exact ⟨k + 1, ρ5, D5, _, σ6, E6, _, by omega, by omega, by go_num, H8.out, HSM2.out, by omega, by omega⟩
        case measure => simp [RowKit.intOf]; omega
      · go_wp2_with fail
        go_roundw
        case rel => exact ⟨k + 1, ρ, D, s, σ, E, t, by omega, by omega, by go_num, H6.out, HSM.out, by omega, by omega⟩
        case measure => simp [RowKit.intOf]; omega
    · have hends : ((ops.length : Int) ≤ (k : Int)) ∨ ((k : Int) < (ops.length : Int) ∧ (1500 : Int) ≤ (k : Int)) := by omega
      clear hlt
      rcases hends with hd1 | ⟨hd1, hd2⟩
      all_goals
        go_wp2_with fail
        have hPl : s.d.P.length ≤ 1073741824 := by have h1 := H5.out.one.own.dd.count; have h2 : s.d.N ≤ s.load := by unfold Sto.load; omega
                                                   omega
        refine (l_pendP H5.out.one s.d.P rfl (by omega)).mono ?_
        rintro e w6 ⟨g6, rfl, hp6, hb6⟩
        have H6 := Lib.hid (H5.out.go hb6)
        have HP6 := Lib.hid hp6
        clear hp6 hb6
        go_wp2_with fail
        refine (l_pendP H6.out.two s.d.P (by rw [HSM.out.d]) (by omega)).mono ?_
        rintro e w7 ⟨g7, rfl, hp7, hb7⟩
        have H7 := Lib.hid (H6.out.go hb7)
        have HP7 := Lib.hid hp7
        have HP8 := Lib.hid (HP6.out.keep (w' := w7) (fun q hq => hb7.block q hq.2))
        clear hp7 hb7
        generalize s.d.P = P at *
        go_wp2_with fail
        refine (SameWrites_yes _ _ P _ _ _ _ w7 hPl HP8.out HP7.out).mono ?_
        rintro e w8 ⟨rfl, nd, rfl⟩
        have H8 := Lib.hid (H7.out.go (below_drewN (Below.refl _ _) nd))
        go_wp2_with fail
        go_ret
        exact ⟨rfl, HB0.out.trans (H8.out.one.below.mono HB0.out.size)⟩
end Go.Proofs.Ytphfidenjihgeaa.ELSees
