/- A journal that a law has made, with its store and its disk, all in new memory; the law's own blocks are S. Its calls, for the statements. -/
import Derived.Test.YtmlgchmladkfpaaGreatDoorMg40
import Derived.Test.YtmlgchmladkfpaaGreatDoorMg33
import Derived.Test.YtmlgchmladkfpaaGreatDoorMg42
import Derived.Test.YtmlgchmladkfpaaGreatDoorMg21
namespace Go.Proofs.YtmlgchmladkfpaaGreatDoor.NLive
open Go.RowKit WMem WPlain WAppend WCrc WSeal Ext Map DPlain DMem Mk DBase DRead DWrite DPending EPlain EMem EFace EWrite EHold ERead EWrites ECommit EAny EBack JPlain JMem NPlain NMem NFace NCred NStop NStep NRuns

structure JL (a : World) (S : Nat → Prop) (w0 w : World) (jb b db : Nat) (j : Jr) (s : Sto) : Prop where
  ex : ∃ (ρ : Ro) (D K : Nat → Prop) (ml mc : Nat), JO w ρ D K jb ml mc b db j s ∧ ∀ q, JAll ρ D K jb ml mc q → a.heap.size ≤ q ∧ ¬ S q
  below : Below a.heap.size a w
  same : ∀ q, S q → w.heap[q]? = w0.heap[q]?
  there : ∀ q, S q → q < w.heap.size
section
variable {a w0 w w' : World} {S : Nat → Prop} {jb b db : Nat} {j j' : Jr} {s s' : Sto}
theorem JL.of_go {ρ ρ' : Ro} {D D' K K' : Nat → Prop} {ml mc : Nat} (h : JL a S w0 w jb b db j s) (hA : ∀ q, JAll ρ D K jb ml mc q → a.heap.size ≤ q ∧ ¬ S q) (g : JGo w w' ρ D K ρ' D' K' jb ml mc b db j' s') : JL a S w0 w' jb b db j' s' :=
  ⟨⟨_, _, _, _, _, g.own, fun q hq => by
    rcases g.new q hq with h1 | h1
    · exact hA q h1
    · exact ⟨Nat.le_trans h.below.size h1, fun hS => by have := h.there q hS; omega⟩⟩, h.below.trans (g.ext.below h.below.size (fun q hq => (hA q hq).1)),
    fun q hq => (g.ext.block q (h.there q hq) (fun hj => (hA q hj).2 hq)).trans (h.same q hq), fun q hq => Nat.lt_of_lt_of_le (h.there q hq) g.ext.size⟩
theorem JL.go (h : JL a S w0 w jb b db j s) (hb : Below w.heap.size w w') : JL a S w0 w' jb b db j s := by
  obtain ⟨ρ, D, K, ml, mc, hO, hA⟩ := h.ex
  exact h.of_go hA ((JGo.refl hO).below hb)
theorem JL.drewN (h : JL a S w0 w jb b db j s) (n : Nat) : JL a S w0 (w.drewN n) jb b db j s := h.go (below_drewN (Below.refl _ _) n)
/-- more blocks of the law's own: all that is new -/
theorem JL.also (h : JL a S w0 w jb b db j s) (hb : Below w.heap.size w w') : JL a (fun q => S q ∨ (w.heap.size ≤ q ∧ q < w'.heap.size)) w' w' jb b db j s := by
  obtain ⟨ρ, D, K, ml, mc, hO, hA⟩ := h.ex
  have hO2 := hO.below hb
  refine ⟨⟨ρ, D, K, ml, mc, hO2, fun q hq => ⟨(hA q hq).1, fun hS => ?_⟩⟩, (h.go hb).below, fun _ _ => rfl, fun q hS => ?_⟩
  · rcases hS with hS | hS
    · exact (hA q hq).2 hS
    · have := hO.there q hq; omega
  · rcases hS with hS | hS
    · exact Nat.lt_of_lt_of_le (h.there q hS) hb.size
    · exact hS.2
theorem JL.less {S' : Nat → Prop} (h : JL a S w0 w jb b db j s) (hS : ∀ q, S' q → S q) : JL a S' w0 w jb b db j s := by
  obtain ⟨ρ, D, K, ml, mc, hO, hA⟩ := h.ex
  exact ⟨⟨ρ, D, K, ml, mc, hO, fun q hq => ⟨(hA q hq).1, fun h2 => (hA q hq).2 (hS q h2)⟩⟩, h.below, fun q hq => h.same q (hS q hq), fun q hq => h.there q (hS q hq)⟩
theorem JL.rebase (h : JL a S w0 w jb b db j s) : JL a S w w jb b db j s := ⟨h.ex, h.below, fun _ _ => rfl, h.there⟩
/-- the law turns blocks of its own -/
theorem JL.turn (h : JL a S w0 w jb b db j s) (he : Ext S w w') (hS : ∀ q, S q → a.heap.size ≤ q) : JL a S w' w' jb b db j s := by
  obtain ⟨ρ, D, K, ml, mc, hO, hA⟩ := h.ex
  exact ⟨⟨ρ, D, K, ml, mc, hO.keep (fun q hq => he.block q (hO.there q hq) (hA q hq).2) he.size, hA⟩, h.below.trans (he.below h.below.size hS), fun _ _ => rfl, fun q hq => Nat.lt_of_lt_of_le (h.there q hq) he.size⟩
theorem JL.cell (h : JL a S w0 w jb b db j s) (p : Addr) (hp : S p.block) : w.cell? p = w0.cell? p := World.cell?_of_block (h.same _ hp)
theorem JL.wf (h : JL a S w0 w jb b db j s) : s.Wf := by
  obtain ⟨ρ, D, K, ml, mc, hO, hA⟩ := h.ex
  exact hO.own.wf
theorem JL.dwf (h : JL a S w0 w jb b db j s) : s.d.Wf := by
  obtain ⟨ρ, D, K, ml, mc, hO, hA⟩ := h.ex
  obtain ⟨_, _, _, _, _, _, _, _, hx, _⟩ := hO.own.dd
  exact hx.wf
theorem JL.tab (h : JL a S w0 w jb b db j s) (hT : Tab a) : Tab w := Tab.below hT h.below (Tab.lt hT)
/-- the same journal, said otherwise -/
theorem JL.is (h : JL a S w0 w jb b db j s) (e1 : j' = j) (e2 : s' = s) : JL a S w0 w jb b db j' s' := by subst e1; subst e2; exact h
theorem l_step (h : JL a S w0 w jb b db j s) (hT : Tab a) (hok : StepOk j s) {j1 : Jr} {s1 : Sto} (he : NPlain.step j s = (0, j1, s1)) :
    Calls Tryz.prog 21 #[.pointer (some ⟨jb, 0, none⟩)] w fun e w' => e = .returned (.int .i64 0) ∧ JL a S w0 w' jb b db j1 s1 := by
  obtain ⟨ρ, D, K, ml, mc, hO, hA⟩ := h.ex
  have hg : ¬ JAll ρ D K jb ml mc 0 := fun hq => by have := (hA _ hq).1; have := Tab.lt hT; omega
  rcases hok.next with ⟨hl, hn⟩ | ⟨hl, g1, g2, g3, g4, g5, g6, g7, g8⟩
  · obtain ⟨t, r, hl2⟩ := List.exists_cons_of_ne_nil hl
    refine (Step_go hO (h.tab hT) hg hok.hand hok.may t r hl2 hn).mono ?_
    rintro e w' ⟨rfl, ρ', D', K', hgo⟩
    have e2 : next j s = (j1, s1) := by
      unfold NPlain.step at he
      rw [if_pos hok.may, hl2] at he
      exact (Prod.mk.inj he).2
    rw [e2] at hgo
    exact ⟨rfl, h.of_go hA hgo⟩
  · refine (Step_begin hO (h.tab hT) hg hok.hand hok.may hl g1 g2 g3 g4 g5 g6 (fun _ => g8)).mono ?_
    rintro e w' ⟨rfl, ρ', D', K', hgo⟩
    rw [he] at hgo ⊢
    exact ⟨rfl, h.of_go hA hgo⟩
theorem l_step_no (h : JL a S w0 w jb b db j s) (hh : j.handles ≤ 1073741824) (hm : may j = false) : Calls Tryz.prog 21 #[.pointer (some ⟨jb, 0, none⟩)] w fun e w' => e = .returned (.int .i64 201) ∧ w = w' := by
  obtain ⟨ρ, D, K, ml, mc, hO, hA⟩ := h.ex
  exact Step_busy hO hh hm
theorem l_start (h : JL a S w0 w jb b db j s) (n : Nat) (h1 : 1 ≤ n) (h2 : n ≤ 64) (hw : j.wanted = false) (hr : 6 ≤ j.ring) (hr2 : j.ring ≤ 4096) (hh : j.handles ≤ 1073741823) (h64 : ∀ n c, j.cred n = some c → c ≤ 64) (hc : (numsOf s.now.chg s.N).length + j.promised + n ≤ j.cap) :
    Calls Tryz.prog 15 #[.pointer (some ⟨jb, 0, none⟩), .int .i64 (n : Int)] w fun e w' => e = .returned (.tuple #[.int .i64 (j.handles + 1 : Nat), .int .i64 0]) ∧ JL a S w0 w' jb b db (j.start n) s := by
  obtain ⟨ρ, D, K, ml, mc, hO, hA⟩ := h.ex
  refine (Start_go hO n h1 h2 hw hr hr2 hh h64).mono ?_
  rintro e w' ⟨_, hy⟩
  obtain ⟨rfl, hgo⟩ := hy hc
  exact ⟨rfl, h.of_go hA hgo⟩
theorem l_start_no (h : JL a S w0 w jb b db j s) (n : Nat) (h1 : 1 ≤ n) (h2 : n ≤ 64) (hw : j.wanted = false) (hr : 6 ≤ j.ring) (hr2 : j.ring ≤ 4096) (hh : j.handles ≤ 1073741823) (h64 : ∀ n c, j.cred n = some c → c ≤ 64) (hc : j.cap < (numsOf s.now.chg s.N).length + j.promised + n) :
    Calls Tryz.prog 15 #[.pointer (some ⟨jb, 0, none⟩), .int .i64 (n : Int)] w fun e w' => e = .returned (.tuple #[.int .i64 0, .int .i64 201]) ∧ JL a S w0 w' jb b db j s := by
  obtain ⟨ρ, D, K, ml, mc, hO, hA⟩ := h.ex
  refine (Start_go hO n h1 h2 hw hr hr2 hh h64).mono ?_
  rintro e w' ⟨hn, _⟩
  obtain ⟨rfl, hgo⟩ := hn hc
  exact ⟨rfl, h.of_go hA hgo⟩
theorem l_start_busy (h : JL a S w0 w jb b db j s) (n : Nat) (h1 : 1 ≤ n) (h2 : n ≤ 64) (hw : j.wanted = true) : Calls Tryz.prog 15 #[.pointer (some ⟨jb, 0, none⟩), .int .i64 (n : Int)] w fun e w' => e = .returned (.tuple #[.int .i64 0, .int .i64 201]) ∧ w = w' := by
  obtain ⟨ρ, D, K, ml, mc, hO, hA⟩ := h.ex
  exact Start_busy hO n h1 h2 hw
theorem l_stop (h : JL a S w0 w jb b db j s) (n c : Nat) (hn : j.cred n = some c) (hh : j.handles ≤ 1073741824) : Calls Tryz.prog 18 #[.pointer (some ⟨jb, 0, none⟩), .int .i64 (n : Int)] w fun e w' => e = .returned (.int .i64 0) ∧ JL a S w0 w' jb b db (j.stop n) s := by
  obtain ⟨ρ, D, K, ml, mc, hO, hA⟩ := h.ex
  refine (Stop_go hO n c hn hh).mono ?_
  rintro e w' ⟨rfl, hgo⟩
  exact ⟨rfl, h.of_go hA hgo⟩
theorem l_stop_bad (h : JL a S w0 w jb b db j s) (n : Int) (hf : Fits n) (hn : ∀ m : Nat, n = (m : Int) → j.cred m = none) : Calls Tryz.prog 18 #[.pointer (some ⟨jb, 0, none⟩), .int .i64 n] w fun e w' => e = .returned (.int .i64 22) ∧ w = w' := by
  obtain ⟨ρ, D, K, ml, mc, hO, hA⟩ := h.ex
  exact Stop_bad hO n hf hn
theorem l_ask (h : JL a S w0 w jb b db j s) (q : Bool) : Calls Tryz.prog 19 #[.pointer (some ⟨jb, 0, none⟩), .bool q] w fun e w' => e = .returned (.tuple #[]) ∧ JL a S w0 w' jb b db (j.ask q) s := by
  obtain ⟨ρ, D, K, ml, mc, hO, hA⟩ := h.ex
  refine (Ask_own hO q).mono ?_
  rintro e w' ⟨rfl, hgo⟩
  exact ⟨rfl, h.of_go hA hgo⟩
theorem l_busy (h : JL a S w0 w jb b db j s) (q : Bool) (hq : j.wanted = q) : Calls Tryz.prog 20 #[.pointer (some ⟨jb, 0, none⟩)] w fun e w' => e = .returned (.bool q) ∧ w = w' := by
  subst hq
  obtain ⟨ρ, D, K, ml, mc, hO, hA⟩ := h.ex
  exact Busy_own hO
theorem l_may (h : JL a S w0 w jb b db j s) (hh : j.handles ≤ 1073741824) (q : Bool) (hq : may j = q) : Calls Tryz.prog 56 #[.pointer (some ⟨jb, 0, none⟩)] w fun e w' => e = .returned (.bool q) ∧ w = w' := by
  subst hq
  obtain ⟨ρ, D, K, ml, mc, hO, hA⟩ := h.ex
  exact May_own hO hh
theorem l_commits (h : JL a S w0 w jb b db j s) (n : Int) (hn : (j.commits : Int) = n) : Calls Tryz.prog 30 #[.pointer (some ⟨jb, 0, none⟩)] w fun e w' => e = .returned (.int .i64 n) ∧ w = w' := by
  subst hn
  obtain ⟨ρ, D, K, ml, mc, hO, hA⟩ := h.ex
  exact Commits_own hO
theorem l_place (h : JL a S w0 w jb b db j s) (x y z : Int) (hx : (j.seq : Int) = x) (hy : (j.tail : Int) = y) (hz : (j.used : Int) = z) : Calls Tryz.prog 45 #[.pointer (some ⟨jb, 0, none⟩)] w fun e w' => e = .returned (.tuple #[.int .i64 x, .int .i64 y, .int .i64 z]) ∧ JL a S w0 w' jb b db j s := by
  subst hx hy hz
  obtain ⟨ρ, D, K, ml, mc, hO, hA⟩ := h.ex
  refine (Place_own hO).mono ?_
  rintro e w' ⟨rfl, n, rfl⟩
  exact ⟨rfl, h.drewN n⟩
theorem l_cap (h : JL a S w0 w jb b db j s) (hr : 6 ≤ j.ring) (hr2 : j.ring ≤ 4096) (n : Int) (hn : (j.cap : Int) = n) : Calls Tryz.prog 27 #[.pointer (some ⟨jb, 0, none⟩)] w fun e w' => e = .returned (.int .i64 n) ∧ w = w' := by
  subst hn
  obtain ⟨ρ, D, K, ml, mc, hO, hA⟩ := h.ex
  exact Cap_own hO hr hr2
theorem l_ops (h : JL a S w0 w jb b db j s) (n : Int) (hn : (s.d.N : Int) = n) : Calls Tryz.prog 29 #[.pointer (some ⟨db, 0, none⟩)] w fun e w' => e = .returned (.int .i64 n) ∧ w = w' := by
  subst hn
  obtain ⟨ρ, D, K, ml, mc, hO, hA⟩ := h.ex
  obtain ⟨_, _, _, _, _, _, _, _, hx, _⟩ := hO.own.dd
  exact Ops_at db _ w ((row_cell hx.block 1).trans rfl)
theorem l_write (h : JL a S w0 w jb b db j s) (n : Int) (k : Nat) (hk : (k : Int) = n) (hn : k < s.N) {v : Value} {l : Bk} (hv : IsBlk w S v l) (hload : s.load ≤ 1073741824) :
    Calls Tryz.prog 16 #[.pointer (some ⟨b, 0, none⟩), .int .i64 n, v] w fun e w' => e = .returned (.int .i64 0) ∧ JL a S w0 w' jb b db j (s.write k l) := by
  subst hk
  obtain ⟨ρ, D, K, ml, mc, hO, hA⟩ := h.ex
  refine (SWrite_ok hO.own hn hv h.there (fun q h1 h2 => (hA q (.inl (.inl h1))).2 h2) hload).mono ?_
  rintro e w' ⟨rfl, ρ', hgo⟩
  exact ⟨rfl, h.of_go hA (hO.goes hgo rfl)⟩
theorem l_hold (h : JL a S w0 w jb b db j s) (n : Int) (k : Nat) (hk : (k : Int) = n) (hn : k < s.N) (hload : s.load ≤ 1073741824) :
    Calls Tryz.prog 76 #[.pointer (some ⟨b, 0, none⟩), .int .i64 n] w fun e w' => e = .returned (.int .i64 0) ∧ JL a S w0 w' jb b db j (s.hold k) := by
  subst hk
  obtain ⟨ρ, D, K, ml, mc, hO, hA⟩ := h.ex
  refine (Hold_ok hO.own hn hload).mono ?_
  rintro e w' ⟨rfl, ρ', hgo⟩
  exact ⟨rfl, h.of_go hA (hO.goes hgo rfl)⟩
theorem l_changed (h : JL a S w0 w jb b db j s) (m : Nat) (hm : (numsOf s.now.chg s.N).length = m) : Calls Tryz.prog 28 #[.pointer (some ⟨b, 0, none⟩)] w fun e w' => ∃ A c, e = .returned (.slice A m c) ∧ JL a S w0 w' jb b db j s := by
  subst hm
  obtain ⟨ρ, D, K, ml, mc, hO, hA⟩ := h.ex
  refine (Changed_own hO.own).mono ?_
  rintro e w' ⟨v, rfl, hv, hb⟩
  obtain ⟨A, c, rfl, -⟩ := own_cell1 (S := fun _ => True) ⟨own_base hv (fun _ _ => Nat.zero_le _), fun _ _ => trivial⟩
  exact ⟨A, c, rfl, h.go hb⟩
theorem l_waiting (h : JL a S w0 w jb b db j s) (m : Nat) (hm : (numsOf s.wai s.N).length = m) : Calls Tryz.prog 26 #[.pointer (some ⟨b, 0, none⟩)] w fun e w' => ∃ A c, e = .returned (.slice A m c) ∧ JL a S w0 w' jb b db j s := by
  subst hm
  obtain ⟨ρ, D, K, ml, mc, hO, hA⟩ := h.ex
  refine (Waiting_own hO.own).mono ?_
  rintro e w' ⟨v, ys, rfl, hg, hb⟩
  obtain ⟨A, c, rfl, -⟩ := NCheck.got_at hg
  rw [NRuns.wrs_len]
  exact ⟨A, c, rfl, h.go hb⟩
theorem l_pending (h : JL a S w0 w jb b db j s) (m : Nat) (hm : s.d.P.length = m) (hN : s.load ≤ 1073741824) : Calls Tryz.prog 25 #[.pointer (some ⟨db, 0, none⟩)] w fun e w' => ∃ A c, e = .returned (.slice A m c) ∧ JL a S w0 w' jb b db j s := by
  subst hm
  obtain ⟨ρ, D, K, ml, mc, hO, hA⟩ := h.ex
  refine (Pending_ok D db s.d w hO.own.dd (by unfold Sto.load at hN; omega)).mono ?_
  rintro e w' ⟨g, xs, rfl, _, _, _, hb⟩
  exact ⟨_, _, rfl, h.go hb⟩
theorem l_dread (h : JL a S w0 w jb b db j s) (n : Int) (k : Nat) (hk : (k : Int) = n) (hn : k < s.N) : Calls Tryz.prog 22 #[.pointer (some ⟨db, 0, none⟩), .int .i64 n] w fun e w' =>
    ∃ g, e = .returned (.tuple #[.slice (some ⟨g, 0, none⟩) 256 256, .int .i64 0]) ∧ w.heap.size ≤ g ∧ Row w' g (s.d.readAt k) [] ∧ (s.d.readAt k).length = 256 ∧ Below w.heap.size w w' := by
  subst hk
  obtain ⟨ρ, D, K, ml, mc, hO, hA⟩ := h.ex
  refine (Read_yes D db k s.d w hO.own.dd hn).mono ?_
  rintro e w' ⟨g, rfl, hg, hr, hb⟩
  exact ⟨g, rfl, hg, hr, hO.own.dd.wf.read hn, hb⟩
theorem l_sread (h : JL a S w0 w jb b db j s) (n : Int) (k : Nat) (hk : (k : Int) = n) (hn : k < s.N) (hcoh : k ∈ s.sh k → s.mem k = s.d.readAt k) (hload : s.load ≤ 1073741824) : Calls Tryz.prog 23 #[.pointer (some ⟨b, 0, none⟩), .int .i64 n] w fun e w' =>
    ∃ u, e = .returned (.tuple #[u, .int .i64 0]) ∧ JL a S w0 w' jb b db j (s.read k) ∧ IsBlk w' (fun _ => True) u (s.val k) := by
  subst hk
  obtain ⟨ρ, D, K, ml, mc, hO, hA⟩ := h.ex
  refine (SRead_own hO.own hn hload hcoh).mono ?_
  rintro e w' ⟨u, rfl, ρ', hgo, hu⟩
  exact ⟨u, rfl, h.of_go hA (hO.goes hgo (read_N s k)), hu.more fun q _ => trivial⟩
/-- a journal that has just been made -/
theorem l_new {ρ : Ro} {D : Nat → Prop} (h : EFace.Own w ρ D b db s) (hn : ∀ q, All ρ D q → a.heap.size ≤ q) (hb : Below a.heap.size a w) (N : Nat) (hN : s.N = N) (p n jr : Int) (hm : GPlain.mayB N p n jr = true) (seq at_ ring : Nat) (hring : jr - 1 = (ring : Int)) (hs1 : 1 ≤ seq) (hs2 : seq ≤ 1073741824) (ha : at_ < ring) (hr : ring ≤ 4096) :
    Calls Tryz.prog 13 #[.pointer (some ⟨b, 0, none⟩), .pointer (some ⟨db, 0, none⟩), .agg #[.int .i64 (N : Int), .int .i64 p, .int .i64 n, .int .i64 jr], .int .i64 (seq : Int), .int .i64 (at_ : Int)] w fun e w' =>
      ∃ jb, e = .returned (.tuple #[.pointer (some ⟨jb, 0, none⟩), .int .i64 0]) ∧ JL a (fun _ => False) w' w' jb b db (Jr.new ring seq at_) s := by
  refine (NNew.New_go h N hN p n jr hm seq at_ ring hring hs1 hs2 ha hr).mono ?_
  rintro e w' ⟨jb, ml, mc, rfl, hO, hb2, g1, g2, g3⟩
  refine ⟨jb, rfl, ⟨_, _, _, _, _, hO, fun q hq => ⟨?_, id⟩⟩, hb.trans (hb2.mono hb.size), fun _ _ => rfl, fun _ hq => hq.elim⟩
  have := hb.size
  rcases hq with hq | rfl | rfl | rfl | hq
  · exact hn q hq
  · omega
  · omega
  · omega
  · exact hq.elim
end
end Go.Proofs.YtmlgchmladkfpaaGreatDoor.NLive
/- The document's examples of a journal hold: awake answers true. -/
namespace Go.Proofs.YtmlgchmladkfpaaGreatDoor.NAwake
open Go.RowKit WMem WPlain WAppend WCrc Ext Map DPlain DMem Mk DBase DRead DWrite EPlain EMem EFace EAny JPlain JMem NPlain NMem NFace NRuns NOpen NLive NFill
open NAwM

theorem mk_disk (w : World) : Calls Tryz.prog 11 #[.int .i64 300] w fun e w' => ∃ g, e = .returned (.tuple #[.pointer (some ⟨g, 0, none⟩), .int .i64 0]) ∧ DD w' (Made w w') g (St.new 300) ∧ Below w.heap.size w w' := New_yes 300 w (by decide) (by decide)
theorem mk_store {w : World} {S : Nat → Prop} {db : Nat} {d : St} (hd : DD w S db d) (hl : d.L.length = 300) : Calls Tryz.prog 12 #[.pointer (some ⟨db, 0, none⟩), .int .i64 4, .int .i64 16] w fun e w' => ∃ b ρ, e = .returned (.tuple #[.pointer (some ⟨b, 0, none⟩), .int .i64 0]) ∧ SS w' ρ b db (fresh d 4 16) ∧ (∀ k, Mine ρ k → w.heap.size ≤ k) ∧ Below w.heap.size w w' :=
  ENew.New_yes db 4 16 d w hd.c0 (by decide) (by decide) (by decide) (by decide) (by omega) (by omega)
section
variable {a w0 w : World} {S : Nat → Prop} {jb b db : Nat} {j : Jr} {s : Sto}
theorem mk_journal {ρ : Ro} {D : Nat → Prop} (h : Live a w ρ D b db s) (hN : s.N = 300) (seq at_ : Int) (q t : Nat) (hq : (q : Int) = seq) (ht : (t : Int) = at_) (h1 : 1 ≤ q) (h2 : q ≤ 1073741824) (h3 : t < 95) :
    Calls Tryz.prog 13 #[.pointer (some ⟨b, 0, none⟩), .pointer (some ⟨db, 0, none⟩), .agg #[.int .i64 300, .int .i64 200, .int .i64 16, .int .i64 96], .int .i64 seq, .int .i64 at_] w fun e w' =>
      ∃ jb, e = .returned (.tuple #[.pointer (some ⟨jb, 0, none⟩), .int .i64 0]) ∧ JL a (fun _ => False) w' w' jb b db (Jr.new 95 q t) s := by
  subst hq ht
  exact l_new h.own h.new h.below 300 hN 200 16 96 (by decide) q t 95 rfl h1 h2 h3 (by decide)
theorem mk_no (h : JL a S w0 w jb b db j s) (hN : s.N = 300) :
    Calls Tryz.prog 13 #[.pointer (some ⟨b, 0, none⟩), .pointer (some ⟨db, 0, none⟩), .agg #[.int .i64 300, .int .i64 200, .int .i64 16, .int .i64 96], .int .i64 0, .int .i64 0] w fun e w' =>
      e = .returned (.tuple #[.pointer none, .int .i64 22]) ∧ JL a S w0 w' jb b db j s := by
  obtain ⟨ρ, D, K, ml, mc, hO, hA⟩ := h.ex
  refine (NNew2.New_seq hO.own 300 hN 200 16 96 (by decide) (by decide) 0 0 (by decide)).mono ?_
  rintro e w' ⟨rfl, hb⟩
  exact ⟨rfl, h.go hb⟩
theorem mk_small (h : JL a S w0 w jb b db j s) : Calls Tryz.prog 14 #[] w fun e w' => e = .returned (.agg #[.int .i64 300, .int .i64 200, .int .i64 16, .int .i64 96]) ∧ JL a S w0 w' jb b db j s :=
  (small_any w).mono fun _ _ ⟨h1, h2⟩ => ⟨h1, h.go h2⟩
/-- filled bytes, of the law's own -/
theorem mk_filled (h : JL a S w0 w jb b db j s) (x : Int) (y : UInt8) (hy : octet x = y) : Calls Tryz.prog 17 #[.int .i64 x] w fun e w' =>
    e = .returned (.slice (some ⟨w.heap.size, 0, none⟩) 256 256) ∧ JL a (fun q => S q ∨ (w.heap.size ≤ q ∧ q < w'.heap.size)) w' w' jb b db j s ∧ IsBlk w' (fun q => S q ∨ (w.heap.size ≤ q ∧ q < w'.heap.size)) (.slice (some ⟨w.heap.size, 0, none⟩) 256 256) (full y) ∧ Below w.heap.size w w' := by
  subst hy
  refine (filled_any x w).mono ?_
  rintro e w' ⟨rfl, hr, hb, hl⟩
  exact ⟨rfl, h.also hb, ⟨_, 256, [], rfl, .inr ⟨Nat.le_refl _, hl⟩, full_len _, Nat.le_refl _, hr⟩, hb⟩
end
theorem runs_step {j : Jr} {s : Sto} {o : Stp} {l : List Stp} {jz : Jr} {sz : Sto} (h : Runs j s (o :: l) jz sz) : ∃ j1 s1, StepOk j s ∧ NPlain.step j s = (0, j1, s1) ∧ s1.d = doOp s.d o.1 ∧ j1.commits = o.2 ∧ Runs j1 s1 l jz sz := by
  cases h with
  | cons a b c c2 d => exact ⟨_, _, a, b, c, c2, d⟩
theorem runs_end {j : Jr} {s : Sto} {jz : Jr} {sz : Sto} (h : Runs j s [] jz sz) : jz = j ∧ sz = s := by
  cases h with
  | nil => exact ⟨rfl, rfl⟩
theorem cred64 {j : Jr} (f : Nat → Option Nat) (hf : j.cred = f) (h : ∀ n c, f n = some c → c ≤ 64) : ∀ n c, j.cred n = some c → c ≤ 64 := by subst hf; exact h
theorem cr1 : ∀ (n c : Nat), (j0.start 64).cred n = some c → c ≤ 64 := fun n c h => by
  have e : (if n = 1 then some 64 else none) = some c := h
  split at e
  · injection e with e
    omega
  · cases e
set_option maxHeartbeats 4000000 in
set_option maxRecDepth 100000 in
theorem awake_any (w : World) (hT : Tab w) : Calls Tryz.prog 10 #[] w fun e w' => e = .returned (.bool true) ∧ Below w.heap.size w w' := by
  have HT := Lib.hid hT
  clear hT
  go_enter Tryz.func10, Tryz.ntmps10
  go_wp2_with fail
  refine (mk_disk w).mono ?_
  rintro e w1 ⟨db, rfl, hd, hb⟩
  have HD1 := Lib.hid hd
  have HB1 := Lib.hid hb
  clear hd hb
  go_wp2_with fail
  refine (mk_store HD1.out (by simp [St.new])).mono ?_
  rintro e w2 ⟨b, ρ0, rfl, hs, hm, hb2⟩
  have H0 : Hid (Live w w2 ρ0 (Made w w1) b db s0) := live_new HD1.out (fun q hq => hq.1) HB1.out hs hm hb2
  clear hs hm hb2
  go_wp2_with fail
  refine (small_any w2).mono ?_
  rintro e w3 ⟨rfl, hb3⟩
  have H1 := Lib.hid (H0.out.go hb3)
  clear hb3
  go_wp2_with fail
  refine (mk_journal H1.out s0_N 7 0 7 0 rfl rfl (by decide) (by decide) (by decide)).mono ?_
  rintro e w4 ⟨jb, rfl, hj⟩
  have J0 : Hid (JL w (fun _ => False) w4 w4 jb b db j0 s0) := Lib.hid hj
  clear hj H0 H1 HD1 HB1
  go_wp2_with fail
  refine (mk_small J0.out).mono ?_
  rintro e w5 ⟨rfl, hj⟩
  have J1 := Lib.hid hj
  clear hj J0
  go_wp2_with fail
  refine (mk_no J1.out s0_N).mono ?_
  rintro e w6 ⟨rfl, hj⟩
  have J2 := Lib.hid hj
  clear hj J1
  go_wp2_with fail
  refine (l_cap J2.out (by decide) (by decide) 67 (by decide)).mono ?_
  rintro e w' ⟨rfl, rfl⟩
  go_wp2_with fail
  refine (l_start J2.out 64 (by decide) (by decide) rfl (by decide) (by decide) (by decide) (fun n c h => (by cases h)) (by show (numsOf (fun _ => none) _).length + 0 + 64 ≤ 67; rw [none_nums]; decide)).mono ?_
  rintro e w7 ⟨rfl, hj⟩
  have J3 := Lib.hid hj
  clear hj J2
  go_wp2_with fail
  refine (l_start_no J3.out 4 (by decide) (by decide) rfl (by decide) (by decide) (by decide) cr1 (by show 67 < (numsOf (fun _ => none) _).length + 64 + 4; rw [none_nums]; decide)).mono ?_
  rintro e w8 ⟨rfl, hj⟩
  have J4 := Lib.hid hj
  clear hj J3
  go_wp2_with fail
  refine (l_start J4.out 3 (by decide) (by decide) rfl (by decide) (by decide) (by decide) cr1 (by show (numsOf (fun _ => none) _).length + 64 + 3 ≤ 67; rw [none_nums]; decide)).mono ?_
  rintro e w9 ⟨rfl, hj⟩
  have J5 := Lib.hid hj
  clear hj J4
  go_wp2_with fail
  refine (l_stop J5.out 1 64 rfl (by decide)).mono ?_
  rintro e w10 ⟨rfl, hj⟩
  have J6 := Lib.hid hj
  clear hj J5
  go_wp2_with fail
  refine (l_stop J6.out 2 3 rfl (by decide)).mono ?_
  rintro e w11 ⟨rfl, hj⟩
  have J7 := Lib.hid hj
  clear hj J6
  go_wp2_with fail
  refine (mk_filled J7.out 9 9 rfl).mono ?_
  rintro e w12 ⟨rfl, hj, hv, hb⟩
  have J8 := Lib.hid hj
  have HV := Lib.hid hv
  clear hj hv hb J7
  go_wp2_with fail
  refine (l_write J8.out 150 150 rfl (by rw [s0_N]; decide) HV.out (by decide)).mono ?_
  rintro e w13 ⟨rfl, hj⟩
  have J9 : Hid (JL w (fun _ => False) w13 w13 jb b db j1 s1) := Lib.hid ((hj.less (fun q hq => hq.elim)).rebase)
  clear hj HV J8
  go_wp2_with fail
  refine (l_ask J9.out false).mono ?_
  rintro e w14 ⟨rfl, hj⟩
  have J10 := Lib.hid hj.rebase
  clear hj J9
  have hl1 := len1
  have HR1 := Lib.hid run1.1
  go_wp2_with fail
  go_loopw [15] (fun i wr => ∃ (k : Nat) (l : List Stp) (j : Jr) (s : Sto), k + l.length = 5 ∧ i = .int .i64 k ∧ Runs j s l j2 s2 ∧ JL w (fun _ => False) w14 wr jb b db j s) (fun i _ => 5 - (RowKit.intOf i).toNat)
  case atStart => exact ⟨0, _, _, _, by omega, rfl, HR1.out, J10.out⟩
  case round =>
    obtain ⟨k, l, j, s, hk, rfl, hr, hj⟩ := hrel
    have HJ := Lib.hid hj
    have HR := Lib.hid hr
    have HK := Lib.hid hk
    clear hj hr hk
    by_cases hlt : k < 5
    · obtain ⟨o, r, rfl⟩ := List.exists_cons_of_ne_nil (show l ≠ [] from fun e => by have := HK.out; rw [e] at this; simp at this; omega)
      obtain ⟨j', s', g1, g2, g3, g4, g5⟩ := runs_step HR.out
      have HG := Lib.hid g5
      have HC := Lib.hid (l_step HJ.out HT.out g1 g2)
      have hkc : (k : Int) < 5 := by omega
      clear g1 g2 g3 g4 g5 HJ HR
      go_wp2_with fail
      refine HC.out.mono ?_
      rintro e w15 ⟨rfl, hj⟩
      have HJ := Lib.hid hj
      clear hj
      go_wp2_with fail
      go_roundw
      case rel => exact ⟨k + 1, r, j', s', by have := HK.out; rw [List.length_cons] at this; omega, by go_num, HG.out, HJ.out⟩
      case measure => simp [RowKit.intOf]; omega
    · obtain rfl : k = 5 := by have := HK.out; omega
      obtain rfl : l = [] := List.eq_nil_of_length_eq_zero (by have := HK.out; omega)
      obtain ⟨e1, e2⟩ := runs_end HR.out
      have J11 := Lib.hid (HJ.out.is e1 e2).rebase
      clear HJ HR HK e1 e2
      obtain ⟨a1, a2, a3, a4, a5, a6, a7⟩ := j2_is
      go_wp2_with fail
      refine (l_place J11.out 8 0 3 (by rw [a1]; rfl) (by rw [a2]; rfl) (by rw [a3]; rfl)).mono ?_
      rintro e w16 ⟨rfl, hj⟩
      have J12 := Lib.hid hj.rebase
      clear hj J11
      go_wp2_with fail
      refine (l_commits J12.out 1 (by rw [a4]; rfl)).mono ?_
      rintro e w' ⟨rfl, rfl⟩
      go_wp2_with fail
      refine (l_busy J12.out false a5).mono ?_
      rintro e w' ⟨rfl, rfl⟩
      go_wp2_with fail
      refine (l_ops J12.out 5 (by rw [s2_d]; rfl)).mono ?_
      rintro e w' ⟨rfl, rfl⟩
      go_wp2_with fail
      refine (l_ask J12.out true).mono ?_
      rintro e w17 ⟨rfl, hj⟩
      have J13 := Lib.hid hj.rebase
      clear hj J12
      have hl2 := len2
      have HR2 := Lib.hid run2.1
      go_wp2_with fail
      go_loopw [20] (fun i wr => ∃ (k : Nat) (l : List Stp) (j : Jr) (s : Sto), k + l.length = 4 ∧ i = .int .i64 k ∧ Runs j s l j3 s3 ∧ JL w (fun _ => False) w17 wr jb b db j s) (fun i _ => 4 - (RowKit.intOf i).toNat)
      case atStart => exact ⟨0, _, _, _, by omega, rfl, HR2.out, J13.out⟩
      case round =>
        obtain ⟨k, l, j, s, hk, rfl, hr, hj⟩ := hrel
        have HJ := Lib.hid hj
        have HR := Lib.hid hr
        have HK := Lib.hid hk
        clear hj hr hk
        by_cases hlt : k < 4
        · obtain ⟨o, r, rfl⟩ := List.exists_cons_of_ne_nil (show l ≠ [] from fun e => by have := HK.out; rw [e] at this; simp at this; omega)
          obtain ⟨j', s', g1, g2, g3, g4, g5⟩ := runs_step HR.out
          have HG := Lib.hid g5
          have HC := Lib.hid (l_step HJ.out HT.out g1 g2)
          have hkc : (k : Int) < 4 := by omega
          clear g1 g2 g3 g4 g5 HJ HR
          go_wp2_with fail
          refine HC.out.mono ?_
          rintro e w15 ⟨rfl, hj⟩
          have HJ := Lib.hid hj
          clear hj
          go_wp2_with fail
          go_roundw
          case rel => exact ⟨k + 1, r, j', s', by have := HK.out; rw [List.length_cons] at this; omega, by go_num, HG.out, HJ.out⟩
          case measure => simp [RowKit.intOf]; omega
        · obtain rfl : k = 4 := by have := HK.out; omega
          obtain rfl : l = [] := List.eq_nil_of_length_eq_zero (by have := HK.out; omega)
          obtain ⟨e1, e2⟩ := runs_end HR.out
          have J14 := Lib.hid (HJ.out.is e1 e2).rebase
          clear HJ HR HK e1 e2
          obtain ⟨b1, b2, b3, b4, b5⟩ := j3_is
          go_wp2_with fail
          refine (l_place J14.out 8 3 0 (by rw [b1]; rfl) (by rw [b2]; rfl) (by rw [b3]; rfl)).mono ?_
          rintro e w18 ⟨rfl, hj⟩
          have J15 := Lib.hid hj.rebase
          clear hj J14
          go_wp2_with fail
          refine (l_busy J15.out false b4).mono ?_
          rintro e w' ⟨rfl, rfl⟩
          go_wp2_with fail
          refine (l_ops J15.out 9 (by rw [s3_d]; rfl)).mono ?_
          rintro e w' ⟨rfl, rfl⟩
          go_wp2_with fail
          refine (l_step_no J15.out (by rw [b5]; omega) (by unfold NPlain.may; rw [b4]; rfl)).mono ?_
          rintro e w' ⟨rfl, rfl⟩
          go_wp2_with fail
          go_ret
          exact ⟨rfl, J15.out.below⟩
end Go.Proofs.YtmlgchmladkfpaaGreatDoor.NAwake
