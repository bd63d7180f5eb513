/- The law JournalHome: nothing is written home that was not committed; behind a clean commit each block is as the store has it. -/
import Derived.Test.YtmlgchmladkfpaaGreatDoorMg43
import Derived.Test.YtmlgchmladkfpaaGreatDoorMg40
import Derived.Test.YtmlgchmladkfpaaGreatDoorMg20
import Derived.Deep.RegionHeld3
import Derived.Deep.CutBlock
namespace Go.Proofs.YtmlgchmladkfpaaGreatDoor.NLHome
open DPlain hiding OpV low7 low7_lt
open Go.RowKit WMem WPlain WAppend WCrc WSeal Ext Map DMem Mk DBase DRead DWrite EPlain EMem EFace EAny EScript JPlain JMem JNeed JLayM NPlain NMem NFace NRuns NOpen NLive NFill NAwake NHomeM NScript
open NAwM hiding j0 j1 s1 s1_nums

/-- a journal of the law's own, and nothing else -/
abbrev JV (a w : World) (jb b db : Nat) (j : Jr) (s : Sto) : Prop := JL a (fun _ => False) w w jb b db j s
theorem JL.v {a w0 w : World} {S : Nat → Prop} {jb b db : Nat} {j : Jr} {s : Sto} (h : JL a S w0 w jb b db j s) : JV a w jb b db j s := (h.less (fun _ hq => hq.elim)).rebase
/-- in the middle of a transaction: k writes at most -/
structure Mid (y k L : Nat) (j : Jr) (s0 s : Sto) : Prop where
  hi : HI y j s
  wai : s.wai = s0.wai
  hld : s.now.hld = s0.now.hld
  P : s.d.P = s0.d.P
  cnt : (numsOf s.now.chg s.N).length ≤ k
  load : s.load ≤ L + k
theorem Mid.write {y k L : Nat} {j : Jr} {s0 s : Sto} (h : Mid y k L j s0 s) (n : Nat) {l : Bk} (hl : Flat y l) : Mid y (k + 1) L j s0 (s.write n l) :=
  ⟨h.hi.write n hl, h.wai, h.hld, h.P, by have := nums_write s n l; have := h.cnt; omega, by have := Sto.load_write s n l; have := h.load; omega⟩
theorem start_cred {j : Jr} (h : ∀ k, j.cred k = none) (c : Nat) : ∀ k, ((j.start c).stop (j.handles + 1)).cred k = none := fun k => by
  show (if k = j.handles + 1 then none else if k = j.handles + 1 then some c else j.cred k) = none
  split
  · rfl
  · exact h k
/-- between two rounds of the law -/
structure Rnd (k : Nat) (j : Jr) (s : Sto) : Prop where
  opn : NOpen.Open (40 - k) j s
  now : s.now = ⟨fun _ => none, fun _ => false⟩
  hi : HI k j s
  P : s.d.P = []
  hand : j.handles ≤ k
  load : s.load ≤ 1000 * k
theorem Rnd.open {k L : Nat} {j : Jr} {s0 s : Sto} (h : Rnd k j s0) (m : Mid (k + 1) 64 L (j.start 64) s0 s) (hw : s.Wf) : NOpen.Open (40 - k) ((j.start 64).stop (j.handles + 1)) s := by
  have ho := h.opn
  refine ⟨ho.left, ho.wanted, ho.clean, ho.r1, ho.r2, ho.tail, ho.used, ho.s1, ho.s2, ?_, ho.com, hw, ?_, fun n hn => ?_, start_cred ho.cred 64⟩
  · show j.ring + 3 ≤ s.N
    rw [m.hi.N, h.hi.ring]
    decide
  · show (numsOf s.wai s.N).length ≤ j.used
    rw [m.wai, m.hi.N, ← h.hi.N]
    exact ho.wai
  · rw [m.hld, h.now] at hn
    cases hn
/-- what a commit leaves of a round -/
theorem Rnd.next {k L : Nat} {j : Jr} {s0 s : Sto} (h : Rnd k j s0) (hk : k < 20) (hL : L ≤ 1000 * k) (m : Mid (k + 1) 64 L (j.start 64) s0 s) (hw : s.Wf) (q : Bool) :
    ∃ l jz sz, Runs (((j.start 64).stop (j.handles + 1)).ask q) s l jz sz ∧ Rnd (k + 1) jz sz ∧ (q = true → ∀ n, sz.wai n = none) ∧ l.length ≤ 293 := by
  have ho := h.open m hw
  obtain ⟨B, hB⟩ : ∃ B, 40 - k = B + 1 := ⟨40 - k - 1, by omega⟩
  rw [hB] at ho
  have hr95 : ((j.start 64).stop (j.handles + 1)).ring = 95 := h.hi.ring
  have hcap : ((j.start 64).stop (j.handles + 1)).cap = 67 := by unfold Jr.cap; rw [hr95]
  have hcnt := m.cnt
  have hlo := m.load
  have hh : ((j.start 64).stop (j.handles + 1)).handles ≤ 1073741824 := by have := h.hand; show j.handles + 1 ≤ _; omega
  have hl : s.load + 30000 ≤ 1073741824 := by omega
  obtain ⟨h1, h2⟩ := commit_open ho q hh hl (by rw [hcap]; omega)
  have hrest := open_rest ho q hh hl
  have hneed : needN (numsOf s.now.chg s.N).length 0 ≤ (((j.start 64).stop (j.handles + 1)).ask q).ring := need_cap (by show _ ≤ ((j.start 64).stop (j.handles + 1)).cap; rw [hcap]; omega) (by show 12 ≤ ((j.start 64).stop (j.handles + 1)).ring; omega)
  have hlen := h2.len
  have hload := h2.load
  rw [hr95] at hlen
  refine ⟨_, _, _, h1, ⟨by rw [show 40 - (k + 1) = B by omega]; exact h2.opn, h2.now, (HI.jr (j' := ((j.start 64).stop (j.handles + 1)).ask q) m.hi rfl).runs h1, ?_, ?_, by omega⟩, fun hq n => com_clean hrest hl hneed (by rw [hq]; show (_ || true) = true; simp) n, by omega⟩
  · rw [h1.disk]
    exact com_P _ _ _ (m.P.trans h.P)
  · rw [h2.hand]
    have := h.hand
    show j.handles + 1 ≤ k + 1
    omega
theorem Rnd.zero : Rnd 0 (Jr.new 95 1 0) s0 := by
  have hz : zeros = full (octet ((0 : Nat) : Int)) := by
    show List.replicate 256 0 = List.replicate 256 (octet ((0 : Nat) : Int))
    rw [show octet ((0 : Nat) : Int) = 0 from rfl]
  refine ⟨⟨rfl, rfl, rfl, by show 12 ≤ 95; omega, by show 95 ≤ 511; omega, by show 0 < 95; omega, by show 0 ≤ 95; omega, by show 1 ≤ 1; omega, by show 1 + 40 ≤ 2147483646; omega, by rw [s0_N]; show 95 + 3 ≤ 300; omega, by show 0 + 40 ≤ 1073741823; omega, s0_wf, ?_, fun n hn => (by cases hn), fun _ => rfl⟩, rfl, ⟨rfl, s0_N, fun n a b => ⟨0, Nat.le_refl _, ?_⟩, fun n l e => (by cases e), fun n l e => (by cases e), fun n a b hm => rfl⟩, rfl, Nat.le_refl _, Nat.le_refl _⟩
  · show (numsOf (fun _ => none) _).length ≤ 0
    rw [none_nums]
    exact Nat.le_refl _
  · show (lastOf [] n).getD ((List.replicate 300 zeros).getD n []) = _
    rw [← hz]
    show (List.replicate 300 zeros).getD n [] = zeros
    rw [List.getD_eq_getElem?_getD, List.getElem?_replicate, if_pos b]
    rfl
/-- bytes of one kind, read at both ends -/
theorem flat_ends {y : Nat} {l : Bk} (h : Flat y l) (hy : y ≤ 20) : ∃ x : Nat, x ≤ y ∧ l = full (octet (x : Int)) ∧ (octet (x : Int)).toNat = x := by
  obtain ⟨x, h1, h2⟩ := h
  refine ⟨x, h1, h2, ?_⟩
  unfold octet
  simp
  omega
theorem l_stop_at {a w0 w : World} {S : Nat → Prop} {jb b db : Nat} {j : Jr} {s : Sto} (h : JL a S w0 w jb b db j s) (n : Int) (m c : Nat) (hm : (m : Int) = n) (hn : j.cred m = some c) (hh : j.handles ≤ 1073741824) : Calls Tryz.prog 18 #[.pointer (some ⟨jb, 0, none⟩), .int .i64 n] w fun e w' => e = .returned (.int .i64 0) ∧ JL a S w0 w' jb b db (j.stop m) s := by
  subst hm
  exact l_stop h m c hn hh
theorem Rnd.mid {k : Nat} {j : Jr} {s : Sto} (h : Rnd k j s) : Mid (k + 1) 0 (1000 * k) (j.start 64) s s :=
  ⟨(h.hi.up (Nat.le_succ k)).jr rfl, rfl, rfl, rfl, by rw [chg_none h.now]; exact Nat.le_refl _, h.load⟩
/-- the number of a block that is written -/
theorem blk_num (x : Int) : ∃ lo lo2 : Nat, bits BinOp.and IntKind.i64 x 65535 = (lo : Int) ∧ (lo : Int).tmod 202 = (lo2 : Int) ∧ wrap64 (98 + (lo2 : Int)) = ((98 + lo2 : Nat) : Int) ∧ 98 + lo2 < 300 ∧ IntKind.i64.wrap (98 + (lo2 : Int)) = ((98 + lo2 : Nat) : Int) := by
  have h := low16_lt x
  have h2 := Nat.mod_lt (low16 x) (show 0 < 202 by decide)
  refine ⟨low16 x, low16 x % 202, and16 x, rfl, ?_, by omega, ?_⟩
  · rw [IntWalk.wrap64_in _ ⟨by omega, by omega⟩]
    omega
  · rw [IntWalk.i64_in _ ⟨by omega, by omega⟩]
    omega
theorem oct_up (k : Nat) : octet (1 + (k : Int)) = octet ((k + 1 : Nat) : Int) := by
  rw [show 1 + (k : Int) = ((k + 1 : Nat) : Int) by omega]
theorem Mid.up {y k k' L : Nat} {j : Jr} {s0 s : Sto} (h : Mid y k L j s0 s) (hk : k ≤ k') : Mid y k' L j s0 s := ⟨h.hi, h.wai, h.hld, h.P, by have := h.cnt; omega, by have := h.load; omega⟩
def low3 (x : Int) : Nat := (BitVec.ofInt 64 x &&& BitVec.ofInt 64 3).toNat
theorem and3 (x : Int) : bits BinOp.and IntKind.i64 x 3 = (low3 x : Int) := by
  have h : low3 x < 4 := by
    unfold low3
    rw [BitVec.toNat_and]
    exact Nat.lt_of_le_of_lt Nat.and_le_right (by decide)
  show IntKind.i64.wrap ((BitVec.ofInt 64 x &&& BitVec.ofInt 64 3).toNat : Int) = _
  rw [IntKind.wrap_i64]
  unfold low3 at *
  omega
theorem full_cell {w : World} {g i x : Nat} {rest : List Value} (h : Row w g (full (octet (x : Int))) rest) (hi : i < 256) (hx : (octet (x : Int)).toNat = x) : w.cell? ⟨g, i, none⟩ = some (.int .u8 (x : Int)) := by
  have := h.cell (i := i) (by rw [full_len]; exact hi)
  rw [this]
  have e : (full (octet (x : Int)))[i]'(by rw [full_len]; exact hi) = octet (x : Int) := List.getElem_replicate ..
  rw [e, hx]
/-- n steps are left from here to where a commit ends -/
def RunsAt (w1 : World) (jb b db : Nat) (jz : Jr) (sz : Sto) (n : Nat) (wr : World) : Prop := ∃ (lx : List Stp) (jx : Jr) (sx : Sto), lx.length = n ∧ JV w1 wr jb b db jx sx ∧ Runs jx sx lx jz sz
theorem least (P : Nat → Prop) : ∀ n, P n → ∃ m, P m ∧ ∀ k, P k → m ≤ k := by
  intro n
  induction n using Nat.strongRecOn with
  | _ n ih =>
    intro h
    by_cases hm : ∃ k, P k ∧ k < n
    · obtain ⟨k, hk, hkn⟩ := hm
      exact ih k hkn hk
    · exact ⟨n, h, fun k hk => Nat.le_of_not_lt fun hlt => hm ⟨k, hk, hlt⟩⟩
open Classical in
noncomputable def runLen (w1 : World) (jb b db : Nat) (jz : Jr) (sz : Sto) (wr : World) : Nat := if h : ∃ m, RunsAt w1 jb b db jz sz m wr ∧ ∀ k, RunsAt w1 jb b db jz sz k wr → m ≤ k then Classical.choose h else 0
theorem runLen_spec {w1 : World} {jb b db : Nat} {jz : Jr} {sz : Sto} {wr : World} (h : ∃ n, RunsAt w1 jb b db jz sz n wr) : RunsAt w1 jb b db jz sz (runLen w1 jb b db jz sz wr) wr ∧ ∀ k, RunsAt w1 jb b db jz sz k wr → runLen w1 jb b db jz sz wr ≤ k := by
  obtain ⟨n, hn⟩ := h
  have h := least (fun n => RunsAt w1 jb b db jz sz n wr) n hn
  unfold runLen
  rw [dif_pos h]
  exact Classical.choose_spec h
theorem full_cell0 {w : World} {g x : Nat} {rest : List Value} (h : Row w g (full (octet (x : Int))) rest) (hx : (octet (x : Int)).toNat = x) : w.cell? ⟨g, 0, none⟩ = some (.int .u8 (x : Int)) := full_cell h (by decide) hx
theorem full_cell255 {w : World} {g x : Nat} {rest : List Value} (h : Row w g (full (octet (x : Int))) rest) (hx : (octet (x : Int)).toNat = x) : w.cell? ⟨g, 255, none⟩ = some (.int .u8 (x : Int)) := full_cell h (by decide) hx
theorem read_facts (k x : Nat) (h : x ≤ k + 1) (hk : k ≤ 20) : wrap64 (1 + (k : Int)) = 1 + (k : Int) ∧ IntKind.i64.wrap (1 + (k : Int)) = 1 + (k : Int) ∧ wrap64 (x : Int) = (x : Int) ∧ IntKind.i64.wrap (x : Int) = (x : Int) ∧ decide (1 + (k : Int) < (x : Int)) = false ∧ ((x : Int) != (x : Int)) = false :=
  ⟨IntWalk.wrap64_in _ ⟨by omega, by omega⟩, IntWalk.i64_in _ ⟨by omega, by omega⟩, IntWalk.wrap64_in _ ⟨by omega, by omega⟩, IntWalk.i64_in _ ⟨by omega, by omega⟩, decide_eq_false (by omega), by simp⟩
theorem runLen_less {w1 : World} {jb b db n : Nat} {jz : Jr} {sz : Sto} {wr' : World} {o : Stp} {l : List Stp} (h : RunsAt w1 jb b db jz sz l.length wr') (hn : (o :: l).length = n) : runLen w1 jb b db jz sz wr' < n := by
  have := (runLen_spec ⟨_, h⟩).2 _ h
  simp at hn
  omega
/-- behind the last commit, a clean one -/
structure Still (k : Nat) (j : Jr) (s : Sto) (n : Nat) : Prop where
  hi : HI k j s
  now : s.now = ⟨fun _ => none, fun _ => false⟩
  wai : ∀ q, s.wai q = none
  P : s.d.P = []
  load : s.load ≤ 1000 * k + n
theorem Still.up {k n n' : Nat} {j : Jr} {s : Sto} (h : Still k j s n) (hn : n ≤ n') : Still k j s n' := ⟨h.hi, h.now, h.wai, h.P, by have := h.load; omega⟩
theorem blk_below {w w' : World} {S : Nat → Prop} {v : Value} {l : List UInt8} (h : IsBlk w S v l) (hb : Below w.heap.size w w') : IsBlk w' S v l := h.keep fun k _ _ he => hb.block k (Array.getElem?_eq_some_iff.1 he).1
theorem still_sread {a w : World} {jb b db k n : Nat} {j : Jr} {s : Sto} (h : JV a w jb b db j s) (hs : Still k j s n) (h98 : 98 ≤ n) (hn : n < 300) (hk : k ≤ 20) :
    Calls Tryz.prog 23 #[.pointer (some ⟨b, 0, none⟩), .int .i64 (n : Int)] w fun e w' => ∃ u, e = .returned (.tuple #[u, .int .i64 0]) ∧ JL a (fun _ => False) w w' jb b db j (s.read n) ∧ Still k j (s.read n) (n + 1) ∧ IsBlk w' (fun _ => True) u ((s.read n).d.readAt n) := by
  have hd : (s.read n).d = s.d := by unfold Sto.read; split; rfl; split <;> rfl
  have hw : (s.read n).wai = s.wai := by unfold Sto.read; split; rfl; split <;> rfl
  have hnw : (s.read n).now = s.now := by unfold Sto.read; split; rfl; split <;> rfl
  have hv : s.val n = (s.read n).d.readAt n := by rw [hd]; unfold Sto.val; rw [hs.now, hs.wai n]
  refine (l_sread h (n : Int) n rfl (by rw [hs.hi.N]; exact hn) (fun hm => hs.hi.coh n h98 hn hm) (by have := hs.load; omega)).mono ?_
  rintro e w' ⟨u, rfl, hj, hu⟩
  refine ⟨u, rfl, hj, ⟨hs.hi.read n, by rw [hnw]; exact hs.now, by rw [hw]; exact hs.wai, by rw [hd]; exact hs.P, by have := Sto.load_read s n; have := hs.load; omega⟩, by rw [← hv]; exact hu⟩
theorem still_dread {a w : World} {jb b db k n m : Nat} {j : Jr} {s : Sto} {u : Value} (h : JV a w jb b db j s) (hs : Still k j s m) (_h98 : 98 ≤ n) (hn : n < 300) (hu : IsBlk w (fun _ => True) u (s.d.readAt n)) :
    Calls Tryz.prog 22 #[.pointer (some ⟨db, 0, none⟩), .int .i64 (n : Int)] w fun e w' => ∃ g, e = .returned (.tuple #[.slice (some ⟨g, 0, none⟩) 256 256, .int .i64 0]) ∧ JV a w' jb b db j s ∧ IsBlk w' (fun _ => True) u (s.d.readAt n) ∧ IsBlk w' (fun _ => True) (.slice (some ⟨g, 0, none⟩) 256 256) (s.d.readAt n) := by
  refine (l_dread h (n : Int) n rfl (by rw [hs.hi.N]; exact hn)).mono ?_
  rintro e w' ⟨g, rfl, _, hr, hl, hb⟩
  exact ⟨g, rfl, JL.v (h.go hb), blk_below hu hb, ⟨g, 256, [], rfl, trivial, hl, Nat.le_refl _, hr⟩⟩
theorem runs_wanted {j : Jr} {s : Sto} (h : StepOk j s) : j.wanted = true := by
  have := h.may
  unfold NPlain.may at this
  rw [Bool.and_eq_true] at this
  exact this.1
set_option maxHeartbeats 8000000 in
set_option maxRecDepth 100000 in
theorem home_true (ll : List (List OpV)) (x : Int) (A : Option Addr) (c : Nat) (w : World) (hA : OpsIn2 w w.heap.size A ll) (hl : ll.length ≤ 9223372036854775807) (hll : ∀ (i : Nat) (hi : i < ll.length), ll[i].length ≤ 9223372036854775807) (hT : Tab w) :
    Calls Tryz.prog 3 #[.slice A ll.length c, .int .i64 x] w fun e w' => e = .returned (.bool true) ∧ Below w.heap.size w w' := by
  have HA := Lib.hid hA
  have HAW := Lib.hid (awake_any w hT)
  have HT := Lib.hid hT
  have HLL := Lib.hid hll
  obtain ⟨N, hN⟩ : ∃ N, ll.length = N := ⟨_, rfl⟩
  have HN := Lib.hid hN
  rw [hN] at hl ⊢
  clear hA hT hN hll
  go_enter Tryz.func3, Tryz.ntmps3
  go_wp2_with fail
  refine HAW.out.mono ?_
  rintro e w1 ⟨rfl, hb1⟩
  have HB1 := Lib.hid hb1
  clear hb1
  go_wp2_with fail
  refine (mk_disk w1).mono ?_
  rintro e w2 ⟨db, rfl, hd, hb⟩
  have HD1 := Lib.hid hd
  have HB2 := Lib.hid hb
  clear hd hb
  go_wp2_with fail
  refine (mk_store HD1.out (NAwM.new_len 300)).mono ?_
  rintro e w3 ⟨b, ρ0, rfl, hs, hm, hb2⟩
  have H0 : Hid (Live w1 w3 ρ0 (Made w1 w2) b db s0) := live_new HD1.out (fun q hq => hq.1) HB2.out hs hm hb2
  clear hs hm hb2
  go_wp2_with fail
  refine (small_any w3).mono ?_
  rintro e w4 ⟨rfl, hb3⟩
  have H1 := Lib.hid (H0.out.go hb3)
  clear hb3
  go_wp2_with fail
  refine (mk_journal H1.out s0_N 1 0 1 0 rfl rfl (by decide) (by decide) (by decide)).mono ?_
  rintro e w5 ⟨jb, rfl, hj⟩
  have J0 : Hid (JV w1 w5 jb b db (Jr.new 95 1 0) s0) := Lib.hid (JL.v hj)
  have HT1 := Lib.hid (Tab.below HT.out HB1.out (Tab.lt HT.out))
  clear hj H0 H1 HD1 HB2 HT HAW
  go_wp2_with fail
  go_loopw [13] (fun i wr => ∃ (k : Nat) (j : Jr) (s : Sto) (l : List Stp) (jz : Jr) (sz : Sto), k ≤ N ∧ k ≤ 20 ∧ i = .int .i64 k ∧ JV w1 wr jb b db j s ∧ Runs j s l jz sz ∧ Rnd k jz sz ∧ (k < N ∧ k < 20 ∨ k = 0 → l = []) ∧ ((k = N ∨ k = 20) → 0 < k → ∀ n, sz.wai n = none)) (fun i _ => N - (RowKit.intOf i).toNat)
  case atStart => exact ⟨0, _, _, [], _, _, Nat.zero_le _, Nat.zero_le _, rfl, J0.out, .nil _ _, Rnd.zero, fun _ => rfl, fun _ h => absurd h (by omega)⟩
  case round =>
    obtain ⟨k, j, s, l, jz, sz, hkN, hk20, rfl, hj, hr, hrn, hl0, hw0⟩ := hrel
    have HJ := Lib.hid hj
    have HR := Lib.hid hr
    have HRN := Lib.hid hrn
    have HL0 := Lib.hid hl0
    have HW0 := Lib.hid hw0
    clear hj hr hrn hl0 hw0 J0
    by_cases hlt : k < N ∧ k < 20
    · obtain ⟨hlt1, hlt2⟩ := hlt
      have hk1 : (k : Int) < (N : Int) := by omega
      have hk2 : (k : Int) < 20 := by omega
      obtain rfl := HL0.out (.inl ⟨hlt1, hlt2⟩)
      obtain ⟨e1, e2⟩ := runs_end HR.out
      subst e1 e2
      have HST := Lib.hid (l_start HJ.out 64 (by decide) (by decide) HRN.out.opn.wanted (by rw [HRN.out.hi.ring]; decide) (by rw [HRN.out.hi.ring]; decide) (by have := HRN.out.hand; omega) (fun n c h => by rw [HRN.out.opn.cred n] at h; cases h) (by
        have hcap : jz.cap = 67 := by unfold Jr.cap; rw [HRN.out.hi.ring]
        have hpr : jz.promised = 0 := NCred.sumTo_none _ (fun n _ _ => HRN.out.opn.cred n)
        rw [hcap, hpr, chg_none HRN.out.now]
        decide))
      clear HR HL0 HW0
      go_wp2_with fail
      refine HST.out.mono ?_
      rintro e w6 ⟨rfl, hj⟩
      have J1 := Lib.hid (JL.v hj)
      clear hj HJ HST
      go_upto_block 2 with fail
      have hB15 : Below w.heap.size w w6 := HB1.out.trans (J1.out.below.mono HB1.out.size)
      obtain ⟨a, Ai, ci, rfl, hab, hcell, hops, hci⟩ := ops2_at HA.out (Below.refl w.heap.size w) (show k < ll.length by have := HN.out; omega)
      have hlk := HLL.out k (show k < ll.length by have := HN.out; omega)
      generalize ll[k]'(show k < ll.length by have := HN.out; omega) = lk at *
      obtain ⟨M, hM⟩ : ∃ M, lk.length = M := ⟨_, rfl⟩
      have HM := Lib.hid hM
      rw [hM] at hcell hci
      have HCELL := Lib.hid hcell
      have HOPS := Lib.hid hops
      have HCI := Lib.hid hci
      have hMl : M ≤ 9223372036854775807 := by rw [← hM]; exact hlk
      clear hcell hops hci hM hB15 hlk
      go_cut [16] from 69 to 97 (fun s16 wx => ∃ s', JV w1 wx jb b db (jz.start 64) s' ∧ Mid (k + 1) 64 (1000 * k) (jz.start 64) sz s')
      case first =>
        go_wp2_with fail
        go_loopw [16] (fun i wr => ∃ (m : Nat) (s' : Sto), m ≤ M ∧ m ≤ 64 ∧ i = .int .i64 m ∧ JV w1 wr jb b db (jz.start 64) s' ∧ Mid (k + 1) m (1000 * k) (jz.start 64) sz s') (fun i _ => 64 - (RowKit.intOf i).toNat)
        case atStart => exact ⟨0, sz, Nat.zero_le _, Nat.zero_le _, rfl, J1.out, HRN.out.mid⟩
        case round =>
          obtain ⟨m, s', hmM, hm64, rfl, hj, hmid⟩ := hrel
          have J2 := Lib.hid hj
          have HMD := Lib.hid hmid
          clear hj hmid J1
          have hBw : Below w.heap.size w wr := HB1.out.trans (J2.out.below.mono HB1.out.size)
          have r0 : wr.cell? (a.add k) = some (.slice Ai M ci) := (hBw.cell (by rw [addr_add_block]; exact hab)).trans HCELL.out
          by_cases hlt3 : m < M ∧ m < 64
          · obtain ⟨hm1, hm2⟩ := hlt3
            have hm3 : (m : Int) < (M : Int) := by omega
            have hm4 : (m : Int) < 64 := by omega
            obtain ⟨a2, rfl, hab2, hop, hfit⟩ := op_at HOPS.out hBw (show m < lk.length by have := HM.out; omega)
            generalize lk[m]'(show m < lk.length by have := HM.out; omega) = o at *
            have r1 := hop.c1
            have HBW := Lib.hid hBw
            have HOP := Lib.hid hop
            have HC1 : Hid (w.cell? ⟨(a2.add (m * 3)).block, (a2.add (m * 3)).off + 1, none⟩ = some (.int .i64 o.block)) := Lib.hid ((hBw.cell (p := ⟨(a2.add (m * 3)).block, (a2.add (m * 3)).off + 1, none⟩) (by show (a2.add (m * 3)).block < _; rw [addr_add_block]; exact hab2)).symm.trans r1)
            clear hop hfit hBw
            obtain ⟨lo, lo2, hand, htm, hsum, hbl, hsum2⟩ := blk_num o.block
            have HNUM := Lib.hid (And.intro hand (And.intro htm hsum))
            have HSUM2 := Lib.hid hsum2
            have HBL := Lib.hid hbl
            have HFL := Lib.hid (fun (W : World) (S : Nat → Prop) (w0 : World) (s : Sto) (z : Int) (hz : z = 1 + (k : Int)) (h : JL w1 S w0 W jb b db (jz.start 64) s) => mk_filled h z (octet ((k + 1 : Nat) : Int)) (by rw [hz]; exact oct_up k))
            have HWK2 := Lib.hid (show IntKind.i64.wrap (1 + (k : Int)) = 1 + (k : Int) from by rw [IntWalk.i64_in _ ⟨by omega, by omega⟩])
            have HJD : Hid (JL w1 (fun _ => False) wr wr.drew jb b db (jz.start 64) s') := Lib.hid (J2.out.drewN 1)
            have HWK := Lib.hid (show wrap64 (1 + (k : Int)) = 1 + (k : Int) from IntWalk.wrap64_in _ ⟨by omega, by omega⟩)
            clear hand htm hsum hbl hsum2
            go_wp2_with fail
            go_region_held3 (fun w' => w'.cell? (a.add k) = some (.slice (some a2) M ci) ∧ w'.cell? ⟨(a2.add (m * 3)).block, (a2.add (m * 3)).off + 1, none⟩ = some (.int .i64 o.block)) (go_keep)
              ((first
                | (go_at_call 17; refine (HFL.out _ _ _ _ _ (by first | exact HWK2.out | exact HWK.out | exact Eq.refl _) HJD.out).mono ?_; rintro e w7 ⟨rfl, hj, hv, hb⟩
                   have J3 := Lib.hid hj
                   have HV := Lib.hid hv
                   have hb7 : Below w.heap.size w w7 := HB1.out.trans (hj.below.mono HB1.out.size)
                   have t0 : w7.cell? (a.add k) = some (.slice (some a2) M ci) := (hb7.cell (by rw [addr_add_block]; exact hab)).trans HCELL.out
                   have t1 : w7.cell? ⟨(a2.add (m * 3)).block, (a2.add (m * 3)).off + 1, none⟩ = some (.int .i64 o.block) := (HOP.out.drew.below (hb.mono HBW.out.size) hab2).c1
                   clear hj hv hb hb7)
                | (go_at_call 16; refine (l_write J3.out _ (98 + lo2) (by rw [HNUM.out.1, HNUM.out.2.1]; first | rw [HSUM2.out] | rw [HNUM.out.2.2]) (by rw [HMD.out.hi.N]; exact HBL.out) HV.out (by have := HMD.out.load; omega)).mono ?_; rintro e w8 ⟨rfl, hj⟩
                   have J4 := Lib.hid (JL.v hj)
                   have hb8 : Below w.heap.size w w8 := HB1.out.trans (hj.below.mono HB1.out.size)
                   have q0 : w8.cell? (a.add k) = some (.slice (some a2) M ci) := (hb8.cell (by rw [addr_add_block]; exact hab)).trans HCELL.out
                   have q1 : w8.cell? ⟨(a2.add (m * 3)).block, (a2.add (m * 3)).off + 1, none⟩ = some (.int .i64 o.block) := (hb8.cell (p := ⟨(a2.add (m * 3)).block, (a2.add (m * 3)).off + 1, none⟩) (by show (a2.add (m * 3)).block < _; rw [addr_add_block]; exact hab2)).trans HC1.out
                   clear hj hb8)))
            all_goals
              clear t0 t1 q0 q1 J2 J3 HV HJD
              go_wp2_with fail
              go_roundw
              case rel => exact ⟨m + 1, _, by omega, by omega, by go_num, J4.out, HMD.out.write (98 + lo2) ⟨k + 1, Nat.le_refl _, rfl⟩⟩
              case measure => simp [RowKit.intOf]; omega
          · have hsp : ¬ ((m : Int) < (M : Int)) ∨ ((m : Int) < (M : Int)) ∧ ¬ ((m : Int) < 64) := by omega
            have HMD2 := Lib.hid (HMD.out.up hm64)
            clear hmM
            rcases hsp with h1 | ⟨h1, h2⟩
            all_goals
              go_wp2_with fail
              go_meet
              exact ⟨s', J2.out, HMD2.out⟩
      case rest =>
        obtain ⟨s', hj, hmid⟩ := hcut
        have J2 := Lib.hid hj
        have HMD2 := Lib.hid hmid
        clear hj hmid J1
        have HST := Lib.hid (l_stop_at J2.out ((jz.handles : Int) + 1) (jz.handles + 1) 64 (by omega) (if_pos rfl) (by have := HRN.out.hand; show jz.handles + 1 ≤ 1073741824; omega))
        go_wp2_with fail
        refine HST.out.mono ?_
        rintro e w9 ⟨rfl, hj⟩
        have J5 : Hid (JV w1 w9 jb b db ((jz.start 64).stop (jz.handles + 1)) s') := Lib.hid (JL.v hj)
        clear hj J2 HST
        go_upto_region 19 with fail
        go_cut [17] from 101 to 109 (fun s17 wx => wx = w9 ∧ ∃ q : Bool, s17 = .bool q ∧ (q = true ↔ (k + 1 = N ∨ k + 1 = 20)))
        case first =>
          have hw1 : wrap64 ((N : Int) - 1) = (N : Int) - 1 := IntWalk.wrap64_in _ ⟨by omega, by omega⟩
          by_cases hN1 : k + 1 = N
          · have hE : (N : Int) - 1 = (k : Int) := by omega
            go_wp2_with fail
            go_meet
            exact ⟨rfl, _, rfl, by simp [hN1]⟩
          · have hE : ¬ ((k : Int) = (N : Int) - 1) := by omega
            by_cases hk19 : k + 1 = 20
            · obtain rfl : k = 19 := by omega
              go_wp2_with fail
              go_meet
              exact ⟨rfl, _, rfl, by simp⟩
            · have hE2 : ¬ ((k : Int) = 19) := by omega
              go_wp2_with fail
              go_meet
              exact ⟨rfl, _, rfl, by simp; omega⟩
        case rest =>
          obtain ⟨rfl, q, rfl, hq⟩ := hcut
          have HQ := Lib.hid hq
          clear hq
          go_upto_region 20 with fail
          go_cut [] from 110 to 117 (fun wx => ∃ q2 : Bool, Hid (JV w1 wx jb b db (((jz.start 64).stop (jz.handles + 1)).ask q2) s') ∧ (q = true → q2 = true))
          case first =>
            by_cases hb3 : bits BinOp.and IntKind.i64 (k : Int) 3 = 3
            · have HASK := Lib.hid (l_ask J5.out true)
              go_wp2_with fail
              refine HASK.out.mono ?_
              rintro e w10 ⟨rfl, hj⟩
              have J6 := Lib.hid (JL.v hj)
              clear hj
              go_wp2_with fail
              go_meet
              exact ⟨true, J6, fun _ => rfl⟩
            · have HASK := Lib.hid (l_ask J5.out)
              cases q
              all_goals
                go_wp2_with fail
                refine (HASK.out _).mono ?_
                rintro e w10 ⟨rfl, hj⟩
                have J6 := Lib.hid (JL.v hj)
                clear hj
                go_wp2_with fail
                go_meet
                exact ⟨_, J6, by first | exact fun _ => rfl | (intro h; cases h)⟩
          case rest =>
            obtain ⟨q2, J6, hq2⟩ := hcut
            have HQ2 := Lib.hid hq2
            clear hq2
            obtain ⟨l, jz', sz', hruns, hrnd, hclean, hlen⟩ := HRN.out.next hlt2 (Nat.le_refl _) HMD2.out J6.out.wf q2
            have HR2 := Lib.hid hruns
            have HRN2 := Lib.hid hrnd
            have HCL := Lib.hid hclean
            have HLEN := Lib.hid hlen
            have HI1 := Lib.hid (HMD2.out.hi.jr (j' := ((jz.start 64).stop (jz.handles + 1)).ask q2) rfl)
            clear hruns hrnd hclean hlen J5
            go_upto_block 4 with fail
            go_cut [18] from 118 to 137 (fun s18 wx => ∃ (lx : List Stp) (jx : Jr) (sx : Sto), JV w1 wx jb b db jx sx ∧ Runs jx sx lx jz' sz' ∧ HI (k + 1) jx sx ∧ (lx = [] ∨ q = true))
            case first =>
              go_wp2_with fail
              go_loopw [18] (fun i wr => ∃ (n : Nat) (lx : List Stp) (jx : Jr) (sx : Sto), n ≤ 293 ∧ i = .int .i64 n ∧ JV w1 wr jb b db jx sx ∧ Runs jx sx lx jz' sz' ∧ HI (k + 1) jx sx ∧ lx.length + n ≤ 293) (fun i _ => 293 - (RowKit.intOf i).toNat)
              case atStart => exact ⟨0, l, _, _, Nat.zero_le _, rfl, J6.out, HR2.out, HI1.out, by have := HLEN.out; omega⟩
              case round =>
                obtain ⟨n, lx, jx, sx, hn, rfl, hj, hr, hi, hln⟩ := hrel
                have J7 := Lib.hid hj
                have HI2 := Lib.hid hi
                have HLN := Lib.hid hln
                clear hj hi hln J6 HR2 HI1 HLEN
                cases hr with
                | nil =>
                  have HB := Lib.hid (l_busy J7.out false HRN2.out.opn.wanted)
                  go_wp2_with fail
                  refine HB.out.mono ?_
                  rintro e w11 ⟨rfl, rfl⟩
                  go_wp2_with fail
                  go_meet
                  exact ⟨[], _, _, J7.out, .nil _ _, HI2.out, .inl rfl⟩
                | @cons _ _ j1 s1 _ _ o l2 hok hst hd hc hr2 =>
                  have HB := Lib.hid (l_busy J7.out true (runs_wanted hok))
                  have HI3 := Lib.hid (HI2.out.runs (.cons hok hst hd hc (.nil _ _)))
                  have HSTP := Lib.hid (l_step J7.out HT1.out hok hst)
                  have HR3 := Lib.hid hr2
                  have HR4 := Lib.hid (Runs.cons hok hst hd hc hr2)
                  clear hok hst hd hc hr2
                  by_cases h255 : (n : Int) < bits BinOp.and IntKind.i64 x 255
                  · go_wp2_with fail
                    refine HB.out.mono ?_
                    rintro e w11 ⟨rfl, rfl⟩
                    go_wp2_with fail
                    refine HSTP.out.mono ?_
                    rintro e w12 ⟨rfl, hj⟩
                    have J8 := Lib.hid (JL.v hj)
                    clear hj
                    go_wp2_with fail
                    go_roundw
                    case rel => exact ⟨n + 1, l2, _, _, by have := HLN.out; simp at this; omega, by go_num, J8.out, HR3.out, HI3.out, by have := HLN.out; simp at this; omega⟩
                    case measure => have := HLN.out; simp at this; simp [RowKit.intOf]; omega
                  · cases q with
                    | false =>
                      go_wp2_with fail
                      refine HB.out.mono ?_
                      rintro e w11 ⟨rfl, rfl⟩
                      go_wp2_with fail
                      refine HSTP.out.mono ?_
                      rintro e w12 ⟨rfl, hj⟩
                      have J8 := Lib.hid (JL.v hj)
                      clear hj
                      go_wp2_with fail
                      go_roundw
                      case rel => exact ⟨n + 1, l2, _, _, by have := HLN.out; simp at this; omega, by go_num, J8.out, HR3.out, HI3.out, by have := HLN.out; simp at this; omega⟩
                      case measure => have := HLN.out; simp at this; simp [RowKit.intOf]; omega
                    | true =>
                      by_cases h20 : (20 : Int) < (N : Int)
                      · go_wp2_with fail
                        refine HB.out.mono ?_
                        rintro e w11 ⟨rfl, rfl⟩
                        go_wp2_with fail
                        refine HSTP.out.mono ?_
                        rintro e w12 ⟨rfl, hj⟩
                        have J8 := Lib.hid (JL.v hj)
                        clear hj
                        go_wp2_with fail
                        go_roundw
                        case rel => exact ⟨n + 1, l2, _, _, by have := HLN.out; simp at this; omega, by go_num, J8.out, HR3.out, HI3.out, by have := HLN.out; simp at this; omega⟩
                        case measure => have := HLN.out; simp at this; simp [RowKit.intOf]; omega
                      · go_wp2_with fail
                        refine HB.out.mono ?_
                        rintro e w11 ⟨rfl, rfl⟩
                        go_wp2_with fail
                        go_meet
                        exact ⟨o :: l2, jx, sx, J7.out, HR4.out, HI2.out, .inr (by trivial)⟩
            case rest =>
              obtain ⟨lx, jx, sx, hj, hr, hi, hor⟩ := hcut
              have J7 := Lib.hid hj
              have HR3 := Lib.hid hr
              have HI2 := Lib.hid hi
              have HOR := Lib.hid hor
              clear hj hr hi hor J6 HR2
              go_wp2_with fail
              go_loopw [19] (fun i wr => ∃ n : Nat, 98 ≤ n ∧ n ≤ 300 ∧ i = .int .i64 n ∧ JV w1 wr jb b db jx sx) (fun i _ => 300 - (RowKit.intOf i).toNat)
              case atStart => exact ⟨98, Nat.le_refl _, by decide, rfl, J7.out⟩
              case round =>
                obtain ⟨n, h98, h300, rfl, hj⟩ := hrel
                have J8 := Lib.hid hj
                clear hj J7
                by_cases hn : n < 300
                · have hn2 : (n : Int) < 300 := by omega
                  have hrd := l_dread J8.out (n : Int) n rfl (by rw [HI2.out.N]; exact hn)
                  obtain ⟨x9, hx1, hx2, hx3⟩ := flat_ends (HI2.out.disk n h98 hn) (by omega)
                  rw [hx2] at hrd
                  have HRD := Lib.hid hrd
                  clear hrd
                  go_wp2_with fail
                  refine HRD.out.mono ?_
                  rintro e w11 ⟨g, rfl, hg, hrow, hlen, hb⟩
                  have J9 := Lib.hid (JL.v (J8.out.go hb))
                  have r0 := full_cell0 hrow hx3
                  have r1 := full_cell255 hrow hx3
                  obtain ⟨hwk, hwk2, hw9, hw92, hgt, hnq⟩ := read_facts k x9 hx1 (Nat.le_of_lt hlt2)
                  clear hg hrow hlen hb HRD
                  go_wp2_with fail
                  go_quiet (fail)
                  go_wp2_with fail
                  go_roundw
                  case rel => exact ⟨n + 1, by omega, by omega, by go_num, JL.v (J9.out.drewN nq)⟩
                  case measure => simp [RowKit.intOf]; omega
                · obtain rfl : n = 300 := by omega
                  go_wp2_with fail
                  go_roundw
                  case rel => exact ⟨k + 1, jx, sx, lx, jz', sz', by omega, by omega, by go_num, J8.out, HR3.out, HRN2.out, fun h => by
                    rcases HOR.out with h1 | h1
                    · exact h1
                    · exact absurd (HQ.out.1 h1) (by omega), fun h _ => HCL.out (HQ2.out (HQ.out.2 (by omega)))⟩
                  case measure => simp [RowKit.intOf]; omega
    · have hsp : ¬ ((k : Int) < (N : Int)) ∨ ((k : Int) < (N : Int)) ∧ ¬ ((k : Int) < 20) := by omega
      have HEND := Lib.hid (show k = N ∨ k = 20 by omega)
      rcases hsp with h1 | ⟨h1, h2⟩
      all_goals
        go_wp2_with fail
        go_loopw [] (fun wr => ∃ n : Nat, RunsAt w1 jb b db jz sz n wr) (fun wr => runLen w1 jb b db jz sz wr)
        case atStart => exact ⟨l.length, l, j, s, rfl, HJ.out, HR.out⟩
        case round =>
          obtain ⟨⟨lx, jx, sx, hlx, hj, hr⟩, hmin⟩ := runLen_spec hrel
          have J7 := Lib.hid hj
          have HMIN := Lib.hid hmin
          have HLX := Lib.hid hlx
          clear hj hmin hlx hrel HJ HR
          cases hr with
          | nil =>
            have HB := Lib.hid (l_busy J7.out false HRN.out.opn.wanted)
            go_wp2_with fail
            refine HB.out.mono ?_
            rintro e w11 ⟨rfl, rfl⟩
            by_cases hN0 : (0 : Int) < (N : Int)
            · have hw0 := HW0.out HEND.out (by have := HEND.out; omega)
              have HST := Lib.hid (show Still k jz sz 0 from ⟨HRN.out.hi, HRN.out.now, hw0, HRN.out.P, HRN.out.load⟩)
              clear hw0
              go_wp2_with fail
              go_loopw [22] (fun i wr => ∃ (n : Nat) (s' : Sto), 98 ≤ n ∧ n ≤ 300 ∧ i = .int .i64 n ∧ JV w1 wr jb b db jz s' ∧ Still k jz s' n) (fun i _ => 300 - (RowKit.intOf i).toNat)
              case atStart => exact ⟨98, sz, Nat.le_refl _, by decide, rfl, J7.out, HST.out.up (Nat.zero_le _)⟩
              case round =>
                obtain ⟨n, s', h98, h300, rfl, hj, hst⟩ := hrel
                have J8 := Lib.hid hj
                have HS2 := Lib.hid hst
                clear hj hst J7 HST
                by_cases hn : n < 300
                · have hn2 : (n : Int) < 300 := by omega
                  have HRD := Lib.hid (still_sread J8.out HS2.out h98 hn hk20)
                  go_wp2_with fail
                  refine HRD.out.mono ?_
                  rintro e w12 ⟨u, rfl, hj, hst, hu⟩
                  have J9 := Lib.hid (JL.v hj)
                  have HS3 := Lib.hid hst
                  have HU := Lib.hid hu
                  clear hj hst hu HRD J8 HS2
                  have HRD2 := Lib.hid (still_dread J9.out HS3.out h98 hn HU.out)
                  go_wp2_with fail
                  refine HRD2.out.mono ?_
                  rintro e w13 ⟨g, rfl, hj, hu, hv⟩
                  have J10 := Lib.hid hj
                  have HSM := Lib.hid (Same_blk _ _ _ _ _ w13 hu hv)
                  clear hj hu hv HU HRD2 J9
                  go_wp2_with fail
                  refine HSM.out.mono ?_
                  rintro e wq ⟨rfl, nd, rfl⟩
                  have J11 := Lib.hid (JL.v (J10.out.drewN nd))
                  clear HSM J10
                  generalize w13.drewN nd = wq at *
                  go_wp2_with fail
                  go_roundw
                  case rel => exact ⟨n + 1, _, by omega, by omega, by go_num, J11.out, HS3.out⟩
                  case measure => simp [RowKit.intOf]; omega
                · obtain rfl : n = 300 := by omega
                  have HP := Lib.hid (l_pending J8.out 0 (by rw [HS2.out.P]; rfl) (by have := HS2.out.load; omega))
                  have hN1 : ((N : Int) == 0) = false := by rw [beq_eq_false_iff_ne]; omega
                  go_wp2_with fail
                  refine HP.out.mono ?_
                  rintro e w12 ⟨A2, c2, rfl, hj⟩
                  have J9 := Lib.hid (JL.v hj)
                  clear hj HP J8
                  have HWT := Lib.hid (l_waiting J9.out 0 (by rw [wai_none HS2.out.wai]; rfl))
                  go_wp2_with fail
                  refine HWT.out.mono ?_
                  rintro e w13 ⟨A3, c3, rfl, hj⟩
                  have J10 := Lib.hid (JL.v hj)
                  clear hj HWT J9
                  go_wp2_with fail
                  go_ret
                  exact ⟨rfl, HB1.out.trans (J10.out.below.mono HB1.out.size)⟩
            · have hN1 : ((N : Int) == 0) = true := by rw [beq_iff_eq]; omega
              go_wp2_with fail
              go_loopw [22] (fun i wr => i = .int .i64 98 ∧ JV w1 wr jb b db jz sz) (fun _ _ => 0)
              case atStart => exact ⟨rfl, J7.out⟩
              case round =>
                obtain ⟨rfl, hj⟩ := hrel
                have J8 := Lib.hid hj
                clear hj J7
                go_wp2_with fail
                all_goals
                  go_ret
                  exact ⟨rfl, HB1.out.trans (J8.out.below.mono HB1.out.size)⟩
          | @cons _ _ j1 s1 _ _ o l2 hok hst hd hc hr2 =>
            have HB := Lib.hid (l_busy J7.out true (runs_wanted hok))
            have HSTP := Lib.hid (l_step J7.out HT1.out hok hst)
            have HR3 := Lib.hid hr2
            clear hok hst hd hc hr2
            go_wp2_with fail
            refine HB.out.mono ?_
            rintro e w11 ⟨rfl, rfl⟩
            go_wp2_with fail
            refine HSTP.out.mono ?_
            rintro e w12 ⟨rfl, hj⟩
            have J8 := Lib.hid (JL.v hj)
            have HRA := Lib.hid (show RunsAt w1 jb b db jz sz l2.length w12 from ⟨l2, _, _, rfl, J8.out, HR3.out⟩)
            clear hj
            go_wp2_with fail
            go_roundw
            case rel => exact ⟨_, HRA.out⟩
            case measure => exact runLen_less HRA.out HLX.out
end Go.Proofs.YtmlgchmladkfpaaGreatDoor.NLHome
