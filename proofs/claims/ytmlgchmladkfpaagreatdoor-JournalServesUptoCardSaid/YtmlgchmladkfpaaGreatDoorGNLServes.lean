/- The law JournalServes: who keeps within his credits is served, and each commit ends within a told number of steps. -/
import Derived.Test.YtmlgchmladkfpaaGreatDoorMg43
import Derived.Test.YtmlgchmladkfpaaGreatDoorMg40
import Derived.Test.YtmlgchmladkfpaaGreatDoorMg20
import Derived.Deep.RegionHeld3
import Derived.Deep.CutBlock
namespace Go.Proofs.YtmlgchmladkfpaaGreatDoor.NLServes
open DPlain hiding OpV low7 low7_lt
open Go.RowKit WMem WPlain WAppend WCrc WSeal Ext Map DMem Mk DBase DRead DWrite EPlain EMem EFace EAny EScript JPlain JMem JNeed JLayM NPlain NMem NFace NRuns NOpen NLive NFill NAwake NHomeM NScript
open NAwM hiding j0 j1 s1 s1_nums

/-- how long the first k rows are together -/
def tot : List (List OpV) → Nat → Nat
  | _, 0 => 0
  | [], _ + 1 => 0
  | l :: r, k + 1 => l.length + tot r k
theorem tot_succ : ∀ (ll : List (List OpV)) (k : Nat) (h : k < ll.length), tot ll (k + 1) = tot ll k + ll[k].length
  | [], _, h => absurd h (Nat.not_lt_zero _)
  | l :: r, 0, _ => by
    show l.length + tot r 0 = tot (l :: r) 0 + l.length
    have h1 : tot r 0 = 0 := by cases r <;> rfl
    have h2 : tot (l :: r) 0 = 0 := rfl
    omega
  | l :: r, k + 1, h => by
    have hk : k < r.length := Nat.lt_of_succ_lt_succ h
    have ih := tot_succ r k hk
    show l.length + tot r (k + 1) = l.length + tot r k + (r[k]'hk).length
    omega
theorem ops_tail {w : World} {B : Nat} {a : Addr} {o : OpV} {l : List OpV} (h : OpsIn w B (some a) (o :: l)) : OpsIn w B (some (a.add 3)) l := fun i hi => by
  obtain ⟨a', e, h1, h2, h3, h4, h5⟩ := h (i + 1) (Nat.succ_lt_succ hi)
  injection e with e
  subst e
  refine ⟨a.add 3, rfl, by rw [addr_add_block]; exact h1, ?_, ?_, ?_, h5⟩
  · rw [addr_add_add, show 3 + i * 3 = (i + 1) * 3 by omega]; exact h2
  · rw [addr_add_add, show 3 + (i * 3 + 1) = (i + 1) * 3 + 1 by omega]; exact h3
  · rw [addr_add_add, show 3 + (i * 3 + 2) = (i + 1) * 3 + 2 by omega]; exact h4
/-- within a handle: m writes at most -/
structure Mid (s0 s : Sto) (m : Nat) : Prop where
  wai : s.wai = s0.wai
  hld : s.now.hld = s0.now.hld
  N : s.N = s0.N
  cnt : (numsOf s.now.chg s.N).length ≤ (numsOf s0.now.chg s0.N).length + m
  load : s.load ≤ s0.load + m
  chg : ∀ n, (s0.now.chg n).isSome = true → (s.now.chg n).isSome = true
theorem Mid.refl (s : Sto) : Mid s s 0 := ⟨rfl, rfl, rfl, Nat.le_refl _, Nat.le_refl _, fun _ h => h⟩
theorem Mid.write {s0 s : Sto} {m : Nat} (h : Mid s0 s m) (n : Nat) (l : Bk) : Mid s0 (s.write n l) (m + 1) :=
  ⟨h.wai, h.hld, h.N, by have := nums_write s n l; have := h.cnt; omega, by have := Sto.load_write s n l; have := h.load; omega, fun k hk => by
    show (if k = n then some l else s.now.chg k).isSome = true
    split
    · rfl
    · exact h.chg k hk⟩
theorem Mid.up {s0 s : Sto} {m m' : Nat} (h : Mid s0 s m) (hm : m ≤ m') : Mid s0 s m' := ⟨h.wai, h.hld, h.N, by have := h.cnt; omega, by have := h.load; omega, h.chg⟩
/-- between two handles -/
structure Hnd (R k T : Nat) (j : Jr) (s : Sto) : Prop where
  opn : NOpen.Open (60 - k) j s
  N : s.N = 1200
  ring : j.ring = R
  com : j.commits = k
  hand : j.handles ≤ T
  load : s.load ≤ 64 * T + 1000 * k
  fit : (numsOf s.now.chg s.N).length ≤ j.cap
theorem start_cred {j : Jr} (h : ∀ k, j.cred k = none) (c : Nat) : ∀ k, ((j.start c).stop (j.handles + 1)).cred k = none := fun k => by
  show (if k = j.handles + 1 then none else if k = j.handles + 1 then some c else j.cred k) = none
  split
  · rfl
  · exact h k
theorem Hnd.next {R k T n : Nat} {j : Jr} {s s' : Sto} (h : Hnd R k T j s) (m : Mid s s' n) (hn : n ≤ 64) (hf : (numsOf s.now.chg s.N).length + n ≤ j.cap) (hw : s'.Wf) (c : Nat) : Hnd R k (T + 1) ((j.start c).stop (j.handles + 1)) s' := by
  have ho := h.opn
  have hc := m.cnt
  have hl := m.load
  have hl2 := h.load
  have hh := h.hand
  refine ⟨⟨ho.left, ho.wanted, ho.clean, ho.r1, ho.r2, ho.tail, ho.used, ho.s1, ho.s2, by rw [m.N]; exact ho.N, ho.com, hw, ?_, fun n hn => ?_, start_cred ho.cred c⟩, m.N.trans h.N, h.ring, h.com, by show j.handles + 1 ≤ T + 1; omega, by omega, by show _ ≤ j.cap; omega⟩
  · show (numsOf s'.wai s'.N).length ≤ j.used
    rw [m.wai, m.N]
    exact ho.wai
  · rw [m.hld] at hn
    exact m.chg n (ho.hold n hn)
theorem Hnd.up {R k T T' : Nat} {j : Jr} {s : Sto} (h : Hnd R k T j s) (hT : T ≤ T') : Hnd R k T' j s := ⟨h.opn, h.N, h.ring, h.com, by have := h.hand; omega, by have := h.load; omega, h.fit⟩
/-- between two rounds -/
structure Rnd (R k T : Nat) (j : Jr) (s : Sto) : Prop where
  hnd : Hnd R k T j s
  now : s.now = ⟨fun _ => none, fun _ => false⟩
theorem Rnd.up {R k T T' : Nat} {j : Jr} {s : Sto} (h : Rnd R k T j s) (hT : T ≤ T') : Rnd R k T' j s := ⟨h.hnd.up hT, h.now⟩
theorem Hnd.commit {R k T : Nat} {j : Jr} {s : Sto} (h : Hnd R k T j s) (hk : k < 60) (hT : T ≤ 1048576) (hR : R ≤ 158) (q : Bool) :
    ∃ l jz sz, Runs (j.ask q) s l jz sz ∧ Rnd R (k + 1) T jz sz ∧ l.length ≤ 3 * R + 8 ∧ sz.d.N ≤ s.d.N + l.length ∧ s.d.N + (l.length - 1) ≤ sz.d.N := by
  have ho := h.opn
  obtain ⟨B, hB⟩ : ∃ B, 60 - k = B + 1 := ⟨60 - k - 1, by omega⟩
  rw [hB] at ho
  have hlo := h.load
  have hha := h.hand
  have hh : j.handles ≤ 1073741824 := by omega
  have hl : s.load + 30000 ≤ 1073741824 := by omega
  obtain ⟨h1, h2⟩ := commit_open ho q hh hl h.fit
  have hrest := open_rest ho q hh hl
  have hneed : needN (numsOf s.now.chg s.N).length 0 ≤ (j.ask q).ring := need_cap h.fit ho.r1
  obtain ⟨c1, c2⟩ := com_count hrest hl hneed
  have hlen := h2.len
  have hload := h2.load
  have hri := h.ring
  have hco := h.com
  refine ⟨_, _, _, h1, ⟨⟨by rw [show 60 - (k + 1) = B by omega]; exact h2.opn, h2.N.trans h.N, h2.ring.trans hri, by rw [h2.com]; omega, by rw [h2.hand]; exact hha, by omega, by rw [chg_none h2.now]; exact Nat.zero_le _⟩, h2.now⟩, by omega, ?_, ?_⟩
  · rw [h1.disk, doOps_N]; omega
  · rw [h1.disk, doOps_N]; omega
def s0 : Sto := fresh (St.new 1200) 4 16
theorem s0_N : s0.N = 1200 := new_len 1200
theorem s0_wf : s0.Wf := fresh_wf (by decide) (by decide) (by decide) (by decide) (by rw [new_len]; decide) (by rw [new_len]; decide)
theorem may_all : ∀ n : Fin 64, GPlain.mayB 1200 600 16 (96 + ((n : Nat) : Int)) = true := by decide +kernel
theorem Rnd.zero (R : Nat) (h1 : 95 ≤ R) (h2 : R ≤ 158) : Rnd R 0 0 (Jr.new R 1 0) s0 :=
  ⟨⟨⟨rfl, rfl, rfl, by show 12 ≤ R; omega, by show R ≤ 511; omega, by show 0 < R; omega, by show 0 ≤ R; omega, by show 1 ≤ 1; omega, by show 1 + 60 ≤ 2147483646; omega, by rw [s0_N]; show R + 3 ≤ 1200; omega, by show 0 + 60 ≤ 1073741823; omega, s0_wf, by
    show (numsOf (fun _ => none) _).length ≤ 0
    rw [none_nums]
    exact Nat.le_refl _, fun n hn => (by cases hn), fun _ => rfl⟩, s0_N, rfl, rfl, Nat.le_refl _, Nat.le_refl _, by
    show (numsOf (fun _ => none) _).length ≤ _
    rw [none_nums]
    exact Nat.zero_le _⟩, rfl⟩
def low63 (x : Int) : Nat := (BitVec.ofInt 64 x &&& BitVec.ofInt 64 63).toNat
theorem low63_lt (x : Int) : low63 x < 64 := by
  unfold low63
  rw [BitVec.toNat_and]
  exact Nat.lt_of_le_of_lt Nat.and_le_right (by decide)
theorem and63 (x : Int) : bits BinOp.and IntKind.i64 x 63 = (low63 x : Int) := by
  have h := low63_lt x
  show IntKind.i64.wrap ((BitVec.ofInt 64 x &&& BitVec.ofInt 64 63).toNat : Int) = _
  rw [IntKind.wrap_i64]
  unfold low63 at *
  omega
def low10 (x : Int) : Nat := (BitVec.ofInt 64 x &&& BitVec.ofInt 64 1023).toNat
theorem low10_lt (x : Int) : low10 x < 1024 := by
  unfold low10
  rw [BitVec.toNat_and]
  exact Nat.lt_of_le_of_lt Nat.and_le_right (by decide)
theorem and10 (x : Int) : bits BinOp.and IntKind.i64 x 1023 = (low10 x : Int) := by
  have h := low10_lt x
  show IntKind.i64.wrap ((BitVec.ofInt 64 x &&& BitVec.ofInt 64 1023).toNat : Int) = _
  rw [IntKind.wrap_i64]
  unfold low10 at *
  omega
theorem mk_disk (w : World) : Calls Tryz.prog 11 #[.int .i64 1200] w fun e w' => ∃ g, e = .returned (.tuple #[.pointer (some ⟨g, 0, none⟩), .int .i64 0]) ∧ DD w' (Made w w') g (St.new 1200) ∧ Below w.heap.size w w' := New_yes 1200 w (by decide) (by decide)
abbrev JV (a w : World) (jb b db : Nat) (j : Jr) (s : Sto) : Prop := JL a (fun _ => False) w w jb b db j s
theorem JL.v {a w0 w : World} {S : Nat → Prop} {jb b db : Nat} {j : Jr} {s : Sto} (h : JL a S w0 w jb b db j s) : JV a w jb b db j s := (h.less (fun _ hq => hq.elim)).rebase
theorem mk_store {w : World} {S : Nat → Prop} {db : Nat} {d : St} (hd : DD w S db d) (hl : d.L.length = 1200) : Calls Tryz.prog 12 #[.pointer (some ⟨db, 0, none⟩), .int .i64 4, .int .i64 16] w fun e w' => ∃ b ρ, e = .returned (.tuple #[.pointer (some ⟨b, 0, none⟩), .int .i64 0]) ∧ SS w' ρ b db (fresh d 4 16) ∧ (∀ k, Mine ρ k → w.heap.size ≤ k) ∧ Below w.heap.size w w' :=
  ENew.New_yes db 4 16 d w hd.c0 (by decide) (by decide) (by decide) (by decide) (by omega) (by omega)
theorem mk_journal {a w : World} {b db : Nat} {s : Sto} {ρ : Ro} {D : Nat → Prop} (h : Live a w ρ D b db s) (hN : s.N = 1200) (jl : Nat) (hj : jl < 64) :
    Calls Tryz.prog 13 #[.pointer (some ⟨b, 0, none⟩), .pointer (some ⟨db, 0, none⟩), .agg #[.int .i64 1200, .int .i64 600, .int .i64 16, .int .i64 (96 + (jl : Int))], .int .i64 1, .int .i64 0] w fun e w' =>
      ∃ jb, e = .returned (.tuple #[.pointer (some ⟨jb, 0, none⟩), .int .i64 0]) ∧ JL a (fun _ => False) w' w' jb b db (Jr.new (95 + jl) 1 0) s :=
  l_new h.own h.new h.below 1200 hN 600 16 (96 + (jl : Int)) (may_all ⟨jl, hj⟩) 1 0 (95 + jl) (by omega) (by decide) (by decide) (by omega) (by omega)
theorem box_new (w : World) (a b c d : Value) (T : TypeId) : RowV (w.alloc (.cells #[a, b, c, d] T)) w.heap.size T [a, b, c, d] := row_new w _
theorem box_at {w w' : World} {g : Nat} {T : TypeId} {a b c d : Value} (h : RowV w g T [a, b, c, d]) (hb : Below w.heap.size w w') : w'.cell? ⟨g, 0, none⟩ = some a ∧ w'.cell? ⟨g, 1, none⟩ = some b ∧ w'.cell? ⟨g, 2, none⟩ = some c ∧ w'.cell? ⟨g, 3, none⟩ = some d := by
  have h2 : RowV w' g T [a, b, c, d] := row_below h hb (row_lt h)
  exact ⟨(row_cell h2 0).trans rfl, (row_cell h2 1).trans rfl, (row_cell h2 2).trans rfl, (row_cell h2 3).trans rfl⟩
theorem below_alloc (w : World) (o : Obj) : Below w.heap.size w (w.alloc o) := (Below.refl _ _).alloc (Nat.le_refl _) _
def capR (R : Nat) : Nat := R * 3 / 4 - 4
theorem Hnd.cap {R k T : Nat} {j : Jr} {s : Sto} (h : Hnd R k T j s) : j.cap = capR R := by unfold Jr.cap capR; rw [h.ring]
theorem at_cells {w W : World} {B : Nat} {a : Addr} {lr : List OpV} (h : OpsIn w B (some a) lr) (hb : Below B w W) {m : Nat} (hm : m < lr.length) : W.cell? ⟨(a.add (m * 3)).block, (a.add (m * 3)).off + 1, none⟩ = some (.int .i64 lr[m].block) ∧ W.cell? ⟨(a.add (m * 3)).block, (a.add (m * 3)).off + 2, none⟩ = some (.int .i64 lr[m].fill) := by
  obtain ⟨a', e, _, h2, _⟩ := op_at h hb hm
  injection e with e
  subst e
  exact ⟨h2.c1, h2.c2⟩
theorem l_stop_at {a w0 w : World} {S : Nat → Prop} {jb b db : Nat} {j : Jr} {s : Sto} (h : JL a S w0 w jb b db j s) (n : Int) (m c : Nat) (hm : (m : Int) = n) (hn : j.cred m = some c) (hh : j.handles ≤ 1073741824) : Calls Tryz.prog 18 #[.pointer (some ⟨jb, 0, none⟩), .int .i64 n] w fun e w' => e = .returned (.int .i64 0) ∧ JL a S w0 w' jb b db (j.stop m) s := by
  subst hm
  exact l_stop h m c hn hh
theorem rest_ops {w : World} {B : Nat} {a : Addr} {lr : List OpV} {cr : Nat} (h : OpsIn w B (some a) lr) (hc : lr.length ≤ cr) (h0 : 0 < lr.length) : ∃ lr' : List OpV, lr'.length = lr.length - 1 ∧ OpsIn w B (if cr = 1 then some a else some { block := a.block, off := a.off + 3 }) lr' := by
  match lr, h0 with
  | o :: l, _ =>
    refine ⟨l, by simp, ?_⟩
    by_cases h1 : cr = 1
    · rw [if_pos h1]
      have : l = [] := by
        simp at hc
        exact List.eq_nil_of_length_eq_zero (by omega)
      subst this
      exact fun i hi => by cases hi
    · rw [if_neg h1]
      exact ops_tail h
theorem left_fits (C n : Nat) (h : n ≤ C) (hC : C ≤ 1000) : ∃ lf : Nat, wrap64 ((C : Int) - (n : Int)) = (lf : Int) ∧ n + lf = C :=
  ⟨C - n, by rw [IntWalk.wrap64_in _ ⟨by omega, by omega⟩]; omega, by omega⟩
theorem runs_wanted {j : Jr} {s : Sto} (h : StepOk j s) : j.wanted = true := by
  have := h.may
  unfold NPlain.may at this
  rw [Bool.and_eq_true] at this
  exact this.1
theorem ops_fit (a b L : Nat) (h1 : a ≤ b + L) (h2 : b + (L - 1) ≤ a) (hL : L ≤ 1000) : ∃ d : Nat, wrap64 ((a : Int) - (b : Int)) = (d : Int) ∧ d ≤ L ∧ L ≤ d + 1 :=
  ⟨a - b, by rw [IntWalk.wrap64_in _ ⟨by omega, by omega⟩]; omega, by omega, by omega⟩
theorem end_fits (jl n d : Nat) (hj : jl < 64) (hn : n ≤ 3 * (95 + jl) + 8) (h1 : d ≤ n) (h2 : n ≤ d + 1) :
    decide (4 * (96 + (jl : Int) - 1) + 20 < (n : Int)) = false ∧ decide (n < d) = false ∧ wrap64 ((n : Int) - 1) = (n : Int) - 1 ∧ decide ((d : Int) < (n : Int) - 1) = false :=
  ⟨decide_eq_false (by omega), decide_eq_false (by omega), IntWalk.wrap64_in _ ⟨by omega, by omega⟩, decide_eq_false (by omega)⟩
def slen : Value → Nat
  | .slice _ n _ => n
  | _ => 0
set_option maxHeartbeats 8000000 in
set_option maxRecDepth 100000 in
theorem serves_true (x : Int) (ll : List (List OpV)) (A : Option Addr) (c : Nat) (w : World) (hA : OpsIn2 w w.heap.size A ll) (_hl : ll.length ≤ 9223372036854775807) (hll : ∀ (i : Nat) (hi : i < ll.length), ll[i].length ≤ 9223372036854775807) (htt : ∀ k, tot ll k ≤ 1048576) (hT : Tab w) :
    Calls Tryz.prog 4 #[.int .i64 x, .slice A ll.length c] w fun e w' => e = .returned (.bool true) ∧ Below w.heap.size w w' := by
  have HA := Lib.hid hA
  have HAW := Lib.hid (awake_any w hT)
  have HT := Lib.hid hT
  have HLL := Lib.hid hll
  have HTT := Lib.hid htt
  obtain ⟨N, hN⟩ : ∃ N, ll.length = N := ⟨_, rfl⟩
  have HN := Lib.hid hN
  rw [hN]
  clear hA hT hN hll htt
  go_enter Tryz.func4, Tryz.ntmps4
  go_wp2_with fail
  refine HAW.out.mono ?_
  rintro e w1 ⟨rfl, hb1⟩
  have HB1 := Lib.hid hb1
  clear hb1
  obtain ⟨jl, hjl, hj64⟩ : ∃ jl : Nat, bits BinOp.and IntKind.i64 x 63 = (jl : Int) ∧ jl < 64 := ⟨low63 x, and63 x, low63_lt x⟩
  go_wp2_with fail
  have HBX := Lib.hid (box_new w1 (.int .i64 1200) (.int .i64 600) (.int .i64 16) (.int .i64 (96 + (jl : Int))) 35)
  have HBA := Lib.hid (HB1.out.trans ((below_alloc w1 _).mono HB1.out.size) : Below w.heap.size w (w1.alloc (Obj.cells #[.int .i64 1200, .int .i64 600, .int .i64 16, .int .i64 (96 + (jl : Int))] 35)))
  generalize w1.alloc _ = wA at *
  generalize w1.heap.size = g at *
  refine (mk_disk wA).mono ?_
  rintro e w2 ⟨db, rfl, hd, hb⟩
  have HD1 := Lib.hid hd
  have HB2 := Lib.hid hb
  clear hd hb
  go_wp2_with fail
  refine (mk_store HD1.out (new_len 1200)).mono ?_
  rintro e w3 ⟨b, ρ0, rfl, hs, hm, hb2⟩
  have H0 : Hid (Live wA w3 ρ0 (Made wA w2) b db s0) := live_new HD1.out (fun q hq => hq.1) HB2.out hs hm hb2
  obtain ⟨b0, b1, b2, b3⟩ := box_at HBX.out H0.out.below
  clear hs hm hb2
  go_wp2_with fail
  refine (mk_journal H0.out s0_N jl hj64).mono ?_
  rintro e w5 ⟨jb, rfl, hj⟩
  have J0 : Hid (JV wA w5 jb b db (Jr.new (95 + jl) 1 0) s0) := Lib.hid (JL.v hj)
  have HT1 := Lib.hid (Tab.below HT.out HBA.out (Tab.lt HT.out))
  clear hj H0 HD1 HB2 HT HAW b0 b1 b2 b3
  go_wp2_with fail
  go_loopw [13] (fun i wr => ∃ (k : Nat) (j : Jr) (s : Sto), k ≤ N ∧ k ≤ 60 ∧ i = .int .i64 k ∧ JV wA wr jb b db j s ∧ Rnd (95 + jl) k (tot ll k) j s) (fun i _ => N - (RowKit.intOf i).toNat)
  case atStart => exact ⟨0, _, _, Nat.zero_le _, Nat.zero_le _, rfl, J0.out, (Rnd.zero (95 + jl) (by omega) (by omega)).up (Nat.zero_le _)⟩
  case round =>
    obtain ⟨k, j, s, hkN, hk60, rfl, hj, hrn⟩ := hrel
    have HJ := Lib.hid hj
    have HRN := Lib.hid hrn
    clear hj hrn J0
    by_cases hlt : k < N ∧ k < 60
    · obtain ⟨hlt1, hlt2⟩ := hlt
      have hk1 : (k : Int) < (N : Int) := by omega
      have hk2 : (k : Int) < 60 := by omega
      have hring := HRN.out.hnd.ring
      have HCP := Lib.hid (l_cap HJ.out (by omega) (by omega) ((capR (95 + jl) : Nat) : Int) (by rw [HRN.out.hnd.cap]))
      clear hring
      go_wp2_with fail
      refine HCP.out.mono ?_
      rintro e w6 ⟨rfl, rfl⟩
      have hB6 : Below w.heap.size w wr := HBA.out.trans (HJ.out.below.mono HBA.out.size)
      obtain ⟨a, Ai, ci, rfl, hab, hcell, hops, hci⟩ := ops2_at HA.out (Below.refl w.heap.size w) (show k < ll.length by have := HN.out; omega)
      have htk := tot_succ ll k (by have := HN.out; omega)
      have hlk := HLL.out k (by have := HN.out; omega)
      generalize ll[k]'(show k < ll.length by have := HN.out; omega) = lk at *
      have r0 : wr.cell? (a.add k) = some (.slice Ai lk.length ci) := (hB6.cell (by rw [addr_add_block]; exact hab)).trans hcell
      have HOPS := Lib.hid hops
      have HTK := Lib.hid htk
      have HLK := Lib.hid hlk
      clear hcell hops hab hB6 htk hlk HCP
      go_upto_block 2 with fail
      go_cut [14, 15, 16, 17, 18, 19] from 67 to 136 (fun s14 s15 s16 s17 s18 s19 wx => ∃ (T : Nat) (jx : Jr) (sx : Sto), T ≤ tot ll (k + 1) ∧ JV wA wx jb b db jx sx ∧ Hnd (95 + jl) k T jx sx)
      case first =>
        go_wp2_with fail
        go_loopw [14, 15] (fun v14 v15 wr => ∃ (T lf : Nat) (Ar : Option Addr) (lr : List OpV) (cr : Nat) (jx : Jr) (sx : Sto), v14 = .int .i64 lf ∧ v15 = .slice Ar lr.length cr ∧ lr.length ≤ cr ∧ lr.length ≤ 9223372036854775807 ∧ OpsIn w w.heap.size Ar lr ∧ T + lr.length ≤ tot ll (k + 1) ∧ JV wA wr jb b db jx sx ∧ Hnd (95 + jl) k T jx sx ∧ (numsOf sx.now.chg sx.N).length + lf = capR (95 + jl)) (fun _ v15 _ => slen v15)
        case atStart => exact ⟨tot ll k, capR (95 + jl), Ai, lk, ci, j, s, rfl, rfl, hci, HLK.out, HOPS.out, Nat.le_of_eq HTK.out.symm, HJ.out, HRN.out.hnd, by rw [chg_none HRN.out.now]; exact Nat.zero_add _⟩
        case round =>
          obtain ⟨T, lf, Ar, lr, cr, jx, sx, rfl, rfl, hcr, hlr, hop, hT, hj, hh, hfit⟩ := hrel
          have J1 := Lib.hid hj
          have HH := Lib.hid hh
          have HOP := Lib.hid hop
          have HFIT := Lib.hid hfit
          have HTL := Lib.hid hT
          have HLR := Lib.hid hlr
          clear hj hh hop hfit hT hlr HJ HOPS
          by_cases hgo : 0 < lr.length ∧ 0 < lf
          · obtain ⟨hg1, hg2⟩ := hgo
            have hg3 : (0 : Int) < (lr.length : Int) := by omega
            have hg4 : (0 : Int) < (lf : Int) := by omega
            have hBw : Below w.heap.size w wr := HBA.out.trans (J1.out.below.mono HBA.out.size)
            obtain ⟨a2, rfl, hab2, hopa, -⟩ := op_at HOP.out hBw (k := 0) hg1
            have r1 : wr.cell? ⟨a2.block, a2.off + 1, none⟩ = some (.int .i64 (lr[0]'hg1).block) := hopa.c1
            generalize (lr[0]'hg1).block = A1 at *
            obtain ⟨n0, hn0, hn64⟩ : ∃ n0 : Nat, bits BinOp.and IntKind.i64 A1 63 = (n0 : Int) ∧ n0 < 64 := ⟨low63 A1, and63 A1, low63_lt A1⟩
            clear hopa hBw
            obtain ⟨nn, hmin, hn1, hn2, hn3⟩ : ∃ nn : Nat, min (1 + (n0 : Int)) (lf : Int) = (nn : Int) ∧ 1 ≤ nn ∧ nn ≤ 64 ∧ nn ≤ lf := ⟨min (1 + n0) lf, by omega, by omega, by omega, by omega⟩
            have hring := HH.out.ring
            have hcap := HH.out.cap
            have hhand := HH.out.hand
            have htt := HTT.out (k + 1)
            have htl := HTL.out
            have hpr : jx.promised = 0 := NCred.sumTo_none _ (fun n _ _ => HH.out.opn.cred n)
            have HST := Lib.hid (l_start J1.out nn hn1 hn2 HH.out.opn.wanted (by omega) (by omega) (by omega) (fun n c h => by rw [HH.out.opn.cred n] at h; cases h) (by rw [hpr, hcap]; have := HFIT.out; omega))
            clear hring hcap hhand htt htl hpr
            go_wp2_with fail
            refine HST.out.mono ?_
            rintro e w7 ⟨rfl, hj⟩
            have J2 := Lib.hid (JL.v hj)
            clear hj HST J1 r0 r1
            go_upto_block 4 with fail
            go_cut [19] from 91 to 121 (fun s19 wx => ∃ s', JV wA wx jb b db (jx.start nn) s' ∧ Mid sx s' nn)
            case first =>
              go_wp2_with fail
              go_loopw [19] (fun i wr => ∃ (m : Nat) (s' : Sto), m ≤ nn ∧ m ≤ lr.length ∧ i = .int .i64 m ∧ JV wA wr jb b db (jx.start nn) s' ∧ Mid sx s' m) (fun i _ => nn - (RowKit.intOf i).toNat)
              case atStart => exact ⟨0, sx, Nat.zero_le _, Nat.zero_le _, rfl, J2.out, Mid.refl sx⟩
              case round =>
                obtain ⟨m, s', hm1, hm2, rfl, hj, hmid⟩ := hrel
                have J3 := Lib.hid hj
                have HMD := Lib.hid hmid
                clear hj hmid J2
                by_cases hgo : m < nn ∧ m < lr.length
                · obtain ⟨g1, g2⟩ := hgo
                  have g3 : (m : Int) < (nn : Int) := by omega
                  have g4 : (m : Int) < (lr.length : Int) := by omega
                  have HAT := Lib.hid (fun (W : World) (hW : JV wA W jb b db (jx.start nn) s') => at_cells HOP.out (HBA.out.trans (hW.below.mono HBA.out.size)) g2)
                  have HAT2 := Lib.hid (fun (W : World) (hW : Below w.heap.size w W) => at_cells HOP.out hW g2)
                  generalize (lr[m]'g2).block = A2 at *
                  generalize (lr[m]'g2).fill = B2 at *
                  obtain ⟨r1, r2⟩ := HAT.out wr J3.out
                  have hload := HMD.out.load
                  have hload2 := HH.out.load
                  have hload3 := HTT.out (k + 1)
                  have hload4 := HTL.out
                  have HLD := Lib.hid (show s'.load ≤ 1073741824 by omega)
                  have HN2 := Lib.hid (show 1024 ≤ s'.N by rw [HMD.out.N, HH.out.N]; decide)
                  have HFL := Lib.hid (fun (W : World) (S : Nat → Prop) (w0 : World) (h : JL wA S w0 W jb b db (jx.start nn) s') => mk_filled h (m : Int) _ rfl)
                  have HJD : Hid (JL wA (fun _ => False) wr wr.drew jb b db (jx.start nn) s') := Lib.hid (J3.out.drewN 1)
                  clear hload hload2 hload3 hload4
                  go_wp2_with fail
                  go_region_held3 (fun w' => w'.cell? ⟨(a2.add (m * 3)).block, (a2.add (m * 3)).off + 1, none⟩ = some (.int .i64 A2) ∧ w'.cell? ⟨(a2.add (m * 3)).block, (a2.add (m * 3)).off + 2, none⟩ = some (.int .i64 B2)) (go_keep)
                    ((first
                      | (go_at_call 17; refine (HFL.out _ _ _ HJD.out).mono ?_; rintro e w7 ⟨rfl, hj, hv, hb⟩
                         have J4 := Lib.hid hj
                         have HV := Lib.hid hv
                         obtain ⟨t1, t2⟩ := HAT2.out w7 (HBA.out.trans (hj.below.mono HBA.out.size))
                         clear hj hv hb)
                      | (go_at_call 16; refine (l_write J4.out _ _ (and10 _).symm (Nat.lt_of_lt_of_le (low10_lt _) HN2.out) HV.out HLD.out).mono ?_; rintro e w8 ⟨rfl, hj⟩
                         have J5 := Lib.hid (JL.v hj)
                         obtain ⟨q1, q2⟩ := HAT2.out w8 (HBA.out.trans (hj.below.mono HBA.out.size))
                         clear hj)))
                  all_goals
                    clear t1 t2 q1 q2 J3 J4 HV HJD
                    go_wp2_with fail
                    go_roundw
                    case rel => exact ⟨m + 1, _, by omega, by omega, by go_num, J5.out, HMD.out.write _ _⟩
                    case measure => simp [RowKit.intOf]; omega
                · have hsp : ¬ ((m : Int) < (nn : Int)) ∨ ((m : Int) < (nn : Int)) ∧ ¬ ((m : Int) < (lr.length : Int)) := by omega
                  have HMD2 := Lib.hid (HMD.out.up hm1)
                  clear hm2
                  rcases hsp with h1 | ⟨h1, h2⟩
                  all_goals
                    go_wp2_with fail
                    go_meet
                    exact ⟨s', J3.out, HMD2.out⟩
            case rest =>
              obtain ⟨s', hj, hmid⟩ := hcut
              have J3 := Lib.hid hj
              have HMD := Lib.hid hmid
              clear hj hmid J2
              have hhand := HH.out.hand
              have htt := HTT.out (k + 1)
              have htl := HTL.out
              have HST := Lib.hid (l_stop_at J3.out ((jx.handles : Int) + 1) (jx.handles + 1) nn (by omega) (if_pos rfl) (by show jx.handles + 1 ≤ 1073741824; omega))
              have HH2 := Lib.hid (HH.out.next HMD.out hn2 (by rw [HH.out.cap]; have := HFIT.out; omega) J3.out.wf nn)
              clear hhand htt htl
              go_wp2_with fail
              refine HST.out.mono ?_
              rintro e w9 ⟨rfl, hj⟩
              have J4 := Lib.hid (JL.v hj)
              have hring := HH2.out.ring
              clear hj J3 HST
              have HCP := Lib.hid (l_cap J4.out (by omega) (by omega) ((capR (95 + jl) : Nat) : Int) (by rw [HH2.out.cap]))
              go_wp2_with fail
              refine HCP.out.mono ?_
              rintro e w6 ⟨rfl, rfl⟩
              have HCH := Lib.hid (l_changed J4.out _ rfl)
              clear HCP
              go_wp2_with fail
              refine HCH.out.mono ?_
              rintro e w10 ⟨A5, c5, rfl, hj⟩
              have J5 := Lib.hid (JL.v hj)
              obtain ⟨lr', hl', hop'⟩ := rest_ops HOP.out hcr hg1
              have HOP2 := Lib.hid hop'
              obtain ⟨lf', hf1, hf2⟩ := left_fits (capR (95 + jl)) (numsOf s'.now.chg s'.N).length (by have := HH2.out.fit; rw [HH2.out.cap] at this; exact this) (by unfold capR; omega)
              clear hj HCH J4 hop'
              by_cases hodd : bits BinOp.and IntKind.i64 (k : Int) 1 = 1
              · go_wp2_with fail
                all_goals
                  go_meet
                  exact ⟨T + 1, _, s', by have := HTL.out; omega, J5.out, HH2.out⟩
              · go_wp2_with fail
                go_roundw
                case rel => exact ⟨T + 1, lf', _, lr', cr - 1, _, s', by rw [hf1], by rw [hl'], by omega, by have := HLR.out; omega, HOP2.out, by have := HTL.out; omega, J5.out, HH2.out, hf2⟩
                case measure => show lr.length - 1 < lr.length; omega
          · have hsp : ¬ ((0 : Int) < (lr.length : Int)) ∨ ((0 : Int) < (lr.length : Int)) ∧ ¬ ((0 : Int) < (lf : Int)) := by omega
            rcases hsp with h1 | ⟨h1, h2⟩
            all_goals
              go_wp2_with fail
              go_meet
              exact ⟨T, jx, sx, by have := HTL.out; omega, J1.out, HH.out⟩
      case rest =>
        obtain ⟨T, jx, sx, hT, hj, hh⟩ := hcut
        have J1 := Lib.hid hj
        have HH := Lib.hid hh
        have htt := HTT.out (k + 1)
        obtain ⟨l, jz, sz, hruns, hrnd, hlen, hn1, hn2⟩ := HH.out.commit hlt2 (by omega) (by omega) (bits BinOp.and IntKind.i64 (k : Int) 3 == 3)
        have HR := Lib.hid hruns
        have HRN2 := Lib.hid (hrnd.up hT)
        have HASK := Lib.hid (l_ask J1.out)
        clear hj hh hT htt hruns hrnd HJ HRN HOPS
        go_wp2_with fail
        refine (HASK.out _).mono ?_
        rintro e w9 ⟨rfl, hj⟩
        have J2 := Lib.hid (JL.v hj)
        clear hj HASK J1
        have HOS := Lib.hid (l_ops J2.out (sx.d.N : Int) rfl)
        go_wp2_with fail
        refine HOS.out.mono ?_
        rintro e w10 ⟨rfl, rfl⟩
        obtain ⟨L, hL⟩ : ∃ L, l.length = L := ⟨_, rfl⟩
        have HNS := Lib.hid (And.intro hn1 hn2)
        rw [hL] at hlen hn1 hn2
        have HL0 := Lib.hid hL
        clear HOS hn1 hn2 hL
        go_wp2_with fail
        go_loopw [21] (fun i wr => ∃ (n : Nat) (lx : List Stp) (jx : Jr) (sx : Sto), n ≤ L ∧ i = .int .i64 n ∧ JV wA wr jb b db jx sx ∧ Runs jx sx lx jz sz ∧ lx.length + n = L) (fun i _ => L - (RowKit.intOf i).toNat)
        case atStart => exact ⟨0, l, _, _, Nat.zero_le _, rfl, J2.out, HR.out, HL0.out⟩
        case round =>
          obtain ⟨n, lx, j3, s3, hn, rfl, hj, hr, hln⟩ := hrel
          have J3 := Lib.hid hj
          have HLN := Lib.hid hln
          clear hj hln J2 HR
          cases hr with
          | nil =>
            obtain rfl : n = L := by have := HLN.out; simp at this; exact this
            have HB := Lib.hid (l_busy J3.out false HRN2.out.hnd.opn.wanted)
            have HOS := Lib.hid (l_ops J3.out (sz.d.N : Int) rfl)
            have HCM := Lib.hid (l_commits J3.out ((k : Int) + 1) (by rw [HRN2.out.hnd.com]; exact Int.natCast_add k 1))
            obtain ⟨d, hd0, hd1, hd2⟩ := ops_fit (sz.d.N) (sx.d.N) n (by rw [← HL0.out]; exact HNS.out.1) (by rw [← HL0.out]; exact HNS.out.2) (by omega)
            have b3 := (box_at HBX.out J3.out.below).2.2.2
            go_wp2_with fail
            refine HB.out.mono ?_
            rintro e w11 ⟨rfl, rfl⟩
            have hfit := end_fits jl n d hj64 hlen hd1 hd2
            obtain ⟨e1, e2, e3, e4⟩ := hfit
            go_wp2_with fail
            refine HOS.out.mono ?_
            rintro e w12 ⟨rfl, rfl⟩
            go_wp2_with fail
            refine HOS.out.mono ?_
            rintro e w13 ⟨rfl, rfl⟩
            go_wp2_with fail
            refine HCM.out.mono ?_
            rintro e w14 ⟨rfl, rfl⟩
            clear HB HOS HCM e1 e2 e3 e4 hd0 hd1 hd2 HNS b3 hlen
            go_wp2_with fail
            go_roundw
            case rel => exact ⟨k + 1, _, _, by omega, by omega, by go_num, J3.out, HRN2.out⟩
            case measure => simp [RowKit.intOf]; omega
          | @cons _ _ j1 s1 _ _ o l2 hok hst hd hc hr2 =>
            have HB := Lib.hid (l_busy J3.out true (runs_wanted hok))
            have HSTP := Lib.hid (l_step J3.out HT1.out hok hst)
            have HR3 := Lib.hid hr2
            clear hok hst hd hc hr2
            go_wp2_with fail
            refine HB.out.mono ?_
            rintro e w11 ⟨rfl, rfl⟩
            go_wp2_with fail
            refine HSTP.out.mono ?_
            rintro e w12 ⟨rfl, hj⟩
            have J4 := Lib.hid (JL.v hj)
            clear hj
            go_wp2_with fail
            go_roundw
            case rel => exact ⟨n + 1, l2, _, _, by have := HLN.out; simp at this; omega, by go_num, J4.out, HR3.out, by have := HLN.out; simp at this; omega⟩
            case measure => have := HLN.out; simp at this; simp [RowKit.intOf]; omega
    · have hsp : ¬ ((k : Int) < (N : Int)) ∨ ((k : Int) < (N : Int)) ∧ ¬ ((k : Int) < 60) := by omega
      rcases hsp with h1 | ⟨h1, h2⟩
      all_goals
        go_wp2_with fail
        go_ret
        exact ⟨rfl, HBA.out.trans (HJ.out.below.mono HBA.out.size)⟩
end Go.Proofs.YtmlgchmladkfpaaGreatDoor.NLServes
