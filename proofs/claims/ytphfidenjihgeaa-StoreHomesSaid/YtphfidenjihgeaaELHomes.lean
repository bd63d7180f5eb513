/- The law StoreHomes: what was committed and brought home lies on the disk; nothing else was written. -/
import Derived.Test.YtphfidenjihgeaaESame
import Derived.Test.YtphfidenjihgeaaDPending
import Derived.Deep.RegionHeld3
namespace Go.Proofs.Ytphfidenjihgeaa.ELHomes
open DPlain hiding OpV low7 low7_lt
open Go.RowKit WMem WPlain WAppend Ext Map DMem Mk DBase DRead DWrite DPending EPlain EMem ECache EFace EUnwrite EPush EWrite EHold ERead EHome EWrites ECommit EBack EFill EAny EFix EAwM EAwake EScript EBits ELaw ESame

/-- a row of yes and no of the law's own: yes wherever f says so -/
structure Tch (w : World) (ρ : Ro) (D : Nat → Prop) (gl : Nat) (f : Nat → Bool) : Prop where
  ex : ∃ vs : List Value, vs.length = 128 ∧ RowV w gl 4 vs ∧ ∀ n v, vs[n]? = some v → ∃ q : Bool, v = .bool q ∧ (f n = true → q = true)
  far : ¬ All ρ D gl
section
variable {w w' : World} {ρ ρ' : Ro} {D D' : Nat → Prop} {b db gl : Nat} {s' : Sto} {f : Nat → Bool}
theorem Tch.lt (h : Tch w ρ D gl f) : gl < w.heap.size := by
  obtain ⟨vs, _, h2, _⟩ := h.ex
  exact row_lt h2
theorem Tch.goes (h : Tch w ρ D gl f) (g : Goes w w' ρ D ρ' D' b db s') : Tch w' ρ' D' gl f := by
  have hlt := h.lt
  obtain ⟨vs, h1, h2, h3⟩ := h.ex
  exact ⟨⟨vs, h1, (g.ext.block gl hlt h.far).trans h2, h3⟩, fun h4 => by
    rcases g.new gl h4 with h5 | h5
    · exact h.far h5
    · omega⟩
theorem Tch.below (h : Tch w ρ D gl f) (hb : Below w.heap.size w w') : Tch w' ρ D gl f := by
  have hlt := h.lt
  obtain ⟨vs, h1, h2, h3⟩ := h.ex
  exact ⟨⟨vs, h1, (hb.block gl hlt).trans h2, h3⟩, h.far⟩
theorem Tch.at (h : Tch w ρ D gl f) {n : Nat} (hn : n < 128) : ∃ q : Bool, w.cell? ⟨gl, n, none⟩ = some (.bool q) ∧ (f n = true → q = true) := by
  obtain ⟨vs, h1, h2, h3⟩ := h.ex
  have hv : vs[n]? = some (vs[n]'(by omega)) := List.getElem?_eq_getElem (by omega)
  obtain ⟨q, hq, h4⟩ := h3 n _ hv
  exact ⟨q, (row_cell h2 n).trans (by rw [← hq]; simp), h4⟩
theorem Tch.free (h : Tch w ρ D gl f) (n : Nat) : w.frozen? ⟨gl, n, none⟩ = false := by
  obtain ⟨vs, h1, h2, h3⟩ := h.ex
  exact row_free h2 n
theorem Tch.set (h : Tch w ρ D gl f) {n : Nat} {f' : Nat → Bool} (hf : ∀ m, m ≠ n → f' m = true → f m = true) : Tch (w.setCell ⟨gl, n, none⟩ (.bool true)) ρ D gl f' := by
  obtain ⟨vs, g1, g2, g3⟩ := h.ex
  refine ⟨⟨vs.set n (.bool true), by simpa using g1, g2.set n _, fun m u hu => ?_⟩, h.far⟩
  rw [List.getElem?_set] at hu
  by_cases e : n = m
  · subst e
    rw [if_pos rfl] at hu
    split at hu
    · injection hu with hu
      subst hu
      exact ⟨true, rfl, fun _ => rfl⟩
    · cases hu
  · rw [if_neg e] at hu
    obtain ⟨q, q1, q2⟩ := g3 m u hu
    exact ⟨q, q1, fun h => q2 (hf m (fun e2 => e e2.symm) h)⟩
theorem Tch.less (h : Tch w ρ D gl f) {f' : Nat → Bool} (hf : ∀ m, f' m = true → f m = true) : Tch w ρ D gl f' := by
  obtain ⟨vs, g1, g2, g3⟩ := h.ex
  exact ⟨⟨vs, g1, g2, fun m u hu => by
    obtain ⟨q, q1, q2⟩ := g3 m u hu
    exact ⟨q, q1, fun h => q2 (hf m h)⟩⟩, h.far⟩
end
def brow : Array Value := (List.replicate 128 (Value.bool false)).toArray
theorem make_tch (w : World) : (Instr.makeSlice 60 (.int .i64 128) (.int .i64 128)).run Try.prog w = .ok (.slice (some ⟨w.heap.size, 0, none⟩) 128 128) (w.alloc (.cells brow 4)) := by
  obtain ⟨i, h1, h2, h3, h4⟩ := info_parts (P := Try.prog) (e := 4) (z := .bool false) (size := 1) (bytes := 1) (by kernel_rfl)
  have h := run_make (P := Try.prog) w 60 4 i (.bool false) (by kernel_rfl) h1 h2 .i64 .i64 128 128 (by omega) (by omega) (by rw [h4]; omega) (by omega)
  rw [h]
  simp only [h3]
  unfold brow
  rw [← made_one]
  rfl
theorem tch_new {w : World} {ρ : Ro} {D : Nat → Prop} (ht : There (All ρ D) w) : Tch (w.alloc (.cells brow 4)) ρ D w.heap.size (fun _ => false) :=
  ⟨⟨List.replicate 128 (Value.bool false), by simp, row_new w _, fun n v hv => ⟨false, (List.mem_replicate.1 (List.mem_of_getElem? hv)).2, fun h => (by cases h)⟩⟩, fun h => by have := ht _ h; omega⟩
theorem inMem_write (s : Sto) (n m : Nat) (l : Bk) (h : m ≠ n) : (s.write n l).inMem m = true → s.inMem m = true := by
  unfold Sto.inMem
  simp only [Sto.write, Sto.lose, if_neg h]
  exact id
theorem inMem_commit (s : Sto) (m : Nat) : s.commit.inMem m = true → s.inMem m = true := by
  unfold Sto.inMem
  simp only [Sto.commit]
  cases h : s.now.chg m with
  | none => simp
  | some l => simp
/-- homes, one after the other: what still waits -/
structure Hs (s : Sto) (ns : List Nat) (i : Nat) : Prop where
  chg : s.now.chg = fun _ => none
  N : s.N = 128
  yes : ∀ k, i ≤ k → ∀ n, ns[k]? = some n → (s.wai n).isSome = true
  no : ∀ n, (s.wai n).isSome = true → ∃ k, i ≤ k ∧ ns[k]? = some n
  pend : s.d.P.length = i
theorem Hs.home {s : Sto} {ns : List Nat} {i n : Nat} {l : Bk} (h : Hs s ns i) (hnd : ns.Nodup) (hn : ns[i]? = some n) : Hs (s.home n l) ns (i + 1) := by
  have hw : ∀ m, (s.home n l).wai m = if m = n then none else s.wai m := fun m => by unfold Sto.home; split <;> rfl
  have hd : (s.home n l).d = s.d.write n l := by unfold Sto.home; split <;> rfl
  have hne : ∀ k m, i + 1 ≤ k → ns[k]? = some m → m ≠ n := fun k m hk hm e => by
    subst e
    obtain ⟨h1, h2⟩ := List.getElem?_eq_some_iff.1 hm
    obtain ⟨h3, h4⟩ := List.getElem?_eq_some_iff.1 hn
    exact List.pairwise_iff_getElem.1 hnd i k h3 h1 (by omega) (h4.trans h2.symm)
  refine ⟨?_, (home_N s l n).trans h.N, fun k hk m hm => ?_, fun m hm => ?_, ?_⟩
  · have : (s.home n l).now = s.now := by unfold Sto.home; split <;> rfl
    rw [this]; exact h.chg
  · rw [hw, if_neg (hne k m hk hm)]
    exact h.yes k (by omega) m hm
  · rw [hw] at hm
    split at hm
    · cases hm
    · rename_i e
      obtain ⟨k, h1, h2⟩ := h.no m hm
      refine ⟨k, ?_, h2⟩
      rcases Nat.lt_or_ge i k with h3 | h3
      · exact h3
      · obtain rfl : k = i := by omega
        rw [hn] at h2
        injection h2 with h2
        exact absurd h2.symm e
  · rw [hd]
    show (s.d.P ++ [(n, l)]).length = i + 1
    rw [List.length_append, h.pend]
    rfl
theorem hs_start {s : Sto} (h0 : s.now.chg = fun _ => none) (hN : s.N = 128) (hwf : s.Wf) (hp : s.d.P.length = 0) : Hs s (numsOf s.wai 128) 0 := by
  refine ⟨h0, hN, fun k _ n hn => ?_, fun n hn => ?_, hp⟩
  · have := List.mem_of_getElem? hn
    unfold numsOf at this
    exact (List.mem_filter.1 this).2
  · obtain ⟨l, hl⟩ := Option.isSome_iff_exists.1 hn
    have hlt := (hwf.wai n l hl).1
    have : n ∈ numsOf s.wai 128 := List.mem_filter.2 ⟨List.mem_range.2 (by omega), hn⟩
    obtain ⟨k, hk⟩ := List.mem_iff_getElem?.1 this
    exact ⟨k, Nat.zero_le _, hk⟩
theorem nums_nodup (f : Nat → Option Bk) (N : Nat) : (numsOf f N).Nodup := List.Nodup.sublist List.filter_sublist List.nodup_range

theorem l_pending {a w : World} {ρ : Ro} {D : Nat → Prop} {b db : Nat} {s : Sto} (h : Live a w ρ D b db s) (m : Nat) (hm : s.d.P.length = m) (hN : s.load ≤ 1073741824) : Calls Try.prog 27 #[.pointer (some ⟨db, 0, none⟩)] w fun e w' =>
    ∃ g, e = .returned (.slice (some ⟨g, 0, none⟩) m m) ∧ Below w.heap.size w w' := by
  subst hm
  refine (Pending_ok D db s.d w h.own.dd (by unfold Sto.load at hN; omega)).mono ?_
  rintro e w' ⟨g, xs, rfl, _, _, _, hb⟩
  exact ⟨g, rfl, hb⟩
theorem l_waiting {a w : World} {ρ : Ro} {D : Nat → Prop} {b db : Nat} {s : Sto} (h : Live a w ρ D b db s) (h0 : ∀ n, s.wai n = none) : Calls Try.prog 21 #[.pointer (some ⟨b, 0, none⟩)] w fun e w' =>
    ∃ A c, e = .returned (.slice A 0 c) ∧ Below w.heap.size w w' := by
  refine (Waiting_own h.own).mono ?_
  rintro e w' ⟨v, ys, rfl, hg, hb⟩
  have e0 : s.wai = fun _ => none := funext h0
  rw [e0] at hg
  obtain ⟨A, c, rfl⟩ := got_len hg
  have e1 : (wrs (fun _ => none) s.N).length = 0 := by rw [wrs_cnt]; unfold cnt; rw [nums_none]; rfl
  exact ⟨A, c, by rw [e1], hb⟩
theorem l_dread {a w : World} {ρ : Ro} {D : Nat → Prop} {b db : Nat} {s : Sto} (h : Live a w ρ D b db s) (n : Nat) (hn : n < s.N) : Calls Try.prog 29 #[.pointer (some ⟨db, 0, none⟩), .int .i64 n] w fun e w' =>
    ∃ g, e = .returned (.tuple #[.slice (some ⟨g, 0, none⟩) 256 256, .int .i64 0]) ∧ IsBlk w' (fun _ => True) (.slice (some ⟨g, 0, none⟩) 256 256) (s.d.readAt n) ∧ Below w.heap.size w w' := by
  refine (Read_yes D db n s.d w h.own.dd hn).mono ?_
  rintro e w' ⟨g, rfl, _, hr, hb⟩
  exact ⟨g, rfl, ⟨g, 256, [], rfl, trivial, h.own.dd.wf.read hn, Nat.le_refl _, hr⟩, hb⟩
theorem nums_get {f : Nat → Option Bk} {N k : Nat} (hk : k < (numsOf f N).length) : ∃ n l, (numsOf f N)[k]? = some n ∧ (wrs f N)[k]? = some (n, l) ∧ n < N ∧ (f n).isSome = true := by
  obtain ⟨h1, h2⟩ := wrs_at f N k hk
  have hm : (numsOf f N)[k] ∈ numsOf f N := List.getElem_mem hk
  have h3 := List.mem_filter.1 hm
  exact ⟨_, _, List.getElem?_eq_getElem hk, (List.getElem?_eq_getElem h1).trans (by rw [h2]), List.mem_range.1 h3.1, h3.2⟩
theorem read_now (s : Sto) (n : Nat) : (s.read n).now = s.now := by
  unfold Sto.read
  split
  · rfl
  · split <;> rfl
theorem read_wai (s : Sto) (n : Nat) : (s.read n).wai = s.wai := by
  unfold Sto.read
  split
  · rfl
  · split <;> rfl

set_option maxHeartbeats 4000000 in
set_option maxRecDepth 100000 in
theorem homes_true (ops : List OpV) (A : Option Addr) (c : Nat) (w : World) (hA : OpsIn w w.heap.size A ops) (_hl : ops.length ≤ 140737488355328) :
    Calls Try.prog 6 #[.slice A ops.length c] w fun e w' => e = .returned (.bool true) ∧ Below w.heap.size w w' := by
  have HA := Lib.hid hA
  have hmk := make_tch
  clear hA
  go_enter Try.func6, Try.ntmps6
  go_wp2_with fail
  refine (awake_any w).mono ?_
  rintro e w0 ⟨rfl, hb0⟩
  have HB0 := Lib.hid hb0
  clear hb0
  go_wp2_with fail
  refine (a_new (w := w0)).mono ?_
  rintro e w1 ⟨db, rfl, hd, hb⟩
  have HD1 := Lib.hid hd
  have HB1 := Lib.hid hb
  clear hd hb
  go_wp2_with fail
  refine (l_store HD1.out (by show (St.new 128).L.length = 128; simp [St.new])).mono ?_
  rintro e w2 ⟨b, ρ0, rfl, hs, hm, hb2⟩
  have H0 : Hid (Live w0 w2 ρ0 (Made w0 w1) b db (fresh d0 4 8)) := live_new HD1.out (fun q hq => hq.1) HB1.out hs hm hb2
  clear hs hm hb2
  go_wp2_with fail
  have hal : Below w2.heap.size w2 (w2.alloc (.cells brow 4)) := (Below.refl _ _).alloc (Nat.le_refl _) _
  have H1 := Lib.hid (H0.out.go hal)
  have HL1 : Hid (Tch (w2.alloc (.cells brow 4)) ρ0 (Made w0 w1) w2.heap.size (fresh d0 4 8).inMem) := tch_new H0.out.own.there
  have HG0 : w0.heap.size ≤ w2.heap.size := H0.out.below.size
  clear H0 hal hmk HD1 HB1
  generalize w2.alloc (.cells brow 4) = W at *
  generalize w2.heap.size = gl at *
  generalize Made w0 w1 = D0 at *
  go_loopw [9] (fun i wr => ∃ (k : Nat) (ρ : Ro) (D : Nat → Prop) (s : Sto), k ≤ ops.length ∧ k ≤ 300 ∧ i = .int .i64 k ∧ Live w0 wr ρ D b db s ∧ Tch wr ρ D gl s.inMem ∧ s.N = 128 ∧ s.load ≤ k ∧ s.d.P.length = 0) (fun i _ => ops.length - (RowKit.intOf i).toNat)
  case atStart => exact ⟨0, ρ0, D0, fresh d0 4 8, Nat.zero_le _, Nat.zero_le _, rfl, H1.out, HL1.out, s0_N, Nat.le_refl _, rfl⟩
  case round =>
    obtain ⟨k, ρ, D, s, hk, hk3, rfl, hl, hL, hN, hld, hP0⟩ := hrel
    have HP0 := Lib.hid hP0
    have H2 := Lib.hid hl
    have HL2 := Lib.hid hL
    have HLT := hL.lt
    clear hl hL hP0
    by_cases hlt : k < ops.length ∧ k < 300
    · obtain ⟨hlt1, hlt2⟩ := hlt
      have hbw : Below w.heap.size w wr := HB0.out.trans (H2.out.below.mono HB0.out.size)
      obtain ⟨a, rfl, hab, hop, hfk⟩ := op_at HA.out hbw hlt1
      clear hbw
      have hk0 : (0 : Int) ≤ (k : Int) := Int.natCast_nonneg _
      have hk1 : (k : Int) < (ops.length : Int) := by omega
      have hk2 : (k : Int) < 300 := by omega
      generalize ops[k] = o at *
      have r0 := hop.c0
      have r1 := hop.c1
      have r2 := hop.c2
      clear hop
      go_wp2_with fail
      have hal := (Below.refl wr.heap.size wr).alloc (Nat.le_refl _) (.cells #[.int .i64 o.what, .int .i64 o.block, .int .i64 o.fill] 55)
      have hcop := cop_new wr o (T := 55)
      have hth := H2.out.own.there
      have hgo : ∀ q, q = wr.heap.size → ¬ All ρ D q ∧ q < (wr.alloc (.cells #[.int .i64 o.what, .int .i64 o.block, .int .i64 o.fill] 55)).heap.size := fun q hq => by
        subst hq
        exact ⟨fun h1 => by have := hth _ h1; omega, by simp⟩
      have H3 := Lib.hid ((H2.out.go hal).drewN 1)
      have HL3 := Lib.hid ((HL2.out.below hal).below (below_drewN (Below.refl _ _) 1))
      have HF3 := Lib.hid ((Fix.refl hgo).drewN 1)
      clear r0 r1 r2 hgo hth hal H2 HL2
      generalize wr.alloc (.cells #[.int .i64 o.what, .int .i64 o.block, .int .i64 o.fill] 55) = W2 at *
      have hgg : wr.heap.size ≠ gl := by have := HLT; omega
      generalize wr.heap.size = go at *
      have HC := Lib.hid hcop
      have r1 := hcop.c1
      have r2 := hcop.c2
      clear hcop
      have hand := and7 o.what
      have h7 := low7_lt o.what
      generalize low7 o.what = lo at *
      by_cases h71 : lo = 1
      · subst h71
        cases hq : inN s o.block
        case' false =>
          have HQ := Lib.hid hq
          clear hq
          go_region_held3 (fun w' => w'.cell? ⟨go, 1, none⟩ = some (.int .i64 o.block) ∧ w'.cell? ⟨go, 2, none⟩ = some (.int .i64 o.fill)) (go_keep)
            ((first
              | (go_at_call 13; refine (filled_at o.fill _).mono ?_; rintro e w5 ⟨g, rfl, hv, hg1, hg2, hb5⟩
                 have H4 := Lib.hid (H3.out.go hb5)
                 have HL4 := Lib.hid (HL3.out.below hb5)
                 have HF4 := Lib.hid (HF3.out.below hb5)
                 have t1 := (HC.out.fix HF4.out rfl).c1
                 have t2 := (HC.out.fix HF4.out rfl).c2
                 clear hv hb5)
              | (go_at_call 12; refine (l_write_no H4.out o.block HQ.out _).mono ?_; rintro e w6 ⟨rfl, rfl⟩)))
          all_goals
            have T : ∃ ρ' D' s', Live w0 w5 ρ' D' b db s' ∧ Tch w5 ρ' D' gl s'.inMem ∧ s'.N = 128 ∧ s'.load ≤ k + 1 ∧ s'.d.P.length = 0 ∧ w5.cell? ⟨go, 0, none⟩ = some (.int .i64 o.what) := ⟨_, _, _, H4.out, HL4.out, hN, by omega, HP0.out, (HC.out.fix HF4.out rfl).c0⟩
            clear HQ H3 HL3 HF3 H4 HL4 HF4 HC hg1 hg2 t1 t2 r1 r2
            generalize w5 = X at *
        case' true =>
          obtain ⟨hn0, hn1⟩ := inN_yes hq
          obtain ⟨n, hn⟩ := Int.eq_ofNat_of_zero_le hn0
          rw [hn] at hq hn0 hn1 r1
          have hn2 : (n : Int) < 128 := by omega
          have hn3 : n < 128 := by omega
          have HQ := Lib.hid hq
          have HN := Lib.hid hn
          clear hq hn hn1
          go_region_held3 (fun w' => w'.cell? ⟨go, 1, none⟩ = some (.int .i64 (n : Int)) ∧ w'.cell? ⟨go, 2, none⟩ = some (.int .i64 o.fill)) (go_keep)
            ((first
              | (go_at_call 13; refine (filled_at o.fill _).mono ?_; rintro e w5 ⟨g, rfl, hv, hg1, hg2, hb5⟩
                 have H4 := Lib.hid (H3.out.go hb5)
                 have HL4 := Lib.hid (HL3.out.below hb5)
                 have HF4 := Lib.hid (HF3.out.below hb5)
                 have HM := Lib.hid (live_not H3.out hg1)
                 have HV := Lib.hid hv
                 have t1 := (HC.out.fix HF4.out rfl).c1
                 have t2 := (HC.out.fix HF4.out rfl).c2
                 rw [HN.out] at t1
                 clear hv hb5 hg1)
              | (go_at_call 12; refine (l_write_yes H4.out n HQ.out g _ HV.out HM.out hg2 (by omega)).mono ?_; rintro e w6 ⟨rfl, ρ6, D6, hgo6⟩
                 rw [Int.toNat_natCast] at hgo6
                 have H5 := Lib.hid (H4.out.goes hgo6)
                 have HL5 := Lib.hid (HL4.out.goes hgo6)
                 have HF5 := Lib.hid (HF4.out.goes hgo6)
                 have s1 := (HC.out.fix HF5.out rfl).c1
                 have s2 := (HC.out.fix HF5.out rfl).c2
                 rw [HN.out] at s1
                 clear hgo6 H4 HL4 HF4 HV HM hg2)))
          all_goals
            clear H3 HL3 HF3
            obtain ⟨old, hold, -⟩ := HL5.out.at hn3
            have hfre := HL5.out.free n
            have c0 := (World.cell?_of_block (a := ⟨go, 0, none⟩) (Below.heap_setCell w6 ⟨gl, n, none⟩ (.bool true) _ hgg)).trans (HC.out.fix HF5.out rfl).c0
            go_wp2_with fail
            have HT : Hid (∃ ρ' D' s', Live w0 (w6.setCell ⟨gl, n, none⟩ (.bool true)) ρ' D' b db s' ∧ Tch (w6.setCell ⟨gl, n, none⟩ (.bool true)) ρ' D' gl s'.inMem ∧ s'.N = 128 ∧ s'.load ≤ k + 1 ∧ s'.d.P.length = 0 ∧ (w6.setCell ⟨gl, n, none⟩ (.bool true)).cell? ⟨go, 0, none⟩ = some (.int .i64 o.what)) := by
              refine ⟨ρ6, D6, s.write n (full (octet o.fill)), H5.out.ext ((Ext.refl (fun q => q = gl) w6).setCell (.inl rfl) _) (fun q h1 h2 => by subst h1; exact HL5.out.far h2) (fun q hq => by subst hq; exact HG0), HL5.out.set (fun m hm => inMem_write s n m _ hm), hN, ?_, HP0.out, (World.cell?_of_block (a := ⟨go, 0, none⟩) (Below.heap_setCell _ _ _ _ hgg)).trans (HC.out.fix HF5.out rfl).c0⟩
              have := Sto.load_write s n (full (octet o.fill)); omega
            clear c0 HQ HN H5 HL5 HF5 HC hold hfre r1 r2 s1 s2
            generalize w6.setCell ⟨gl, n, none⟩ (.bool true) = X at *
            have T := HT.out
            clear HT
        all_goals
          obtain ⟨ρ9, D9, s9, h9, hL9, hN9, hld9, hP9, q0⟩ := T
          have H9 := Lib.hid h9
          have HL9 := Lib.hid hL9
          have HP9 := Lib.hid hP9
          clear h9 hL9 hP9
          try go_wp2_with fail
          refine (Commit_own H9.out.own).mono ?_
          rintro e wc ⟨v, ys, rfl, -, hgo9⟩
          have H10 := Lib.hid (H9.out.goes hgo9)
          have HL10 := Lib.hid ((HL9.out.goes hgo9).less (inMem_commit s9))
          have hld10 := Sto.load_commit s9
          clear hgo9
          go_wp2_with fail
          go_roundw
          case rel => exact ⟨k + 1, ρ9, D9, s9.commit, by omega, by omega, by go_num, H10.out, HL10.out, hN9, by omega, HP9.out⟩
          case measure => simp [RowKit.intOf]; omega
      · have h72 : ((lo : Int) = 1) = False := by simp; omega
        cases hq : inN s o.block
        case' false =>
          have HQ := Lib.hid hq
          clear hq
          go_region_held3 (fun w' => w'.cell? ⟨go, 1, none⟩ = some (.int .i64 o.block) ∧ w'.cell? ⟨go, 2, none⟩ = some (.int .i64 o.fill)) (go_keep)
            ((first
              | (go_at_call 13; refine (filled_at o.fill _).mono ?_; rintro e w5 ⟨g, rfl, hv, hg1, hg2, hb5⟩
                 have H4 := Lib.hid (H3.out.go hb5)
                 have HL4 := Lib.hid (HL3.out.below hb5)
                 have HF4 := Lib.hid (HF3.out.below hb5)
                 have t1 := (HC.out.fix HF4.out rfl).c1
                 have t2 := (HC.out.fix HF4.out rfl).c2
                 clear hv hb5)
              | (go_at_call 12; refine (l_write_no H4.out o.block HQ.out _).mono ?_; rintro e w6 ⟨rfl, rfl⟩)))
          all_goals
            have T : ∃ ρ' D' s', Live w0 w5 ρ' D' b db s' ∧ Tch w5 ρ' D' gl s'.inMem ∧ s'.N = 128 ∧ s'.load ≤ k + 1 ∧ s'.d.P.length = 0 ∧ w5.cell? ⟨go, 0, none⟩ = some (.int .i64 o.what) := ⟨_, _, _, H4.out, HL4.out, hN, by omega, HP0.out, (HC.out.fix HF4.out rfl).c0⟩
            clear HQ H3 HL3 HF3 H4 HL4 HF4 HC hg1 hg2 t1 t2 r1 r2
            generalize w5 = X at *
        case' true =>
          obtain ⟨hn0, hn1⟩ := inN_yes hq
          obtain ⟨n, hn⟩ := Int.eq_ofNat_of_zero_le hn0
          rw [hn] at hq hn0 hn1 r1
          have hn2 : (n : Int) < 128 := by omega
          have hn3 : n < 128 := by omega
          have HQ := Lib.hid hq
          have HN := Lib.hid hn
          clear hq hn hn1
          go_region_held3 (fun w' => w'.cell? ⟨go, 1, none⟩ = some (.int .i64 (n : Int)) ∧ w'.cell? ⟨go, 2, none⟩ = some (.int .i64 o.fill)) (go_keep)
            ((first
              | (go_at_call 13; refine (filled_at o.fill _).mono ?_; rintro e w5 ⟨g, rfl, hv, hg1, hg2, hb5⟩
                 have H4 := Lib.hid (H3.out.go hb5)
                 have HL4 := Lib.hid (HL3.out.below hb5)
                 have HF4 := Lib.hid (HF3.out.below hb5)
                 have HM := Lib.hid (live_not H3.out hg1)
                 have HV := Lib.hid hv
                 have t1 := (HC.out.fix HF4.out rfl).c1
                 have t2 := (HC.out.fix HF4.out rfl).c2
                 rw [HN.out] at t1
                 clear hv hb5 hg1)
              | (go_at_call 12; refine (l_write_yes H4.out n HQ.out g _ HV.out HM.out hg2 (by omega)).mono ?_; rintro e w6 ⟨rfl, ρ6, D6, hgo6⟩
                 rw [Int.toNat_natCast] at hgo6
                 have H5 := Lib.hid (H4.out.goes hgo6)
                 have HL5 := Lib.hid (HL4.out.goes hgo6)
                 have HF5 := Lib.hid (HF4.out.goes hgo6)
                 have s1 := (HC.out.fix HF5.out rfl).c1
                 have s2 := (HC.out.fix HF5.out rfl).c2
                 rw [HN.out] at s1
                 clear hgo6 H4 HL4 HF4 HV HM hg2)))
          all_goals
            clear H3 HL3 HF3
            obtain ⟨old, hold, -⟩ := HL5.out.at hn3
            have hfre := HL5.out.free n
            have c0 := (World.cell?_of_block (a := ⟨go, 0, none⟩) (Below.heap_setCell w6 ⟨gl, n, none⟩ (.bool true) _ hgg)).trans (HC.out.fix HF5.out rfl).c0
            go_wp2_with fail
            have HT : Hid (∃ ρ' D' s', Live w0 (w6.setCell ⟨gl, n, none⟩ (.bool true)) ρ' D' b db s' ∧ Tch (w6.setCell ⟨gl, n, none⟩ (.bool true)) ρ' D' gl s'.inMem ∧ s'.N = 128 ∧ s'.load ≤ k + 1 ∧ s'.d.P.length = 0 ∧ (w6.setCell ⟨gl, n, none⟩ (.bool true)).cell? ⟨go, 0, none⟩ = some (.int .i64 o.what)) := by
              refine ⟨ρ6, D6, s.write n (full (octet o.fill)), H5.out.ext ((Ext.refl (fun q => q = gl) w6).setCell (.inl rfl) _) (fun q h1 h2 => by subst h1; exact HL5.out.far h2) (fun q hq => by subst hq; exact HG0), HL5.out.set (fun m hm => inMem_write s n m _ hm), hN, ?_, HP0.out, (World.cell?_of_block (a := ⟨go, 0, none⟩) (Below.heap_setCell _ _ _ _ hgg)).trans (HC.out.fix HF5.out rfl).c0⟩
              have := Sto.load_write s n (full (octet o.fill)); omega
            clear c0 HQ HN H5 HL5 HF5 HC hold hfre r1 r2 s1 s2
            generalize w6.setCell ⟨gl, n, none⟩ (.bool true) = X at *
            have T := HT.out
            clear HT
        all_goals
          obtain ⟨ρ9, D9, s9, h9, hL9, hN9, hld9, hP9, q0⟩ := T
          have H9 := Lib.hid h9
          have HL9 := Lib.hid hL9
          have HP9 := Lib.hid hP9
          clear h9 hL9 hP9
          try go_wp2_with fail
          go_roundw
          case rel => exact ⟨k + 1, ρ9, D9, s9, by omega, by omega, by go_num, H9.out, HL9.out, hN9, hld9, HP9.out⟩
          case measure => simp [RowKit.intOf]; omega
    · have hends : ((ops.length : Int) ≤ (k : Int)) ∨ ((k : Int) < (ops.length : Int) ∧ (300 : Int) ≤ (k : Int)) := by omega
      clear hlt
      rcases hends with hd1 | ⟨hd1, hd2⟩
      all_goals
        go_wp2_with fail
        refine (Commit_own H2.out.own).mono ?_
        rintro e w3 ⟨v3, ys3, rfl, -, hgo⟩
        have H3 := Lib.hid (H2.out.goes hgo)
        have HL3 := Lib.hid ((HL2.out.goes hgo).less (inMem_commit s))
        have hld3 := Sto.load_commit s
        clear hgo
        go_wp2_with fail
        refine (Waiting_own H3.out.own).mono ?_
        rintro e w4 ⟨v, ys, rfl, hgot, hb4⟩
        have hN3 : s.commit.N = 128 := hN
        rw [hN3] at hgot
        have hwf := H3.out.own.wf
        have HS0 := Lib.hid (hs_start (s := s.commit) rfl hN3 hwf HP0.out)
        have hth := H3.out.own.there
        have H4 := Lib.hid (H3.out.go hb4)
        have HL4 := Lib.hid (HL3.out.below hb4)
        have HF4 : Hid (Fix (fun q => w3.heap.size ≤ q ∧ q < w4.heap.size) w4 w4 ρ D) := Fix.refl fun q hq => ⟨fun h1 => by have := hth q h1; omega, hq.2⟩
        have hIM : ∀ n, (s.commit.wai n).isSome = true → s.commit.inMem n = true := fun n h => by unfold Sto.inMem; rw [h]; simp
        have HIM := Lib.hid hIM
        obtain ⟨A1, c1, rfl⟩ := got_len hgot
        rw [wrs_cnt] at *
        have HG := Lib.hid hgot
        clear hgot hb4 hth hwf hIM H2 HL2 H3 HL3 HP0
        generalize s.commit = s1 at *
        generalize s1.wai = f at *
        have hm := cnt_le f 128
        have HNL : Hid ((numsOf f 128).length = cnt f 128) := Lib.hid rfl
        generalize hcm : cnt f 128 = m at *
        go_wp2_with fail
        go_loopw [12] (fun i wr => ∃ (j : Nat) (ρ' : Ro) (D' : Nat → Prop) (t : Sto), j ≤ m ∧ i = .int .i64 j ∧ Live w0 wr ρ' D' b db t ∧ Tch wr ρ' D' gl s1.inMem ∧ Fix (fun q => w3.heap.size ≤ q ∧ q < w4.heap.size) w4 wr ρ' D' ∧ Hs t (numsOf f 128) j ∧ t.load ≤ 300 + j) (fun i _ => m - (RowKit.intOf i).toNat)
        case atStart => exact ⟨0, ρ, D, s1, Nat.zero_le _, rfl, H4.out, HL4.out, HF4.out, HS0.out, by omega⟩
        case round =>
          obtain ⟨j, ρ5, D5, t, hj, rfl, h5, hL5, hF5, hS5, ht5⟩ := hrel
          have H5 := Lib.hid h5
          have HL5 := Lib.hid hL5
          have HF5 := Lib.hid hF5
          have HS5 := Lib.hid hS5
          clear h5 hL5 hF5 hS5 H4 HL4 HF4 HS0
          by_cases hjm : j < m
          · obtain ⟨n, l, hn1, hn2, hn3, hn4⟩ := nums_get (f := f) (N := 128) (k := j) (by have := HNL.out; omega)
            obtain ⟨l2, hl2⟩ := Option.isSome_iff_exists.1 (HS5.out.yes j (Nat.le_refl _) n hn1)
            obtain ⟨gw, uw, rfl, hgw1, hgw2, hw0, -, -⟩ := got_at HG.out hn2
            have hc0 : wr.cell? ⟨gw, j * 2, none⟩ = some (.int .i64 (n : Int)) := (HF5.out.cell ⟨gw, j * 2, none⟩ ⟨hgw1, hgw2⟩).trans hw0
            have HN1 := Lib.hid hn1
            have hIM := HIM.out n hn4
            have hj0 : (0 : Int) ≤ (j : Int) := Int.natCast_nonneg _
            have hj1 : (j : Int) < (m : Int) := by omega
            have hn5 : (0 : Int) ≤ (n : Int) := Int.natCast_nonneg _
            have hn6 : (n : Int) < 128 := by omega
            clear hw0 hn1 hn2 hn4
            go_wp2_with fail
            refine (a_home H5.out n n rfl l2 hl2 (by omega)).mono ?_
            rintro e w6 ⟨rfl, ρ6, D6, hgo6⟩
            have H6 := Lib.hid (H5.out.goes hgo6)
            have HL6 := Lib.hid (HL5.out.goes hgo6)
            have HF6 := Lib.hid (HF5.out.goes hgo6)
            have HS6 := Lib.hid (HS5.out.home (l := l2) (nums_nodup f 128) HN1.out)
            have hc6 : w6.cell? ⟨gw, j * 2, none⟩ = some (.int .i64 (n : Int)) := (World.cell?_of_block (a := ⟨gw, j * 2, none⟩) (hgo6.ext.block gw (HF5.out.far gw ⟨hgw1, hgw2⟩).2 (HF5.out.far gw ⟨hgw1, hgw2⟩).1)).trans hc0
            obtain ⟨tq, ht1, ht2⟩ := HL6.out.at hn3
            obtain rfl := ht2 hIM
            have hld6 := Sto.load_home t n l2
            clear hgo6 hc0 ht2
            go_wp2_with fail
            go_roundw
            case rel => exact ⟨j + 1, ρ6, D6, t.home n l2, by omega, by go_num, H6.out, HL6.out, HF6.out, HS6.out, by omega⟩
            case measure => simp [RowKit.intOf]; omega
          · obtain rfl : j = m := by omega
            have hw0 : ∀ n, t.wai n = none := fun n => by
              cases hwn : t.wai n with
              | none => rfl
              | some l =>
                obtain ⟨k2, h1, h2⟩ := HS5.out.no n (by rw [hwn]; rfl)
                have h3 := (List.getElem?_eq_some_iff.1 h2).1
                have := HNL.out
                omega
            have HW0 := Lib.hid hw0
            have HC0 := Lib.hid HS5.out.chg
            have HPN := Lib.hid HS5.out.pend
            have hN5 := HS5.out.N
            clear hw0
            go_wp2_with fail
            go_loopw [13] (fun i wr => ∃ (n : Nat) (ρ' : Ro) (t' : Sto), n ≤ 128 ∧ i = .int .i64 n ∧ Live w0 wr ρ' D5 b db t' ∧ t'.now.chg = (fun _ => none) ∧ (∀ q, t'.wai q = none) ∧ t'.N = 128 ∧ t'.d.P.length = j ∧ t'.load ≤ 300 + j + n) (fun i _ => 128 - (RowKit.intOf i).toNat)
            case atStart => exact ⟨0, ρ5, t, Nat.zero_le _, rfl, H5.out, HC0.out, HW0.out, hN5, HPN.out, by omega⟩
            case round =>
              obtain ⟨n, ρ7, t7, hn, rfl, h7, hC7, hW7, hN7, hP7, hld7⟩ := hrel
              have H7 := Lib.hid h7
              have HC7 := Lib.hid hC7
              have HW7 := Lib.hid hW7
              have HP7 := Lib.hid hP7
              clear h7 hC7 hW7 hP7 H5 HL5 HF5 HS5 HW0 HC0 HPN
              by_cases hnl : n < 128
              · have hn0 : (0 : Int) ≤ (n : Int) := Int.natCast_nonneg _
                have hn2 : (n : Int) < 128 := by omega
                go_wp2_with fail
                refine (a_read H7.out n n rfl (by omega) (by omega)).mono ?_
                rintro e w8 ⟨u, rfl, ρ8, hgo8, hu⟩
                have H8 := Lib.hid (H7.out.goes hgo8)
                have HU8 := Lib.hid hu
                have hv : t7.val n = t7.d.readAt n := by unfold Sto.val; rw [HC7.out, HW7.out n]
                have hd8 : (t7.read n).d = t7.d := EAwM.read_d t7 n
                have hN8 : (t7.read n).N = 128 := (EAny.read_N t7 n).trans hN7
                have hld8 := Sto.load_read t7 n
                have HC8 : Hid ((t7.read n).now.chg = fun _ => none) := Lib.hid (by rw [read_now]; exact HC7.out)
                have HW8 : Hid (∀ q, (t7.read n).wai q = none) := Lib.hid (by rw [read_wai]; exact HW7.out)
                have HP8 : Hid ((t7.read n).d.P.length = j) := Lib.hid (by rw [hd8]; exact HP7.out)
                have HV : Hid (t7.val n = (t7.read n).d.readAt n) := Lib.hid (by rw [hd8]; exact hv)
                clear hgo8 hu hv hd8 HC7 HW7 HP7
                generalize t7.val n = vl at *
                generalize t7.read n = t8 at *
                go_wp2_with fail
                refine (l_dread H8.out n (by omega)).mono ?_
                rintro e w9 ⟨gd, rfl, hbd, hb9⟩
                have H9 := Lib.hid (H8.out.go hb9)
                have HU9 := Lib.hid (HU8.out.keep (w' := w9) (fun q _ hq _ => hb9.block q hq.2))
                rw [← HV.out] at hbd
                have HD9 := Lib.hid hbd
                clear hb9 hbd
                go_wp2_with fail
                refine (Same_blk vl _ _ _ _ w9 HU9.out HD9.out).mono ?_
                rintro e wq ⟨rfl, nd, rfl⟩
                have H10 := Lib.hid (H9.out.drewN nd)
                clear HU9 HD9 H9
                generalize w9.drewN nd = wq at *
                go_wp2_with fail
                go_roundw
                case rel => exact ⟨n + 1, ρ8, t8, by omega, by go_num, H10.out, HC8.out, HW8.out, hN8, HP8.out, by omega⟩
                case measure => simp [RowKit.intOf]; omega
              · obtain rfl : n = 128 := by omega
                go_wp2_with fail
                refine (l_waiting H7.out HW7.out).mono ?_
                rintro e w8 ⟨A8, c8, rfl, hb8⟩
                have H8 := Lib.hid (H7.out.go hb8)
                clear hb8
                go_wp2_with fail
                refine (l_pending H8.out j HP7.out (by omega)).mono ?_
                rintro e w9 ⟨g9, rfl, hb9⟩
                have H9 := Lib.hid (H8.out.go hb9)
                clear hb9
                go_wp2_with fail
                go_ret
                exact ⟨rfl, HB0.out.trans (H9.out.below.mono HB0.out.size)⟩
end Go.Proofs.Ytphfidenjihgeaa.ELHomes
