/- The store: Back. -/
import Derived.Test.YtmlgchmladkfpaaGreatDoorMg17
import Derived.Test.YtmlgchmladkfpaaGreatDoorMg18
import Derived.Test.YtmlgchmladkfpaaGreatDoorMg7
import Derived.Test.YtmlgchmladkfpaaGreatDoorMg19
import Derived.Test.YtmlgchmladkfpaaGreatDoorMg21
namespace Go.Proofs.YtmlgchmladkfpaaGreatDoor.EBack
open Go.RowKit Go.Shelf WMem WPlain WAppend Ext Map DPlain DMem Mk DBase DRead DWrite EPlain EMem ECache EFace EUnwrite EPush EUndo EIter EWrite


theorem slice_tail (gU n m cap : Nat) (h1 : m ≤ n) (_h2 : n ≤ cap) (_h3 : n ≤ 1073741824) (W : World) :
    (Instr.slice 99 (.slice (some ⟨gU, 0, none⟩) n cap) (some (.int .i64 (m : Int))) none none).run Tryz.prog W = .ok (.slice (if cap = m then some ⟨gU, 0, none⟩ else some ⟨gU, m, none⟩) (n - m) (cap - m)) W := by
  go_simp
theorem slice_none (W : World) :
    (Instr.slice 99 (.slice none 0 0) (some (.int .i64 ((0 : Nat) : Int))) none none).run Tryz.prog W = .ok (.slice none 0 0) W := by
  go_simp
/-- a row from its element m on -/
theorem tail_of {w : World} {S : Nat → Prop} {A : Option Addr} {n cap m : Nat} {us : List Value} (h : OwnS w S 1 1 (.slice A n cap) n us) (hus : us.length = n) (hm : m ≤ n) (hn : n ≤ 1073741824) :
    ∃ A' cap' gU, (∀ W : World, (Instr.slice 99 (.slice A n cap) (some (.int .i64 (m : Int))) none none).run Tryz.prog W = .ok (.slice A' (n - m) cap') W) ∧ RowAt w A' gU (us.drop m) ∧ (n - m = 0 ∨ S gU) := by
  obtain ⟨ho, hS⟩ := h
  rcases ho.2 with ⟨he, h0⟩ | ⟨gU, cap2, cur, he, _, hg, hnc, hcm, hcs, ht⟩
  · cases he
    obtain rfl : m = 0 := by omega
    refine ⟨none, 0, 0, fun W => slice_none W, .inl ?_, .inl rfl⟩
    rw [List.eq_nil_of_length_eq_zero hus]; rfl
  · cases he
    refine ⟨_, _, gU, fun W => slice_tail gU n m cap hm hnc hn W, ?_, .inr (hS gU rfl)⟩
    by_cases e : n = m
    · exact .inl (List.drop_eq_nil_of_le (by omega))
    · refine .inr ⟨m, cur, _, by rw [if_neg (by omega)], hg, fun i hi => ?_⟩
      rw [List.length_drop] at hi
      rw [List.getElem?_drop]
      have h1 : (cur.toList.take (n * 1))[m + i]? = us[m + i]? := by rw [ht]
      rw [List.getElem?_take, if_pos (by omega)] at h1
      rw [← h1]; simp

/-- a piece of code that comes to its end, and to no other -/
def OnlyN (Q : Exit → Act → World → Prop) : Exit → Act → World → Prop
  | .normal, a, w => Q .normal a w
  | _, _, _ => False
theorem only_normal {Q : Exit → Act → World → Prop} {a : Act} {w : World} : OnlyN Q .normal a w = Q .normal a w := rfl
theorem wp_only {P : Program} {c : Code} {Q : Exit → Act → World → Prop} {a : Act} {w : World} (h : c.wp P (OnlyN Q) a w) : c.wp P Q a w :=
  wp_mono h fun e a w q => by
    cases e with
    | normal => exact q
    | _ => exact q.elim

/-- what a round leaves -/
def BI (w : World) (ρ : Ro) (b db m1 m2 m3 g : Nat) (s : Sto) (Uv : Value) (us : List Value) (pre : List Nat) (W : World) : Prop :=
  ∃ now', SSx W ρ b db { s with now := now' } m1 m2 m3 g Uv us ∧ (pre = List.range pre.length → now' = undoAll (s.acts.drop (s.acts.length - pre.length)) s.now) ∧ Ext (Mine ρ) w W
theorem BI.own {w : World} {ρ : Ro} {b db m1 m2 m3 g B : Nat} {s : Sto} {Uv : Value} {us : List Value} (hB : w.heap.size ≤ B) (ht : There (Mine ρ) w) : OwnFrom B (BI w ρ b db m1 m2 m3 g s Uv us) := by
  rintro pre X Y row ⟨now', h1, h2, h3⟩ hg hr
  refine ⟨now', h1.keep (fun k hk => hg.block k (h1.there k hk) (fun e => ?_)) (fun _ _ => rfl) (h1.there.up hg.size), h2, h3.trans (Ext.of_grown (S := fun q => w.heap.size ≤ q) hg (fun k hk _ => ?_)) (fun q hq => .inr hq)⟩
  · have := (hr k e.symm).1
    have := ht k hk
    omega
  · have := (hr k hk).1
    omega

/-- a round: the element's deed is undone -/
theorem round_of {w W : World} {ρ : Ro} {b db m1 m2 m3 g m x : Nat} {s : Sto} {Uv : Value} {us : List Value} {pre : List Nat} (hwf : s.Wf) (hm : m ≤ s.acts.length) (hus : us.length = s.acts.length) (hI : BI w ρ b db m1 m2 m3 g s Uv us pre W) (hlt : pre.length < s.acts.length - m) :
    ∃ f cs, el (us.drop m) x = .func (.func f) #[] cs ∧
      ((f = 78 ∧ ∃ x y, cs = #[x, y]) ∨ (f = 79 ∧ ∃ x y z, cs = #[x, y, z]) ∨ (f = 133 ∧ cs = #[]) ∨ (f = 134 ∧ ∃ x y, cs = #[x, y])) ∧
      Calls Tryz.prog f cs W fun e W' => e = .returned (.tuple #[]) ∧ BI w ρ b db m1 m2 m3 g s Uv us (pre ++ [x]) W' ∧ Ext (isM ρ) W W' := by
  obtain ⟨now', h1, h2, h3⟩ := hI
  have hl : (us.drop m).length = s.acts.length - m := by rw [List.length_drop, hus]
  obtain ⟨j, hj⟩ : ∃ j, (us.drop m).length - 1 - x = j := ⟨_, rfl⟩
  have hjm : m + j < s.acts.length := by omega
  obtain ⟨v, hv, ha⟩ := h1.acts.2 (m + j) hjm
  have hg : (us.drop m).getD j .nilFunc = v := by rw [List.getD_eq_getElem?_getD, List.getElem?_drop, hv]; rfl
  have hfine : (s.acts[m + j]).Fine s.N := hwf.fine _ (List.getElem_mem hjm)
  obtain ⟨f, cs, hvf, hcs, hcall⟩ := undo_own h1 (Nat.le_trans hwf.most (Nat.le_refl _)) ha hfine
  refine ⟨f, cs, by unfold el; rw [hj, hg]; exact hvf, hcs, hcall.mono ?_⟩
  rintro e W' ⟨rfl, q1, q2⟩
  refine ⟨rfl, ⟨_, q1, fun hp => ?_, h3.trans q2 (fun q hq => ?_)⟩, q2⟩
  · have hp2 : pre = List.range pre.length ∧ x = pre.length := by
      rw [List.length_append, List.length_singleton, List.range_succ] at hp
      obtain ⟨e1, e2⟩ := List.append_inj' hp rfl
      exact ⟨e1, by simpa using e2⟩
    have hx : x = pre.length := hp2.2
    rw [List.length_append, List.length_singleton]
    have e1 : s.acts.length - (pre.length + 1) = m + j := by omega
    have e2 : s.acts.length - pre.length = m + j + 1 := by omega
    rw [e1, List.drop_eq_getElem_cons hjm]
    show Deed.undo _ now' = Deed.undo _ _
    rw [h2 hp2.1, e2]
  · left
    rcases hq with hq | hq
    · exact mine_of hq (by intro e; cases e)
    · exact mine_of hq (by intro e; cases e)

/-- the row of what undoes has turned -/
theorem undo_turn {W w2 : World} {ρ : Ro} {b db m1 m2 m3 g m : Nat} {s : Sto} {Uv v' : Value} {us us' : List Value} {acts' : List Deed} (hx : SSx W ρ b db s m1 m2 m3 g Uv us) (far : ∀ q, q < W.heap.size → ρ q ≠ .undo → w2.heap[q]? = W.heap[q]?) (hs : W.heap.size ≤ w2.heap.size)
    (hu : OwnS w2 (At ρ .undo) 1 1 v' m us') (ha : ActsAre W ρ b us' acts') (hl : acts'.length = m) : SSx (w2.setCell ⟨b, 6, none⟩ v') ρ b db { s with acts := acts' } m1 m2 m3 g v' us' := by
  subst hl
  have far2 : ∀ q, Mine ρ q → ρ q ≠ .undo → ρ q ≠ .store → (w2.setCell ⟨b, 6, none⟩ v').heap[q]? = W.heap[q]? := fun q q1 q2 q3 => (Below.heap_setCell w2 _ _ q (role_ne hx.rb q3)).trans (far q (hx.there q q1) q2)
  have kst : ∀ q, ρ q = .still → (w2.setCell ⟨b, 6, none⟩ v').heap[q]? = W.heap[q]? := fun q hq => far2 q (mine_still q hq) (by rw [hq]; intro e; cases e) (by rw [hq]; intro e; cases e)
  refine ⟨?_, hx.rb, hx.chg.keep kst (fun _ h => h) (far2 _ (mine_of hx.chg.1 (by intro e; cases e)) (by rw [hx.chg.1]; intro e; cases e) (by rw [hx.chg.1]; intro e; cases e)) rfl,
    hx.wai.keep kst (fun _ h => h) (far2 _ (mine_of hx.wai.1 (by intro e; cases e)) (by rw [hx.wai.1]; intro e; cases e) (by rw [hx.wai.1]; intro e; cases e)) rfl,
    hx.hld.keep (far2 _ (mine_of hx.hld.1 (by intro e; cases e)) (by rw [hx.hld.1]; intro e; cases e) (by rw [hx.hld.1]; intro e; cases e)) rfl,
    hx.cac.keep (fun q hq => ?_) (fun _ _ => rfl), OwnS.part hu (fun q hq => Below.heap_setCell w2 _ _ q (role_ne hx.rb (by rw [hq]; intro e; cases e))) (fun _ h => h), ha.keep kst (fun _ h => h), hx.there.up (by simp [World.setCell]; exact hs)⟩
  · have h5 := row_set ((far b (row_lt hx.block) (by rw [hx.rb]; intro e; cases e)).trans hx.block) 6 v'
    simpa using h5
  · rcases hq with hq | hq
    · exact kst q hq
    · exact far2 q (mine_c hq) (fun e => by rw [e] at hq; exact hq) (fun e => by rw [e] at hq; exact hq)

end Go.Proofs.YtmlgchmladkfpaaGreatDoor.EBack
/- The store's calls at whatever numbers, for the statements. -/
namespace Go.Proofs.YtmlgchmladkfpaaGreatDoor.EAny
open Go.RowKit WMem WPlain WAppend Ext Map DPlain DMem Mk DBase DRead DWrite EPlain EMem ECache EFace EUnwrite EPush EWrite EHold ERead EHome EWrites ECommit EBack EFill

/-- is there such a block? -/
def inN (s : Sto) (n : Int) : Bool := decide (0 ≤ n ∧ n < (s.N : Int))
theorem inN_yes {s : Sto} {n : Int} (h : inN s n = true) : 0 ≤ n ∧ n < (s.N : Int) := of_decide_eq_true h
theorem inN_no {s : Sto} {n : Int} (h : inN s n = false) : n < 0 ∨ (s.N : Int) ≤ n := by
  have := of_decide_eq_false h
  omega
def writeI (s : Sto) (n : Int) (l : Bk) : Sto := if inN s n then s.write n.toNat l else s
def holdI (s : Sto) (n : Int) : Sto := if inN s n then s.hold n.toNat else s
def readI (s : Sto) (n : Int) : Sto := if inN s n then s.read n.toNat else s
def backOk (s : Sto) (m : Int) : Bool := decide (0 ≤ m ∧ m ≤ (s.acts.length : Int))
def backI (s : Sto) (m : Int) : Sto := if backOk s m then s.back m.toNat else s
def homeOk (s : Sto) (n : Int) : Bool := inN s n && (s.wai n.toNat).isSome
def homeI (s : Sto) (n : Int) : Sto := if homeOk s n then s.home n.toNat ((s.wai n.toNat).getD []) else s
/-- what is answered -/
def eio (b : Bool) : Int := if b then 0 else 5
def einval (b : Bool) : Int := if b then 0 else 22

section
variable {w : World} {ρ : Ro} {D : Nat → Prop} {b db : Nat} {s : Sto} (h : EFace.Own w ρ D b db s) (n : Int)
include h
theorem write_go {S : Nat → Prop} {v : Value} {l : Bk} (hv : IsBlk w S v l) (hS : There S w) (hf : Far (Mine ρ) S) (hload : s.load ≤ 1073741824) :
    Calls Tryz.prog 16 #[.pointer (some ⟨b, 0, none⟩), .int .i64 n, v] w fun e w' => e = .returned (.int .i64 (eio (inN s n))) ∧ ∃ ρ' D', Goes w w' ρ D ρ' D' b db (writeI s n l) := by
  cases hq : inN s n with
  | true =>
    obtain ⟨h0, h1⟩ := inN_yes hq
    obtain ⟨k, rfl⟩ := Int.eq_ofNat_of_zero_le h0
    refine (SWrite_ok h (show k < s.N by omega) hv hS hf hload).mono ?_
    rintro e w' ⟨rfl, ρ', hg⟩
    exact ⟨rfl, ρ', D, by unfold writeI; rw [hq]; exact hg⟩
  | false =>
    refine (SWrite_out _ n v w (hasn_own h (inN_no hq))).mono ?_
    rintro e w' ⟨rfl, rfl⟩
    exact ⟨rfl, ρ, D, by unfold writeI; rw [hq]; exact Goes.refl h⟩
theorem hold_go (hload : s.load ≤ 1073741824) :
    Calls Tryz.prog 76 #[.pointer (some ⟨b, 0, none⟩), .int .i64 n] w fun e w' => e = .returned (.int .i64 (einval (inN s n))) ∧ ∃ ρ' D', Goes w w' ρ D ρ' D' b db (holdI s n) := by
  cases hq : inN s n with
  | true =>
    obtain ⟨h0, h1⟩ := inN_yes hq
    obtain ⟨k, rfl⟩ := Int.eq_ofNat_of_zero_le h0
    refine (Hold_ok h (show k < s.N by omega) hload).mono ?_
    rintro e w' ⟨rfl, ρ', hg⟩
    exact ⟨rfl, ρ', D, by unfold holdI; rw [hq]; exact hg⟩
  | false =>
    refine (Hold_out _ n w (hasn_own h (inN_no hq))).mono ?_
    rintro e w' ⟨rfl, rfl⟩
    exact ⟨rfl, ρ, D, by unfold holdI; rw [hq]; exact Goes.refl h⟩
theorem home_go (hf : Fits n) (hload : s.load ≤ 1073741824) :
    Calls Tryz.prog 141 #[.pointer (some ⟨b, 0, none⟩), .int .i64 n] w fun e w' => e = .returned (.int .i64 (einval (homeOk s n))) ∧ ∃ ρ' D', Goes w w' ρ D ρ' D' b db (homeI s n) := by
  cases hq : homeOk s n with
  | true =>
    have hq' := hq
    unfold homeOk at hq'
    rw [Bool.and_eq_true] at hq'
    obtain ⟨h0, h1⟩ := inN_yes hq'.1
    obtain ⟨k, rfl⟩ := Int.eq_ofNat_of_zero_le h0
    obtain ⟨l, hl⟩ := Option.isSome_iff_exists.1 hq'.2
    rw [Int.toNat_natCast] at hl
    refine (Home_ok h hl hload).mono ?_
    rintro e w' ⟨rfl, ρ', D', hg⟩
    exact ⟨rfl, ρ', D', by unfold homeI; rw [hq, Int.toNat_natCast, hl]; exact hg⟩
  | false =>
    have hn : ∀ m : Nat, n = (m : Int) → s.wai m = none := fun m hm => by
      subst hm
      cases hw : s.wai m with
      | none => rfl
      | some l =>
        exfalso
        have hlt := (h.wf.wai m l hw).1
        have e1 : inN s (m : Int) = true := decide_eq_true ⟨by omega, by omega⟩
        unfold homeOk at hq
        rw [e1, Int.toNat_natCast, hw] at hq
        cases hq
    refine (Home_no h hf hn).mono ?_
    rintro e w' ⟨rfl, rfl⟩
    exact ⟨rfl, ρ, D, by unfold homeI; rw [hq]; exact Goes.refl h⟩
/-- Read: the bytes, or nothing -/
theorem read_go (hcoh : ∀ n, n ∈ s.sh n → s.mem n = s.d.readAt n) (hload : s.load ≤ 1073741824) :
    Calls Tryz.prog 23 #[.pointer (some ⟨b, 0, none⟩), .int .i64 n] w fun e w' => ∃ u, e = .returned (.tuple #[u, .int .i64 (eio (inN s n))]) ∧ ∃ ρ' D', Goes w w' ρ D ρ' D' b db (readI s n) ∧
      (inN s n = true → IsBlk w' (Free w w' ρ') u (s.val n.toNat)) ∧ (inN s n = false → u = .slice none 0 0) ∧ ∀ k, D' k → k < w.heap.size := by
  cases hq : inN s n with
  | true =>
    obtain ⟨h0, h1⟩ := inN_yes hq
    obtain ⟨k, rfl⟩ := Int.eq_ofNat_of_zero_le h0
    refine (SRead_own h (show k < s.N by omega) hload (hcoh k)).mono ?_
    rintro e w' ⟨u, rfl, ρ', hg, hu⟩
    exact ⟨u, rfl, ρ', D, by unfold readI; rw [hq]; exact hg, fun _ => hu, fun e => (by cases e), fun k hk => h.dd.there k hk⟩
  | false =>
    refine (SRead_out _ n w (hasn_own h (inN_no hq))).mono ?_
    rintro e w' ⟨rfl, rfl⟩
    exact ⟨_, rfl, ρ, D, by unfold readI; rw [hq]; exact Goes.refl h, fun e => (by cases e), fun _ => rfl, fun k hk => h.dd.there k hk⟩
end
section
variable (s : Sto) (n : Int) (l : Bk)
theorem writeI_N : (writeI s n l).N = s.N := by unfold writeI; split <;> rfl
theorem holdI_N : (holdI s n).N = s.N := by unfold holdI; split <;> rfl
theorem read_N (n : Nat) : (s.read n).N = s.N := by
  unfold Sto.read Sto.N
  split
  · rfl
  · split <;> rfl
theorem readI_N : (readI s n).N = s.N := by
  unfold readI
  split
  · exact read_N s _
  · rfl
theorem backI_N : (backI s n).N = s.N := by unfold backI; split <;> rfl
theorem home_N (n : Nat) : (s.home n l).N = s.N := by unfold Sto.home; split <;> rfl
theorem homeI_N : (homeI s n).N = s.N := by
  unfold homeI
  split
  · exact home_N s _ _
  · rfl
theorem writeI_load : (writeI s n l).load ≤ s.load + 1 := by
  unfold writeI
  split
  · exact Sto.load_write ..
  · omega
theorem holdI_load : (holdI s n).load ≤ s.load + 1 := by
  unfold holdI
  split
  · exact Sto.load_hold ..
  · omega
theorem readI_load : (readI s n).load ≤ s.load + 1 := by
  unfold readI
  split
  · exact Sto.load_read ..
  · omega
theorem backI_load : (backI s n).load ≤ s.load := by
  unfold backI
  split
  · exact Sto.load_back ..
  · omega
theorem homeI_load : (homeI s n).load ≤ s.load + 1 := by
  unfold homeI
  split
  · exact Sto.load_home ..
  · omega
end
/-- a store that a law has made, with its disk: all in new memory -/
structure Live (a w : World) (ρ : Ro) (D : Nat → Prop) (b db : Nat) (s : Sto) : Prop where
  own : EFace.Own w ρ D b db s
  new : ∀ q, All ρ D q → a.heap.size ≤ q
  below : Below a.heap.size a w
section
variable {a w w' : World} {ρ ρ' : Ro} {D D' : Nat → Prop} {b db : Nat} {s s' : Sto}
theorem Live.goes (h : Live a w ρ D b db s) (g : Goes w w' ρ D ρ' D' b db s') : Live a w' ρ' D' b db s' :=
  ⟨g.own, fun q hq => by
    rcases g.new q hq with h1 | h1
    · exact h.new q h1
    · exact Nat.le_trans h.below.size h1, h.below.trans (g.ext.below h.below.size h.new)⟩
theorem Live.go (h : Live a w ρ D b db s) (hb : Below w.heap.size w w') : Live a w' ρ D b db s := ⟨h.own.below hb, h.new, h.below.trans (hb.mono h.below.size)⟩
theorem Live.drewN (h : Live a w ρ D b db s) (n : Nat) : Live a (w.drewN n) ρ D b db s := h.go (below_drewN (Below.refl _ _) n)
theorem Live.ext {S : Nat → Prop} (h : Live a w ρ D b db s) (he : Ext S w w') (hf : Far S (All ρ D)) (hS : ∀ q, S q → a.heap.size ≤ q) : Live a w' ρ D b db s := ⟨h.own.ext he hf, h.new, h.below.trans (he.below h.below.size hS)⟩
end
/-- a new disk and a store over it -/
theorem live_new {a w1 w2 : World} {S : Nat → Prop} {b db : Nat} {ρ : Ro} {d : St} {ns room : Nat} (hd : DD w1 S db d) (hS : ∀ q, S q → a.heap.size ≤ q) (hb : Below a.heap.size a w1) (hs : SS w2 ρ b db (fresh d ns room)) (hm : ∀ k, Mine ρ k → w1.heap.size ≤ k) (hb2 : Below w1.heap.size w1 w2) :
    Live a w2 ρ S b db (fresh d ns room) :=
  ⟨⟨hs, hd.below hb2, fun k h1 h2 => by have := hm k h1; have := hd.there k h2; omega⟩, fun q hq => by
    rcases hq with hq | hq
    · exact Nat.le_trans hb.size (hm q hq)
    · exact hS q hq, hb.trans (hb2.mono hb.size)⟩
end Go.Proofs.YtmlgchmladkfpaaGreatDoor.EAny
/- Blocks that no call turns. -/
namespace Go.Proofs.YtmlgchmladkfpaaGreatDoor.EFix
open Go.RowKit WMem WPlain WAppend Ext Map DPlain DMem Mk DBase EPlain EMem EFace EAny

/-- the blocks of S are as they were in w0, and neither the store's nor the disk's -/
structure Fix (S : Nat → Prop) (w0 w : World) (ρ : Ro) (D : Nat → Prop) : Prop where
  same : ∀ q, S q → w.heap[q]? = w0.heap[q]?
  far : ∀ q, S q → ¬ All ρ D q ∧ q < w.heap.size
section
variable {S : Nat → Prop} {w0 w w' : World} {ρ ρ' : Ro} {D D' : Nat → Prop} {b db : Nat} {s s' : Sto}
theorem Fix.refl (h : ∀ q, S q → ¬ All ρ D q ∧ q < w.heap.size) : Fix S w w ρ D := ⟨fun _ _ => rfl, h⟩
theorem Fix.goes (h : Fix S w0 w ρ D) (g : Goes w w' ρ D ρ' D' b db s') : Fix S w0 w' ρ' D' :=
  ⟨fun q hq => (g.ext.block q (h.far q hq).2 (h.far q hq).1).trans (h.same q hq), fun q hq => ⟨fun h1 => by
    rcases g.new q h1 with h2 | h2
    · exact (h.far q hq).1 h2
    · have := (h.far q hq).2; omega, Nat.lt_of_lt_of_le (h.far q hq).2 g.ext.size⟩⟩
theorem Fix.below (h : Fix S w0 w ρ D) (hb : Below w.heap.size w w') : Fix S w0 w' ρ D :=
  ⟨fun q hq => (hb.block q (h.far q hq).2).trans (h.same q hq), fun q hq => ⟨(h.far q hq).1, Nat.lt_of_lt_of_le (h.far q hq).2 hb.size⟩⟩
theorem Fix.drewN (h : Fix S w0 w ρ D) (n : Nat) : Fix S w0 (w.drewN n) ρ D := h.below (below_drewN (Below.refl _ _) n)
/-- another store, of new blocks -/
theorem Fix.made (h : Fix S w0 w ρ D) (hm : ∀ k, Mine ρ' k → w.heap.size ≤ k) (hb : Below w.heap.size w w') : Fix S w0 w' ρ' D :=
  ⟨(h.below hb).same, fun q hq => ⟨fun h1 => by
    rcases h1 with h1 | h1
    · have := hm q h1; have := (h.far q hq).2; omega
    · exact (h.far q hq).1 (.inr h1), ((h.below hb).far q hq).2⟩⟩
/-- more blocks -/
theorem Fix.also {S2 : Nat → Prop} (h : Fix S w0 w ρ D) (h2 : ∀ q, S2 q → ¬ All ρ D q ∧ q < w.heap.size) : Fix (fun q => S q ∨ S2 q) w w ρ D :=
  Fix.refl fun q hq => by
    rcases hq with hq | hq
    · exact h.far q hq
    · exact h2 q hq
theorem Fix.less {S2 : Nat → Prop} (h : Fix S w0 w ρ D) (hs : ∀ q, S2 q → S q) : Fix S2 w0 w ρ D := ⟨fun q hq => h.same q (hs q hq), fun q hq => h.far q (hs q hq)⟩
theorem Fix.blk {v : Value} {l : Bk} (h : Fix S w0 w ρ D) (hv : IsBlk w0 S v l) : IsBlk w S v l := hv.keep (fun k _ hk _ => h.same k hk)
theorem Fix.cell (h : Fix S w0 w ρ D) (p : Addr) (hp : S p.block) : w.cell? p = w0.cell? p := World.cell?_of_block (h.same _ hp)
end
end Go.Proofs.YtmlgchmladkfpaaGreatDoor.EFix
/- A script of operations in memory. -/
namespace Go.Proofs.YtmlgchmladkfpaaGreatDoor.EScript
open Go.RowKit WMem Ext Map

/-- what is done to a store -/
structure OpV where
  what : Int
  block : Int
  fill : Int
instance : Inhabited OpV := ⟨⟨0, 0, 0⟩⟩

def OpsIn (w : World) (B : Nat) (A : Option Addr) (ops : List OpV) : Prop :=
  ∀ (i : Nat) (hi : i < ops.length), ∃ a, A = some a ∧ a.block < B ∧ w.cell? (a.add (i * 3)) = some (.int .i64 ops[i].what) ∧ w.cell? (a.add (i * 3 + 1)) = some (.int .i64 ops[i].block) ∧ w.cell? (a.add (i * 3 + 2)) = some (.int .i64 ops[i].fill) ∧ Fits ops[i].block
theorem OpsIn.below {w w' : World} {B B' : Nat} {A : Option Addr} {ops : List OpV} (h : OpsIn w B A ops) (hb : Below B' w w') (hB : B ≤ B') : OpsIn w' B A ops := fun i hi => by
  obtain ⟨a, hA, hab, h1, h2, h3, h4⟩ := h i hi
  have hk : ∀ n, w'.cell? (a.add n) = w.cell? (a.add n) := fun n => hb.cell (by rw [addr_add_block]; omega)
  exact ⟨a, hA, hab, (hk _).trans h1, (hk _).trans h2, (hk _).trans h3, h4⟩
theorem addr_field (a : Addr) (n j : Nat) (hj : j ≠ 0) : (⟨(a.add n).block, (a.add n).off + j, none⟩ : Addr) = a.add (n + j) := by
  rw [← addr_add_add a n j]
  generalize a.add n = x
  unfold Addr.add
  rw [if_neg hj]
/-- the three cells of an operation -/
structure OpAt (w : World) (a : Addr) (k : Nat) (o : OpV) : Prop where
  c0 : w.cell? (a.add (k * 3)) = some (.int .i64 o.what)
  c1 : w.cell? ⟨(a.add (k * 3)).block, (a.add (k * 3)).off + 1, none⟩ = some (.int .i64 o.block)
  c2 : w.cell? ⟨(a.add (k * 3)).block, (a.add (k * 3)).off + 2, none⟩ = some (.int .i64 o.fill)
theorem op_at {w wr : World} {B : Nat} {A : Option Addr} {ops : List OpV} (hA : OpsIn w B A ops) (hb : Below B w wr) {k : Nat} (hk : k < ops.length) : ∃ a, A = some a ∧ a.block < B ∧ OpAt wr a k ops[k] ∧ Fits ops[k].block := by
  obtain ⟨a, hA, hab, h0, h1, h2, h4⟩ := hA k hk
  have hk' : ∀ n, wr.cell? (a.add n) = w.cell? (a.add n) := fun n => hb.cell (by rw [addr_add_block]; exact hab)
  exact ⟨a, hA, hab, ⟨(hk' _).trans h0, (congrArg wr.cell? (addr_field a (k * 3) 1 (by decide))).trans ((hk' _).trans h1), (congrArg wr.cell? (addr_field a (k * 3) 2 (by decide))).trans ((hk' _).trans h2)⟩, h4⟩
theorem OpAt.drew {w : World} {a : Addr} {k : Nat} {o : OpV} (h : OpAt w a k o) : OpAt w.drew a k o := ⟨h.c0, h.c1, h.c2⟩
theorem OpAt.below {w w' : World} {a : Addr} {k : Nat} {o : OpV} {B : Nat} (h : OpAt w a k o) (hb : Below B w w') (ha : a.block < B) : OpAt w' a k o := by
  have hk : ∀ (p : Addr), p.block = a.block → w'.cell? p = w.cell? p := fun p hp => hb.cell (by rw [hp]; exact ha)
  have hk2 : ∀ j, w'.cell? ⟨(a.add (k * 3)).block, (a.add (k * 3)).off + j, none⟩ = w.cell? ⟨(a.add (k * 3)).block, (a.add (k * 3)).off + j, none⟩ := fun j => hk ⟨(a.add (k * 3)).block, (a.add (k * 3)).off + j, none⟩ (addr_add_block a (k * 3))
  exact ⟨(hk _ (addr_add_block _ _)).trans h.c0, (hk2 1).trans h.c1, (hk2 2).trans h.c2⟩
end Go.Proofs.YtmlgchmladkfpaaGreatDoor.EScript
/- Rows of operations, one for each transaction, in memory. -/
namespace Go.Proofs.YtmlgchmladkfpaaGreatDoor.NScript
open Go.RowKit WMem Ext Map EScript

def OpsIn2 (w : World) (B : Nat) (A : Option Addr) (ll : List (List OpV)) : Prop :=
  ∀ (i : Nat) (hi : i < ll.length), ∃ a Ai ci, A = some a ∧ a.block < B ∧ w.cell? (a.add i) = some (.slice Ai ll[i].length ci) ∧ OpsIn w B Ai ll[i] ∧ ll[i].length ≤ ci
theorem ops2_at {w wr : World} {B : Nat} {A : Option Addr} {ll : List (List OpV)} (hA : OpsIn2 w B A ll) (hb : Below B w wr) {k : Nat} (hk : k < ll.length) : ∃ a Ai ci, A = some a ∧ a.block < B ∧ wr.cell? (a.add k) = some (.slice Ai ll[k].length ci) ∧ OpsIn wr B Ai ll[k] ∧ ll[k].length ≤ ci := by
  obtain ⟨a, Ai, ci, h1, h2, h3, h4, h5⟩ := hA k hk
  exact ⟨a, Ai, ci, h1, h2, (hb.cell (by rw [addr_add_block]; exact h2)).trans h3, h4.below hb (Nat.le_refl _), h5⟩
theorem OpsIn2.below {w wr : World} {B : Nat} {A : Option Addr} {ll : List (List OpV)} (hA : OpsIn2 w B A ll) (hb : Below B w wr) : OpsIn2 wr B A ll := fun _ hi => by
  obtain ⟨a, Ai, ci, h1, h2, h3, h4, h5⟩ := ops2_at hA hb hi
  exact ⟨a, Ai, ci, h1, h2, h3, h4, h5⟩
/-- the lowest sixteen bits of a number -/
def low16 (x : Int) : Nat := (BitVec.ofInt 64 x &&& BitVec.ofInt 64 65535).toNat
theorem low16_lt (x : Int) : low16 x < 65536 := by
  unfold low16
  rw [BitVec.toNat_and]
  exact Nat.lt_of_le_of_lt Nat.and_le_right (by decide)
theorem and16 (x : Int) : bits BinOp.and IntKind.i64 x 65535 = (low16 x : Int) := by
  have h := low16_lt x
  show IntKind.i64.wrap ((BitVec.ofInt 64 x &&& BitVec.ofInt 64 65535).toNat : Int) = _
  rw [IntKind.wrap_i64]
  unfold low16 at *
  omega
end Go.Proofs.YtmlgchmladkfpaaGreatDoor.NScript
