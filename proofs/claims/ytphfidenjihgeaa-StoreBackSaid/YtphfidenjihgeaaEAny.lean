/- The store's calls at whatever numbers, for the statements. -/
import Derived.Test.YtphfidenjihgeaaEBack
import Derived.Test.YtphfidenjihgeaaEHome
import Derived.Test.YtphfidenjihgeaaECommit
import Derived.Test.YtphfidenjihgeaaEFill
namespace Go.Proofs.Ytphfidenjihgeaa.EAny
open Go.RowKit WMem WPlain WAppend Ext Map DPlain DMem Mk DBase DRead DWrite EPlain EMem ECache EFace EUnwrite EPush EWrite EHold ERead EHome EWrites ECommit EBack EFill

/-- is there such a block? -/
def inN (s : Sto) (n : Int) : Bool := decide (0 ≤ n ∧ n < (s.N : Int))
theorem inN_yes {s : Sto} {n : Int} (h : inN s n = true) : 0 ≤ n ∧ n < (s.N : Int) := of_decide_eq_true h
theorem inN_no {s : Sto} {n : Int} (h : inN s n = false) : n < 0 ∨ (s.N : Int) ≤ n := by
  have := of_decide_eq_false h
  omega
def writeI (s : Sto) (n : Int) (l : Bk) : Sto := if inN s n then s.write n.toNat l else s
def holdI (s : Sto) (n : Int) : Sto := if inN s n then s.hold n.toNat else s
def readI (s : Sto) (n : Int) : Sto := if inN s n then s.read n.toNat else s
def backOk (s : Sto) (m : Int) : Bool := decide (0 ≤ m ∧ m ≤ (s.acts.length : Int))
def backI (s : Sto) (m : Int) : Sto := if backOk s m then s.back m.toNat else s
def homeOk (s : Sto) (n : Int) : Bool := inN s n && (s.wai n.toNat).isSome
def homeI (s : Sto) (n : Int) : Sto := if homeOk s n then s.home n.toNat ((s.wai n.toNat).getD []) else s
/-- what is answered -/
def eio (b : Bool) : Int := if b then 0 else 5
def einval (b : Bool) : Int := if b then 0 else 22

section
variable {w : World} {ρ : Ro} {D : Nat → Prop} {b db : Nat} {s : Sto} (h : EFace.Own w ρ D b db s) (n : Int)
include h
theorem write_go {S : Nat → Prop} {v : Value} {l : Bk} (hv : IsBlk w S v l) (hS : There S w) (hf : Far (Mine ρ) S) (hload : s.load ≤ 1073741824) :
    Calls Try.prog 12 #[.pointer (some ⟨b, 0, none⟩), .int .i64 n, v] w fun e w' => e = .returned (.int .i64 (eio (inN s n))) ∧ ∃ ρ' D', Goes w w' ρ D ρ' D' b db (writeI s n l) := by
  cases hq : inN s n with
  | true =>
    obtain ⟨h0, h1⟩ := inN_yes hq
    obtain ⟨k, rfl⟩ := Int.eq_ofNat_of_zero_le h0
    refine (SWrite_ok h (show k < s.N by omega) hv hS hf hload).mono ?_
    rintro e w' ⟨rfl, ρ', hg⟩
    exact ⟨rfl, ρ', D, by unfold writeI; rw [hq]; exact hg⟩
  | false =>
    refine (SWrite_out _ n v w (hasn_own h (inN_no hq))).mono ?_
    rintro e w' ⟨rfl, rfl⟩
    exact ⟨rfl, ρ, D, by unfold writeI; rw [hq]; exact Goes.refl h⟩
theorem hold_go (hload : s.load ≤ 1073741824) :
    Calls Try.prog 14 #[.pointer (some ⟨b, 0, none⟩), .int .i64 n] w fun e w' => e = .returned (.int .i64 (einval (inN s n))) ∧ ∃ ρ' D', Goes w w' ρ D ρ' D' b db (holdI s n) := by
  cases hq : inN s n with
  | true =>
    obtain ⟨h0, h1⟩ := inN_yes hq
    obtain ⟨k, rfl⟩ := Int.eq_ofNat_of_zero_le h0
    refine (Hold_ok h (show k < s.N by omega) hload).mono ?_
    rintro e w' ⟨rfl, ρ', hg⟩
    exact ⟨rfl, ρ', D, by unfold holdI; rw [hq]; exact hg⟩
  | false =>
    refine (Hold_out _ n w (hasn_own h (inN_no hq))).mono ?_
    rintro e w' ⟨rfl, rfl⟩
    exact ⟨rfl, ρ, D, by unfold holdI; rw [hq]; exact Goes.refl h⟩
theorem back_go (hload : s.load ≤ 1073741824) :
    Calls Try.prog 15 #[.pointer (some ⟨b, 0, none⟩), .int .i64 n] w fun e w' => e = .returned (.int .i64 (einval (backOk s n))) ∧ ∃ ρ' D', Goes w w' ρ D ρ' D' b db (backI s n) := by
  cases hq : backOk s n with
  | true =>
    obtain ⟨h0, h1⟩ : 0 ≤ n ∧ n ≤ (s.acts.length : Int) := of_decide_eq_true hq
    obtain ⟨k, rfl⟩ := Int.eq_ofNat_of_zero_le h0
    refine (Back_own h (show k ≤ s.acts.length by omega) hload).mono ?_
    rintro e w' ⟨rfl, hg⟩
    exact ⟨rfl, ρ, D, by unfold backI; rw [hq]; exact hg⟩
  | false =>
    have h0 : ¬ (0 ≤ n ∧ n ≤ (s.acts.length : Int)) := of_decide_eq_false hq
    refine (Back_no h (by omega) hload).mono ?_
    rintro e w' ⟨rfl, rfl⟩
    exact ⟨rfl, ρ, D, by unfold backI; rw [hq]; exact Goes.refl h⟩
theorem home_go (hf : Fits n) (hload : s.load ≤ 1073741824) :
    Calls Try.prog 16 #[.pointer (some ⟨b, 0, none⟩), .int .i64 n] w fun e w' => e = .returned (.int .i64 (einval (homeOk s n))) ∧ ∃ ρ' D', Goes w w' ρ D ρ' D' b db (homeI s n) := by
  cases hq : homeOk s n with
  | true =>
    have hq' := hq
    unfold homeOk at hq'
    rw [Bool.and_eq_true] at hq'
    obtain ⟨h0, h1⟩ := inN_yes hq'.1
    obtain ⟨k, rfl⟩ := Int.eq_ofNat_of_zero_le h0
    obtain ⟨l, hl⟩ := Option.isSome_iff_exists.1 hq'.2
    rw [Int.toNat_natCast] at hl
    refine (Home_ok h hl hload).mono ?_
    rintro e w' ⟨rfl, ρ', D', hg⟩
    exact ⟨rfl, ρ', D', by unfold homeI; rw [hq, Int.toNat_natCast, hl]; exact hg⟩
  | false =>
    have hn : ∀ m : Nat, n = (m : Int) → s.wai m = none := fun m hm => by
      subst hm
      cases hw : s.wai m with
      | none => rfl
      | some l =>
        exfalso
        have hlt := (h.wf.wai m l hw).1
        have e1 : inN s (m : Int) = true := decide_eq_true ⟨by omega, by omega⟩
        unfold homeOk at hq
        rw [e1, Int.toNat_natCast, hw] at hq
        cases hq
    refine (Home_no h hf hn).mono ?_
    rintro e w' ⟨rfl, rfl⟩
    exact ⟨rfl, ρ, D, by unfold homeI; rw [hq]; exact Goes.refl h⟩
/-- Read: the bytes, or nothing -/
theorem read_go (hload : s.load ≤ 1073741824) :
    Calls Try.prog 10 #[.pointer (some ⟨b, 0, none⟩), .int .i64 n] w fun e w' => ∃ u, e = .returned (.tuple #[u, .int .i64 (eio (inN s n))]) ∧ ∃ ρ' D', Goes w w' ρ D ρ' D' b db (readI s n) ∧
      (inN s n = true → IsBlk w' (Free w w' ρ') u (s.val n.toNat)) ∧ (inN s n = false → u = .slice none 0 0) ∧ ∀ k, D' k → k < w.heap.size := by
  cases hq : inN s n with
  | true =>
    obtain ⟨h0, h1⟩ := inN_yes hq
    obtain ⟨k, rfl⟩ := Int.eq_ofNat_of_zero_le h0
    refine (SRead_own h (show k < s.N by omega) hload).mono ?_
    rintro e w' ⟨u, rfl, ρ', hg, hu⟩
    exact ⟨u, rfl, ρ', D, by unfold readI; rw [hq]; exact hg, fun _ => hu, fun e => (by cases e), fun k hk => h.dd.there k hk⟩
  | false =>
    refine (SRead_out _ n w (hasn_own h (inN_no hq))).mono ?_
    rintro e w' ⟨rfl, rfl⟩
    exact ⟨_, rfl, ρ, D, by unfold readI; rw [hq]; exact Goes.refl h, fun e => (by cases e), fun _ => rfl, fun k hk => h.dd.there k hk⟩
end
section
variable (s : Sto) (n : Int) (l : Bk)
theorem writeI_N : (writeI s n l).N = s.N := by unfold writeI; split <;> rfl
theorem holdI_N : (holdI s n).N = s.N := by unfold holdI; split <;> rfl
theorem read_N (n : Nat) : (s.read n).N = s.N := by
  unfold Sto.read Sto.N
  split
  · rfl
  · split <;> rfl
theorem readI_N : (readI s n).N = s.N := by
  unfold readI
  split
  · exact read_N s _
  · rfl
theorem backI_N : (backI s n).N = s.N := by unfold backI; split <;> rfl
theorem home_N (n : Nat) : (s.home n l).N = s.N := by unfold Sto.home; split <;> rfl
theorem homeI_N : (homeI s n).N = s.N := by
  unfold homeI
  split
  · exact home_N s _ _
  · rfl
theorem writeI_load : (writeI s n l).load ≤ s.load + 1 := by
  unfold writeI
  split
  · exact Sto.load_write ..
  · omega
theorem holdI_load : (holdI s n).load ≤ s.load + 1 := by
  unfold holdI
  split
  · exact Sto.load_hold ..
  · omega
theorem readI_load : (readI s n).load ≤ s.load + 1 := by
  unfold readI
  split
  · exact Sto.load_read ..
  · omega
theorem backI_load : (backI s n).load ≤ s.load := by
  unfold backI
  split
  · exact Sto.load_back ..
  · omega
theorem homeI_load : (homeI s n).load ≤ s.load + 1 := by
  unfold homeI
  split
  · exact Sto.load_home ..
  · omega
end
/-- a store that a law has made, with its disk: all in new memory -/
structure Live (a w : World) (ρ : Ro) (D : Nat → Prop) (b db : Nat) (s : Sto) : Prop where
  own : EFace.Own w ρ D b db s
  new : ∀ q, All ρ D q → a.heap.size ≤ q
  below : Below a.heap.size a w
section
variable {a w w' : World} {ρ ρ' : Ro} {D D' : Nat → Prop} {b db : Nat} {s s' : Sto}
theorem Live.goes (h : Live a w ρ D b db s) (g : Goes w w' ρ D ρ' D' b db s') : Live a w' ρ' D' b db s' :=
  ⟨g.own, fun q hq => by
    rcases g.new q hq with h1 | h1
    · exact h.new q h1
    · exact Nat.le_trans h.below.size h1, h.below.trans (g.ext.below h.below.size h.new)⟩
theorem Live.go (h : Live a w ρ D b db s) (hb : Below w.heap.size w w') : Live a w' ρ D b db s := ⟨h.own.below hb, h.new, h.below.trans (hb.mono h.below.size)⟩
theorem Live.drewN (h : Live a w ρ D b db s) (n : Nat) : Live a (w.drewN n) ρ D b db s := h.go (below_drewN (Below.refl _ _) n)
theorem Live.ext {S : Nat → Prop} (h : Live a w ρ D b db s) (he : Ext S w w') (hf : Far S (All ρ D)) (hS : ∀ q, S q → a.heap.size ≤ q) : Live a w' ρ D b db s := ⟨h.own.ext he hf, h.new, h.below.trans (he.below h.below.size hS)⟩
end
/-- a new disk and a store over it -/
theorem live_new {a w1 w2 : World} {S : Nat → Prop} {b db : Nat} {ρ : Ro} {d : St} {ns room : Nat} (hd : DD w1 S db d) (hS : ∀ q, S q → a.heap.size ≤ q) (hb : Below a.heap.size a w1) (hs : SS w2 ρ b db (fresh d ns room)) (hm : ∀ k, Mine ρ k → w1.heap.size ≤ k) (hb2 : Below w1.heap.size w1 w2) :
    Live a w2 ρ S b db (fresh d ns room) :=
  ⟨⟨hs, hd.below hb2, fun k h1 h2 => by have := hm k h1; have := hd.there k h2; omega⟩, fun q hq => by
    rcases hq with hq | hq
    · exact Nat.le_trans hb.size (hm q hq)
    · exact hS q hq, hb.trans (hb2.mono hb.size)⟩
/-- filled bytes in new memory -/
theorem filled_at (x : Int) (w : World) : Calls Try.prog 13 #[.int .i64 x] w fun e w' => ∃ g, e = .returned (.slice (some ⟨g, 0, none⟩) 256 256) ∧ IsBlk w' (fun q => q = g) (.slice (some ⟨g, 0, none⟩) 256 256) (full (octet x)) ∧ w.heap.size ≤ g ∧ g < w'.heap.size ∧ Below w.heap.size w w' := by
  refine (filled_any x w).mono ?_
  rintro e w' ⟨rfl, hr, hb, hl⟩
  exact ⟨_, rfl, ⟨_, 256, [], rfl, rfl, full_len _, Nat.le_refl _, hr⟩, Nat.le_refl _, hl, hb⟩
end Go.Proofs.Ytphfidenjihgeaa.EAny
