/- A table of a law's own: what its calls do, and that nothing else turns. -/
import Derived.Test.YtfaahhipddlmgaaKLeave
import Derived.Test.YtfaahhipddlmgaaKClaims
namespace Go.Proofs.Ytfaahhipddlmgaa.KLaw
open Go.RowKit WMem Ext KMap KPlain KMem KSeq KFind KDel KAsk KLeave KClaims

/-- a table that a law has made and turned, and that nothing else can turn -/
structure OwnT (a w : World) (S : Nat → Prop) (b : Nat) (R : Rw) (n : Nat) : Prop where
  tab : Tab w S b R n
  new : ∀ q, S q → a.heap.size ≤ q
  below : Below a.heap.size a w
theorem in_new {S S' : Nat → Prop} {w : World} {B : Nat} (hi : In S' S w) (h : ∀ q, S q → B ≤ q) (hs : B ≤ w.heap.size) : ∀ q, S' q → B ≤ q := fun q hq => by
  rcases hi q hq with h1 | h1
  · exact h q h1
  · omega
section
variable {a w w' : World} {S S' : Nat → Prop} {b n n' : Nat} {R R' : Rw}
theorem OwnT.go (h : OwnT a w S b R n) (hb : Below w.heap.size w w') : OwnT a w' S b R n := ⟨h.tab.below hb, h.new, h.below.trans (hb.mono h.below.size)⟩
theorem OwnT.turn (h : OwnT a w S b R n) (hd : Tab w' S' b R' n') (he : Ext S w w') (hi : In S' S w) : OwnT a w' S' b R' n' := ⟨hd, in_new hi h.new h.below.size, h.below.trans (he.below h.below.size h.new)⟩
theorem OwnT.drewN (h : OwnT a w S b R n) (k : Nat) : OwnT a (w.drewN k) S b R n := h.go (below_drewN (Below.refl _ _) k)
theorem OwnT.base {a0 : World} (h : OwnT a w S b R n) (hb : Below a0.heap.size a0 a) : OwnT a0 w S b R n := ⟨h.tab, fun q hq => Nat.le_trans hb.size (h.new q hq), hb.trans (h.below.mono hb.size)⟩
theorem OwnT.mono (h : OwnT a w S b R n) (hn : n ≤ n') : OwnT a w S b R n' := ⟨h.tab.mono hn, h.new, h.below⟩
end

theorem New_own (w : World) : Calls Try.prog 11 #[] w fun e w' => ∃ g, e = .returned (.pointer (some ⟨g, 0, none⟩)) ∧ ∃ S, OwnT w w' S g (fun _ => []) 0 := by
  refine (New_any w).mono ?_
  rintro e w' ⟨g, rfl, ht, hb⟩
  exact ⟨g, rfl, _, ht, fun q hq => hq.1, hb⟩
section
variable {a w : World} {S : Nat → Prop} {b n : Nat} {R : Rw}
theorem OwnT.ask (h : OwnT a w S b R n) (th key : Int) (al : Bool) (hk : Fits key) (hn : n < 1073741824) (q : Int) (hq : (if askOk R th key = true then 0 else 22) = q) :
    Calls Try.prog 12 #[.pointer (some ⟨b, 0, none⟩), .int .i64 th, .int .i64 key, .bool al] w fun e w' => e = .returned (.int .i64 q) ∧ ∃ S', OwnT a w' S' b (askd R th key al) (n + 1) ∧ Ext S w w' := by
  subst hq
  refine (Ask_tab S b n R th key al w h.tab hk hn).mono ?_
  rintro e w' ⟨rfl, S', h1, h2, h3⟩
  exact ⟨rfl, S', h.turn h1 h2 h3, h2⟩
theorem OwnT.leave (h : OwnT a w S b R n) (th key : Int) (hk : Fits key) (hn : n < 1073741824) (q : Int) (hq : (if has (R key) th = true then 0 else 22) = q) :
    Calls Try.prog 14 #[.pointer (some ⟨b, 0, none⟩), .int .i64 th, .int .i64 key] w fun e w' => e = .returned (.int .i64 q) ∧ ∃ S', OwnT a w' S' b (leavd R th key) (n + 1) ∧ Ext S w w' := by
  subst hq
  refine (Leave_tab S b n R th key w h.tab hk hn).mono ?_
  rintro e w' ⟨rfl, S', h1, h2, h3⟩
  exact ⟨rfl, S', h.turn h1 h2 h3, h2⟩
theorem OwnT.holds (h : OwnT a w S b R n) (th key : Int) (hk : Fits key) (hn : n ≤ 1073741824) (q : Bool) (hq : holdd R th key = q) :
    Calls Try.prog 16 #[.pointer (some ⟨b, 0, none⟩), .int .i64 th, .int .i64 key] w fun e w' => e = .returned (.bool q) ∧ OwnT a w' S b R n ∧ Below w.heap.size w w' := by
  subst hq
  refine (Holds_tab S b n R th key w h.tab hk hn).mono ?_
  rintro e w' ⟨rfl, h1⟩
  exact ⟨rfl, h.go h1, h1⟩
theorem OwnT.free (h : OwnT a w S b R n) : Calls Try.prog 20 #[.pointer (some ⟨b, 0, none⟩)] w fun e w' => ∃ q : Bool, e = .returned (.bool q) ∧ (q = true ↔ Empty R) ∧ w' = w := Free_tab S b n R w h.tab
theorem OwnT.len (h : OwnT a w S b R n) {k : Int} (hk : Fits k) : (R k).length ≤ n := by
  obtain ⟨_, _, _, hx⟩ := h.tab
  exact hx.long k hk
/-- what Claims answers: a slice that nothing else reaches -/
def Row3 (w w' : World) (l : List Cl) (A : Option Addr) (c : Nat) : Prop := w'.ownsRow w.heap.size 39 3 (.slice A l.length c) l.length (tcells l (List.range l.length))
theorem OwnT.claims (h : OwnT a w S b R n) (key : Int) (hk : Fits key) (hn : n ≤ 1073741824) (m : Nat) (hm : (R key).length = m) :
    Calls Try.prog 18 #[.pointer (some ⟨b, 0, none⟩), .int .i64 key] w fun e w' => ∃ A c, e = .returned (.slice A m c) ∧ Row3 w w' (R key) A c ∧ OwnT a w' S b R n ∧ Below w.heap.size w w' := by
  subst hm
  have hl : (R key).length ≤ 1073741824 := by
    obtain ⟨_, _, _, hx⟩ := h.tab
    exact Nat.le_trans (hx.long key hk) hn
  refine (claims_any (some ⟨b, 0, none⟩) key (R key) w (.inr ⟨S, b, R, n, rfl, h.tab, rfl, hk, hn⟩) hl).mono ?_
  rintro e w' ⟨v, rfl, ho, hb⟩
  obtain ⟨A, c, rfl⟩ : ∃ A c, v = .slice A (R key).length c := by
    rcases ho.2 with ⟨rfl, h0⟩ | ⟨g, c, _, rfl, _⟩
    · exact ⟨none, 0, by rw [h0]⟩
    · exact ⟨_, _, rfl⟩
  exact ⟨A, c, rfl, ho, h.go hb, hb⟩
end
theorem fits_small {k : Int} (h0 : -1073741824 ≤ k) (h1 : k ≤ 1073741824) : Fits k := ⟨by omega, by omega⟩

def e0 : Rw := fun _ => []
def e1 : Rw := askd e0 1 7 false
def e2 : Rw := askd e1 2 7 false
def e3 : Rw := askd e2 3 7 true
def e4 : Rw := askd e3 4 7 false
def e5 : Rw := leavd e4 1 7
def e6 : Rw := leavd e5 2 7
def e7 : Rw := askd e6 3 7 true
def e8 : Rw := leavd e7 5 7
theorem full_e7 : ¬ Empty e7 := fun h => by
  have h1 := h 7 (fits_small (by decide) (by decide))
  have h2 : e7 7 ≠ [] := by decide
  exact h2 h1

set_option maxHeartbeats 4000000 in
set_option maxRecDepth 100000 in
theorem awake_any (w : World) : Calls Try.prog 10 #[] w fun e w' => e = .returned (.bool true) ∧ Below w.heap.size w w' := by
  have F7 : Hid (Fits 7) := fits_small (by decide) (by decide)
  go_enter Try.func10, Try.ntmps10
  go_wp2_with fail
  refine (New_own w).mono ?_
  rintro e w0 ⟨b, rfl, S0, o⟩
  have O0 : Hid (OwnT w w0 S0 b e0 0) := o
  clear o
  go_wp2_with fail
  refine (O0.out.ask 1 7 false F7.out (by decide) 0 (by decide)).mono ?_
  rintro e w1 ⟨rfl, S1, o, _⟩
  have O1 : Hid (OwnT w w1 S1 b e1 1) := o
  clear o O0
  go_wp2_with fail
  refine (O1.out.ask 2 7 false F7.out (by decide) 0 (by decide)).mono ?_
  rintro e w2 ⟨rfl, S2, o, _⟩
  have O2 : Hid (OwnT w w2 S2 b e2 2) := o
  clear o O1
  go_wp2_with fail
  refine (O2.out.ask 3 7 true F7.out (by decide) 0 (by decide)).mono ?_
  rintro e w3 ⟨rfl, S3, o, _⟩
  have O3 : Hid (OwnT w w3 S3 b e3 3) := o
  clear o O2
  go_wp2_with fail
  refine (O3.out.ask 4 7 false F7.out (by decide) 0 (by decide)).mono ?_
  rintro e w4 ⟨rfl, S4, o, _⟩
  have O4 : Hid (OwnT w w4 S4 b e4 4) := o
  clear o O3
  go_wp2_with fail
  refine (O4.out.holds 1 7 F7.out (by decide) true (by decide)).mono ?_
  rintro e w5 ⟨rfl, o, _⟩
  have O5 := Lib.hid o
  clear o O4
  go_wp2_with fail
  refine (O5.out.holds 2 7 F7.out (by decide) true (by decide)).mono ?_
  rintro e w6 ⟨rfl, o, _⟩
  have O6 := Lib.hid o
  clear o O5
  go_wp2_with fail
  refine (O6.out.holds 3 7 F7.out (by decide) false (by decide)).mono ?_
  rintro e w7 ⟨rfl, o, _⟩
  have O7 := Lib.hid o
  clear o O6
  go_wp2_with fail
  refine (O7.out.holds 4 7 F7.out (by decide) false (by decide)).mono ?_
  rintro e w8 ⟨rfl, o, _⟩
  have O8 := Lib.hid o
  clear o O7
  go_wp2_with fail
  refine (O8.out.claims 7 F7.out (by decide) 4 (by decide)).mono ?_
  rintro e w9 ⟨A, c, rfl, _, o, _⟩
  have O9 := Lib.hid o
  clear o O8
  go_wp2_with fail
  refine (O9.out.leave 1 7 F7.out (by decide) 0 (by decide)).mono ?_
  rintro e w10 ⟨rfl, S10, o, _⟩
  have O10 : Hid (OwnT w w10 S10 b e5 _) := o
  clear o O9
  go_wp2_with fail
  refine (O10.out.leave 2 7 F7.out (by decide) 0 (by decide)).mono ?_
  rintro e w11 ⟨rfl, S11, o, _⟩
  have O11 : Hid (OwnT w w11 S11 b e6 _) := o
  clear o O10
  go_wp2_with fail
  refine (O11.out.ask 3 7 true F7.out (by decide) 22 (by decide)).mono ?_
  rintro e w12 ⟨rfl, S12, o, _⟩
  have O12 : Hid (OwnT w w12 S12 b e7 _) := o
  clear o O11
  go_wp2_with fail
  refine (O12.out.holds 3 7 F7.out (by decide) true (by decide)).mono ?_
  rintro e w13 ⟨rfl, o, _⟩
  have O13 := Lib.hid o
  clear o O12
  go_wp2_with fail
  refine (O13.out.holds 4 7 F7.out (by decide) false (by decide)).mono ?_
  rintro e w14 ⟨rfl, o, _⟩
  have O14 := Lib.hid o
  clear o O13
  go_wp2_with fail
  refine O14.out.free.mono ?_
  rintro e w' ⟨q, rfl, hq, rfl⟩
  obtain rfl : q = false := by
    cases q with
    | false => rfl
    | true => exact absurd (hq.1 rfl) full_e7
  clear hq
  go_wp2_with fail
  refine (O14.out.leave 5 7 F7.out (by decide) 22 (by decide)).mono ?_
  rintro e w15 ⟨rfl, S15, o, _⟩
  have O15 : Hid (OwnT w w15 S15 b e8 _) := o
  clear o O14
  go_wp2_with fail
  refine (New_own w15).mono ?_
  rintro e w16 ⟨b', rfl, S', o⟩
  have HB := Lib.hid (O15.out.go o.below)
  have ON := Lib.hid o
  clear o O15
  go_wp2_with fail
  refine ON.out.free.mono ?_
  rintro e w' ⟨q, rfl, hq, rfl⟩
  obtain rfl : q = true := hq.2 (fun _ _ => rfl)
  clear hq
  go_wp2
  go_ret
  exact ⟨rfl, HB.out.below⟩
end Go.Proofs.Ytfaahhipddlmgaa.KLaw
