/- The store: Back. -/
import Derived.Test.YtgjcbfdhpbkhoaaGreatDoorMg40
import Derived.Test.YtgjcbfdhpbkhoaaGreatDoorMg41
import Derived.Test.YtgjcbfdhpbkhoaaGreatDoorMg31
import Derived.Test.YtgjcbfdhpbkhoaaGreatDoorMg42
import Derived.Test.YtgjcbfdhpbkhoaaGreatDoorMg3
namespace Go.Proofs.YtgjcbfdhpbkhoaaGreatDoor.EBack
open Go.RowKit Go.Shelf WMem WPlain WAppend Ext Map DPlain DMem Mk DBase DRead DWrite EPlain EMem ECache EFace EUnwrite EPush EUndo EIter EWrite
def BI (w : World) (ρ : Ro) (b db m1 m2 m3 g : Nat) (s : Sto) (Uv : Value) (us : List Value) (pre : List Nat) (W : World) : Prop :=
  ∃ now', SSx W ρ b db { s with now := now' } m1 m2 m3 g Uv us ∧ (pre = List.range pre.length → now' = undoAll (s.acts.drop (s.acts.length - pre.length)) s.now) ∧ Ext (Mine ρ) w W
theorem BI.own {w : World} {ρ : Ro} {b db m1 m2 m3 g B : Nat} {s : Sto} {Uv : Value} {us : List Value} (hB : w.heap.size ≤ B) (ht : There (Mine ρ) w) : OwnFrom B (BI w ρ b db m1 m2 m3 g s Uv us) := by
  rintro pre X Y row ⟨now', h1, h2, h3⟩ hg hr
  refine ⟨now', h1.keep (fun k hk => hg.block k (h1.there k hk) (fun e => ?_)) (fun _ _ => rfl) (h1.there.up hg.size), h2, h3.trans (Ext.of_grown (S := fun q => w.heap.size ≤ q) hg (fun k hk _ => ?_)) (fun q hq => .inr hq)⟩
  · have := (hr k e.symm).1
    have := ht k hk
    omega
  · have := (hr k hk).1
    omega
end Go.Proofs.YtgjcbfdhpbkhoaaGreatDoor.EBack
/- The store's calls at whatever numbers, for the statements. -/
namespace Go.Proofs.YtgjcbfdhpbkhoaaGreatDoor.EAny
open Go.RowKit WMem WPlain WAppend Ext Map DPlain DMem Mk DBase DRead DWrite EPlain EMem ECache EFace EUnwrite EPush EWrite EHold ERead EHome EWrites ECommit EBack EFill
section
variable {w : World} {ρ : Ro} {D : Nat → Prop} {b db : Nat} {s : Sto} (h : EFace.Own w ρ D b db s) (n : Int)
include h
end
section
variable (s : Sto) (n : Int) (l : Bk)
end
structure Live (a w : World) (ρ : Ro) (D : Nat → Prop) (b db : Nat) (s : Sto) : Prop where
  own : EFace.Own w ρ D b db s
  new : ∀ q, All ρ D q → a.heap.size ≤ q
  below : Below a.heap.size a w
section
variable {a w w' : World} {ρ ρ' : Ro} {D D' : Nat → Prop} {b db : Nat} {s s' : Sto}
theorem Live.go (h : Live a w ρ D b db s) (hb : Below w.heap.size w w') : Live a w' ρ D b db s := ⟨h.own.below hb, h.new, h.below.trans (hb.mono h.below.size)⟩
theorem Live.drewN (h : Live a w ρ D b db s) (n : Nat) : Live a (w.drewN n) ρ D b db s := h.go (below_drewN (Below.refl _ _) n)
theorem Live.ext {S : Nat → Prop} (h : Live a w ρ D b db s) (he : Ext S w w') (hf : Far S (All ρ D)) (hS : ∀ q, S q → a.heap.size ≤ q) : Live a w' ρ D b db s := ⟨h.own.ext he hf, h.new, h.below.trans (he.below h.below.size hS)⟩
end
theorem live_new {a w1 w2 : World} {S : Nat → Prop} {b db : Nat} {ρ : Ro} {d : St} {ns room : Nat} (hd : DD w1 S db d) (hS : ∀ q, S q → a.heap.size ≤ q) (hb : Below a.heap.size a w1) (hs : SS w2 ρ b db (fresh d ns room)) (hm : ∀ k, Mine ρ k → w1.heap.size ≤ k) (hb2 : Below w1.heap.size w1 w2) :
    Live a w2 ρ S b db (fresh d ns room) :=
  ⟨⟨hs, hd.below hb2, fun k h1 h2 => by have := hm k h1; have := hd.there k h2; omega⟩, fun q hq => by
    rcases hq with hq | hq
    · exact Nat.le_trans hb.size (hm q hq)
    · exact hS q hq, hb.trans (hb2.mono hb.size)⟩
end Go.Proofs.YtgjcbfdhpbkhoaaGreatDoor.EAny
/- A store's parts, trimmed: only blocks of cells and the maps that it has; so a record that the walk keeps beside it is none of its own. -/
namespace Go.Proofs.YtgjcbfdhpbkhoaaGreatDoor.ETrim
open Go.RowKit Go.Shelf WMem WPlain Ext Map DPlain DMem EPlain EMem EFace
def IsCells (w : World) (q : Nat) : Prop := ∃ cs T fz, w.heap[q]? = some (.cells cs T fz)
theorem cells_of_cell {w : World} {p : Addr} {v : Value} (h : w.cell? p = some v) : IsCells w p.block := by
  unfold World.cell? at h
  split at h
  · rename_i c T fz e
    exact ⟨c, T, fz, e⟩
  · cases h
theorem cells_of_own {w : World} {base : Nat} {e : TypeId} {size : Nat} {v : Value} {n : Nat} {xs : List Value} (h : w.ownsRow base e size v n xs) {g : Nat} (hg : v.ownBlock = some g) : IsCells w g := by
  rcases h.2 with ⟨rfl, _⟩ | ⟨k, cap, cur, rfl, _, hk, _⟩
  · cases hg
  · simp only [Value.ownBlock, Option.some.injEq] at hg
    subst hg
    exact ⟨_, _, _, hk⟩
open Classical in
noncomputable def trim (w : World) (ρ : Ro) : Ro := fun q => if isMapR (ρ q) ∨ IsCells w q then ρ q else .no
section
variable {w : World} {ρ : Ro}
theorem trim_is {q : Nat} (h : isMapR (ρ q) ∨ IsCells w q) : trim w ρ q = ρ q := if_pos h
theorem trim_mine {q : Nat} (h : Mine (trim w ρ) q) : Mine ρ q ∧ (isMapR (ρ q) ∨ IsCells w q) := by
  by_cases hc : isMapR (ρ q) ∨ IsCells w q
  · refine ⟨?_, hc⟩
    unfold Mine at h ⊢
    rw [trim_is hc] at h
    exact h
  · exfalso
    apply h
    unfold trim
    rw [if_neg hc]
theorem trim_map {q : Nat} (h : isMapR (trim w ρ q)) : isMapR (ρ q) := by
  by_cases hc : isMapR (ρ q) ∨ IsCells w q
  · rw [trim_is hc] at h
    exact h
  · unfold trim at h
    rw [if_neg hc] at h
    exact h.elim
theorem trim_blk {v : Value} {l : Bk} (h : Blk w ρ v l) : Blk w (trim w ρ) v l := by
  obtain ⟨g, c, rest, rfl, h1, h2, h3, h4⟩ := h
  exact ⟨g, c, rest, rfl, (trim_is (.inr ⟨_, _, _, h4⟩)).trans h1, h2, h3, h4⟩
theorem trim_box {B : Nat} {v : Value} (h : Box w ρ B v) : Box w (trim w ρ) B v := ⟨(trim_is (.inr (cells_of_cell h.2))).trans h.1, h.2⟩
theorem trim_own {r : Role} {e : TypeId} {size : Nat} {v : Value} {n : Nat} {xs : List Value} (h : OwnS w (At ρ r) e size v n xs) : OwnS w (At (trim w ρ) r) e size v n xs :=
  ⟨h.1, fun g hg => (trim_is (.inr (cells_of_own h.1 hg))).trans (h.2 g hg)⟩
theorem trim_mapB {r : Role} {b N : Nat} {f : Nat → Option Bk} (hr : isMapR r) (h : MapB w ρ r b N f) : MapB w (trim w ρ) r b N f := by
  obtain ⟨h1, g, h2, h3, h4⟩ := h
  refine ⟨(trim_is (.inl (by rw [h1]; exact hr))).trans h1, g, h2, fun k v hv => ?_, h4⟩
  obtain ⟨n, l, e1, e2, e3, e4⟩ := h3 k v hv
  exact ⟨n, l, e1, e2, e3, trim_blk e4⟩
theorem trim_mapH {b N : Nat} {f : Nat → Bool} (h : MapH w ρ b N f) : MapH w (trim w ρ) b N f := by
  obtain ⟨h1, g, h2, h3, h4⟩ := h
  exact ⟨(trim_is (.inl (by rw [h1]; trivial))).trans h1, g, h2, h3, h4⟩
theorem trim_cac {g N : Nat} {rd : Nat → Bk} {cch : List (List Nat)} (h : Cac w ρ g N rd cch) : Cac w (trim w ρ) g N rd cch := by
  obtain ⟨xs, mm, uv, h1, h2, h3, h4, h5, h6, h7⟩ := h
  exact ⟨xs, mm, uv, h1, (trim_is (.inr ⟨_, _, _, h1⟩)).trans h2, h3, h4, h5, fun i hi => trim_mapB (by trivial) (h6 i hi), fun i hi => trim_own (h7 i hi)⟩
theorem trim_act {b : Nat} {v : Value} {a : Deed} (h : ActIs w ρ b v a) : ActIs w (trim w ρ) b v a := by
  cases a with
  | unset n =>
    obtain ⟨Bs, Bn, h1, h2, h3⟩ := h
    exact ⟨Bs, Bn, h1, trim_box h2, trim_box h3⟩
  | set n l =>
    obtain ⟨Bw, Bs, Bn, u, h1, h2, h3, h4, h5⟩ := h
    exact ⟨Bw, Bs, Bn, u, h1, trim_box h2, trim_blk h3, trim_box h4, trim_box h5⟩
  | nop => exact h
  | free n =>
    obtain ⟨Bs, Bn, h1, h2, h3⟩ := h
    exact ⟨Bs, Bn, h1, trim_box h2, trim_box h3⟩
theorem trim_acts {b : Nat} {us : List Value} {l : List Deed} (h : ActsAre w ρ b us l) : ActsAre w (trim w ρ) b us l :=
  ⟨h.1, fun k hk => by obtain ⟨v, h1, h2⟩ := h.2 k hk; exact ⟨v, h1, trim_act h2⟩⟩
theorem trim_ss {b db : Nat} {s : Sto} (h : SS w ρ b db s) : SS w (trim w ρ) b db s := by
  obtain ⟨m1, m2, m3, g, Uv, us, hx, hw⟩ := h
  exact ⟨m1, m2, m3, g, Uv, us, ⟨hx.block, (trim_is (.inr ⟨_, _, _, hx.block⟩)).trans hx.rb, trim_mapB (by trivial) hx.chg, trim_mapB (by trivial) hx.wai, trim_mapH hx.hld, trim_cac hx.cac, trim_own hx.undo, trim_acts hx.acts,
    fun q hq => hx.there q (trim_mine hq).1⟩, hw⟩
theorem trim_of {D : Nat → Prop} {b db : Nat} {s : Sto} (h : EFace.Own w ρ D b db s) : EFace.Own w (trim w ρ) D b db s :=
  ⟨trim_ss h.ss, h.dd, fun k h1 h2 => h.far k (trim_mine h1).1 h2⟩
theorem own_grown {D : Nat → Prop} {b db B : Nat} {s : Sto} (h : EFace.Own w ρ D b db s) (hm : ∀ q, isMapR (ρ q) → q < B) (hD : ∀ q, D q → q < B) {w' : World} {row : Option Nat} (hg : w.grownBy w' row)
    (hr : ∀ r, row = some r → B ≤ r ∧ ∃ o : Obj, w.heap[r]? = some o ∧ o.isCells = false) : EFace.Own w' (trim w ρ) D b db s ∧ ∀ q, All (trim w ρ) D q → row ≠ some q := by
  have hn : ∀ q, All (trim w ρ) D q → row ≠ some q := fun q hq e => by
    obtain ⟨h1, o, h2, h3⟩ := hr q e
    rcases hq with hq | hq
    · rcases (trim_mine hq).2 with h4 | ⟨cs, T, fz, h4⟩
      · have := hm q h4; omega
      · rw [h2] at h4
        injection h4 with h4
        subst h4
        cases h3
    · have := hD q hq; omega
  refine ⟨(trim_of h).keep (fun q hq => hg.block q ((trim_of h).there q hq) (fun e => hn q hq e.symm)) hg.size, hn⟩
end
end Go.Proofs.YtgjcbfdhpbkhoaaGreatDoor.ETrim
