/- The store with its disk; the calls that only look: Blocks, has, Held, Mark, Counts, Changed. -/
import Derived.Test.YtgjcbfdhpbkhoaaGreatDoorMg35
import Derived.Test.YtgjcbfdhpbkhoaaGreatDoorMg37
import Derived.Test.YtgjcbfdhpbkhoaaGreatDoorMg39
import Derived.StillTailTactics
import Derived.Maps.AppendAt
import Derived.Deep.DeepMust
import Derived.Test.YtgjcbfdhpbkhoaaGreatDoorMg30
namespace Go.Proofs.YtgjcbfdhpbkhoaaGreatDoor.EFace
open Go.RowKit WMem WPlain WAppend Ext Map DPlain DMem Mk DBase DRead DWrite EPlain EMem ECache
def All (ρ : Ro) (D : Nat → Prop) : Nat → Prop := fun k => Mine ρ k ∨ D k
structure Own (w : World) (ρ : Ro) (D : Nat → Prop) (b db : Nat) (s : Sto) : Prop where
  ss : SS w ρ b db s
  dd : DD w D db s.d
  far : Far (Mine ρ) D
structure Goes (w w' : World) (ρ : Ro) (D : Nat → Prop) (ρ' : Ro) (D' : Nat → Prop) (b db : Nat) (s' : Sto) : Prop where
  own : Own w' ρ' D' b db s'
  ext : Ext (All ρ D) w w'
  new : In (All ρ' D') (All ρ D) w
  mr : ∀ k, isMapR (ρ' k) → isMapR (ρ k)
section
variable {w w' w'' : World} {ρ ρ' ρ'' : Ro} {D D' D'' : Nat → Prop} {b db : Nat} {s s' s'' : Sto}
theorem Own.there (h : Own w ρ D b db s) : There (All ρ D) w := fun k hk => by
  rcases hk with hk | hk
  · exact h.ss.there k hk
  · exact h.dd.there k hk
theorem Own.keep (h : Own w ρ D b db s) (hk : ∀ k, All ρ D k → w'.heap[k]? = w.heap[k]?) (hs : w.heap.size ≤ w'.heap.size) : Own w' ρ D b db s :=
  ⟨h.ss.keep (fun k hm => hk k (.inl hm)) hs, h.dd.keep (fun k hm => hk k (.inr hm)) hs, h.far⟩
theorem Own.below (h : Own w ρ D b db s) (hb : Below w.heap.size w w') : Own w' ρ D b db s := h.keep (fun k hk => hb.block k (h.there k hk)) hb.size
theorem Own.ext {S : Nat → Prop} (h : Own w ρ D b db s) (he : Ext S w w') (hf : Far S (All ρ D)) : Own w' ρ D b db s := h.keep (he.keeps hf h.there) he.size
theorem Own.drewN (h : Own w ρ D b db s) (n : Nat) : Own (w.drewN n) ρ D b db s := h.keep (fun _ _ => rfl) (Nat.le_refl _)
theorem Own.len (h : Own w ρ D b db s) : 128 ≤ s.N ∧ s.N ≤ 4096 := h.dd.len
theorem Own.wf (h : Own w ρ D b db s) : s.Wf := h.ss.wf
theorem Goes.refl (h : Own w ρ D b db s) : Goes w w ρ D ρ D b db s := ⟨h, Ext.refl _ _, In.refl _ _, fun _ h => h⟩
theorem Goes.trans (h : Goes w w' ρ D ρ' D' b db s') (h' : Goes w' w'' ρ' D' ρ'' D'' b db s'') : Goes w w'' ρ D ρ'' D'' b db s'' :=
  ⟨h'.own, h.ext.trans h'.ext h.new, h.new.trans h'.new h.ext.size, fun k hk => h.mr k (h'.mr k hk)⟩
theorem Goes.below (h : Goes w w' ρ D ρ' D' b db s') (hb : Below w'.heap.size w' w'') : Goes w w'' ρ D ρ' D' b db s' :=
  ⟨h.own.below hb, h.ext.trans (Ext.of_below hb _) (In.refl _ _), h.new, h.mr⟩
theorem Goes.drewN (h : Goes w w' ρ D ρ' D' b db s') (n : Nat) : Goes w (w'.drewN n) ρ D ρ' D' b db s' := ⟨h.own.drewN n, h.ext.drewN n, h.new, h.mr⟩
theorem Own.c0 (h : Own w ρ D b db s) : w.cell? ⟨b, 0, none⟩ = some (.pointer (some ⟨db, 0, none⟩)) := by
  obtain ⟨m1, m2, m3, g, Uv, us, h, -⟩ := h.ss
  exact h.c0
end
theorem SBlocks_at (b db : Nat) (N : Int) (w : World) (c0 : w.cell? ⟨b, 0, none⟩ = some (.pointer (some ⟨db, 0, none⟩))) (d0 : w.cell? ⟨db, 0, none⟩ = some (.int .i64 N)) :
    Calls Tryz.prog 123 #[.pointer (some ⟨b, 0, none⟩)] w fun e w' => e = .returned (.int .i64 N) ∧ w = w' := by
  go_enter Tryz.func123, Tryz.ntmps123
  go_wp2_with (go_at_call 54; refine (Blocks_at _ _ _ d0).mono ?_; rintro e w' ⟨rfl, rfl⟩)
  go_ret
  exact ⟨rfl, rfl⟩
section
variable (a : Option Addr) (n N : Int) (w : World) (hb : Calls Tryz.prog 123 #[.pointer a] w fun e w' => e = .returned (.int .i64 N) ∧ w = w')
include hb
theorem Shas_yes (h0 : 0 ≤ n) (h1 : n < N) : Calls Tryz.prog 100 #[.pointer a, .int .i64 n] w fun e w' => e = .returned (.bool true) ∧ w = w' := by
  have HB := Lib.hid hb
  clear hb
  go_enter Tryz.func100, Tryz.ntmps100
  go_wp2_with (go_at_call 123; refine HB.out.mono ?_; rintro e w' ⟨rfl, rfl⟩)
  go_ret
  exact ⟨rfl, rfl⟩
end
section
variable {w : World} {ρ : Ro} {D : Nat → Prop} {b db : Nat} {s : Sto} (h : Own w ρ D b db s)
include h
theorem Blocks_own : Calls Tryz.prog 123 #[.pointer (some ⟨b, 0, none⟩)] w fun e w' => e = .returned (.int .i64 s.N) ∧ w = w' :=
  SBlocks_at b db s.N w h.c0 h.dd.c0
theorem has_own {n : Nat} (hn : n < s.N) : Calls Tryz.prog 100 #[.pointer (some ⟨b, 0, none⟩), .int .i64 n] w fun e w' => e = .returned (.bool true) ∧ w = w' :=
  Shas_yes _ _ s.N w (Blocks_own h) (by omega) (by omega)
end
end Go.Proofs.YtgjcbfdhpbkhoaaGreatDoor.EFace
/- The store: what undoes a change (unwrite, unhold). -/
namespace Go.Proofs.YtgjcbfdhpbkhoaaGreatDoor.EUnwrite
open Go.RowKit WMem WPlain WAppend Ext Map DPlain DMem Mk DBase DRead DWrite EPlain EMem ECache EFace
def more (ρ : Ro) (z z' : Nat) : Ro := fun q => if z ≤ q ∧ q < z' then .still else ρ q
theorem more_new {ρ : Ro} {z z' q : Nat} (h : z ≤ q ∧ q < z') : more ρ z z' q = .still := if_pos h
theorem more_old {ρ : Ro} {z z' q : Nat} (h : q < z) : more ρ z z' q = ρ q := if_neg (by omega)
theorem more_mr {ρ : Ro} {z z' q : Nat} (h : isMapR (more ρ z z' q)) : isMapR (ρ q) := by
  unfold more at h
  split at h
  · exact h.elim
  · exact h
section
variable {w w' : World} {ρ : Ro} {D : Nat → Prop} {b db : Nat} {s : Sto}
theorem more_mine (ht : There (Mine ρ) w) (z' : Nat) : ∀ q, Mine ρ q → more ρ w.heap.size z' q = ρ q := fun q hq => more_old (ht q hq)
theorem more_there (ht : There (Mine ρ) w) (hs : w.heap.size ≤ w'.heap.size) : There (Mine (more ρ w.heap.size w'.heap.size)) w' := fun q hq => by
  by_cases h : w.heap.size ≤ q ∧ q < w'.heap.size
  · exact h.2
  · unfold Mine more at hq
    rw [if_neg h] at hq
    exact Nat.lt_of_lt_of_le (ht q hq) hs
theorem SSx.more {m1 m2 m3 g : Nat} {Uv : Value} {us : List Value} (hx : SSx w ρ b db s m1 m2 m3 g Uv us) (hb : Below w.heap.size w w') : SSx w' (more ρ w.heap.size w'.heap.size) b db s m1 m2 m3 g Uv us :=
  hx.keep (fun k hk => hb.block k (hx.there k hk)) (more_mine hx.there _) (more_there hx.there hb.size)
theorem Own.more (h : Own w ρ D b db s) (hb : Below w.heap.size w w') : Own w' (more ρ w.heap.size w'.heap.size) D b db s := by
  obtain ⟨m1, m2, m3, g, Uv, us, hx, hw⟩ := h.ss
  refine ⟨⟨m1, m2, m3, g, Uv, us, SSx.more hx hb, hw⟩, h.dd.below hb, fun k h1 h2 => ?_⟩
  have hlt := h.dd.there k h2
  unfold Mine at h1
  rw [more_old hlt] at h1
  exact h.far k h1 h2
theorem Goes.more (h : Own w ρ D b db s) (hb : Below w.heap.size w w') : Goes w w' ρ D (more ρ w.heap.size w'.heap.size) D b db s :=
  ⟨Own.more h hb, Ext.of_below hb _, fun k hk => by
    rcases hk with hk | hk
    · by_cases hlt : k < w.heap.size
      · unfold Mine at hk
        rw [more_old hlt] at hk
        exact .inl (.inl hk)
      · exact .inr (by omega)
    · exact .inl (.inr hk), fun _ hk => more_mr hk⟩
end
theorem boxes3 (w : World) (x y z : Value) (X Y Z : TypeId) : (((w.alloc (.cells #[x] X)).alloc (.cells #[y] Y)).alloc (.cells #[z] Z)).drew.cell? ⟨w.heap.size, 0, none⟩ = some x ∧ (((w.alloc (.cells #[x] X)).alloc (.cells #[y] Y)).alloc (.cells #[z] Z)).drew.cell? ⟨w.heap.size + 1, 0, none⟩ = some y ∧
    (((w.alloc (.cells #[x] X)).alloc (.cells #[y] Y)).alloc (.cells #[z] Z)).drew.cell? ⟨w.heap.size + 2, 0, none⟩ = some z ∧ (((w.alloc (.cells #[x] X)).alloc (.cells #[y] Y)).alloc (.cells #[z] Z)).drew.heap.size = w.heap.size + 3 ∧
    Below w.heap.size w (((w.alloc (.cells #[x] X)).alloc (.cells #[y] Y)).alloc (.cells #[z] Z)).drew := by
  have h1 := row_alloc (row_alloc (row_new w (.cells #[x] X)) (.cells #[y] Y)) (.cells #[z] Z)
  have h2 := row_new (w.alloc (.cells #[x] X)) (.cells #[y] Y)
  rw [World.size_alloc] at h2
  have h2' := row_alloc h2 (.cells #[z] Z)
  have h3 := row_new ((w.alloc (.cells #[x] X)).alloc (.cells #[y] Y)) (.cells #[z] Z)
  rw [World.size_alloc, World.size_alloc] at h3
  exact ⟨(row_cell h1 0).trans rfl, (row_cell h2' 0).trans rfl, (row_cell h3 0).trans rfl, (by rw [show (((w.alloc (.cells #[x] X)).alloc (.cells #[y] Y)).alloc (.cells #[z] Z)).drew.heap = (((w.alloc (.cells #[x] X)).alloc (.cells #[y] Y)).alloc (.cells #[z] Z)).heap from rfl]; simp), below_drewN ((((Below.refl _ _).alloc (Nat.le_refl _) _).alloc (by simp) _).alloc (by simp; omega) _) 1⟩
set_option maxRecDepth 100000 in
set_option maxHeartbeats 1600000 in
theorem unwrite_own {w : World} {ρ : Ro} {D : Nat → Prop} {b db n : Nat} {s : Sto} (h : Own w ρ D b db s) (hn : n < s.N) :
    Calls Tryz.prog 101 #[.pointer (some ⟨b, 0, none⟩), .int .i64 n] w fun e w' => ∃ v, e = .returned v ∧ ActIs w' (more ρ w.heap.size w'.heap.size) b v (Sto.actW s.now n) ∧ Below w.heap.size w w' := by
  have hN := h.len.2
  obtain ⟨m1, m2, m3, g, Uv, us, hx, -⟩ := h.ss
  have c1 := hx.c1
  obtain ⟨v, hlk, hv, hv0⟩ := hx.chg.look (n := n) (by omega)
  have lb : b < w.heap.size := row_lt hx.block
  have l1 : m1 < w.heap.size := hx.chg.lt
  have HX := Lib.hid hx
  have HLK := Lib.hid hlk
  have HV := Lib.hid hv
  have HV0 := Lib.hid hv0
  clear hx h hlk hv hv0
  cases hc : s.now.chg n with
  | none =>
    have hz := HV0.out hc
    subst hz
    have hA : Hid (Sto.actW s.now n = .unset n) := by unfold Sto.actW; rw [hc]; exact rfl
    have HL : ∀ W : World, W.heap[m1]? = w.heap[m1]? → (Instr.lookup 91 (.map (some m1)) (.int .i64 n) true).run Tryz.prog W = .ok (.tuple #[.slice none 0 0, .bool false]) W := fun W hW => by
      have := (HLK.out W hW).1
      rw [hc] at this
      exact this
    have HL2 := Lib.hid HL
    clear HL hc
    go_enter Tryz.func101, Tryz.ntmps101
    go_wp2
    have e1 : ∀ (x y : Obj) q, q < w.heap.size → ((w.alloc x).alloc y).drew.heap[q]? = w.heap[q]? := fun x y q hq => (Below.heap_alloc _ y _ (by simp; omega)).trans (Below.heap_alloc w x _ hq)
    have e2 : ∀ (x y z : Obj) q, q < w.heap.size → (((w.alloc x).alloc y).alloc z).drew.heap[q]? = w.heap[q]? := fun x y z q hq => (Below.heap_alloc _ z _ (by simp; omega)).trans (e1 x y q hq)
    have k1 := HL2.out _ (e1 (.cells #[.pointer (some ⟨b, 0, none⟩)] 35) (.cells #[.int .i64 n] 3) _ l1)
    have k2 := HL2.out _ (e2 (.cells #[.pointer (some ⟨b, 0, none⟩)] 35) (.cells #[.int .i64 n] 3) (.cells #[.slice none 0 0] 22) _ l1)
    have k3 := (World.cell?_of_block (a := ⟨b, 1, none⟩) (e1 (.cells #[.pointer (some ⟨b, 0, none⟩)] 35) (.cells #[.int .i64 n] 3) b lb)).trans c1
    have k4 := (World.cell?_of_block (a := ⟨b, 1, none⟩) (e2 (.cells #[.pointer (some ⟨b, 0, none⟩)] 35) (.cells #[.int .i64 n] 3) (.cells #[.slice none 0 0] 22) b lb)).trans c1
    clear e1 e2
    go_region
    all_goals
      clear k1 k2 k3 k4
      go_wp2
      go_ret
      obtain ⟨b1, b2, _, b4, b5⟩ := boxes3 w (.pointer (some ⟨b, 0, none⟩)) (.int .i64 n) (.slice none 0 0) 35 3 22
      rw [hA.out]
      exact ⟨_, rfl, ⟨_, _, rfl, ⟨more_new (by rw [b4]; omega), b1⟩, ⟨more_new (by rw [b4]; omega), b2⟩⟩, b5⟩
  | some l =>
    have hbv := HV.out l hc
    have hA : Hid (Sto.actW s.now n = .set n l) := by unfold Sto.actW; rw [hc]; exact rfl
    have HB := Lib.hid hbv
    obtain ⟨g0, c0, rest, rfl, _⟩ := id hbv
    have HL : ∀ W : World, W.heap[m1]? = w.heap[m1]? → (Instr.lookup 91 (.map (some m1)) (.int .i64 n) true).run Tryz.prog W = .ok (.tuple #[.slice (some ⟨g0, 0, none⟩) 256 c0, .bool true]) W := fun W hW => by
      have := (HLK.out W hW).1
      rw [hc] at this
      exact this
    have HL2 := Lib.hid HL
    clear HL hc hbv HV HV0 HLK
    go_enter Tryz.func101, Tryz.ntmps101
    go_wp2
    have e1 : ∀ (x y : Obj) q, q < w.heap.size → ((w.alloc x).alloc y).drew.heap[q]? = w.heap[q]? := fun x y q hq => (Below.heap_alloc _ y _ (by simp; omega)).trans (Below.heap_alloc w x _ hq)
    have e2 : ∀ (x y z : Obj) q, q < w.heap.size → (((w.alloc x).alloc y).alloc z).drew.heap[q]? = w.heap[q]? := fun x y z q hq => (Below.heap_alloc _ z _ (by simp; omega)).trans (e1 x y q hq)
    have k1 := HL2.out _ (e1 (.cells #[.pointer (some ⟨b, 0, none⟩)] 35) (.cells #[.int .i64 n] 3) _ l1)
    have k2 := HL2.out _ (e2 (.cells #[.pointer (some ⟨b, 0, none⟩)] 35) (.cells #[.int .i64 n] 3) (.cells #[.slice none 0 0] 22) _ l1)
    have k3 := (World.cell?_of_block (a := ⟨b, 1, none⟩) (e1 (.cells #[.pointer (some ⟨b, 0, none⟩)] 35) (.cells #[.int .i64 n] 3) b lb)).trans c1
    have k4 := (World.cell?_of_block (a := ⟨b, 1, none⟩) (e2 (.cells #[.pointer (some ⟨b, 0, none⟩)] 35) (.cells #[.int .i64 n] 3) (.cells #[.slice none 0 0] 22) b lb)).trans c1
    clear e1 e2
    go_region
    all_goals
      clear k1 k2 k3 k4
      go_wp2
      go_ret
      obtain ⟨b1, b2, b3, b4, b5⟩ := boxes3 w (.pointer (some ⟨b, 0, none⟩)) (.int .i64 n) (.slice (some ⟨g0, 0, none⟩) 256 c0) 35 3 22
      rw [hA.out]
      refine ⟨_, rfl, ⟨_, _, _, _, rfl, ⟨more_new (by rw [b4]; omega), b3⟩, HB.out.keep (fun q hq => b5.block q (HX.out.there q (mine_still q hq))) (fun q hq => ?_), ⟨more_new (by rw [b4]; omega), b1⟩, ⟨more_new (by rw [b4]; omega), b2⟩⟩, b5⟩
      rw [more_old (HX.out.there q (mine_still q hq))]
      exact hq
end Go.Proofs.YtgjcbfdhpbkhoaaGreatDoor.EUnwrite
/- The store's parts turn, one at a time: what is changed, what is held, the caches, the counts, what undoes. -/
namespace Go.Proofs.YtgjcbfdhpbkhoaaGreatDoor.EPush
open Go.RowKit WMem WPlain WAppend Ext Map DPlain DMem Mk DBase DRead DWrite EPlain EMem ECache EFace EUnwrite
section
variable {w w' w1 w2 : World} {ρ ρ' : Ro} {b db m1 m2 m3 g : Nat} {s : Sto} {Uv : Value} {us : List Value}
theorem role_ne {q m : Nat} {r : Role} (h : ρ m = r) (hq : ρ q ≠ r) : q ≠ m := fun e => hq (by rw [e, h])
theorem SSx.chgTurn {f : Nat → Option Bk} (hx : SSx w ρ b db s m1 m2 m3 g Uv us) (hm : MapB w' ρ .chg m1 s.N f) (ht : w.mapTurned w' m1) : SSx w' ρ b db { s with now := ⟨f, s.now.hld⟩ } m1 m2 m3 g Uv us := by
  have kr : ∀ q, ρ q ≠ .chg → w'.heap[q]? = w.heap[q]? := fun q hq => turned_far ht (role_ne hx.chg.1 hq)
  have kst : ∀ q, ρ q = .still → w'.heap[q]? = w.heap[q]? := fun q hq => kr q (by rw [hq]; intro e; cases e)
  refine ⟨(kr b (by rw [hx.rb]; intro e; cases e)).trans hx.block, hx.rb, hm, hx.wai.keep kst (fun _ h => h) (kr _ (by rw [hx.wai.1]; intro e; cases e)) rfl, hx.hld.keep (kr _ (by rw [hx.hld.1]; intro e; cases e)) rfl,
    hx.cac.keep (fun q hq => ?_) (fun _ _ => rfl), OwnS.part hx.undo (fun q hq => kr q (by rw [hq]; intro e; cases e)) (fun _ h => h), hx.acts.keep kst (fun _ h => h), hx.there.up (Nat.le_of_eq (turned_size ht).symm)⟩
  rcases hq with hq | hq
  · exact kst q hq
  · exact kr q (fun e => by rw [e] at hq; exact hq)
theorem SSx.cacTurn {cch : List (List Nat)} {mem' : Nat → Bk} (hx : SSx w ρ b db s m1 m2 m3 g Uv us) (hl : cch.length = s.cch.length) (hc : Cac w' ρ' g s.N mem' cch) (he : Ext (fun k => isC (ρ k)) w w') (hs : Same ρ ρ' w) (ht : There (Mine ρ') w') :
    SSx w' ρ' b db { s with cch := cch, mem := mem' } m1 m2 m3 g Uv us := by
  have kr : ∀ q, Mine ρ q → ¬ isC (ρ q) → w'.heap[q]? = w.heap[q]? := fun q hm hq => he.block q (hx.there q hm) hq
  have rr : ∀ q, Mine ρ q → ρ' q = ρ q := fun q hm => hs.1 q (hx.there q hm)
  have kst : ∀ q, ρ q = .still → w'.heap[q]? = w.heap[q]? := fun q hq => kr q (mine_still q hq) (by rw [hq]; exact id)
  have rst : ∀ q, ρ q = .still → ρ' q = .still := fun q hq => (rr q (mine_still q hq)).trans hq
  have mb := mine_of hx.rb (by intro e; cases e)
  have mc := mine_of hx.chg.1 (by intro e; cases e)
  have mw := mine_of hx.wai.1 (by intro e; cases e)
  have mh := mine_of hx.hld.1 (by intro e; cases e)
  refine ⟨?_, (rr b mb).trans hx.rb, hx.chg.keep kst rst (kr _ mc (by rw [hx.chg.1]; exact id)) (rr _ mc), hx.wai.keep kst rst (kr _ mw (by rw [hx.wai.1]; exact id)) (rr _ mw), hx.hld.keep (kr _ mh (by rw [hx.hld.1]; exact id)) (rr _ mh),
    hc, OwnS.part hx.undo (fun q hq => kr q (mine_of hq (by intro e; cases e)) (by rw [hq]; exact id)) (fun q hq => (rr q (mine_of hq (by intro e; cases e))).trans hq), hx.acts.keep kst rst, ht⟩
  rw [kr b mb (by rw [hx.rb]; exact id), hx.block]
  simp only [hl]
theorem SSx.cellTurn {i : Nat} {v : Value} {s' : Sto} (hx : SSx w ρ b db s m1 m2 m3 g Uv us) (hblock : (w.setCell ⟨b, i, none⟩ v).heap[b]? = some (.cells #[.pointer (some ⟨db, 0, none⟩), .map (some m1), .map (some m2), .slice (some ⟨g, 0, none⟩) s'.cch.length s'.cch.length, .int .i64 (s'.room : Int), .map (some m3), Uv, .int .i64 (s'.found : Int), .int .i64 (s'.asked : Int)] 109 (0, 0)))
    (e1 : s'.d = s.d) (e2 : s'.now = s.now) (e3 : s'.wai = s.wai) (e4 : s'.acts = s.acts) (e5 : s'.cch = s.cch) (e6 : s'.mem = s.mem) : SSx (w.setCell ⟨b, i, none⟩ v) ρ b db s' m1 m2 m3 g Uv us := by
  have kr : ∀ q, ρ q ≠ .store → (w.setCell ⟨b, i, none⟩ v).heap[q]? = w.heap[q]? := fun q hq => Below.heap_setCell w _ _ q (role_ne hx.rb hq)
  have kst : ∀ q, ρ q = .still → (w.setCell ⟨b, i, none⟩ v).heap[q]? = w.heap[q]? := fun q hq => kr q (by rw [hq]; intro e; cases e)
  have eN : s'.N = s.N := by unfold Sto.N; rw [e1]
  refine ⟨hblock, hx.rb, ?_, ?_, ?_, ?_, ?_, ?_, hx.there.up (by simp [World.setCell])⟩
  · rw [eN, e2]
    exact hx.chg.keep kst (fun _ h => h) (kr _ (by rw [hx.chg.1]; intro e; cases e)) rfl
  · rw [eN, e3]
    exact hx.wai.keep kst (fun _ h => h) (kr _ (by rw [hx.wai.1]; intro e; cases e)) rfl
  · rw [eN, e2]
    exact hx.hld.keep (kr _ (by rw [hx.hld.1]; intro e; cases e)) rfl
  · rw [eN, e6, e5]
    refine hx.cac.keep (fun q hq => ?_) (fun _ _ => rfl)
    rcases hq with hq | hq
    · exact kst q hq
    · exact kr q (fun e => by rw [e] at hq; exact hq)
  · rw [e4]
    exact OwnS.part hx.undo (fun q hq => kr q (by rw [hq]; intro e; cases e)) (fun _ h => h)
  · rw [e4]
    exact hx.acts.keep kst (fun _ h => h)
theorem SSx.foundTurn (hx : SSx w ρ b db s m1 m2 m3 g Uv us) (n : Nat) : SSx (w.setCell ⟨b, 7, none⟩ (.int .i64 (n : Int))) ρ b db { s with found := n } m1 m2 m3 g Uv us :=
  SSx.cellTurn hx (by have h := row_set hx.block 7 (.int .i64 (n : Int)); simpa using h) rfl rfl rfl rfl rfl rfl
theorem SSx.askedTurn (hx : SSx w ρ b db s m1 m2 m3 g Uv us) (n : Nat) : SSx (w.setCell ⟨b, 8, none⟩ (.int .i64 (n : Int))) ρ b db { s with asked := n } m1 m2 m3 g Uv us :=
  SSx.cellTurn hx (by have h := row_set hx.block 8 (.int .i64 (n : Int)); simpa using h) rfl rfl rfl rfl rfl rfl
theorem goes_of {D : Nat → Prop} {s' : Sto} {m1' m2' m3' g' : Nat} {Uv' : Value} {us' : List Value} (h : Own w ρ D b db s) (hx : SSx w' ρ' b db s' m1' m2' m3' g' Uv' us') (hw : s'.Wf) (hd : s'.d = s.d) (hs : Same ρ ρ' w) (he : Ext (Mine ρ) w w') : Goes w w' ρ D ρ' D b db s' := by
  have hm : ∀ k, Mine ρ' k → k < w.heap.size → Mine ρ k := fun k hk hlt => by
    unfold Mine at hk ⊢
    rw [← hs.1 k hlt]; exact hk
  refine ⟨⟨⟨_, _, _, _, _, _, hx, hw⟩, ?_, fun k h1 h2 => h.far k (hm k h1 (h.dd.there k h2)) h2⟩, he.more (fun k _ hk => .inl hk), fun k hk => ?_, hs.2⟩
  · rw [hd]
    exact h.dd.ext he h.far
  · rcases hk with hk | hk
    · by_cases hlt : k < w.heap.size
      · exact .inl (.inl (hm k hk hlt))
      · exact .inr (by omega)
    · exact .inl (.inr hk)
theorem Same.trans {ρ'' : Ro} (h : Same ρ ρ' w) (h' : Same ρ' ρ'' w') (hs : w.heap.size ≤ w'.heap.size) : Same ρ ρ'' w := ⟨fun q hq => (h'.1 q (Nat.lt_of_lt_of_le hq hs)).trans (h.1 q hq), fun q hq => h.2 q (h'.2 q hq)⟩
theorem same_more (ρ : Ro) (w : World) (z' : Nat) : Same ρ (more ρ w.heap.size z') w := ⟨fun _ hq => more_old hq, fun _ hq => more_mr hq⟩
theorem in_mine (hs : Same ρ ρ' w) {S : Nat → Prop} (h : ∀ q, S q → Mine ρ' q) : In S (Mine ρ) w := fun q hq => by
  by_cases hlt : q < w.heap.size
  · have := h q hq
    unfold Mine at this ⊢
    rw [hs.1 q hlt] at this
    exact .inl this
  · exact .inr (by omega)
theorem push_of {gg cap : Nat} {v : Value} {a : Deed} {o : Obj} (hx : SSx w ρ b db s m1 m2 m3 g Uv us) (hb : Below w.heap.size w w1) (ha : ActIs w1 (more ρ w.heap.size w1.heap.size) b v a)
    (hown : w2.ownsRow 0 1 1 (.slice (some ⟨gg, 0, none⟩) (s.acts.length + 1) cap) (s.acts.length + 1) (us ++ [v])) (hg : (w1.alloc o).grownBy w2 Uv.ownBlock) (hat : Uv.ownBlock = some gg ∨ gg = w1.heap.size + 1) :
    ∃ ρ', SSx (w2.setCell ⟨b, 6, none⟩ (.slice (some ⟨gg, 0, none⟩) (s.acts.length + 1) cap)) ρ' b db { s with acts := s.acts ++ [a] } m1 m2 m3 g (.slice (some ⟨gg, 0, none⟩) (s.acts.length + 1) cap) (us ++ [v]) ∧
      Same ρ ρ' w ∧ Ext (Mine ρ) w (w2.setCell ⟨b, 6, none⟩ (.slice (some ⟨gg, 0, none⟩) (s.acts.length + 1) cap)) := by
  have hx1 := SSx.more hx hb
  obtain ⟨R1, hR⟩ : ∃ R1, more ρ w.heap.size w1.heap.size = R1 := ⟨_, rfl⟩
  rw [hR] at hx1 ha
  have s1 := hb.size
  have s2 := hg.size
  simp only [World.size_alloc] at s2
  have ru : ∀ q, Uv.ownBlock = some q → R1 q = .undo := fun q hq => hx1.undo.2 q hq
  have lb : b < w1.heap.size := row_lt hx1.block
  have far2 : ∀ q, q < w1.heap.size → R1 q ≠ .undo → w2.heap[q]? = w1.heap[q]? := fun q q1 q2 => (hg.block q (by simp; omega) (fun e => q2 (ru q e.symm))).trans (Below.heap_alloc _ _ _ q1)
  have far : ∀ q, q < w1.heap.size → R1 q ≠ .undo → R1 q ≠ .store → (w2.setCell ⟨b, 6, none⟩ (.slice (some ⟨gg, 0, none⟩) (s.acts.length + 1) cap)).heap[q]? = w1.heap[q]? := fun q q1 q2 q3 =>
    (Below.heap_setCell w2 _ _ q (role_ne hx1.rb q3)).trans (far2 q q1 q2)
  have rb1 := hx1.rb
  have hgg : gg < w1.heap.size → R1 gg = .undo := fun hlt => by
    rcases hat with h | h
    · exact ru gg h
    · omega
  have ngb : gg ≠ b := fun e => by
    by_cases hlt : gg < w1.heap.size
    · have := hgg hlt; rw [e, rb1] at this; cases this
    · omega
  have hsame1 : ∀ q, q < w1.heap.size → (if q = gg then Role.undo else R1 q) = R1 q := fun q hq => by
    split
    · rename_i e; subst e; exact (hgg hq).symm
    · rfl
  have mine1 : ∀ q, Mine R1 q → (if q = gg then Role.undo else R1 q) = R1 q := fun q hq => hsame1 q (hx1.there q hq)
  have kst : ∀ q, R1 q = .still → (w2.setCell ⟨b, 6, none⟩ (.slice (some ⟨gg, 0, none⟩) (s.acts.length + 1) cap)).heap[q]? = w1.heap[q]? := fun q hq => far q (hx1.there q (mine_still q hq)) (by rw [hq]; intro e; cases e) (by rw [hq]; intro e; cases e)
  have rst : ∀ q, R1 q = .still → (if q = gg then Role.undo else R1 q) = .still := fun q hq => (mine1 q (mine_still q hq)).trans hq
  have kr : ∀ q, Mine R1 q → R1 q ≠ .undo → R1 q ≠ .store → (w2.setCell ⟨b, 6, none⟩ (.slice (some ⟨gg, 0, none⟩) (s.acts.length + 1) cap)).heap[q]? = w1.heap[q]? := fun q hm a1 a2 => far q (hx1.there q hm) a1 a2
  have mc := mine_of hx1.chg.1 (by intro e; cases e)
  have mw := mine_of hx1.wai.1 (by intro e; cases e)
  have mh := mine_of hx1.hld.1 (by intro e; cases e)
  have hgs : gg < w2.heap.size := own_lt hown gg rfl
  have ez : (w2.setCell ⟨b, 6, none⟩ (.slice (some ⟨gg, 0, none⟩) (s.acts.length + 1) cap)).heap.size = w2.heap.size := by simp [World.setCell]
  refine ⟨fun q => if q = gg then .undo else R1 q, ⟨?_, (mine1 b (mine_of rb1 (by intro e; cases e))).trans rb1, ?_, ?_, ?_, ?_, ?_, ?_, fun q hq => ?_⟩, ⟨fun q hq => ?_, fun q hq => ?_⟩, ?_⟩
  · have h5 := row_set ((far2 b lb (by rw [rb1]; intro e; cases e)).trans hx1.block) 6 (.slice (some ⟨gg, 0, none⟩) (s.acts.length + 1) cap)
    simpa using h5
  · exact hx1.chg.keep kst rst (kr _ mc (by rw [hx1.chg.1]; intro e; cases e) (by rw [hx1.chg.1]; intro e; cases e)) (mine1 _ mc)
  · exact hx1.wai.keep kst rst (kr _ mw (by rw [hx1.wai.1]; intro e; cases e) (by rw [hx1.wai.1]; intro e; cases e)) (mine1 _ mw)
  · exact hx1.hld.keep (kr _ mh (by rw [hx1.hld.1]; intro e; cases e) (by rw [hx1.hld.1]; intro e; cases e)) (mine1 _ mh)
  · refine hx1.cac.keep (fun q hq => ?_) (fun q hq => ?_)
    · rcases hq with hq | hq
      · exact kst q hq
      · exact kr q (mine_c hq) (fun e => by rw [e] at hq; exact hq) (fun e => by rw [e] at hq; exact hq)
    · rcases hq with hq | hq
      · exact mine1 q (mine_still q hq)
      · exact mine1 q (mine_c hq)
  · refine ⟨?_, fun q hq => ?_⟩
    · show World.ownsRow _ 0 _ 1 _ (s.acts ++ [a]).length _
      rw [List.length_append]
      exact own_same hown (fun q hq => Below.heap_setCell w2 _ _ q (by simp [Value.ownBlock] at hq; subst hq; exact ngb))
    · simp [Value.ownBlock] at hq
      exact if_pos hq.symm
  · exact (hx1.acts.snoc ha).keep kst rst
  · rw [ez]
    by_cases e : q = gg
    · rw [e]; exact hgs
    · unfold Mine at hq
      simp only [if_neg e] at hq
      have := hx1.there q hq
      omega
  · refine (hsame1 q (by omega)).trans ?_
    rw [← hR]
    exact more_old hq
  · rw [← hR] at hq
    by_cases e : q = gg
    · simp only [if_pos e] at hq; exact hq.elim
    · simp only [if_neg e] at hq; exact more_mr hq
  · have e1 : Ext (Mine ρ) w (w1.alloc o) := (Ext.of_below hb _).alloc o
    have e2 : Ext (fun q => R1 q = .undo) (w1.alloc o) w2 := Ext.of_grown hg (fun q hq _ => ru q hq)
    refine (e1.trans e2 (fun q hq => ?_)).setCell (.inl (mine_of hx.rb (by intro e; cases e))) _
    by_cases hlt : q < w.heap.size
    · rw [← hR, more_old hlt] at hq
      exact .inl (mine_of hq (by intro e; cases e))
    · exact .inr (by omega)
end
end Go.Proofs.YtgjcbfdhpbkhoaaGreatDoor.EPush
/- The store: each function that undoes a change does what it should. -/
namespace Go.Proofs.YtgjcbfdhpbkhoaaGreatDoor.EUndo
open Go.RowKit WMem WPlain WAppend Ext Map DPlain DMem Mk DBase DRead DWrite EPlain EMem ECache EFace EUnwrite EPush
section
variable {w : World} {ρ : Ro} {b db m1 m2 m3 g n : Nat} {s : Sto} {Uv : Value} {us : List Value} (hx : SSx w ρ b db s m1 m2 m3 g Uv us) (hN : s.N ≤ 4096)
include hx hN
omit hN in
end
end Go.Proofs.YtgjcbfdhpbkhoaaGreatDoor.EUndo
/- The store: the numbers of what is changed, and a map's blocks in new memory (writes). -/
namespace Go.Proofs.YtgjcbfdhpbkhoaaGreatDoor.EWrites
open Go.RowKit WMem WPlain WAppend Ext Map DPlain DMem Mk DBase DRead DPend DWrite EPlain EMem ECache EFace EKeys
section
variable {w : World} {ρ : Ro} {r : Role} {b N : Nat} {f : Nat → Option Bk}
end
theorem nums_len (f : Nat → Option Bk) (N : Nat) : (numsOf f N).length ≤ N := by
  have := List.length_filter_le (fun n => (f n).isSome) (List.range N)
  simpa [numsOf] using this
structure WrIn (w wr : World) (P : List (Nat × Bk)) (v : Value) (ys : List Value) : Prop where
  own : wr.ownsRow w.heap.size 100 2 v P.length ys
  each : POf wr (Made w wr) ys P
  below : Below w.heap.size w wr
theorem WrIn.snoc {w wr W2 w3 : World} {P : List (Nat × Bk)} {v v' u : Value} {ys : List Value} {n : Nat} {l : Bk} {o : Obj} (h : WrIn w wr P v ys) (hb : Below wr.heap.size wr W2) (hu : IsBlk W2 (fun g => wr.heap.size ≤ g ∧ g < W2.heap.size) u l)
    (ho : w3.ownsRow w.heap.size 100 2 v' (P.length + 1) (ys ++ [.int .i64 (n : Int), u])) (hg : (W2.alloc o).grownBy w3 v.ownBlock) : WrIn w w3 (P ++ [(n, l)]) v' (ys ++ [.int .i64 (n : Int), u]) := by
  have s1 := h.below.size
  have s2 := hb.size
  have s3 := hg.size
  simp only [World.size_alloc] at s3
  have hov : ∀ q, v.ownBlock = some q → w.heap.size ≤ q ∧ q < wr.heap.size := fun q hq => ⟨own_ge h.own q hq, own_lt h.own q hq⟩
  have ht : ∀ q o', wr.heap[q]? = some (.cells o' 5 (0, 0)) → v.ownBlock ≠ some q := fun q o' hq e => own_ne h.own hq (by decide) e
  have keep3 : ∀ q, q < W2.heap.size → v.ownBlock ≠ some q → w3.heap[q]? = W2.heap[q]? := fun q q1 q2 => (hg.block q (by simp; omega) (fun e => q2 e.symm)).trans (Below.heap_alloc _ _ _ q1)
  refine ⟨by rw [List.length_append]; exact ho, P_snoc ((h.each.keep (fun q o' hq hq' => ?_)).more fun q hq => ⟨hq.1, by omega⟩) ((IsBlk.keep hu fun q o' hq hq' => ?_).more fun q hq => ⟨by omega, by omega⟩), ?_⟩
  · exact (keep3 q (by have := row_lt hq'; omega) (ht q o' hq')).trans (hb.block q (row_lt hq'))
  · exact keep3 q hq.2 (fun e => by have := hov q e; omega)
  · have hb3 : Below w.heap.size (W2.alloc o) w3 := Below.grown (Below.refl _ _) hg (by simp; omega) (fun q hq => (hov q hq).1)
    exact (h.below.trans (hb.mono s1)).trans (((Below.refl w.heap.size W2).alloc (by omega) o).trans hb3)
end Go.Proofs.YtgjcbfdhpbkhoaaGreatDoor.EWrites
/- The store: Waiting, Commit, Release. -/
namespace Go.Proofs.YtgjcbfdhpbkhoaaGreatDoor.ECommit
open Go.RowKit WMem WPlain WAppend Ext Map DPlain DMem Mk DBase DRead DPend DWrite EPlain EMem ECache EFace EWrites ECopy
structure Got (w w' : World) (P : List (Nat × Bk)) (v : Value) (ys : List Value) : Prop where
  own : w'.ownsRow w.heap.size 100 2 v P.length ys
  each : POf w' (fun g => w.heap.size ≤ g ∧ g < w'.heap.size) ys P
theorem Got.keep {w w' w'' : World} {P : List (Nat × Bk)} {v : Value} {ys : List Value} (h : Got w w' P v ys) (hk : ∀ q, w.heap.size ≤ q → q < w'.heap.size → w''.heap[q]? = w'.heap[q]?) (hs : w'.heap.size ≤ w''.heap.size) : Got w w'' P v ys :=
  ⟨own_same h.own (fun q hq => hk q (own_ge h.own q hq) (own_lt h.own q hq)), (h.each.keep (fun q _ hq _ => hk q hq.1 hq.2)).more fun _ hq => ⟨hq.1, Nat.lt_of_lt_of_le hq.2 hs⟩⟩
theorem Got.form {w w' : World} {P : List (Nat × Bk)} {v : Value} {ys : List Value} (h : Got w w' P v ys) : ∃ A cap, v = .slice A P.length cap := by
  obtain ⟨A, cap, rfl, _, _⟩ := own_cell2 (S := fun _ => True) ⟨own_base h.own (fun _ _ => Nat.zero_le _), fun _ _ => trivial⟩
  exact ⟨A, cap, rfl⟩
end Go.Proofs.YtgjcbfdhpbkhoaaGreatDoor.ECommit
