/- The store: what undoes a change (unwrite, unhold). -/
import Derived.Test.YtphfidenjihgeaaEFace
namespace Go.Proofs.Ytphfidenjihgeaa.EUnwrite
open Go.RowKit WMem WPlain WAppend Ext Map DPlain DMem Mk DBase DRead DWrite EPlain EMem ECache EFace

/-- blocks that have just been made are never written again -/
def more (ρ : Ro) (z z' : Nat) : Ro := fun q => if z ≤ q ∧ q < z' then .still else ρ q
theorem more_new {ρ : Ro} {z z' q : Nat} (h : z ≤ q ∧ q < z') : more ρ z z' q = .still := if_pos h
theorem more_old {ρ : Ro} {z z' q : Nat} (h : q < z) : more ρ z z' q = ρ q := if_neg (by omega)
section
variable {w w' : World} {ρ : Ro} {D : Nat → Prop} {b db : Nat} {s : Sto}
theorem more_mine (ht : There (Mine ρ) w) (z' : Nat) : ∀ q, Mine ρ q → more ρ w.heap.size z' q = ρ q := fun q hq => more_old (ht q hq)
theorem more_there (ht : There (Mine ρ) w) (hs : w.heap.size ≤ w'.heap.size) : There (Mine (more ρ w.heap.size w'.heap.size)) w' := fun q hq => by
  by_cases h : w.heap.size ≤ q ∧ q < w'.heap.size
  · exact h.2
  · unfold Mine more at hq
    rw [if_neg h] at hq
    exact Nat.lt_of_lt_of_le (ht q hq) hs
theorem SSx.more {m1 m2 m3 g : Nat} {Uv : Value} {us : List Value} (hx : SSx w ρ b db s m1 m2 m3 g Uv us) (hb : Below w.heap.size w w') : SSx w' (more ρ w.heap.size w'.heap.size) b db s m1 m2 m3 g Uv us :=
  hx.keep (fun k hk => hb.block k (hx.there k hk)) (more_mine hx.there _) (more_there hx.there hb.size)
theorem Own.more (h : Own w ρ D b db s) (hb : Below w.heap.size w w') : Own w' (more ρ w.heap.size w'.heap.size) D b db s := by
  obtain ⟨m1, m2, m3, g, Uv, us, hx, hw⟩ := h.ss
  refine ⟨⟨m1, m2, m3, g, Uv, us, SSx.more hx hb, hw⟩, h.dd.below hb, fun k h1 h2 => ?_⟩
  have hlt := h.dd.there k h2
  unfold Mine at h1
  rw [more_old hlt] at h1
  exact h.far k h1 h2
theorem Goes.more (h : Own w ρ D b db s) (hb : Below w.heap.size w w') : Goes w w' ρ D (more ρ w.heap.size w'.heap.size) D b db s :=
  ⟨Own.more h hb, Ext.of_below hb _, fun k hk => by
    rcases hk with hk | hk
    · by_cases hlt : k < w.heap.size
      · unfold Mine at hk
        rw [more_old hlt] at hk
        exact .inl (.inl hk)
      · exact .inr (by omega)
    · exact .inl (.inr hk)⟩
end

theorem boxes2 (w : World) (x y : Value) (X Y : TypeId) : ((w.alloc (.cells #[x] X)).alloc (.cells #[y] Y)).cell? ⟨w.heap.size, 0, none⟩ = some x ∧ ((w.alloc (.cells #[x] X)).alloc (.cells #[y] Y)).cell? ⟨w.heap.size + 1, 0, none⟩ = some y := by
  have h1 := row_alloc (row_new w (.cells #[x] X)) (.cells #[y] Y)
  have h2 := row_new (w.alloc (.cells #[x] X)) (.cells #[y] Y)
  rw [World.size_alloc] at h2
  exact ⟨(row_cell h1 0).trans rfl, (row_cell h2 0).trans rfl⟩
theorem boxes3 (w : World) (x y z : Value) (X Y Z : TypeId) : (((w.alloc (.cells #[x] X)).alloc (.cells #[y] Y)).alloc (.cells #[z] Z)).drew.cell? ⟨w.heap.size, 0, none⟩ = some x ∧ (((w.alloc (.cells #[x] X)).alloc (.cells #[y] Y)).alloc (.cells #[z] Z)).drew.cell? ⟨w.heap.size + 1, 0, none⟩ = some y ∧
    (((w.alloc (.cells #[x] X)).alloc (.cells #[y] Y)).alloc (.cells #[z] Z)).drew.cell? ⟨w.heap.size + 2, 0, none⟩ = some z ∧ (((w.alloc (.cells #[x] X)).alloc (.cells #[y] Y)).alloc (.cells #[z] Z)).drew.heap.size = w.heap.size + 3 ∧
    Below w.heap.size w (((w.alloc (.cells #[x] X)).alloc (.cells #[y] Y)).alloc (.cells #[z] Z)).drew := by
  have h1 := row_alloc (row_alloc (row_new w (.cells #[x] X)) (.cells #[y] Y)) (.cells #[z] Z)
  have h2 := row_new (w.alloc (.cells #[x] X)) (.cells #[y] Y)
  rw [World.size_alloc] at h2
  have h2' := row_alloc h2 (.cells #[z] Z)
  have h3 := row_new ((w.alloc (.cells #[x] X)).alloc (.cells #[y] Y)) (.cells #[z] Z)
  rw [World.size_alloc, World.size_alloc] at h3
  exact ⟨(row_cell h1 0).trans rfl, (row_cell h2' 0).trans rfl, (row_cell h3 0).trans rfl, (by rw [show (((w.alloc (.cells #[x] X)).alloc (.cells #[y] Y)).alloc (.cells #[z] Z)).drew.heap = (((w.alloc (.cells #[x] X)).alloc (.cells #[y] Y)).alloc (.cells #[z] Z)).heap from rfl]; simp), below_drewN ((((Below.refl _ _).alloc (Nat.le_refl _) _).alloc (by simp) _).alloc (by simp; omega) _) 1⟩

set_option maxRecDepth 100000 in
set_option maxHeartbeats 1600000 in
theorem unwrite_own {w : World} {ρ : Ro} {D : Nat → Prop} {b db n : Nat} {s : Sto} (h : Own w ρ D b db s) (hn : n < s.N) :
    Calls Try.prog 34 #[.pointer (some ⟨b, 0, none⟩), .int .i64 n] w fun e w' => ∃ v, e = .returned v ∧ ActIs w' (more ρ w.heap.size w'.heap.size) b v (Sto.actW s.now n) ∧ Below w.heap.size w w' := by
  have hN := h.len.2
  obtain ⟨m1, m2, m3, g, Uv, us, hx, -⟩ := h.ss
  have c1 := hx.c1
  obtain ⟨v, hlk, hv, hv0⟩ := hx.chg.look (n := n) (by omega)
  have lb : b < w.heap.size := row_lt hx.block
  have l1 : m1 < w.heap.size := hx.chg.lt
  have HX := Lib.hid hx
  have HLK := Lib.hid hlk
  have HV := Lib.hid hv
  have HV0 := Lib.hid hv0
  clear hx h hlk hv hv0
  cases hc : s.now.chg n with
  | none =>
    have hz := HV0.out hc
    subst hz
    have hA : Hid (Sto.actW s.now n = .unset n) := by unfold Sto.actW; rw [hc]; exact rfl
    have HL : ∀ W : World, W.heap[m1]? = w.heap[m1]? → (Instr.lookup 25 (.map (some m1)) (.int .i64 n) true).run Try.prog W = .ok (.tuple #[.slice none 0 0, .bool false]) W := fun W hW => by
      have := (HLK.out W hW).1
      rw [hc] at this
      exact this
    have HL2 := Lib.hid HL
    clear HL hc
    go_enter Try.func34, Try.ntmps34
    go_wp2
    have e1 : ∀ (x y : Obj) q, q < w.heap.size → ((w.alloc x).alloc y).drew.heap[q]? = w.heap[q]? := fun x y q hq => (Below.heap_alloc _ y _ (by simp; omega)).trans (Below.heap_alloc w x _ hq)
    have e2 : ∀ (x y z : Obj) q, q < w.heap.size → (((w.alloc x).alloc y).alloc z).drew.heap[q]? = w.heap[q]? := fun x y z q hq => (Below.heap_alloc _ z _ (by simp; omega)).trans (e1 x y q hq)
    have k1 := HL2.out _ (e1 (.cells #[.pointer (some ⟨b, 0, none⟩)] 23) (.cells #[.int .i64 n] 3) _ l1)
    have k2 := HL2.out _ (e2 (.cells #[.pointer (some ⟨b, 0, none⟩)] 23) (.cells #[.int .i64 n] 3) (.cells #[.slice none 0 0] 34) _ l1)
    have k3 := (World.cell?_of_block (a := ⟨b, 1, none⟩) (e1 (.cells #[.pointer (some ⟨b, 0, none⟩)] 23) (.cells #[.int .i64 n] 3) b lb)).trans c1
    have k4 := (World.cell?_of_block (a := ⟨b, 1, none⟩) (e2 (.cells #[.pointer (some ⟨b, 0, none⟩)] 23) (.cells #[.int .i64 n] 3) (.cells #[.slice none 0 0] 34) b lb)).trans c1
    clear e1 e2
    go_region
    all_goals
      clear k1 k2 k3 k4
      go_wp2
      go_ret
      obtain ⟨b1, b2, _, b4, b5⟩ := boxes3 w (.pointer (some ⟨b, 0, none⟩)) (.int .i64 n) (.slice none 0 0) 23 3 34
      rw [hA.out]
      exact ⟨_, rfl, ⟨_, _, rfl, ⟨more_new (by rw [b4]; omega), b1⟩, ⟨more_new (by rw [b4]; omega), b2⟩⟩, b5⟩
  | some l =>
    have hbv := HV.out l hc
    have hA : Hid (Sto.actW s.now n = .set n l) := by unfold Sto.actW; rw [hc]; exact rfl
    have HB := Lib.hid hbv
    obtain ⟨g0, c0, rest, rfl, _⟩ := id hbv
    have HL : ∀ W : World, W.heap[m1]? = w.heap[m1]? → (Instr.lookup 25 (.map (some m1)) (.int .i64 n) true).run Try.prog W = .ok (.tuple #[.slice (some ⟨g0, 0, none⟩) 256 c0, .bool true]) W := fun W hW => by
      have := (HLK.out W hW).1
      rw [hc] at this
      exact this
    have HL2 := Lib.hid HL
    clear HL hc hbv HV HV0 HLK
    go_enter Try.func34, Try.ntmps34
    go_wp2
    have e1 : ∀ (x y : Obj) q, q < w.heap.size → ((w.alloc x).alloc y).drew.heap[q]? = w.heap[q]? := fun x y q hq => (Below.heap_alloc _ y _ (by simp; omega)).trans (Below.heap_alloc w x _ hq)
    have e2 : ∀ (x y z : Obj) q, q < w.heap.size → (((w.alloc x).alloc y).alloc z).drew.heap[q]? = w.heap[q]? := fun x y z q hq => (Below.heap_alloc _ z _ (by simp; omega)).trans (e1 x y q hq)
    have k1 := HL2.out _ (e1 (.cells #[.pointer (some ⟨b, 0, none⟩)] 23) (.cells #[.int .i64 n] 3) _ l1)
    have k2 := HL2.out _ (e2 (.cells #[.pointer (some ⟨b, 0, none⟩)] 23) (.cells #[.int .i64 n] 3) (.cells #[.slice none 0 0] 34) _ l1)
    have k3 := (World.cell?_of_block (a := ⟨b, 1, none⟩) (e1 (.cells #[.pointer (some ⟨b, 0, none⟩)] 23) (.cells #[.int .i64 n] 3) b lb)).trans c1
    have k4 := (World.cell?_of_block (a := ⟨b, 1, none⟩) (e2 (.cells #[.pointer (some ⟨b, 0, none⟩)] 23) (.cells #[.int .i64 n] 3) (.cells #[.slice none 0 0] 34) b lb)).trans c1
    clear e1 e2
    go_region
    all_goals
      clear k1 k2 k3 k4
      go_wp2
      go_ret
      obtain ⟨b1, b2, b3, b4, b5⟩ := boxes3 w (.pointer (some ⟨b, 0, none⟩)) (.int .i64 n) (.slice (some ⟨g0, 0, none⟩) 256 c0) 23 3 34
      rw [hA.out]
      refine ⟨_, rfl, ⟨_, _, _, _, rfl, ⟨more_new (by rw [b4]; omega), b3⟩, HB.out.keep (fun q hq => b5.block q (HX.out.there q (mine_still q hq))) (fun q hq => ?_), ⟨more_new (by rw [b4]; omega), b1⟩, ⟨more_new (by rw [b4]; omega), b2⟩⟩, b5⟩
      rw [more_old (HX.out.there q (mine_still q hq))]
      exact hq

set_option maxRecDepth 100000 in
set_option maxHeartbeats 800000 in
theorem unhold_own {w : World} {ρ : Ro} {D : Nat → Prop} {b db n : Nat} {s : Sto} (h : Own w ρ D b db s) (hn : n < s.N) :
    Calls Try.prog 36 #[.pointer (some ⟨b, 0, none⟩), .int .i64 n] w fun e w' => ∃ v, e = .returned v ∧ ActIs w' (more ρ w.heap.size w'.heap.size) b v (Sto.actH s.now n) ∧ Below w.heap.size w w' := by
  have hN := h.len.2
  have HO : ∀ x y : Obj, Own ((w.alloc x).alloc y) ρ D b db s := fun x y => h.below (((Below.refl _ _).alloc (Nat.le_refl _) x).alloc (by simp) y)
  have hH := Lib.hid (Held_own (HO (.cells #[.pointer (some ⟨b, 0, none⟩)] 23) (.cells #[.int .i64 n] 3)) n (EMem.fits_n (by omega)))
  have hv : heldV s (n : Int) = s.now.hld n := by simp [heldV]
  cases hc : s.now.hld n with
  | true =>
    rw [hc] at hv
    have hA : Hid (Sto.actH s.now n = .nop) := by unfold Sto.actH; rw [hc]; exact rfl
    have HV := Lib.hid hv
    clear h HO hc hv
    go_enter Try.func36, Try.ntmps36
    go_wp2_with fail
    refine hH.out.mono ?_
    rintro e w1 ⟨rfl, hb⟩
    rw [HV.out]
    have HB := Lib.hid hb
    clear hb
    go_wp2
    go_ret
    rw [hA.out]
    exact ⟨_, rfl, rfl, (((Below.refl _ _).alloc (Nat.le_refl _) _).alloc (by simp) _).trans (HB.out.mono (by simp only [World.size_alloc]; omega))⟩
  | false =>
    rw [hc] at hv
    have hA : Hid (Sto.actH s.now n = .free n) := by unfold Sto.actH; rw [hc]; exact rfl
    have HV := Lib.hid hv
    clear h HO hc hv
    go_enter Try.func36, Try.ntmps36
    go_wp2_with fail
    refine hH.out.mono ?_
    rintro e w1 ⟨rfl, hb⟩
    rw [HV.out]
    have HB := Lib.hid hb
    clear hb
    go_wp2
    go_ret
    obtain ⟨b1, b2⟩ := boxes2 w (.pointer (some ⟨b, 0, none⟩)) (.int .i64 n) 23 3
    have hs := HB.out.size
    simp only [World.size_alloc] at hs
    have hB := HB.out
    simp only [World.size_alloc] at hB
    rw [hA.out]
    refine ⟨_, rfl, ⟨_, _, rfl, ⟨more_new (by omega), (hB.cell (p := ⟨w.heap.size, 0, none⟩) (show w.heap.size < _ by omega)).trans b1⟩, ⟨more_new (by omega), (hB.cell (p := ⟨w.heap.size + 1, 0, none⟩) (show w.heap.size + 1 < _ by omega)).trans b2⟩⟩, (((Below.refl _ _).alloc (Nat.le_refl _) _).alloc (by simp) _).trans (HB.out.mono (by simp only [World.size_alloc]; omega))⟩
end Go.Proofs.Ytphfidenjihgeaa.EUnwrite
