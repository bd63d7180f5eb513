/- The store with its disk; the calls that only look: Blocks, has, Held, Mark, Counts, Changed. -/
import Derived.Test.YtphfidenjihgeaaENew
import Derived.Test.YtphfidenjihgeaaDWrite
import Derived.Test.YtphfidenjihgeaaEKeys
namespace Go.Proofs.Ytphfidenjihgeaa.EFace
open Go.RowKit WMem WPlain WAppend Ext Map DPlain DMem Mk DBase DRead DWrite EPlain EMem ECache

/-- all blocks of the store and of its disk -/
def All (ρ : Ro) (D : Nat → Prop) : Nat → Prop := fun k => Mine ρ k ∨ D k
structure Own (w : World) (ρ : Ro) (D : Nat → Prop) (b db : Nat) (s : Sto) : Prop where
  ss : SS w ρ b db s
  dd : DD w D db s.d
  far : Far (Mine ρ) D
/-- what a call leaves -/
structure Goes (w w' : World) (ρ : Ro) (D : Nat → Prop) (ρ' : Ro) (D' : Nat → Prop) (b db : Nat) (s' : Sto) : Prop where
  own : Own w' ρ' D' b db s'
  ext : Ext (All ρ D) w w'
  new : In (All ρ' D') (All ρ D) w
section
variable {w w' w'' : World} {ρ ρ' ρ'' : Ro} {D D' D'' : Nat → Prop} {b db : Nat} {s s' s'' : Sto}
theorem Own.there (h : Own w ρ D b db s) : There (All ρ D) w := fun k hk => by
  rcases hk with hk | hk
  · exact h.ss.there k hk
  · exact h.dd.there k hk
theorem Own.keep (h : Own w ρ D b db s) (hk : ∀ k, All ρ D k → w'.heap[k]? = w.heap[k]?) (hs : w.heap.size ≤ w'.heap.size) : Own w' ρ D b db s :=
  ⟨h.ss.keep (fun k hm => hk k (.inl hm)) hs, h.dd.keep (fun k hm => hk k (.inr hm)) hs, h.far⟩
theorem Own.below (h : Own w ρ D b db s) (hb : Below w.heap.size w w') : Own w' ρ D b db s := h.keep (fun k hk => hb.block k (h.there k hk)) hb.size
theorem Own.ext {S : Nat → Prop} (h : Own w ρ D b db s) (he : Ext S w w') (hf : Far S (All ρ D)) : Own w' ρ D b db s := h.keep (he.keeps hf h.there) he.size
theorem Own.drewN (h : Own w ρ D b db s) (n : Nat) : Own (w.drewN n) ρ D b db s := h.keep (fun _ _ => rfl) (Nat.le_refl _)
theorem Own.len (h : Own w ρ D b db s) : 128 ≤ s.N ∧ s.N ≤ 4096 := h.dd.len
theorem Own.wf (h : Own w ρ D b db s) : s.Wf := h.ss.wf
theorem Goes.refl (h : Own w ρ D b db s) : Goes w w ρ D ρ D b db s := ⟨h, Ext.refl _ _, In.refl _ _⟩
theorem Goes.trans (h : Goes w w' ρ D ρ' D' b db s') (h' : Goes w' w'' ρ' D' ρ'' D'' b db s'') : Goes w w'' ρ D ρ'' D'' b db s'' :=
  ⟨h'.own, h.ext.trans h'.ext h.new, h.new.trans h'.new h.ext.size⟩
theorem Goes.below (h : Goes w w' ρ D ρ' D' b db s') (hb : Below w'.heap.size w' w'') : Goes w w'' ρ D ρ' D' b db s' :=
  ⟨h.own.below hb, h.ext.trans (Ext.of_below hb _) (In.refl _ _), h.new⟩
theorem Goes.drewN (h : Goes w w' ρ D ρ' D' b db s') (n : Nat) : Goes w (w'.drewN n) ρ D ρ' D' b db s' := ⟨h.own.drewN n, h.ext.drewN n, h.new⟩
theorem Own.c0 (h : Own w ρ D b db s) : w.cell? ⟨b, 0, none⟩ = some (.pointer (some ⟨db, 0, none⟩)) := by
  obtain ⟨m1, m2, m3, g, Uv, us, h, -⟩ := h.ss
  exact h.c0
end

theorem SBlocks_at (b db : Nat) (N : Int) (w : World) (c0 : w.cell? ⟨b, 0, none⟩ = some (.pointer (some ⟨db, 0, none⟩))) (d0 : w.cell? ⟨db, 0, none⟩ = some (.int .i64 N)) :
    Calls Try.prog 22 #[.pointer (some ⟨b, 0, none⟩)] w fun e w' => e = .returned (.int .i64 N) ∧ w = w' := by
  go_enter Try.func22, Try.ntmps22
  go_wp2_with (go_at_call 44; refine (Blocks_at _ _ _ d0).mono ?_; rintro e w' ⟨rfl, rfl⟩)
  go_ret
  exact ⟨rfl, rfl⟩
theorem SBlocks_nil (w : World) : Calls Try.prog 22 #[.pointer none] w fun e w' => e = .returned (.int .i64 0) ∧ w = w' := by
  go_enter Try.func22, Try.ntmps22
  go_wp2
  go_ret
  exact ⟨rfl, rfl⟩
theorem SBlocks_zero (b : Nat) (w : World) (c0 : w.cell? ⟨b, 0, none⟩ = some (.pointer none)) :
    Calls Try.prog 22 #[.pointer (some ⟨b, 0, none⟩)] w fun e w' => e = .returned (.int .i64 0) ∧ w = w' := by
  go_enter Try.func22, Try.ntmps22
  go_wp2_with (go_at_call 44; refine (Blocks_nil _).mono ?_; rintro e w' ⟨rfl, rfl⟩)
  go_ret
  exact ⟨rfl, rfl⟩
section
variable (a : Option Addr) (n N : Int) (w : World) (hb : Calls Try.prog 22 #[.pointer a] w fun e w' => e = .returned (.int .i64 N) ∧ w = w')
include hb
theorem Shas_yes (h0 : 0 ≤ n) (h1 : n < N) : Calls Try.prog 30 #[.pointer a, .int .i64 n] w fun e w' => e = .returned (.bool true) ∧ w = w' := by
  have HB := Lib.hid hb
  clear hb
  go_enter Try.func30, Try.ntmps30
  go_wp2_with (go_at_call 22; refine HB.out.mono ?_; rintro e w' ⟨rfl, rfl⟩)
  go_ret
  exact ⟨rfl, rfl⟩
theorem Shas_no (h : n < 0 ∨ N ≤ n) : Calls Try.prog 30 #[.pointer a, .int .i64 n] w fun e w' => e = .returned (.bool false) ∧ w = w' := by
  have HB := Lib.hid hb
  clear hb
  by_cases h0 : n < 0
  · have hd : decide (0 ≤ n) = false := by simpa using h0
    clear h
    go_enter Try.func30, Try.ntmps30
    go_wp2
    go_ret
    exact ⟨rfl, rfl⟩
  · have h1 : N ≤ n := by omega
    have h2 : 0 ≤ n := by omega
    have hd : decide (n < N) = false := by simpa using h1
    clear h h0
    go_enter Try.func30, Try.ntmps30
    go_wp2_with (go_at_call 22; refine HB.out.mono ?_; rintro e w' ⟨rfl, rfl⟩)
    go_ret
    exact ⟨rfl, rfl⟩
end
section
variable {w : World} {ρ : Ro} {D : Nat → Prop} {b db : Nat} {s : Sto} (h : Own w ρ D b db s)
include h
theorem Blocks_own : Calls Try.prog 22 #[.pointer (some ⟨b, 0, none⟩)] w fun e w' => e = .returned (.int .i64 s.N) ∧ w = w' :=
  SBlocks_at b db s.N w h.c0 h.dd.c0
theorem has_own {n : Nat} (hn : n < s.N) : Calls Try.prog 30 #[.pointer (some ⟨b, 0, none⟩), .int .i64 n] w fun e w' => e = .returned (.bool true) ∧ w = w' :=
  Shas_yes _ _ s.N w (Blocks_own h) (by omega) (by omega)
theorem hasn_own {n : Int} (hn : n < 0 ∨ (s.N : Int) ≤ n) : Calls Try.prog 30 #[.pointer (some ⟨b, 0, none⟩), .int .i64 n] w fun e w' => e = .returned (.bool false) ∧ w = w' :=
  Shas_no _ _ s.N w (Blocks_own h) hn

/-- is it held? -/
def heldV (s : Sto) (n : Int) : Bool := decide (0 ≤ n) && s.now.hld n.toNat
set_option maxHeartbeats 400000 in
theorem Held_own (n : Int) (hn : Fits n) : Calls Try.prog 17 #[.pointer (some ⟨b, 0, none⟩), .int .i64 n] w fun e w' => e = .returned (.bool (heldV s n)) ∧ Below w.heap.size w w' := by
  obtain ⟨m1, m2, m3, g, Uv, us, hx, -⟩ := h.ss
  have c5 := hx.c5
  have hl := hx.hld.look hn w rfl
  have hq : (decide (0 ≤ n) && s.now.hld n.toNat) = heldV s n := rfl
  rw [hq] at hl
  clear hx h
  go_enter Try.func17, Try.ntmps17
  go_wp2
  go_ret
  exact ⟨rfl, (Below.refl _ _).alloc (Nat.le_refl _) _⟩
omit h in
theorem Held_nil (n : Int) (w : World) : Calls Try.prog 17 #[.pointer none, .int .i64 n] w fun e w' => e = .returned (.bool false) ∧ w = w' := by
  go_enter Try.func17, Try.ntmps17
  go_wp2
  go_ret
  exact ⟨rfl, rfl⟩
theorem Mark_own (_hl : s.acts.length ≤ 1073741824) : Calls Try.prog 18 #[.pointer (some ⟨b, 0, none⟩)] w fun e w' => e = .returned (.int .i64 s.acts.length) ∧ w = w' := by
  obtain ⟨m1, m2, m3, g, Uv, us, hx, -⟩ := h.ss
  have c6 := hx.c6
  obtain ⟨A, cap, rfl, _, _⟩ := own_cell1 hx.undo
  clear hx h
  go_enter Try.func18, Try.ntmps18
  go_wp2
  go_ret
  exact ⟨rfl, rfl⟩
omit h in
theorem Mark_nil (w : World) : Calls Try.prog 18 #[.pointer none] w fun e w' => e = .returned (.int .i64 0) ∧ w = w' := by
  go_enter Try.func18, Try.ntmps18
  go_wp2
  go_ret
  exact ⟨rfl, rfl⟩
theorem Counts_own : Calls Try.prog 11 #[.pointer (some ⟨b, 0, none⟩)] w fun e w' => e = .returned (.tuple #[.int .i64 s.found, .int .i64 s.asked]) ∧ ∃ k, w' = w.drewN k := by
  obtain ⟨m1, m2, m3, g, Uv, us, hx, -⟩ := h.ss
  have c7 := hx.c7
  have c8 := hx.c8
  clear hx h
  go_enter Try.func11, Try.ntmps11
  go_wp2
  go_quiet (fail)
  go_wp2
  go_ret2
  exact ⟨rfl, _, rfl⟩
omit h in
theorem Counts_nil (w : World) : Calls Try.prog 11 #[.pointer none] w fun e w' => e = .returned (.tuple #[.int .i64 0, .int .i64 0]) ∧ ∃ k, w' = w.drewN k := by
  go_enter Try.func11, Try.ntmps11
  go_wp2
  go_ret2
  exact ⟨rfl, 0, rfl⟩
end
end Go.Proofs.Ytphfidenjihgeaa.EFace
