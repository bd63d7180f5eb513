/- The store: each function that undoes a change does what it should. -/
import Derived.Test.YtphfidenjihgeaaEPush
import Derived.StillTailTactics
namespace Go.Proofs.Ytphfidenjihgeaa.EUndo
open Go.RowKit WMem WPlain WAppend Ext Map DPlain DMem Mk DBase DRead DWrite EPlain EMem ECache EFace EUnwrite EPush

/-- what such a call may turn -/
def isM (ρ : Ro) : Nat → Prop := fun q => ρ q = .chg ∨ ρ q = .hld
section
variable {w : World} {ρ : Ro} {b db m1 m2 m3 g n : Nat} {s : Sto} {Uv : Value} {us : List Value} (hx : SSx w ρ b db s m1 m2 m3 g Uv us) (hN : s.N ≤ 4096)
include hx hN
set_option maxRecDepth 100000 in
set_option maxHeartbeats 400000 in
theorem unset_own (Bs Bn : Nat) (h1 : Box w ρ Bs (.pointer (some ⟨b, 0, none⟩))) (h2 : Box w ρ Bn (.int .i64 (n : Int))) (hn : n < s.N) :
    Calls Try.prog 51 #[.pointer (some ⟨Bs, 0, none⟩), .pointer (some ⟨Bn, 0, none⟩)] w fun e w' => e = .returned (.tuple #[]) ∧ SSx w' ρ b db { s with now := (Deed.unset n).undo s.now } m1 m2 m3 g Uv us ∧ Ext (isM ρ) w w' := by
  have c1 := hx.c1
  have b1 := h1.2
  have b2 := h2.2
  have hxd : SSx w.drew ρ b db s m1 m2 m3 g Uv us := hx.keep (fun _ _ => rfl) (fun _ _ => rfl) hx.there
  obtain ⟨w2, hrun, hm2, ht2⟩ := hxd.chg.drop (n := n) (by omega) (by intro e; cases e) 0
  have HX := Lib.hid (SSx.chgTurn hxd hm2 ht2)
  have HE : Hid (Ext (isM ρ) w w2) := ((Ext.refl (isM ρ) w).drewN 1).trans (ext_turned ht2 (.inl hx.chg.1)) (fun _ h => .inl h)
  clear hx hxd hm2 ht2 h1 h2
  go_enter Try.func51, Try.ntmps51
  go_wp2_with fail
  go_still_tail 5, (by kernel_rfl)
  go_wp2
  go_end0
  exact ⟨rfl, HX.out, HE.out⟩
set_option maxRecDepth 100000 in
set_option maxHeartbeats 400000 in
theorem set_own (Bw Bs Bn : Nat) (u : Value) (l : Bk) (h0 : Box w ρ Bw u) (hu : Blk w ρ u l) (h1 : Box w ρ Bs (.pointer (some ⟨b, 0, none⟩))) (h2 : Box w ρ Bn (.int .i64 (n : Int))) (hn : n < s.N) :
    Calls Try.prog 52 #[.pointer (some ⟨Bw, 0, none⟩), .pointer (some ⟨Bs, 0, none⟩), .pointer (some ⟨Bn, 0, none⟩)] w fun e w' => e = .returned (.tuple #[]) ∧ SSx w' ρ b db { s with now := (Deed.set n l).undo s.now } m1 m2 m3 g Uv us ∧ Ext (isM ρ) w w' := by
  have c1 := hx.c1
  have b0 := h0.2
  have b1 := h1.2
  have b2 := h2.2
  have hxd : SSx w.drew ρ b db s m1 m2 m3 g Uv us := hx.keep (fun _ _ => rfl) (fun _ _ => rfl) hx.there
  have hud : Blk w.drew ρ u l := hu.keep (fun _ _ => rfl) (fun _ h => h)
  obtain ⟨w2, hrun, hm2, ht2⟩ := hxd.chg.put hn hN hud (by intro e; cases e)
  have HX := Lib.hid (SSx.chgTurn hxd hm2 ht2)
  have HE : Hid (Ext (isM ρ) w w2) := ((Ext.refl (isM ρ) w).drewN 1).trans (ext_turned ht2 (.inl hx.chg.1)) (fun _ h => .inl h)
  obtain ⟨gu, cu, ru, rfl, _⟩ := id hu
  clear hx hxd hm2 ht2 h0 h1 h2 hu hud
  go_enter Try.func52, Try.ntmps52
  go_wp2_with fail
  go_still_tail 6, (by kernel_rfl)
  go_wp2
  go_end0
  exact ⟨rfl, HX.out, HE.out⟩
omit hN in
theorem nop_own : Calls Try.prog 55 #[] w fun e w' => e = .returned (.tuple #[]) ∧ SSx w' ρ b db { s with now := Deed.nop.undo s.now } m1 m2 m3 g Uv us ∧ Ext (isM ρ) w w' := by
  have HX := Lib.hid hx
  clear hx
  go_enter Try.func55, Try.ntmps55
  go_wp2
  go_end0
  exact ⟨rfl, HX.out, Ext.refl _ _⟩
set_option maxRecDepth 100000 in
set_option maxHeartbeats 400000 in
theorem free_own (Bs Bn : Nat) (h1 : Box w ρ Bs (.pointer (some ⟨b, 0, none⟩))) (h2 : Box w ρ Bn (.int .i64 (n : Int))) (hn : n < s.N) :
    Calls Try.prog 56 #[.pointer (some ⟨Bs, 0, none⟩), .pointer (some ⟨Bn, 0, none⟩)] w fun e w' => e = .returned (.tuple #[]) ∧ SSx w' ρ b db { s with now := (Deed.free n).undo s.now } m1 m2 m3 g Uv us ∧ Ext (isM ρ) w w' := by
  have c5 := hx.c5
  have b1 := h1.2
  have b2 := h2.2
  have hxd : SSx w.drew ρ b db s m1 m2 m3 g Uv us := hx.keep (fun _ _ => rfl) (fun _ _ => rfl) hx.there
  obtain ⟨w2, hrun, hm2, ht2⟩ := hxd.hld.drop (n := n) (by omega) 0
  have HX := Lib.hid (SSx.hldTurn hxd hm2 ht2)
  have HE : Hid (Ext (isM ρ) w w2) := ((Ext.refl (isM ρ) w).drewN 1).trans (ext_turned ht2 (.inr hx.hld.1)) (fun _ h => .inl h)
  clear hx hxd hm2 ht2 h1 h2
  go_enter Try.func56, Try.ntmps56
  go_wp2_with fail
  go_still_tail 5, (by kernel_rfl)
  go_wp2
  go_end0
  exact ⟨rfl, HX.out, HE.out⟩
/-- whichever it is -/
theorem undo_own {v : Value} {a : Deed} (ha : ActIs w ρ b v a) (hf : a.Fine s.N) : ∃ f cs, v = .func (.func f) #[] cs ∧
    ((f = 51 ∧ ∃ x y, cs = #[x, y]) ∨ (f = 52 ∧ ∃ x y z, cs = #[x, y, z]) ∨ (f = 55 ∧ cs = #[]) ∨ (f = 56 ∧ ∃ x y, cs = #[x, y])) ∧
    Calls Try.prog f cs w fun e w' => e = .returned (.tuple #[]) ∧ SSx w' ρ b db { s with now := a.undo s.now } m1 m2 m3 g Uv us ∧ Ext (isM ρ) w w' := by
  cases a with
  | unset n => obtain ⟨Bs, Bn, rfl, h1, h2⟩ := ha; exact ⟨_, _, rfl, .inl ⟨rfl, _, _, rfl⟩, unset_own hx hN Bs Bn h1 h2 hf⟩
  | set n l => obtain ⟨Bw, Bs, Bn, u, rfl, h0, hu, h1, h2⟩ := ha; exact ⟨_, _, rfl, .inr (.inl ⟨rfl, _, _, _, rfl⟩), set_own hx hN Bw Bs Bn u l h0 hu h1 h2 hf.1⟩
  | nop => obtain rfl := (show v = _ from ha); exact ⟨_, _, rfl, .inr (.inr (.inl ⟨rfl, rfl⟩)), nop_own hx⟩
  | free n => obtain ⟨Bs, Bn, rfl, h1, h2⟩ := ha; exact ⟨_, _, rfl, .inr (.inr (.inr ⟨rfl, _, _, rfl⟩)), free_own hx hN Bs Bn h1 h2 hf⟩
end
end Go.Proofs.Ytphfidenjihgeaa.EUndo
