/- The program's disk: the calls that only look: Blocks, Ops, has; and bytes.Clone, copied and compared bytes. -/
import Derived.Test.YtgjcbfdhpbkhoaaGreatDoorMg29
import Derived.Test.YtgjcbfdhpbkhoaaGreatDoorMg12
import Derived.Test.YtgjcbfdhpbkhoaaGreatDoorMg2
import Derived.Lib.SliceRun
import Derived.WalkKit
import Derived.WalkSpells
import Derived.WalkLawsBesides
import Derived.Handy
import Derived.Deep.QuietTactic
import Derived.BigQuiet
namespace Go.Proofs.YtgjcbfdhpbkhoaaGreatDoor.DBase
open Go.RowKit WMem WPlain WAppend Ext Map DPlain DMem Mk
theorem Blocks_at (b : Nat) (n : Int) (w : World) (hc : w.cell? ⟨b, 0, none⟩ = some (.int .i64 n)) :
    Calls Tryz.prog 54 #[.pointer (some ⟨b, 0, none⟩)] w fun e w' => e = .returned (.int .i64 n) ∧ w = w' := by
  go_enter Tryz.func54, Tryz.ntmps54
  go_wp2
  go_ret
  exact ⟨rfl, rfl⟩
theorem has_yes (b : Nat) (n m : Nat) (w : World) (hc : w.cell? ⟨b, 0, none⟩ = some (.int .i64 m)) (hn : n < m) :
    Calls Tryz.prog 89 #[.pointer (some ⟨b, 0, none⟩), .int .i64 n] w fun e w' => e = .returned (.bool true) ∧ w = w' := by
  have hn' : (n : Int) < (m : Int) := by omega
  go_enter Tryz.func89, Tryz.ntmps89
  go_wp2_with (go_at_call 54; refine (Blocks_at _ _ _ hc).mono ?_; rintro e w' ⟨rfl, rfl⟩)
  go_ret
  exact ⟨rfl, rfl⟩
theorem blk_of_own {w : World} {base : Nat} {v : Value} {l : List UInt8} (h : w.ownsRow base 5 1 v 256 (l.map u8v)) (hl : l.length = 256) : IsBlk w (fun g => base ≤ g ∧ g < w.heap.size) v l := by
  rcases h.2 with ⟨_, h0⟩ | ⟨g, cap, cur, rfl, hb, hg, hnc, hcm, hcs, ht⟩
  · simp at h0
  · refine ⟨g, cap, cur.toList.drop 256, rfl, ⟨hb, row_lt hg⟩, hl, hnc, ?_⟩
    unfold Row
    rw [hg, ← ht, List.take_append_drop]
set_option maxHeartbeats 400000 in
theorem Clone_any (l : List UInt8) (B : Nat) (a : Addr) (c : Nat) (w : World) (hA : Sl w B (some a) (l.map u8v)) (hB : B ≤ w.heap.size) (hl : l.length ≤ 140737488351232) :
    Calls Tryz.prog 51 #[.slice (some a) l.length c] w fun e w' => ∃ v, e = .returned v ∧ w'.ownsRow w.heap.size 5 1 v l.length (l.map u8v) ∧ Below w.heap.size w w' := by
  have HA := Lib.hid hA
  have HB := Lib.hid hB
  clear hA hB
  have ho0 : (w.alloc (.cells #[] 5)).ownsRow w.heap.size 5 1 (.slice (some ⟨w.heap.size, 0, none⟩) 0 0) 0 [] := World.ownsRow_made w #[] 0 (Nat.le_refl _) (by decide) rfl
  have hA0 : Sl (w.alloc (.cells #[] 5)) B (some a) (l.map u8v) := HA.out.keep fun q hq => World.cell?_alloc_lt w _ q (by have := HB.out; omega)
  have HO := Lib.hid ho0
  have HS := Lib.hid hA0
  clear ho0 hA0
  have hnil := fun W : World => Lib.run_eql_slice_nil (P := Tryz.prog) W 22 5 (some a) l.length c 0 0 (by kernel_rfl)
  go_enter Tryz.func51, Tryz.ntmps51
  go_wp2_with (at_builtin; refine wl_append rfl _ _ 22 rfl w.heap.size 5 1 elem8 (.slice (some ⟨w.heap.size, 0, none⟩) 0 0) 0 [] rfl HO.out B (some a) l.length c (l.map u8v) rfl (by simp) HS.out (one_u8 l) (by omega) (by unfold maxLen; omega) (by simp) ?_; intro v' w1 h1 h2 h3)
  go_ret
  exact ⟨_, rfl, by simpa using h1, ((Below.refl _ _).alloc (Nat.le_refl _) _).grown h2 (by simp) (by intro k hk; simp [Value.ownBlock] at hk; omega)⟩
theorem Clone_blk (l : List UInt8) (S : Nat → Prop) (v : Value) (w : World) (hv : IsBlk w S v l) :
    Calls Tryz.prog 51 #[v] w fun e w' => ∃ u, e = .returned u ∧ IsBlk w' (fun g => w.heap.size ≤ g ∧ g < w'.heap.size) u l ∧ Below w.heap.size w w' := by
  obtain ⟨g, c, rest, rfl, _, hl, _, hr⟩ := hv
  have h := Clone_any l w.heap.size ⟨g, 0, none⟩ c w (hr.sl hr.lt) (Nat.le_refl _) (by omega)
  rw [hl] at h
  refine h.mono ?_
  rintro e w' ⟨u, rfl, h1, h2⟩
  exact ⟨u, rfl, blk_of_own h1 hl, h2⟩
set_option maxHeartbeats 400000 in
theorem Copied_any (l : List UInt8) (B : Nat) (A : Option Addr) (c : Nat) (w : World) (hA : Sl w B A (l.map u8v)) (hl : l.length ≤ 140737488351232) :
    Calls Tryz.prog 98 #[.slice A l.length c] w fun e w' => ∃ v, e = .returned v ∧ w'.ownsRow w.heap.size 5 1 v l.length (l.map u8v) ∧ Below w.heap.size w w' := by
  have HA := Lib.hid hA
  clear hA
  have hown := World.ownsRow_nil w w.heap.size 5 1
  go_enter Tryz.func98, Tryz.ntmps98
  go_wp2_with (at_builtin; refine wl_append rfl _ _ 22 rfl w.heap.size 5 1 elem8 (.slice none 0 0) 0 [] rfl hown B A l.length c (l.map u8v) rfl (by simp) HA.out (one_u8 l) (by omega) (by unfold maxLen; omega) (Nat.le_refl _) ?_; intro v' w1 h1 h2 h3)
  go_ret
  exact ⟨_, rfl, by simpa using h1, (Below.refl _ _).grown h2 (Nat.le_refl _) (by simp [Value.ownBlock])⟩
set_option maxHeartbeats 400000 in
theorem Same_yes (l : List UInt8) (B B' : Nat) (A A' : Option Addr) (c c' : Nat) (w : World) (hA : Sl w B A (l.map u8v)) (hA' : Sl w B' A' (l.map u8v)) (hl : l.length ≤ 140737488355328) :
    Calls Tryz.prog 13 #[.slice A l.length c, .slice A' l.length c'] w fun e w' => e = .returned (.bool true) ∧ ∃ n, w' = w.drewN n := by
  have HA := Lib.hid hA
  have HA' := Lib.hid hA'
  clear hA hA'
  go_enter Tryz.func13, Tryz.ntmps13
  go_wp2
  go_loopw [5] (fun i wr => ∃ k n : Nat, k ≤ l.length ∧ i = .int .i64 k ∧ wr = w.drewN n) (fun i _ => l.length - (intOf i).toNat)
  case atStart => exact ⟨0, 0, Nat.zero_le _, rfl, rfl⟩
  case round =>
    obtain ⟨k, n, hk, rfl, rfl⟩ := hrel
    by_cases hlt : k < l.length
    · obtain ⟨a, rfl, _, hc⟩ := HA.out.u8 hlt
      obtain ⟨a', rfl, _, hc'⟩ := HA'.out.u8 hlt
      have hx := byte_lt l[k]
      generalize l[k].toNat = x at hc hc' hx
      go_wp2
      go_quiet (fail)
      go_wp2
      go_roundw
      case rel => exact ⟨k + 1, n + nq, by omega, by go_num, rfl⟩
      case measure => simp [intOf]; omega
    · go_wp2
      go_ret
      exact ⟨rfl, n, rfl⟩
end Go.Proofs.YtgjcbfdhpbkhoaaGreatDoor.DBase
