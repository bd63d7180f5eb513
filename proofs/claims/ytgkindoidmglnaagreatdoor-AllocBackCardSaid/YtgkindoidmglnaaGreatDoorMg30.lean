/- The program's disk: the calls that only look: Blocks, Ops, has; and bytes.Clone, copied and compared bytes. -/
import Derived.Test.YtgkindoidmglnaaGreatDoorMg25
import Derived.Test.YtgkindoidmglnaaGreatDoorMg12
import Derived.Test.YtgkindoidmglnaaGreatDoorMg2
import Derived.Lib.SliceRun
import Derived.WalkKit
import Derived.WalkSpells
import Derived.WalkLawsBesides
import Derived.Handy
import Derived.Deep.QuietTactic
import Derived.BigQuiet
namespace Go.Proofs.YtgkindoidmglnaaGreatDoor.DBase
open Go.RowKit WMem WPlain WAppend Ext Map DPlain DMem Mk

theorem Blocks_at (b : Nat) (n : Int) (w : World) (hc : w.cell? ⟨b, 0, none⟩ = some (.int .i64 n)) :
    Calls Tryz.prog 44 #[.pointer (some ⟨b, 0, none⟩)] w fun e w' => e = .returned (.int .i64 n) ∧ w = w' := by
  go_enter Tryz.func44, Tryz.ntmps44
  go_wp2
  go_ret
  exact ⟨rfl, rfl⟩
theorem Blocks_nil (w : World) : Calls Tryz.prog 44 #[.pointer none] w fun e w' => e = .returned (.int .i64 0) ∧ w = w' := by
  go_enter Tryz.func44, Tryz.ntmps44
  go_wp2
  go_ret
  exact ⟨rfl, rfl⟩
theorem has_yes (b : Nat) (n m : Nat) (w : World) (hc : w.cell? ⟨b, 0, none⟩ = some (.int .i64 m)) (hn : n < m) :
    Calls Tryz.prog 94 #[.pointer (some ⟨b, 0, none⟩), .int .i64 n] w fun e w' => e = .returned (.bool true) ∧ w = w' := by
  have hn' : (n : Int) < (m : Int) := by omega
  go_enter Tryz.func94, Tryz.ntmps94
  go_wp2_with (go_at_call 44; refine (Blocks_at _ _ _ hc).mono ?_; rintro e w' ⟨rfl, rfl⟩)
  go_ret
  exact ⟨rfl, rfl⟩
theorem has_neg (a : Option Addr) (n : Int) (w : World) (hn : n < 0) :
    Calls Tryz.prog 94 #[.pointer a, .int .i64 n] w fun e w' => e = .returned (.bool false) ∧ w = w' := by
  have hd : decide (0 ≤ n) = false := by simpa using hn
  go_enter Tryz.func94, Tryz.ntmps94
  go_wp2
  go_ret
  exact ⟨rfl, rfl⟩
theorem has_big (b : Nat) (n m : Int) (w : World) (hc : w.cell? ⟨b, 0, none⟩ = some (.int .i64 m)) (h0 : 0 ≤ n) (hn : m ≤ n) :
    Calls Tryz.prog 94 #[.pointer (some ⟨b, 0, none⟩), .int .i64 n] w fun e w' => e = .returned (.bool false) ∧ w = w' := by
  have hd : decide (n < m) = false := by simpa using hn
  go_enter Tryz.func94, Tryz.ntmps94
  go_wp2_with (go_at_call 44; refine (Blocks_at _ _ _ hc).mono ?_; rintro e w' ⟨rfl, rfl⟩)
  go_ret
  exact ⟨rfl, rfl⟩
theorem has_nil (n : Int) (w : World) (h0 : 0 ≤ n) :
    Calls Tryz.prog 94 #[.pointer none, .int .i64 n] w fun e w' => e = .returned (.bool false) ∧ w = w' := by
  have hd : decide (n < 0) = false := by simpa using h0
  go_enter Tryz.func94, Tryz.ntmps94
  go_wp2_with (go_at_call 44; refine (Blocks_nil _).mono ?_; rintro e w' ⟨rfl, rfl⟩)
  go_ret
  exact ⟨rfl, rfl⟩

/-- a slice of its own of 256 bytes is a block -/
theorem blk_of_own {w : World} {base : Nat} {v : Value} {l : List UInt8} (h : w.ownsRow base 5 1 v 256 (l.map u8v)) (hl : l.length = 256) : IsBlk w (fun g => base ≤ g ∧ g < w.heap.size) v l := by
  rcases h.2 with ⟨_, h0⟩ | ⟨g, cap, cur, rfl, hb, hg, hnc, hcm, hcs, ht⟩
  · simp at h0
  · refine ⟨g, cap, cur.toList.drop 256, rfl, ⟨hb, row_lt hg⟩, hl, hnc, ?_⟩
    unfold Row
    rw [hg, ← ht, List.take_append_drop]

set_option maxHeartbeats 400000 in
/-- bytes.Clone of a slice that is not nil -/
theorem Clone_any (l : List UInt8) (B : Nat) (a : Addr) (c : Nat) (w : World) (hA : Sl w B (some a) (l.map u8v)) (hB : B ≤ w.heap.size) (hl : l.length ≤ 140737488351232) :
    Calls Tryz.prog 77 #[.slice (some a) l.length c] w fun e w' => ∃ v, e = .returned v ∧ w'.ownsRow w.heap.size 5 1 v l.length (l.map u8v) ∧ Below w.heap.size w w' := by
  have HA := Lib.hid hA
  have HB := Lib.hid hB
  clear hA hB
  have ho0 : (w.alloc (.cells #[] 5)).ownsRow w.heap.size 5 1 (.slice (some ⟨w.heap.size, 0, none⟩) 0 0) 0 [] := World.ownsRow_made w #[] 0 (Nat.le_refl _) (by decide) rfl
  have hA0 : Sl (w.alloc (.cells #[] 5)) B (some a) (l.map u8v) := HA.out.keep fun q hq => World.cell?_alloc_lt w _ q (by have := HB.out; omega)
  have HO := Lib.hid ho0
  have HS := Lib.hid hA0
  clear ho0 hA0
  have hnil := fun W : World => Lib.run_eql_slice_nil (P := Tryz.prog) W 77 5 (some a) l.length c 0 0 (by kernel_rfl)
  go_enter Tryz.func77, Tryz.ntmps77
  go_wp2_with (at_builtin; refine wl_append rfl _ _ 77 rfl w.heap.size 5 1 elem8 (.slice (some ⟨w.heap.size, 0, none⟩) 0 0) 0 [] rfl HO.out B (some a) l.length c (l.map u8v) rfl (by simp) HS.out (one_u8 l) (by omega) (by unfold maxLen; omega) (by simp) ?_; intro v' w1 h1 h2 h3)
  go_ret
  exact ⟨_, rfl, by simpa using h1, ((Below.refl _ _).alloc (Nat.le_refl _) _).grown h2 (by simp) (by intro k hk; simp [Value.ownBlock] at hk; omega)⟩
/-- .. of a block -/
theorem Clone_blk (l : List UInt8) (S : Nat → Prop) (v : Value) (w : World) (hv : IsBlk w S v l) :
    Calls Tryz.prog 77 #[v] w fun e w' => ∃ u, e = .returned u ∧ IsBlk w' (fun g => w.heap.size ≤ g ∧ g < w'.heap.size) u l ∧ Below w.heap.size w w' := by
  obtain ⟨g, c, rest, rfl, _, hl, _, hr⟩ := hv
  have h := Clone_any l w.heap.size ⟨g, 0, none⟩ c w (hr.sl hr.lt) (Nat.le_refl _) (by omega)
  rw [hl] at h
  refine h.mono ?_
  rintro e w' ⟨u, rfl, h1, h2⟩
  exact ⟨u, rfl, blk_of_own h1 hl, h2⟩

end Go.Proofs.YtgkindoidmglnaaGreatDoor.DBase
