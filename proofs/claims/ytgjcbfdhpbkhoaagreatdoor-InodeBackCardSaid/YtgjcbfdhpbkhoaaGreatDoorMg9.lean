/- The statements' own helpers: bytes lent with marks behind them, the marks looked at, bytes copied. -/
import Derived.Test.YtgjcbfdhpbkhoaaGreatDoorProg
import Derived.Test.YtgjcbfdhpbkhoaaGreatDoorMg1
import Derived.Test.YtgjcbfdhpbkhoaaGreatDoorMg8
import Derived.Test.YtgjcbfdhpbkhoaaGreatDoorMg2
import Derived.WalkKit
import Derived.WalkSpells
import Derived.WalkLawsBesides
import Derived.KernelRfl
import Derived.Handy
import Derived.Deep.QuietTactic
import Derived.BigQuiet
import Derived.Test.YtgjcbfdhpbkhoaaGreatDoorMg7
namespace Go.Proofs.YtgjcbfdhpbkhoaaGreatDoor.WHelp
open Go.RowKit WMem WAppend WPlain
theorem elem8 : Elem Tryz.prog 22 5 1 := ⟨by kernel_rfl, by
  obtain ⟨i, h1, h2, h3, h4⟩ := info_parts (P := Tryz.prog) (e := 5) (z := .int .u8 0) (size := 1) (bytes := 1) (by kernel_rfl)
  exact ⟨i, _, h1, h2, h3, h4, rfl⟩⟩
theorem elem64 : Elem Tryz.prog 48 47 8 := ⟨by kernel_rfl, by
  obtain ⟨i, h1, h2, h3, h4⟩ := info_parts (P := Tryz.prog) (e := 47) (z := .int .u64 0) (size := 1) (bytes := 8) (by kernel_rfl)
  exact ⟨i, _, h1, h2, h3, h4, rfl⟩⟩
theorem one_u8 (l : List UInt8) : ∀ u ∈ l.map u8v, u.oneCell' = true := by
  intro u hu
  obtain ⟨x, _, rfl⟩ := List.mem_map.1 hu
  rfl
set_option maxHeartbeats 400000 in
theorem Copied_any (l : List UInt8) (B : Nat) (A : Option Addr) (c : Nat) (w : World) (hA : Sl w B A (l.map u8v)) (hl : l.length ≤ 140737488351232) :
    Calls Tryz.prog 98 #[.slice A l.length c] w fun e w' => ∃ v, e = .returned v ∧ w'.ownsRow w.heap.size 5 1 v l.length (l.map u8v) ∧ Below w.heap.size w w' := by
  have HA := Lib.hid hA
  clear hA
  have hown := World.ownsRow_nil w w.heap.size 5 1
  go_enter Tryz.func98, Tryz.ntmps98
  go_wp2_with (at_builtin; refine wl_append rfl _ _ 22 rfl w.heap.size 5 1 elem8 (.slice none 0 0) 0 [] rfl hown B A l.length c (l.map u8v) rfl (by simp) HA.out (one_u8 l) (by omega) (by unfold maxLen; omega) (Nat.le_refl _) ?_; intro v' w1 h1 h2 h3)
  go_ret
  exact ⟨_, rfl, by simpa using h1, (Below.refl _ _).grown h2 (Nat.le_refl _) (by simp [Value.ownBlock])⟩
theorem row_of_own {w : World} {base : Nat} {v : Value} {n : Nat} {xs : List Value} (h : w.ownsRow base 5 1 v n xs) (hn : 0 < n) :
    ∃ g cap rest, v = .slice (some ⟨g, 0, none⟩) n cap ∧ base ≤ g ∧ n ≤ cap ∧ w.heap[g]? = some (.cells (xs ++ rest).toArray 5 (0, 0)) ∧ (xs ++ rest).length = cap ∧ cap ≤ maxLen := by
  rcases h.2 with ⟨_, h0⟩ | ⟨g, cap, cur, rfl, hb, hg, hnc, hcm, hcs, ht⟩
  · omega
  · refine ⟨g, cap, cur.toList.drop n, rfl, hb, hnc, ?_, ?_, hcm⟩
    · rw [Nat.mul_one] at ht
      rw [← ht, List.take_append_drop]
      exact hg
    · rw [Nat.mul_one] at ht hcs
      rw [← ht, List.take_append_drop]
      simpa using hcs
theorem own_sl {w : World} {base : Nat} {e : TypeId} {v : Value} {n : Nat} {xs : List Value} (h : w.ownsRow base e 1 v n xs) :
    ∃ A c, v = .slice A n c ∧ Sl w w.heap.size A xs ∧ n ≤ c := by
  obtain ⟨hl, h | ⟨g, cap, cur, rfl, hb, hg, hnc, hcm, hcs, ht⟩⟩ := h
  · obtain ⟨rfl, rfl⟩ := h
    have : xs = [] := List.eq_nil_of_length_eq_zero (by simpa using hl)
    subst this
    exact ⟨none, 0, rfl, Sl.nil _ _ _, Nat.le_refl _⟩
  · refine ⟨_, _, rfl, Sl.of_row hg (row_lt hg) (n := n) ?_, hnc⟩
    simpa using ht
set_option maxHeartbeats 400000 in
theorem Same_yes (l : List UInt8) (B B' : Nat) (A A' : Option Addr) (c c' : Nat) (w : World) (hA : Sl w B A (l.map u8v)) (hA' : Sl w B' A' (l.map u8v)) (hl : l.length ≤ 140737488355328) :
    Calls Tryz.prog 13 #[.slice A l.length c, .slice A' l.length c'] w fun e w' => e = .returned (.bool true) ∧ ∃ n, w' = w.drewN n := by
  have HA := Lib.hid hA
  have HA' := Lib.hid hA'
  clear hA hA'
  go_enter Tryz.func13, Tryz.ntmps13
  go_wp2
  go_loopw [5] (fun i wr => ∃ k n : Nat, k ≤ l.length ∧ i = .int .i64 k ∧ wr = w.drewN n) (fun i _ => l.length - (intOf i).toNat)
  case atStart => exact ⟨0, 0, Nat.zero_le _, rfl, rfl⟩
  case round =>
    obtain ⟨k, n, hk, rfl, rfl⟩ := hrel
    by_cases hlt : k < l.length
    · obtain ⟨a, rfl, _, hc⟩ := HA.out.u8 hlt
      obtain ⟨a', rfl, _, hc'⟩ := HA'.out.u8 hlt
      have hx := byte_lt l[k]
      generalize l[k].toNat = x at hc hc' hx
      go_wp2
      go_quiet (fail)
      go_wp2
      go_roundw
      case rel => exact ⟨k + 1, n + nq, by omega, by go_num, rfl⟩
      case measure => simp [intOf]; omega
    · go_wp2
      go_ret
      exact ⟨rfl, n, rfl⟩
theorem Same_at (n n' : Nat) (l : List UInt8) (h : l.length = n) (h' : l.length = n') (B B' : Nat) (A A' : Option Addr) (c c' : Nat) (w : World) (hA : Sl w B A (l.map u8v)) (hA' : Sl w B' A' (l.map u8v)) (hl : n ≤ 140737488355328) :
    Calls Tryz.prog 13 #[.slice A n c, .slice A' n' c'] w fun e w' => e = .returned (.bool true) ∧ ∃ n, w' = w.drewN n := by
  subst h
  subst h'
  exact Same_yes l B B' A A' c c' w hA hA' hl
end Go.Proofs.YtgjcbfdhpbkhoaaGreatDoor.WHelp
/- Lists of numbers, each in its width: the program's inner calls total, pack and unpack. -/
namespace Go.Proofs.YtgjcbfdhpbkhoaaGreatDoor.WList
open Go.RowKit WMem WPlain WGive WGet WPut WAppend WHelp
set_option maxHeartbeats 400000 in
theorem total_ok (ns : List Nat) (B : Nat) (A : Option Addr) (c : Nat) (w : World) (hf : fine ns) (hl : ns.length ≤ 17592186044416) (hA : Sl w B A (ns.map natv)) :
    Calls Tryz.prog 74 #[.slice A ns.length c] w fun e w' => e = .returned (.int .i64 (tot ns : Nat)) ∧ w = w' := by
  have HF := Lib.hid hf
  have HA := Lib.hid hA
  clear hf hA
  go_enter Tryz.func74, Tryz.ntmps74
  go_wp2
  go_loop [3, 8] (fun v i => ∃ k : Nat, k ≤ ns.length ∧ i = .int .i64 k ∧ v = .int .i64 (tot (ns.take k) : Nat)) (fun _ i => ns.length - (intOf i).toNat)
  case atStart => exact ⟨0, Nat.zero_le _, rfl, by simp [tot]⟩
  case round =>
    obtain ⟨k, hk, rfl, rfl⟩ := hrel
    by_cases hlt : k < ns.length
    · obtain ⟨a, rfl, hab, hc⟩ := HA.out.nat hlt
      obtain ⟨f1, f2⟩ := fine_get HF.out hlt
      have t1 := tot_take_le ns k
      have t2 := (tot_le ns HF.out).2
      have HS := Lib.hid (tot_take_succ ns k hlt)
      generalize tot (ns.take k) = d at *
      generalize tot ns = t at *
      generalize ns[k] = n at *
      go_wp2_with (go_at_call 108; refine (width_ok _ _ (by omega) (by omega)).mono ?_; rintro e w' ⟨rfl, rfl⟩)
      go_round
      case rel => exact ⟨k + 1, by omega, by go_num, by rw [HS.out]; go_num⟩
      case measure => simp [intOf]; omega
    · obtain rfl : k = ns.length := by omega
      go_wp2
      go_ret
      exact ⟨by simp, rfl⟩
end Go.Proofs.YtgjcbfdhpbkhoaaGreatDoor.WList
