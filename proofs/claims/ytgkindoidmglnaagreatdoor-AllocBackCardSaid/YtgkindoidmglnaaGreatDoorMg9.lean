/- The statements' own helpers: bytes lent with marks behind them, the marks looked at, bytes copied. -/
import Derived.Test.YtgkindoidmglnaaGreatDoorProg
import Derived.Test.YtgkindoidmglnaaGreatDoorMg1
import Derived.Test.YtgkindoidmglnaaGreatDoorMg8
import Derived.Test.YtgkindoidmglnaaGreatDoorMg2
import Derived.WalkKit
import Derived.WalkSpells
import Derived.WalkLawsBesides
import Derived.KernelRfl
import Derived.Handy
import Derived.Deep.QuietTactic
import Derived.BigQuiet
import Derived.Test.YtgkindoidmglnaaGreatDoorMg7
namespace Go.Proofs.YtgkindoidmglnaaGreatDoor.WHelp
open Go.RowKit WMem WAppend WPlain

theorem elem8 : Elem Tryz.prog 77 5 1 := ⟨by kernel_rfl, by
  obtain ⟨i, h1, h2, h3, h4⟩ := info_parts (P := Tryz.prog) (e := 5) (z := .int .u8 0) (size := 1) (bytes := 1) (by kernel_rfl)
  exact ⟨i, _, h1, h2, h3, h4, rfl⟩⟩
theorem elem64 : Elem Tryz.prog 138 145 8 := ⟨by kernel_rfl, by
  obtain ⟨i, h1, h2, h3, h4⟩ := info_parts (P := Tryz.prog) (e := 145) (z := .int .u64 0) (size := 1) (bytes := 8) (by kernel_rfl)
  exact ⟨i, _, h1, h2, h3, h4, rfl⟩⟩
theorem one_u8 (l : List UInt8) : ∀ u ∈ l.map u8v, u.oneCell' = true := by
  intro u hu
  obtain ⟨x, _, rfl⟩ := List.mem_map.1 hu
  rfl

/-- a slice of the call's own with so many bytes, and marks behind them -/
theorem row_of_own {w : World} {base : Nat} {v : Value} {n : Nat} {xs : List Value} (h : w.ownsRow base 5 1 v n xs) (hn : 0 < n) :
    ∃ g cap rest, v = .slice (some ⟨g, 0, none⟩) n cap ∧ base ≤ g ∧ n ≤ cap ∧ w.heap[g]? = some (.cells (xs ++ rest).toArray 5 (0, 0)) ∧ (xs ++ rest).length = cap ∧ cap ≤ maxLen := by
  rcases h.2 with ⟨_, h0⟩ | ⟨g, cap, cur, rfl, hb, hg, hnc, hcm, hcs, ht⟩
  · omega
  · refine ⟨g, cap, cur.toList.drop n, rfl, hb, hnc, ?_, ?_, hcm⟩
    · rw [Nat.mul_one] at ht
      rw [← ht, List.take_append_drop]
      exact hg
    · rw [Nat.mul_one] at ht hcs
      rw [← ht, List.take_append_drop]
      simpa using hcs

/-- what the call owns reads as a list -/
theorem own_sl {w : World} {base : Nat} {e : TypeId} {v : Value} {n : Nat} {xs : List Value} (h : w.ownsRow base e 1 v n xs) :
    ∃ A c, v = .slice A n c ∧ Sl w w.heap.size A xs ∧ n ≤ c := by
  obtain ⟨hl, h | ⟨g, cap, cur, rfl, hb, hg, hnc, hcm, hcs, ht⟩⟩ := h
  · obtain ⟨rfl, rfl⟩ := h
    have : xs = [] := List.eq_nil_of_length_eq_zero (by simpa using hl)
    subst this
    exact ⟨none, 0, rfl, Sl.nil _ _ _, Nat.le_refl _⟩
  · refine ⟨_, _, rfl, Sl.of_row hg (row_lt hg) (n := n) ?_, hnc⟩
    simpa using ht

/-- the marks stand behind the bytes: cells known -/
theorem marks {w : World} {g : Nat} {l : List UInt8} {rest : List Value} (h : Row w g l (u8v 201 :: u8v 202 :: rest)) :
    w.cell? ⟨g, l.length, none⟩ = some (.int .u8 201) ∧ w.cell? ⟨g, l.length + 1, none⟩ = some (.int .u8 202) := by
  constructor
  · rw [row_cell h, List.getElem?_toArray, List.getElem?_append_right (by simp)]; simp [u8v]
  · rw [row_cell h, List.getElem?_toArray, List.getElem?_append_right (by simp)]; simp [u8v]

end Go.Proofs.YtgkindoidmglnaaGreatDoor.WHelp
/- Lists of numbers, each in its width: the program's inner calls total, pack and unpack. -/
namespace Go.Proofs.YtgkindoidmglnaaGreatDoor.WList
open Go.RowKit WMem WPlain WGive WGet WPut WAppend WHelp

set_option maxHeartbeats 400000 in
theorem total_ok (ns : List Nat) (B : Nat) (A : Option Addr) (c : Nat) (w : World) (hf : fine ns) (hl : ns.length ≤ 17592186044416) (hA : Sl w B A (ns.map natv)) :
    Calls Tryz.prog 139 #[.slice A ns.length c] w fun e w' => e = .returned (.int .i64 (tot ns : Nat)) ∧ w = w' := by
  have HF := Lib.hid hf
  have HA := Lib.hid hA
  clear hf hA
  go_enter Tryz.func139, Tryz.ntmps139
  go_wp2
  go_loop [3, 8] (fun v i => ∃ k : Nat, k ≤ ns.length ∧ i = .int .i64 k ∧ v = .int .i64 (tot (ns.take k) : Nat)) (fun _ i => ns.length - (intOf i).toNat)
  case atStart => exact ⟨0, Nat.zero_le _, rfl, by simp [tot]⟩
  case round =>
    obtain ⟨k, hk, rfl, rfl⟩ := hrel
    by_cases hlt : k < ns.length
    · obtain ⟨a, rfl, hab, hc⟩ := HA.out.nat hlt
      obtain ⟨f1, f2⟩ := fine_get HF.out hlt
      have t1 := tot_take_le ns k
      have t2 := (tot_le ns HF.out).2
      have HS := Lib.hid (tot_take_succ ns k hlt)
      generalize tot (ns.take k) = d at *
      generalize tot ns = t at *
      generalize ns[k] = n at *
      go_wp2_with (go_at_call 149; refine (width_ok _ _ (by omega) (by omega)).mono ?_; rintro e w' ⟨rfl, rfl⟩)
      go_round
      case rel => exact ⟨k + 1, by omega, by go_num, by rw [HS.out]; go_num⟩
      case measure => simp [intOf]; omega
    · obtain rfl : k = ns.length := by omega
      go_wp2
      go_ret
      exact ⟨by simp, rfl⟩

/-- a width that may not be -/
theorem total_no (ws : List Int) (B : Nat) (A : Option Addr) (c : Nat) (w : World) (hf : ¬ ∀ n ∈ ws, 1 ≤ n ∧ n ≤ 8) (hl : ws.length ≤ 17592186044416) (hA : Sl w B A (ws.map i64v)) :
    Calls Tryz.prog 139 #[.slice A ws.length c] w fun e w' => e = given 22 ∧ w = w' := by
  have HF := Lib.hid hf
  have HA := Lib.hid hA
  clear hf hA
  go_enter Tryz.func139, Tryz.ntmps139
  go_wp2
  go_loop [3, 8] (fun v i => ∃ k d : Nat, k ≤ ws.length ∧ i = .int .i64 k ∧ v = .int .i64 d ∧ d ≤ 8 * k ∧ (∀ n ∈ ws.take k, 1 ≤ n ∧ n ≤ 8)) (fun _ i => ws.length - (intOf i).toNat)
  case atStart => exact ⟨0, 0, Nat.zero_le _, rfl, rfl, by omega, by simp⟩
  case round =>
    obtain ⟨k, d, hk, rfl, rfl, hd, hF⟩ := hrel
    have HK := Lib.hid hF
    clear hF
    by_cases hlt : k < ws.length
    · obtain ⟨a, rfl, hab, hc⟩ := HA.out.i64 hlt
      have HT := Lib.hid (List.take_succ_eq_append_getElem hlt)
      generalize ws[k] = n at *
      by_cases hn : 1 ≤ n ∧ n ≤ 8
      · obtain ⟨f1, f2⟩ := hn
        obtain ⟨m, rfl⟩ := Int.eq_ofNat_of_zero_le (show 0 ≤ n by omega)
        go_wp2_with (go_at_call 149; refine (width_ok _ _ (by omega) (by omega)).mono ?_; rintro e w' ⟨rfl, rfl⟩)
        go_round
        case rel =>
          refine ⟨k + 1, d + m, by omega, by go_num, by go_num, by omega, ?_⟩
          rw [HT.out]
          intro x hx
          rcases List.mem_append.1 hx with h | h
          · exact HK.out x h
          · simp at h; omega
        case measure => simp [intOf]; omega
      · have hx : n < 1 ∨ 8 < n := by omega
        clear hn
        go_wp2_with (go_at_call 149; refine (width_no _ _ hx).mono ?_; rintro e w' ⟨rfl, rfl⟩)
        exact ⟨rfl, rfl, rfl⟩
    · exact absurd (by have := HK.out; rwa [List.take_of_length_le (by omega)] at this) HF.out
end Go.Proofs.YtgkindoidmglnaaGreatDoor.WList
