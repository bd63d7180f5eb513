/- The statements' own helpers: bytes lent with marks behind them, the marks looked at, bytes copied. -/
import Derived.Test.YtlbolfjelhljjaaDoorProg
import Derived.Test.YtlbolfjelhljjaaDoorWMem
import Derived.Test.YtlbolfjelhljjaaDoorWAppend
import Derived.Test.YtlbolfjelhljjaaDoorWPlain
import Derived.WalkKit
import Derived.WalkSpells
import Derived.WalkLawsBesides
import Derived.KernelRfl
import Derived.Handy
import Derived.Deep.QuietTactic
import Derived.BigQuiet
namespace Go.Proofs.YtlbolfjelhljjaaDoor.WHelp
open Go.RowKit WMem WAppend WPlain

theorem elem8 : Elem Tryd.prog 23 5 1 := ⟨by kernel_rfl, by
  obtain ⟨i, h1, h2, h3, h4⟩ := info_parts (P := Tryd.prog) (e := 5) (z := .int .u8 0) (size := 1) (bytes := 1) (by kernel_rfl)
  exact ⟨i, _, h1, h2, h3, h4, rfl⟩⟩
theorem elem64 : Elem Tryd.prog 39 30 8 := ⟨by kernel_rfl, by
  obtain ⟨i, h1, h2, h3, h4⟩ := info_parts (P := Tryd.prog) (e := 30) (z := .int .u64 0) (size := 1) (bytes := 8) (by kernel_rfl)
  exact ⟨i, _, h1, h2, h3, h4, rfl⟩⟩
theorem one_u8 (l : List UInt8) : ∀ u ∈ l.map u8v, u.oneCell' = true := by
  intro u hu
  obtain ⟨x, _, rfl⟩ := List.mem_map.1 hu
  rfl

set_option maxHeartbeats 400000 in
theorem Copied_any (l : List UInt8) (B : Nat) (A : Option Addr) (c : Nat) (w : World) (hA : Sl w B A (l.map u8v)) (hl : l.length ≤ 140737488351232) :
    Calls Tryd.prog 17 #[.slice A l.length c] w fun e w' => ∃ v, e = .returned v ∧ w'.ownsRow w.heap.size 5 1 v l.length (l.map u8v) ∧ Below w.heap.size w w' := by
  have HA := Lib.hid hA
  clear hA
  have hown := World.ownsRow_nil w w.heap.size 5 1
  go_enter Tryd.func17, Tryd.ntmps17
  go_wp2_with (at_builtin; refine wl_append rfl _ _ 23 rfl w.heap.size 5 1 elem8 (.slice none 0 0) 0 [] rfl hown B A l.length c (l.map u8v) rfl (by simp) HA.out (one_u8 l) (by omega) (by unfold maxLen; omega) (Nat.le_refl _) ?_; intro v' w1 h1 h2 h3)
  go_ret
  exact ⟨_, rfl, by simpa using h1, (Below.refl _ _).grown h2 (Nat.le_refl _) (by simp [Value.ownBlock])⟩

/-- a slice of the call's own with so many bytes, and marks behind them -/
theorem row_of_own {w : World} {base : Nat} {v : Value} {n : Nat} {xs : List Value} (h : w.ownsRow base 5 1 v n xs) (hn : 0 < n) :
    ∃ g cap rest, v = .slice (some ⟨g, 0, none⟩) n cap ∧ base ≤ g ∧ n ≤ cap ∧ w.heap[g]? = some (.cells (xs ++ rest).toArray 5 (0, 0)) ∧ (xs ++ rest).length = cap ∧ cap ≤ maxLen := by
  rcases h.2 with ⟨_, h0⟩ | ⟨g, cap, cur, rfl, hb, hg, hnc, hcm, hcs, ht⟩
  · omega
  · refine ⟨g, cap, cur.toList.drop n, rfl, hb, hnc, ?_, ?_, hcm⟩
    · rw [Nat.mul_one] at ht
      rw [← ht, List.take_append_drop]
      exact hg
    · rw [Nat.mul_one] at ht hcs
      rw [← ht, List.take_append_drop]
      simpa using hcs

/-- what the call owns reads as a list -/
theorem own_sl {w : World} {base : Nat} {e : TypeId} {v : Value} {n : Nat} {xs : List Value} (h : w.ownsRow base e 1 v n xs) :
    ∃ A c, v = .slice A n c ∧ Sl w w.heap.size A xs ∧ n ≤ c := by
  obtain ⟨hl, h | ⟨g, cap, cur, rfl, hb, hg, hnc, hcm, hcs, ht⟩⟩ := h
  · obtain ⟨rfl, rfl⟩ := h
    have : xs = [] := List.eq_nil_of_length_eq_zero (by simpa using hl)
    subst this
    exact ⟨none, 0, rfl, Sl.nil _ _ _, Nat.le_refl _⟩
  · refine ⟨_, _, rfl, Sl.of_row hg (row_lt hg) (n := n) ?_, hnc⟩
    simpa using ht

set_option maxHeartbeats 400000 in
theorem lent_any (l : List UInt8) (B : Nat) (A : Option Addr) (c : Nat) (w : World) (hA : Sl w B A (l.map u8v)) (hB : B ≤ w.heap.size) (hl : l.length ≤ 140737488351232) :
    Calls Tryd.prog 12 #[.slice A l.length c] w fun e w' => ∃ g cap rest, e = .returned (.slice (some ⟨g, 0, none⟩) l.length cap) ∧ w.heap.size ≤ g ∧ l.length + 2 ≤ cap ∧ Row w' g l (u8v 201 :: u8v 202 :: rest) ∧ Below w.heap.size w w' := by
  have HA := Lib.hid hA
  have HB := Lib.hid hB
  clear hA hB
  go_enter Tryd.func12, Tryd.ntmps12
  have ho0 : (w.alloc (.cells #[] 5)).ownsRow w.heap.size 5 1 (.slice (some ⟨w.heap.size, 0, none⟩) 0 0) 0 [] := World.ownsRow_made w #[] 0 (Nat.le_refl _) (by decide) rfl
  have hA0 : Sl (w.alloc (.cells #[] 5)) B A (l.map u8v) := HA.out.keep fun q hq => World.cell?_alloc_lt w _ q (by have := HB.out; omega)
  have HO := Lib.hid ho0
  have HS := Lib.hid hA0
  clear ho0 hA0
  go_wp2_with (first
    | (at_builtin; refine wl_append rfl (.tmp 4) (.tmp 5) 23 rfl w.heap.size 5 1 elem8 (.slice (some ⟨w.heap.size, 0, none⟩) 0 0) 0 [] rfl HO.out B A l.length c (l.map u8v) rfl (by simp) HS.out (one_u8 l) (by omega) (by unfold maxLen; omega) (by simp) ?_; intro v1 w1 h1 h2 h3
       have hs1 : w.heap.size + 1 ≤ w1.heap.size := by have := h2.size; simpa using this
       have H1 := Lib.hid (h1.alloc (.cells #[u8v 201, u8v 202] 5))
       have H2 := Lib.hid h2
       have H3 := Lib.hid h3
       have HN : Hid (Sl (w1.alloc (.cells #[u8v 201, u8v 202] 5)) (w1.heap.size + 1) (some ⟨w1.heap.size, 0, none⟩) [u8v 201, u8v 202]) := Sl.of_row (n := 2) (row_new _ _) (by omega) rfl
       clear h1 h2 h3
       go_wp2_with (at_builtin; go_loud (refine wl_append rfl (.tmp 7) (.tmp 8) 23 rfl w.heap.size 5 1 elem8 v1 _ _ rfl H1.out (w1.heap.size + 1) (some ⟨w1.heap.size, 0, none⟩) 2 2 [u8v 201, u8v 202] rfl rfl HN.out (by simp [u8v, Value.oneCell']) (by omega) (by unfold maxLen; omega) (by simp; omega) ?_); intro v2 w2 k1 k2 k3
                    obtain ⟨g, cap, rest, hv, hg, hcap, hrow, hlen, hmax⟩ := row_of_own k1 (by omega)
                    have K1 := Lib.hid hrow
                    have K2 := Lib.hid k2
                    have K3 := Lib.hid hg
                    have K4 := Lib.hid hmax
                    clear k1 k2 k3 hrow hlen hg hmax
                    rw [hv]
                    clear hv)))
  go_ret
  refine ⟨g, cap, rest, rfl, K3.out, by omega, by simpa [Row] using K1.out, ?_⟩
  have b1 : Below w.heap.size w w1 := ((Below.refl _ _).alloc (Nat.le_refl _) _).grown H2.out (by simp) (by intro k hk; simp [Value.ownBlock] at hk; omega)
  refine (b1.alloc (by omega) _).grown K2.out (by simp; omega) ?_
  intro k hk
  rcases H3.out with h | h <;> (rw [h] at hk; simp [Value.ownBlock] at hk; omega)

/-- the marks stand behind the bytes: cells known -/
theorem marks {w : World} {g : Nat} {l : List UInt8} {rest : List Value} (h : Row w g l (u8v 201 :: u8v 202 :: rest)) :
    w.cell? ⟨g, l.length, none⟩ = some (.int .u8 201) ∧ w.cell? ⟨g, l.length + 1, none⟩ = some (.int .u8 202) := by
  constructor
  · rw [row_cell h, List.getElem?_toArray, List.getElem?_append_right (by simp)]; simp [u8v]
  · rw [row_cell h, List.getElem?_toArray, List.getElem?_append_right (by simp)]; simp [u8v]

set_option maxHeartbeats 400000 in
theorem marked_any (l : List UInt8) (g cap : Nat) (rest : List Value) (w : World) (hR : Row w g l (u8v 201 :: u8v 202 :: rest)) (hc : l.length + 2 ≤ cap) (hl : l.length ≤ 140737488355328) :
    Calls Tryd.prog 16 #[.slice (some ⟨g, 0, none⟩) l.length cap] w fun e w' => e = .returned (.bool true) ∧ w = w' := by
  obtain ⟨m1, m2⟩ := marks hR
  clear hR
  go_enter Tryd.func16, Tryd.ntmps16
  go_wp2
  go_ret
  exact ⟨rfl, rfl⟩

set_option maxHeartbeats 400000 in
/-- the same bytes at two places are the same -/
theorem Same_yes (l : List UInt8) (B B' : Nat) (A A' : Option Addr) (c c' : Nat) (w : World) (hA : Sl w B A (l.map u8v)) (hA' : Sl w B' A' (l.map u8v)) (hl : l.length ≤ 140737488355328) :
    Calls Tryd.prog 15 #[.slice A l.length c, .slice A' l.length c'] w fun e w' => e = .returned (.bool true) ∧ ∃ n, w' = w.drewN n := by
  have HA := Lib.hid hA
  have HA' := Lib.hid hA'
  clear hA hA'
  go_enter Tryd.func15, Tryd.ntmps15
  go_wp2
  go_loopw [5] (fun i wr => ∃ k n : Nat, k ≤ l.length ∧ i = .int .i64 k ∧ wr = w.drewN n) (fun i _ => l.length - (intOf i).toNat)
  case atStart => exact ⟨0, 0, Nat.zero_le _, rfl, rfl⟩
  case round =>
    obtain ⟨k, n, hk, rfl, rfl⟩ := hrel
    by_cases hlt : k < l.length
    · obtain ⟨a, rfl, _, hc⟩ := HA.out.u8 hlt
      obtain ⟨a', rfl, _, hc'⟩ := HA'.out.u8 hlt
      have hx := byte_lt l[k]
      generalize l[k].toNat = x at hc hc' hx
      go_wp2
      go_quiet (fail)
      go_wp2
      go_roundw
      case rel => exact ⟨k + 1, n + nq, by omega, by go_num, rfl⟩
      case measure => simp [intOf]; omega
    · go_wp2
      go_ret
      exact ⟨rfl, n, rfl⟩
/-- the same two, the lengths written otherwise -/
theorem Same_at (n n' : Nat) (l : List UInt8) (h : l.length = n) (h' : l.length = n') (B B' : Nat) (A A' : Option Addr) (c c' : Nat) (w : World) (hA : Sl w B A (l.map u8v)) (hA' : Sl w B' A' (l.map u8v)) (hl : n ≤ 140737488355328) :
    Calls Tryd.prog 15 #[.slice A n c, .slice A' n' c'] w fun e w' => e = .returned (.bool true) ∧ ∃ n, w' = w.drewN n := by
  subst h
  subst h'
  exact Same_yes l B B' A A' c c' w hA hA' hl
theorem marked_at (n : Nat) (l : List UInt8) (h : l.length = n) (g cap : Nat) (rest : List Value) (w : World) (hR : Row w g l (u8v 201 :: u8v 202 :: rest)) (hc : n + 2 ≤ cap) (hl : n ≤ 140737488355328) :
    Calls Tryd.prog 16 #[.slice (some ⟨g, 0, none⟩) n cap] w fun e w' => e = .returned (.bool true) ∧ w = w' := by
  subst h
  exact marked_any l g cap rest w hR hc hl
end Go.Proofs.YtlbolfjelhljjaaDoor.WHelp
