/- may: may a walker go? -/
import Derived.Test.YtfaahhipddlmgaaKWMem
import Derived.Deep.RegionHeld3
import Derived.BigQuiet
namespace Go.Proofs.Ytfaahhipddlmgaa.KMay
open Go.RowKit WMem Ext KMap KPlain KMem KAsk KLeave KLaw KScript KWPlain KWMem

set_option maxRecDepth 100000 in
set_option maxHeartbeats 800000 in
theorem may_any {a a' : World} {S T : Nat → Prop} {b n m : Nat} {R : Rw} {v : Value} {p : Nat → Nat} {W : Nat → Wk} (i : Nat) (w : World) (o : OwnT a w S b R n) (t : Team a' w T v p W m) (iv : Inv R W m) (hi : i < m) (hn : n ≤ 1073741824) (q : Bool) (hq : mayGo R W i = q) :
    Calls Try.prog 22 #[.pointer (some ⟨b, 0, none⟩), v, .int .i64 i] w fun e w' => e = .returned (.bool q) ∧ OwnT a w' S b R n ∧ Below w.heap.size w w' := by
  obtain ⟨g0, c, K, d, rfl, y, y0, y1, y2, yk⟩ := t.reads hi
  have hpi := (t.at hi).2
  have hm := iv.few
  have hi2 : (i : Int) < (m : Int) := by omega
  have hi3 : (i : Int) ≤ 8 := by omega
  have hi4 : (0 : Int) ≤ (i : Int) := Int.natCast_nonneg _
  have HO := Lib.hid o
  have HOd := Lib.hid (o.go ((Below.refl _ w).drew))
  cases hd : (W i).done with
  | true =>
    obtain rfl : q = false := by rw [← hq]; simp [mayGo, hd]
    rw [hd] at y2
    clear hq hd yk t o iv hm hi
    generalize p i = pi at *
    generalize (W i).n = N at *
    generalize (W i).len = L at *
    go_enter Try.func22, Try.ntmps22
    go_wp2_with fail
    go_quiet (fail)
    all_goals
      go_wp2_with fail
      go_ret
      exact ⟨rfl, HO.out.go (below_drewN (Below.refl _ _) _), below_drewN (Below.refl _ _) _⟩
  | false =>
    rw [hd] at y2
    by_cases h0 : (W i).n = 0
    · obtain rfl : q = true := by rw [← hq]; simp [mayGo, hd, h0]
      rw [h0] at y1
      clear hq hd yk t o iv hm hi h0
      generalize p i = pi at *
      generalize (W i).len = L at *
      go_enter Try.func22, Try.ntmps22
      go_wp2_with fail
      go_quiet (fail)
      all_goals
        go_wp2_with fail
        go_ret
        exact ⟨rfl, HO.out.go (below_drewN (Below.refl _ _) _), below_drewN (Below.refl _ _) _⟩
    · obtain ⟨k, hk⟩ : ∃ k, (W i).n = k + 1 := ⟨(W i).n - 1, by omega⟩
      have hnle := iv.nle i hi
      have hsh := iv.keys.short i hi
      obtain ⟨gk, rfl, hgk, _, yk⟩ := yk k (by omega)
      have hkb := iv.keys.pos i hi k (by omega)
      have hq2 : holdd R ((i : Int) + 1) ((W i).key k) = q := by rw [← hq]; simp [mayGo, hd, hk, thOf]
      have HF : Hid (Fits ((W i).key k)) := fits_small (by omega) (by omega)
      have HQ := Lib.hid hq2
      have hy1 : w.cell? ⟨p i, 1, none⟩ = some (.int .i64 ((k : Int) + 1)) := by rw [y1, hk]; simp
      have hkl : (k : Int) < ((W i).len : Int) := by omega
      have hk8 : (k : Int) ≤ 8 := by omega
      have hk0 : (0 : Int) ≤ (k : Int) := Int.natCast_nonneg _
      have HT : Hid (g0 < w.heap.size) := by
        rcases t.row.2 with ⟨h1, _⟩ | ⟨g', _, _, h1, _, h2, _⟩
        · cases h1
        · simp only [Value.slice.injEq, Option.some.injEq, Addr.mk.injEq] at h1
          rw [h1.1.1]; exact row_lt h2
      obtain ⟨N, hN⟩ : ∃ N : Int, N = (k : Int) + 1 := ⟨_, rfl⟩
      rw [← hN] at hy1
      have hnz : (N == 0) = false := by rw [hN]; simp; omega
      have hnw : IntKind.i64.wrap (N - 1) = (k : Int) := by rw [hN, IntKind.wrap_i64]; omega
      have hnn : decide ((k : Int) < 0) = false := by simp
      clear hN
      obtain ⟨th, hth⟩ : ∃ th : Int, (i : Int) + 1 = th := ⟨_, rfl⟩
      have hthw : IntKind.i64.wrap th = th := by rw [← hth, IntKind.wrap_i64]; omega
      rw [hth] at HQ
      clear hq hd t o iv hm hi h0 y1 hq2 hkb hnle hsh hk
      generalize p i = pi at *
      generalize (W i).len = L at *
      generalize (W i).key k = key at *
      go_enter Try.func22, Try.ntmps22
      go_wp2_with fail
      go_region_held3 (fun w' => w'.cell? ⟨pi, 2, none⟩ = some (.bool false) ∧ w'.cell? ⟨pi, 1, none⟩ = some (.int .i64 N) ∧ w'.cell? ⟨pi, 0, none⟩ = some (.slice (some ⟨gk, 0, none⟩) L d) ∧ w'.cell? ⟨gk, k, none⟩ = some (.int .i64 key)) (go_keep)
        ((first
          | (go_at_call 16
             refine (HOd.out.holds th key HF.out hn q HQ.out).mono ?_
             rintro e w6 ⟨rfl, ho6, hb6⟩
             have z2 : w6.cell? ⟨pi, 2, none⟩ = some (.bool false) := (hb6.cell (p := ⟨pi, 2, none⟩) hpi).trans y2
             have z1 : w6.cell? ⟨pi, 1, none⟩ = some (.int .i64 N) := (hb6.cell (p := ⟨pi, 1, none⟩) hpi).trans hy1
             have z0 : w6.cell? ⟨pi, 0, none⟩ = some (.slice (some ⟨gk, 0, none⟩) L d) := (hb6.cell (p := ⟨pi, 0, none⟩) hpi).trans y0
             have zk : w6.cell? ⟨gk, k, none⟩ = some (.int .i64 key) := (hb6.cell (p := ⟨gk, k, none⟩) hgk).trans yk
             have HO6 := Lib.hid ho6
             have HB6 := Lib.hid hb6
             clear ho6 hb6)))
      all_goals
        go_wp2_with fail
        go_ret
        exact ⟨rfl, HO6.out, ((Below.refl _ _).drew).trans HB6.out⟩
end Go.Proofs.Ytfaahhipddlmgaa.KMay
