/- goes: a walker goes a step. -/
import Derived.Test.YtfaahhipddlmgaaKMay
namespace Go.Proofs.Ytfaahhipddlmgaa.KGoes
open Go.RowKit WMem Ext KMap KPlain KMem KAsk KLeave KLaw KScript KWPlain KWMem

/-- a table of the law's own, and walkers beside it -/
structure Crew (a w : World) (S T : Nat → Prop) (b : Nat) (R : Rw) (n : Nat) (v : Value) (p : Nat → Nat) (W : Nat → Wk) (m : Nat) : Prop where
  own : OwnT a w S b R n
  team : Team a w T v p W m
  far : Far S T
section
variable {a w w' : World} {S T : Nat → Prop} {b n m : Nat} {R : Rw} {v : Value} {p : Nat → Nat} {W : Nat → Wk}
theorem Crew.go (h : Crew a w S T b R n v p W m) (hb : Below w.heap.size w w') : Crew a w' S T b R n v p W m := ⟨h.own.go hb, h.team.below hb, h.far⟩
theorem Crew.mono (h : Crew a w S T b R n v p W m) {n' : Nat} (hn : n ≤ n') : Crew a w S T b R n' v p W m := ⟨h.own.mono hn, h.team, h.far⟩
theorem Crew.ask (h : Crew a w S T b R n v p W m) (th key : Int) (al : Bool) (hk : Fits key) (hn : n < 1073741824) :
    Calls Try.prog 12 #[.pointer (some ⟨b, 0, none⟩), .int .i64 th, .int .i64 key, .bool al] w fun e w' => ∃ q, e = .returned (.int .i64 q) ∧ ∃ S', Crew a w' S' T b (askd R th key al) (n + 1) v p W m ∧ Ext S w w' := by
  refine (Ask_tab S b n R th key al w h.own.tab hk hn).mono ?_
  rintro e w' ⟨rfl, S', h1, h2, h3⟩
  exact ⟨_, rfl, S', ⟨h.own.turn h1 h2 h3, h.team.ext h2 h.far, h.far.step h3 h.team.there⟩, h2⟩
theorem Crew.leave (h : Crew a w S T b R n v p W m) (th key : Int) (hk : Fits key) (hn : n < 1073741824) :
    Calls Try.prog 14 #[.pointer (some ⟨b, 0, none⟩), .int .i64 th, .int .i64 key] w fun e w' => ∃ q, e = .returned (.int .i64 q) ∧ ∃ S', Crew a w' S' T b (leavd R th key) (n + 1) v p W m ∧ Ext S w w' := by
  refine (Leave_tab S b n R th key w h.own.tab hk hn).mono ?_
  rintro e w' ⟨rfl, S', h1, h2, h3⟩
  exact ⟨_, rfl, S', ⟨h.own.turn h1 h2 h3, h.team.ext h2 h.far, h.far.step h3 h.team.there⟩, h2⟩
theorem Crew.set (h : Crew a w S T b R n v p W m) {i : Nat} (hi : i < m) (j : Nat) (u : Value) {W' : Nat → Wk} (ht : Team a (w.setCell ⟨p i, j, none⟩ u) T v p W' m) : Crew a (w.setCell ⟨p i, j, none⟩ u) S T b R n v p W' m := by
  have he : Ext (fun q => q = p i) w (w.setCell ⟨p i, j, none⟩ u) := (Ext.refl (fun q => q = p i) w).setCell (p := ⟨p i, j, none⟩) (.inl rfl) u
  have hT := (h.team.at hi).1
  refine ⟨⟨h.own.tab.ext he (fun q h1 h2 => by subst h1; exact h.far _ h2 hT), h.own.new, h.own.below.trans (he.below h.own.below.size (fun q hq => by subst hq; exact h.team.new _ hT))⟩, ht, h.far⟩
theorem Crew.more (h : Crew a w S T b R n v p W m) {i : Nat} (hi : i < m) : Crew a (w.setCell ⟨p i, 1, none⟩ (.int .i64 ((W i).n + 1 : Nat))) S T b R n v p (upd W i (more (W i))) m := h.set hi _ _ (h.team.more hi)
theorem Crew.ends (h : Crew a w S T b R n v p W m) {i : Nat} (hi : i < m) : Crew a (w.setCell ⟨p i, 2, none⟩ (.bool true)) S T b R n v p (upd W i (ended (W i))) m := h.set hi _ _ (h.team.ends hi)
theorem Team.free (h : Team a w T v p W m) {i : Nat} (hi : i < m) (j : Nat) : w.frozen? ⟨p i, j, none⟩ = false := by
  obtain ⟨⟨K, c, h1, _, _⟩, _⟩ := h.body i hi
  exact row_free h1 j
end

set_option maxRecDepth 100000 in
set_option maxHeartbeats 800000 in
theorem goes_more {a : World} {S T : Nat → Prop} {b n m : Nat} {R : Rw} {v : Value} {p : Nat → Nat} {W : Nat → Wk} (i : Nat) (al : Bool) (w : World) (o : Crew a w S T b R n v p W m) (iv : Inv R W m) (hi : i < m) (hlt : (W i).n < (W i).len) (hn : n < 1073741824) :
    Calls Try.prog 23 #[.pointer (some ⟨b, 0, none⟩), v, .int .i64 i, .bool al] w fun e w' => e = .returned (.tuple #[]) ∧ ∃ S', Crew a w' S' T b (askd R (thOf i) ((W i).key (W i).n) al) (n + 1) v p (upd W i (more (W i))) m := by
  obtain ⟨g0, c, K, d, rfl, y, y0, y1, y2, yk⟩ := o.team.reads hi
  have hpi := (o.team.at hi).2
  have hm := iv.few
  have hi2 : (i : Int) < (m : Int) := by omega
  have hi3 : (i : Int) ≤ 8 := by omega
  have hi4 : (0 : Int) ≤ (i : Int) := Int.natCast_nonneg _
  have hsh := iv.keys.short i hi
  obtain ⟨gk, rfl, hgk, hTk, yk2⟩ := yk _ hlt
  have HTK : Hid (T gk) := hTk
  have HTP : Hid (T (p i)) := (o.team.at hi).1
  have hkb := iv.keys.pos i hi _ hlt
  have HF : Hid (Fits ((W i).key (W i).n)) := fits_small (by omega) (by omega)
  have hkl : ((W i).n : Int) < ((W i).len : Int) := by omega
  have hk8 : ((W i).n : Int) ≤ 8 := by omega
  have hk0 : (0 : Int) ≤ ((W i).n : Int) := Int.natCast_nonneg _
  obtain ⟨th, hth⟩ : ∃ th : Int, (i : Int) + 1 = th := ⟨_, rfl⟩
  have hthw : IntKind.i64.wrap th = th := by rw [← hth, IntKind.wrap_i64]; omega
  have HTH : Hid (th = thOf i) := hth.symm
  have HI : Hid (i < m) := hi
  have HO := Lib.hid o
  clear o iv hm hi hlt hkb hsh y2 yk hTk
  generalize hK : (W i).key (W i).n = key at *
  generalize hN : (W i).n = N at *
  generalize hP : p i = pi at *
  generalize (W i).len = L at *
  have HK := Lib.hid hK
  have HNN := Lib.hid hN
  have HP := Lib.hid hP
  clear hK hN hP
  go_enter Try.func23, Try.ntmps23
  go_wp2_with fail
  go_quiet (fail)
  have hb1 : Below w.heap.size w (w.drewN nq) := below_drewN (Below.refl _ _) nq
  have x0 : (w.drewN nq).cell? ⟨pi, 0, none⟩ = some (.slice (some ⟨gk, 0, none⟩) L d) := y0
  have x1 : (w.drewN nq).cell? ⟨pi, 1, none⟩ = some (.int .i64 N) := y1
  have xk : (w.drewN nq).cell? ⟨gk, N, none⟩ = some (.int .i64 key) := yk2
  have HC := Lib.hid (HO.out.go hb1)
  have HCd := Lib.hid (HC.out.go ((Below.refl _ _).drew))
  clear hb1 y y0 y1 yk2
  go_wp2_with fail
  generalize w.drewN nq = w1 at *
  go_region_held3 (fun w' => w'.cell? ⟨pi, 0, none⟩ = some (.slice (some ⟨gk, 0, none⟩) L d) ∧ w'.cell? ⟨pi, 1, none⟩ = some (.int .i64 N) ∧ w'.cell? ⟨gk, N, none⟩ = some (.int .i64 key)) (go_keep)
    ((first
      | (go_at_call 12
         refine (HCd.out.ask th key al HF.out hn).mono ?_
         rintro e w6 ⟨q, rfl, S6, ho6, he6⟩
         have zz : ∀ g j, T g → w6.cell? ⟨g, j, none⟩ = w1.cell? ⟨g, j, none⟩ := fun g j hg => World.cell?_of_block (he6.block g (HCd.out.team.there g hg) (fun h => HCd.out.far g h hg))
         have z0 : w6.cell? ⟨pi, 0, none⟩ = some (.slice (some ⟨gk, 0, none⟩) L d) := (zz pi 0 HTP.out).trans x0
         have z1 : w6.cell? ⟨pi, 1, none⟩ = some (.int .i64 N) := (zz pi 1 HTP.out).trans x1
         have zk : w6.cell? ⟨gk, N, none⟩ = some (.int .i64 key) := (zz gk N HTK.out).trans xk
         have zf := Team.free ho6.team HI.out 1
         rw [HP.out] at zf
         have HO6 := Lib.hid ho6
         clear zz ho6 he6)))
  all_goals
    go_wp2_with fail
    refine bodyPost_ret (results_none rfl _ _ _) rfl ?_
    have h := HO6.out.more HI.out
    have hc : ((N + 1 : Nat) : Int) = (N : Int) + 1 := by omega
    rw [HP.out, HNN.out, hc] at h
    rw [← HTH.out]
    exact ⟨rfl, _, h⟩

set_option maxRecDepth 100000 in
set_option maxHeartbeats 800000 in
theorem goes_ends {a : World} {S T : Nat → Prop} {b n m : Nat} {R : Rw} {v : Value} {p : Nat → Nat} {W : Nat → Wk} (i : Nat) (al : Bool) (w : World) (o : Crew a w S T b R n v p W m) (iv : Inv R W m) (hi : i < m) (hlt : (W i).n = (W i).len) (hn : n < 1073741800) :
    Calls Try.prog 23 #[.pointer (some ⟨b, 0, none⟩), v, .int .i64 i, .bool al] w fun e w' => e = .returned (.tuple #[]) ∧ ∃ S', Crew a w' S' T b (leaves R (thOf i) (W i).key (W i).len) (n + (W i).len) v p (upd W i (ended (W i))) m := by
  obtain ⟨g0, c, K, d, rfl, y, y0, y1, _, _⟩ := o.team.reads hi
  have hpi := (o.team.at hi).2
  have hm := iv.few
  have hi2 : (i : Int) < (m : Int) := by omega
  have hi3 : (i : Int) ≤ 8 := by omega
  have hi4 : (0 : Int) ≤ (i : Int) := Int.natCast_nonneg _
  have hsh := iv.keys.short i hi
  have HF : Hid (∀ j, j < (W i).len → Fits ((W i).key j)) := fun j hj => by
    have hkb := iv.keys.pos i hi j hj
    exact fits_small (by omega) (by omega)
  obtain ⟨th, hth⟩ : ∃ th : Int, (i : Int) + 1 = th := ⟨_, rfl⟩
  have hthw : IntKind.i64.wrap th = th := by rw [← hth, IntKind.wrap_i64]; omega
  have HTH : Hid (th = thOf i) := hth.symm
  have HI : Hid (i < m) := hi
  have HO := Lib.hid o
  rw [hlt] at y1
  clear o iv hm hi hlt
  obtain ⟨key, hK⟩ : ∃ f, f = (W i).key := ⟨_, rfl⟩
  rw [← hK] at HF ⊢
  generalize hL : (W i).len = L at *
  generalize hP : p i = pi at *
  have HK := Lib.hid hK
  have HL := Lib.hid hL
  have HP := Lib.hid hP
  clear hK hL hP
  go_enter Try.func23, Try.ntmps23
  go_wp2_with fail
  go_quiet (fail)
  have hb1 : Below w.heap.size w (w.drewN nq) := below_drewN (Below.refl _ _) nq
  have HC := Lib.hid (HO.out.go hb1)
  clear hb1 y y0 y1
  go_wp2_with fail
  generalize w.drewN nq = w1 at *
  go_loopw [9] (fun ix wr => ∃ (j : Nat) (S' : Nat → Prop), j ≤ L ∧ ix = .int .i64 j ∧ Crew a wr S' T b (leaves R th key j) (n + j) (.slice (some ⟨g0, 0, none⟩) m c) p W m) (fun ix _ => L - (intOf ix).toNat)
  case atStart => exact ⟨0, S, Nat.zero_le _, rfl, HC.out⟩
  case round =>
    clear HC HO
    obtain ⟨j, S', hj, rfl, hc⟩ := hrel
    obtain ⟨g6, c6, K6, d6, hv6, _, z0, _, z2, zk⟩ := hc.team.reads HI.out
    rw [HP.out, HL.out] at z0
    rw [HP.out] at z2
    rw [HL.out, ← HK.out] at zk
    have HC6 := Lib.hid hc
    have hk0 : (0 : Int) ≤ (j : Int) := Int.natCast_nonneg _
    by_cases hlt : j < L
    · obtain ⟨gk, rfl, hgk, _, zk2⟩ := zk j hlt
      have hkl : (j : Int) < (L : Int) := by omega
      have hk8 : (j : Int) ≤ 8 := by omega
      clear zk hv6 hc
      go_wp2_with fail
      refine (HC6.out.leave th (key j) (HF.out j hlt) (by omega)).mono ?_
      rintro e w7 ⟨q, rfl, S7, hc7, _⟩
      have HC7 := Lib.hid hc7
      clear hc7
      go_wp2_with fail
      go_roundw
      case rel => exact ⟨j + 1, S7, by omega, by go_num, HC7.out⟩
      case measure => simp [intOf]; omega
    · have hend : (L : Int) ≤ (j : Int) := by omega
      have zf := Team.free hc.team HI.out 2
      rw [HP.out] at zf
      have hjL : Hid (j = L) := by have : j = L := by omega
                                   exact this
      clear zk hv6 hc hlt
      go_wp2_with fail
      refine bodyPost_end (results_none rfl _ _ _) rfl ?_
      have h := HC6.out.ends HI.out
      rw [HP.out, hjL.out] at h
      rw [← HTH.out]
      exact ⟨rfl, _, h⟩
end Go.Proofs.Ytfaahhipddlmgaa.KGoes
