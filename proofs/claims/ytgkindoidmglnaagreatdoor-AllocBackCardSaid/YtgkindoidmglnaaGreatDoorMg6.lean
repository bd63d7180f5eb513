/- Find of the program. -/
import Derived.Test.YtgkindoidmglnaaGreatDoorMg5
import Derived.Deep.RegionWith
import Derived.Deep.QuietTactic
import Derived.BigQuiet
import Derived.Test.YtgkindoidmglnaaGreatDoorMg2
namespace Go.Proofs.YtgkindoidmglnaaGreatDoor.TFind
open Go.RowKit WMem WPlain TPlain TBits TSet TWalk TOrd TCut TBud

def goalB (l : List UInt8) (goal : Int) : Bool := placeB goal && fr l goal.toNat
/-- the order that is chosen; -1: none -/
def pick (l : List UInt8) (want : Int) : Int := chs (hasB (ordN l)) (ordOf want)
def fI (l : List UInt8) (goal want : Int) : Int := if want < 1 then 0 else if goalB l goal = true then goal else if pick l want < 0 then 0 else (firN l (pick l want).toNat : Nat)
def fN (l : List UInt8) (goal want : Int) : Int := if want < 1 then 0 else if goalB l goal = true then (run (fr l) goal.toNat want.toNat : Nat) else if pick l want < 0 then 0 else min want ((2 ^ (pick l want).toNat : Nat) : Int)
def fOk (l : List UInt8) (goal want : Int) : Bool := if want < 1 then false else if goalB l goal = true then true else if pick l want < 0 then false else true
/-- what Find answers -/
def findV (l : List UInt8) (goal want : Int) : Value := .tuple #[.int .i64 (fI l goal want), .int .i64 (fN l goal want), .bool (fOk l goal want)]
theorem findV_small {l : List UInt8} {goal want : Int} (h : want < 1) : findV l goal want = .tuple #[.int .i64 0, .int .i64 0, .bool false] := by
  simp [findV, fI, fN, fOk, h]
theorem findV_goal {l : List UInt8} {goal want : Int} (h : ¬ want < 1) (hg : goalB l goal = true) : findV l goal want = .tuple #[.int .i64 goal, .int .i64 (run (fr l) goal.toNat want.toNat : Nat), .bool true] := by
  simp [findV, fI, fN, fOk, h, hg]
theorem findV_none {l : List UInt8} {goal want : Int} (h : ¬ want < 1) (hg : goalB l goal = false) (hp : pick l want < 0) : findV l goal want = .tuple #[.int .i64 0, .int .i64 0, .bool false] := by
  simp [findV, fI, fN, fOk, h, hg, hp]
theorem findV_some {l : List UInt8} {goal want : Int} (h : ¬ want < 1) (hg : goalB l goal = false) (hp : ¬ pick l want < 0) : findV l goal want = .tuple #[.int .i64 (firN l (pick l want).toNat : Nat), .int .i64 (min want ((2 ^ (pick l want).toNat : Nat) : Int)), .bool true] := by
  simp [findV, fI, fN, fOk, h, hg, hp]

theorem setRow_self_row {w : World} {g : Nat} {T : TypeId} {xs : List Value} {old : Array Value} (h : w.heap[g]? = some (.cells old T (0, 0))) : RowV (w.setRow g xs.toArray) g T xs := setRow_heap w g old xs.toArray T (0, 0) h

set_option maxHeartbeats 400000 in
set_option maxRecDepth 100000 in
theorem Find_small (len : Nat) (A : Option Addr) (c : Nat) (goal want : Int) (w : World) (h : want < 1) :
    Calls Tryz.prog 63 #[.slice A len c, .int .i64 goal, .int .i64 want] w fun e w' => e = .returned (.tuple #[.int .i64 0, .int .i64 0, .bool false]) ∧ Below w.heap.size w w' := by
  go_enter Tryz.func63, Tryz.ntmps63
  go_wp2
  go_ret3
  exact ⟨rfl, Below.refl _ _⟩
set_option maxHeartbeats 400000 in
set_option maxRecDepth 100000 in
theorem Find_goal (l : List UInt8) (len : Nat) (hlen : l.length = len) (B : Nat) (A : Option Addr) (c goal : Nat) (want : Int) (w : World) (hg : goal < 2016) (hf : fr l goal = true) (h : ¬ want < 1) (hl : len ≤ 140737488355328) (hA : Sl w B A (l.map u8v)) :
    Calls Tryz.prog 63 #[.slice A len c, .int .i64 goal, .int .i64 want] w fun e w' => e = .returned (.tuple #[.int .i64 goal, .int .i64 (run (fr l) goal want.toNat : Nat), .bool true]) ∧ Below w.heap.size w w' := by
  have HL := Lib.hid hlen
  have HA := Lib.hid hA
  have HF := Lib.hid hf
  have hp : placeB (goal : Int) = true := by simp [placeB]; omega
  have HP := Lib.hid (isPlace_any (goal : Int) w)
  rw [hp] at HP
  clear hlen hA hf hp
  go_enter Tryz.func63, Tryz.ntmps63
  go_wp2_with (first
    | (go_at_call 103; refine HP.out.mono ?_; rintro e w' ⟨rfl, rfl⟩)
    | (go_at_call 90; refine (isSet_at l len HL.out B A c goal _ rfl true HF.out _ hg hl HA.out).mono ?_; rintro e w' ⟨rfl, rfl⟩)
    | (go_at_call 104; refine (freeFrom_any l len HL.out B A c goal want _ hg (by omega) hl HA.out).mono ?_; rintro e w' ⟨rfl, rfl⟩))
  go_ret3
  exact ⟨rfl, Below.refl _ _⟩
/-! Where the goal is not free. -/
theorem row_drew {w : World} {g : Nat} {T : TypeId} {xs : List Value} (h : RowV w g T xs) : RowV w.drew g T xs := h
theorem below_drew {B : Nat} {a w : World} (h : Below B a w) : Below B a w.drew := ⟨h.os, h.tape, h.output, h.size, h.block⟩
theorem eleven {l : List UInt8} {w1 : World} {g : Nat} (hR : RowV w1 g 168 (bcells (fr l) 2016)) : w1.cell? ⟨g, 0, none⟩ = some (.int .i64 (ordN l 0 : Nat)) ∧ w1.cell? ⟨g, 1, none⟩ = some (.int .i64 (ordN l 1 : Nat)) ∧ w1.cell? ⟨g, 2, none⟩ = some (.int .i64 (ordN l 2 : Nat)) ∧ w1.cell? ⟨g, 3, none⟩ = some (.int .i64 (ordN l 3 : Nat)) ∧ w1.cell? ⟨g, 4, none⟩ = some (.int .i64 (ordN l 4 : Nat)) ∧ w1.cell? ⟨g, 5, none⟩ = some (.int .i64 (ordN l 5 : Nat)) ∧ w1.cell? ⟨g, 6, none⟩ = some (.int .i64 (ordN l 6 : Nat)) ∧ w1.cell? ⟨g, 7, none⟩ = some (.int .i64 (ordN l 7 : Nat)) ∧ w1.cell? ⟨g, 8, none⟩ = some (.int .i64 (ordN l 8 : Nat)) ∧ w1.cell? ⟨g, 9, none⟩ = some (.int .i64 (ordN l 9 : Nat)) ∧ w1.cell? ⟨g, 10, none⟩ = some (.int .i64 (ordN l 10 : Nat)) :=
  have h : ∀ k, k < 11 → w1.cell? ⟨g, k, none⟩ = some (.int .i64 (ordN l k : Nat)) := fun k hk => by
    rw [row_cell hR k, List.getElem?_toArray, bcells_cnt (fr l) 2016 hk, ordN]
  ⟨h 0 (by decide), h 1 (by decide), h 2 (by decide), h 3 (by decide), h 4 (by decide), h 5 (by decide), h 6 (by decide), h 7 (by decide), h 8 (by decide), h 9 (by decide), h 10 (by decide)⟩
theorem nth {l : List UInt8} {w1 : World} {g : Nat} (hR : RowV w1 g 168 (bcells (fr l) 2016)) {k : Nat} (hk : k < 11) : w1.cell? ⟨g, 11 + k, none⟩ = some (.int .i64 (firN l k : Nat)) :=
  by rw [row_cell hR (11 + k), List.getElem?_toArray, bcells_fst (fr l) 2016 hk, firN]
theorem pick_le (l : List UInt8) (want : Int) : -1 ≤ pick l want ∧ pick l want ≤ 10 := by
  unfold pick chs chsO
  have ho := ordOf_le want
  cases e : upFrom (hasB (ordN l)) (ordOf want) (11 - ordOf want) with
  | some r => have := upFrom_some e; simp [optI]; omega
  | none =>
    cases e2 : downFrom (hasB (ordN l)) (ordOf want) with
    | some r => have := downFrom_some e2; simp [optI]; omega
    | none => simp [optI]
theorem choose_p (l : List UInt8) (want x : Int) (hx : pick l want = x) (w : World) :
    Calls Tryz.prog 106 #[arr (ordN l), .int .i64 (ordOf want : Nat)] w fun e w' => e = .returned (.int .i64 x) ∧ Below w.heap.size w w' := by
  subst hx
  exact choose_any (ordN l) (ordOf want) (ordOf_le want) w
theorem ret_v {a b : Value} (h : a = b) : Ending.returned a = .returned b := by rw [h]
theorem findV_want {l : List UInt8} {goal want : Int} {r q : Nat} (h : ¬ want < 1) (hg : goalB l goal = false) (hp : pick l want = (r : Int)) (hq : 2 ^ r = q) (hm : want ≤ (q : Int)) : findV l goal want = .tuple #[.int .i64 (firN l r : Nat), .int .i64 want, .bool true] := by
  rw [findV_some h hg (by omega), hp, Int.toNat_natCast, hq, Int.min_eq_left hm]
theorem findV_full {l : List UInt8} {goal want : Int} {r q : Nat} (h : ¬ want < 1) (hg : goalB l goal = false) (hp : pick l want = (r : Int)) (hq : 2 ^ r = q) (hm : (q : Int) < want) : findV l goal want = .tuple #[.int .i64 (firN l r : Nat), .int .i64 (q : Int), .bool true] := by
  rw [findV_some h hg (by omega), hp, Int.toNat_natCast, hq, Int.min_eq_right (by omega)]
set_option maxHeartbeats 1000000 in
set_option maxRecDepth 100000 in
theorem Find_else1 (l : List UInt8) (len : Nat) (hlen : l.length = len) (B : Nat) (A : Option Addr) (c : Nat) (goal want : Int) (w : World) (hB : B ≤ w.heap.size) (h : ¬ want < 1) (hg : placeB goal = false) (hl : len ≤ 140737488355328) (hA : Sl w B A (l.map u8v)) :
    Calls Tryz.prog 63 #[.slice A len c, .int .i64 goal, .int .i64 want] w fun e w' => e = .returned (findV l goal want) ∧ Below w.heap.size w w' := by
  have HL := Lib.hid hlen
  have HA := Lib.hid hA
  have HB := Lib.hid hB
  have HP := Lib.hid (isPlace_any goal w)
  rw [hg] at HP
  have HV : Hid (goalB l goal = false) := Lib.hid (by unfold goalB; rw [hg]; rfl)
  clear hg
  clear hlen hA hB
  have HX := Lib.hid (infoB (fr l) 2016)
  obtain ⟨x, hx⟩ : ∃ x, pick l want = x := ⟨_, rfl⟩
  have hxl := pick_le l want
  rw [hx] at hxl
  have HXP := Lib.hid hx
  clear hx
  go_enter Tryz.func63, Tryz.ntmps63
  go_wp2_with (first
    | (go_at_call 103; refine HP.out.mono ?_; rintro e w' ⟨rfl, rfl⟩)
    | (go_at_call 105; refine (buddiesOf_any l len HL.out B A c _ HB.out hl HA.out).mono ?_; rintro e w1 ⟨rfl, hb1⟩
       have HB1 := Lib.hid hb1
       clear hb1)
    | (refine wpList_store_row rfl 168 (.tmp 9) (.tmp 27) rfl w1.heap.size (bcells (fr l) 2016).toArray rfl rfl 168 zeros22 (row_new w1 _) HX.out (by simp [bcells_len]) (oneB _ _) ?_))
  have HR : Hid (RowV ((w1.alloc (.cells zeros22 168)).setRow w1.heap.size (bcells (fr l) 2016).toArray) w1.heap.size 168 (bcells (fr l) 2016)) := Lib.hid (setRow_self_row (row_new w1 _))
  have hs1 := HB1.out.size
  have HC : Hid (Below w.heap.size w ((w1.alloc (.cells zeros22 168)).setRow w1.heap.size (bcells (fr l) 2016).toArray)) := Lib.hid (below_setRow (HB1.out.alloc hs1 _) hs1 _)
  generalize (w1.alloc (.cells zeros22 168)).setRow w1.heap.size (bcells (fr l) 2016).toArray = w2 at *
  generalize w1.heap.size = g at *
  obtain ⟨c0, c1, c2, c3, c4, c5, c6, c7, c8, c9, c10⟩ := eleven HR.out
  go_region_with (first
    | (go_at_call 107; refine (orderOf_any want _).mono ?_; rintro e w' ⟨rfl, rfl⟩)
    | (go_at_call 106; refine (choose_p l want x HXP.out _).mono ?_; rintro e w3 ⟨rfl, hb3⟩
       have HR3 : Hid (RowV w3 g 168 (bcells (fr l) 2016)) := Lib.hid (row_below (row_drew HR.out) hb3 HR.out.lt)
       have HB3 : Hid (Below w.heap.size w w3) := Lib.hid ((below_drew HC.out).trans (hb3.mono HC.out.size))
       clear hb3))
  all_goals
    by_cases hp : x < 0
    · go_wp2
      go_ret3
      exact ⟨ret_v (findV_none (by omega) HV.out (by rw [HXP.out]; exact hp)).symm, HB3.out⟩
    · obtain ⟨r, rfl⟩ := Int.eq_ofNat_of_zero_le (show 0 ≤ x by omega)
      have hr : r ≤ 10 := by omega
      have hrI : (r : Int) < 11 := by omega
      have hcell := nth HR3.out (show r < 11 by omega)
      have hpw := pow10 hr
      obtain ⟨q, hq⟩ : ∃ q, 2 ^ r = q := ⟨_, rfl⟩
      have hw : wrap64 (2 ^ r) = (q : Int) := by
        have e1 : (2 ^ r : Int) = (q : Int) := by rw [← hq]; push_cast; rfl
        rw [e1, IntWalk.wrap64_in _ ⟨by omega, by omega⟩]
      rw [hq] at hpw
      have HQ := Lib.hid hq
      clear hq
      by_cases hm : want ≤ (q : Int)
      · have hm2 : ¬ ((q : Int) < want) := by omega
        go_wp2
        go_quiet (fail)
        go_wp2
        go_ret3
        exact ⟨ret_v (findV_want (by omega) HV.out HXP.out HQ.out hm).symm, below_drewN HB3.out _⟩
      · have hm2 : (q : Int) < want := by omega
        go_wp2
        go_quiet (fail)
        go_wp2
        go_ret3
        exact ⟨ret_v (findV_full (by omega) HV.out HXP.out HQ.out hm2).symm, below_drewN HB3.out _⟩
set_option maxHeartbeats 1000000 in
set_option maxRecDepth 100000 in
theorem Find_else2 (l : List UInt8) (len : Nat) (hlen : l.length = len) (B : Nat) (A : Option Addr) (c : Nat) (goal want : Int) (w : World) (hB : B ≤ w.heap.size) (h : ¬ want < 1) (gn : Nat) (hgn : goal = (gn : Int)) (hg : gn < 2016) (hf : fr l gn = false) (hl : len ≤ 140737488355328) (hA : Sl w B A (l.map u8v)) :
    Calls Tryz.prog 63 #[.slice A len c, .int .i64 goal, .int .i64 want] w fun e w' => e = .returned (findV l goal want) ∧ Below w.heap.size w w' := by
  have HL := Lib.hid hlen
  have HA := Lib.hid hA
  have HB := Lib.hid hB
  subst hgn
  have HP := Lib.hid (isPlace_any (gn : Int) w)
  rw [show placeB (gn : Int) = true by simp [placeB]; omega] at HP
  have HV : Hid (goalB l (gn : Int) = false) := Lib.hid (by unfold goalB; rw [Int.toNat_natCast, hf]; simp)
  have HF := Lib.hid hf
  clear hf
  clear hlen hA hB
  have HX := Lib.hid (infoB (fr l) 2016)
  obtain ⟨x, hx⟩ : ∃ x, pick l want = x := ⟨_, rfl⟩
  have hxl := pick_le l want
  rw [hx] at hxl
  have HXP := Lib.hid hx
  clear hx
  go_enter Tryz.func63, Tryz.ntmps63
  go_wp2_with (first
    | (go_at_call 103; refine HP.out.mono ?_; rintro e w' ⟨rfl, rfl⟩)
    | (go_at_call 90; refine (isSet_at l len HL.out B A c gn _ rfl false HF.out _ hg hl HA.out).mono ?_; rintro e w' ⟨rfl, rfl⟩)
    | (go_at_call 105; refine (buddiesOf_any l len HL.out B A c _ HB.out hl HA.out).mono ?_; rintro e w1 ⟨rfl, hb1⟩
       have HB1 := Lib.hid hb1
       clear hb1)
    | (refine wpList_store_row rfl 168 (.tmp 9) (.tmp 27) rfl w1.heap.size (bcells (fr l) 2016).toArray rfl rfl 168 zeros22 (row_new w1 _) HX.out (by simp [bcells_len]) (oneB _ _) ?_))
  have HR : Hid (RowV ((w1.alloc (.cells zeros22 168)).setRow w1.heap.size (bcells (fr l) 2016).toArray) w1.heap.size 168 (bcells (fr l) 2016)) := Lib.hid (setRow_self_row (row_new w1 _))
  have hs1 := HB1.out.size
  have HC : Hid (Below w.heap.size w ((w1.alloc (.cells zeros22 168)).setRow w1.heap.size (bcells (fr l) 2016).toArray)) := Lib.hid (below_setRow (HB1.out.alloc hs1 _) hs1 _)
  generalize (w1.alloc (.cells zeros22 168)).setRow w1.heap.size (bcells (fr l) 2016).toArray = w2 at *
  generalize w1.heap.size = g at *
  obtain ⟨c0, c1, c2, c3, c4, c5, c6, c7, c8, c9, c10⟩ := eleven HR.out
  go_region_with (first
    | (go_at_call 107; refine (orderOf_any want _).mono ?_; rintro e w' ⟨rfl, rfl⟩)
    | (go_at_call 106; refine (choose_p l want x HXP.out _).mono ?_; rintro e w3 ⟨rfl, hb3⟩
       have HR3 : Hid (RowV w3 g 168 (bcells (fr l) 2016)) := Lib.hid (row_below (row_drew HR.out) hb3 HR.out.lt)
       have HB3 : Hid (Below w.heap.size w w3) := Lib.hid ((below_drew HC.out).trans (hb3.mono HC.out.size))
       clear hb3))
  all_goals
    by_cases hp : x < 0
    · go_wp2
      go_ret3
      exact ⟨ret_v (findV_none (by omega) HV.out (by rw [HXP.out]; exact hp)).symm, HB3.out⟩
    · obtain ⟨r, rfl⟩ := Int.eq_ofNat_of_zero_le (show 0 ≤ x by omega)
      have hr : r ≤ 10 := by omega
      have hrI : (r : Int) < 11 := by omega
      have hcell := nth HR3.out (show r < 11 by omega)
      have hpw := pow10 hr
      obtain ⟨q, hq⟩ : ∃ q, 2 ^ r = q := ⟨_, rfl⟩
      have hw : wrap64 (2 ^ r) = (q : Int) := by
        have e1 : (2 ^ r : Int) = (q : Int) := by rw [← hq]; push_cast; rfl
        rw [e1, IntWalk.wrap64_in _ ⟨by omega, by omega⟩]
      rw [hq] at hpw
      have HQ := Lib.hid hq
      clear hq
      by_cases hm : want ≤ (q : Int)
      · have hm2 : ¬ ((q : Int) < want) := by omega
        go_wp2
        go_quiet (fail)
        go_wp2
        go_ret3
        exact ⟨ret_v (findV_want (by omega) HV.out HXP.out HQ.out hm).symm, below_drewN HB3.out _⟩
      · have hm2 : (q : Int) < want := by omega
        go_wp2
        go_quiet (fail)
        go_wp2
        go_ret3
        exact ⟨ret_v (findV_full (by omega) HV.out HXP.out HQ.out hm2).symm, below_drewN HB3.out _⟩
theorem Find_any (l : List UInt8) (len : Nat) (hlen : l.length = len) (B : Nat) (A : Option Addr) (c : Nat) (goal want : Int) (w : World) (hB : B ≤ w.heap.size) (hl : len ≤ 140737488355328) (hA : Sl w B A (l.map u8v)) :
    Calls Tryz.prog 63 #[.slice A len c, .int .i64 goal, .int .i64 want] w fun e w' => e = .returned (findV l goal want) ∧ Below w.heap.size w w' := by
  by_cases h : want < 1
  · rw [findV_small h]
    exact Find_small len A c goal want w h
  · cases hp : placeB goal with
    | false => exact Find_else1 l len hlen B A c goal want w hB h hp hl hA
    | true =>
      have hp2 : 0 ≤ goal ∧ goal < 2016 := by simpa [placeB] using hp
      obtain ⟨gn, rfl⟩ := Int.eq_ofNat_of_zero_le hp2.1
      cases hf : fr l gn with
      | true =>
        rw [findV_goal h (by unfold goalB; rw [hp, Int.toNat_natCast, hf]; rfl)]
        exact Find_goal l len hlen B A c gn want w (by omega) hf h hl hA
      | false => exact Find_else2 l len hlen B A c gn want w hB h gn rfl (by omega) hf hl hA
end Go.Proofs.YtgkindoidmglnaaGreatDoor.TFind
/- What follows for what is found, in plain mathematics. -/
namespace Go.Proofs.YtgkindoidmglnaaGreatDoor.TFacts
open WPlain TPlain TBits TSet TOrd TFind TNext

theorem frBig (l : List UInt8) : ∀ j, 2016 ≤ j → fr l j = false := fun _ h => fr_big h
/-- the chunks of all orders together have just as many bits as are free -/
theorem sum_zeros (l : List UInt8) : sumTo (fun k => ordN l k * 2 ^ k) 11 = zeros l := parts 2016 (frBig l)
theorem pick_has {l : List UInt8} {want : Int} {r : Nat} (h : pick l want = (r : Int)) : r ≤ 10 ∧ 0 < ordN l r := by
  unfold pick chs at h
  have ho := ordOf_le want
  cases e : chsO (hasB (ordN l)) (ordOf want) with
  | none => rw [e] at h; simp [optI] at h
  | some x =>
    rw [e] at h
    simp only [optI] at h
    have hx : x = r := by omega
    subst hx
    unfold chsO at e
    cases e1 : upFrom (hasB (ordN l)) (ordOf want) (11 - ordOf want) with
    | some y =>
      rw [e1] at e
      simp at e
      subst e
      obtain ⟨h1, h2, h3, _⟩ := upFrom_some e1
      exact ⟨by omega, by simpa [hasB] using h3⟩
    | none =>
      rw [e1] at e
      simp at e
      obtain ⟨h1, h2, _⟩ := downFrom_some e
      exact ⟨by omega, by simpa [hasB] using h2⟩
theorem pick_not {l : List UInt8} {want : Int} (h : pick l want < 0) : ∀ k, k ≤ 10 → ordN l k = 0 := by
  unfold pick chs at h
  have ho := ordOf_le want
  cases e : chsO (hasB (ordN l)) (ordOf want) with
  | some x => rw [e] at h; simp [optI] at h; omega
  | none =>
    unfold chsO at e
    cases e1 : upFrom (hasB (ordN l)) (ordOf want) (11 - ordOf want) with
    | some y => rw [e1] at e; simp at e
    | none =>
      rw [e1] at e
      simp at e
      intro k hk
      have hp : hasB (ordN l) k = false := by
        by_cases hk2 : k < ordOf want
        · exact downFrom_none e k hk2
        · exact upFrom_none e1 k (by omega) (by omega)
      simpa [hasB] using hp
theorem none_zeros {l : List UInt8} (h : ∀ k, k ≤ 10 → ordN l k = 0) : zeros l = 0 := by
  rw [← sum_zeros, sumTo_congr (g := fun _ => 0) fun k hk => by rw [h k (by omega), Nat.zero_mul]]
  rfl
theorem first_chunk {l : List UInt8} {k : Nat} (h : 0 < ordN l k) : ∀ j, j < 2 ^ k → fr l (firN l k + j) = true :=
  chunk_iff.1 (bud_chunk (fst_bud h).1).2
theorem free_lt {l : List UInt8} {i : Nat} (h : fr l i = true) : i < 2016 := by
  refine Nat.lt_of_not_le fun h2 => ?_
  rw [fr_big h2] at h
  cases h
/-- nothing was found -/
theorem not_found {l : List UInt8} {goal want : Int} (h : fOk l goal want = false) : fI l goal want = 0 ∧ fN l goal want = 0 ∧ (want < 1 ∨ zeros l = 0) := by
  unfold fOk at h
  unfold fI fN
  by_cases h1 : want < 1
  · simp [h1]
  · rw [if_neg h1] at h
    by_cases h2 : goalB l goal = true
    · rw [if_pos h2] at h; cases h
    · rw [if_neg h2] at h
      by_cases h3 : pick l want < 0
      · simp [h1, h2, h3]
        exact none_zeros (pick_not h3)
      · rw [if_neg h3] at h; cases h
/-- what was found is free -/
theorem found {l : List UInt8} {goal want : Int} (h : fOk l goal want = true) : ∃ i n : Nat, fI l goal want = (i : Int) ∧ fN l goal want = (n : Int) ∧ 1 ≤ n ∧ (n : Int) ≤ want ∧ i + n ≤ 2016 ∧ ∀ j, j < n → fr l (i + j) = true := by
  unfold fOk at h
  unfold fI fN
  by_cases h1 : want < 1
  · rw [if_pos h1] at h; cases h
  · rw [if_neg h1] at h
    obtain ⟨m, rfl⟩ := Int.eq_ofNat_of_zero_le (show 0 ≤ want by omega)
    by_cases h2 : goalB l goal = true
    · have h4 : (0 ≤ goal ∧ goal < 2016) ∧ fr l goal.toNat = true := by simpa [goalB, placeB] using h2
      obtain ⟨g, rfl⟩ := Int.eq_ofNat_of_zero_le h4.1.1
      rw [Int.toNat_natCast] at h4
      have hr := run_free (fr l) m g
      have hl := run_le (fr l) m g
      have h1r : 1 ≤ run (fr l) g m := by
        cases m with
        | zero => omega
        | succ m => simp only [run]; rw [if_pos h4.2]; omega
      refine ⟨g, run (fr l) g m, by simp [h1, h2], by simp [h1, h2], h1r, by omega, ?_, hr⟩
      have := free_lt (hr (run (fr l) g m - 1) (by omega))
      omega
    · rw [if_neg h2] at h
      by_cases h3 : pick l (m : Int) < 0
      · rw [if_pos h3] at h; cases h
      · obtain ⟨r, hr⟩ := Int.eq_ofNat_of_zero_le (show 0 ≤ pick l (m : Int) by omega)
        obtain ⟨hr10, hpos⟩ := pick_has hr
        have hc := first_chunk hpos
        have hp := two_pow_pos r
        rw [if_neg h1, if_neg h1, if_neg h2, if_neg h2, if_neg h3, if_neg h3, hr]
        simp only [Int.toNat_natCast]
        refine ⟨firN l r, min m (2 ^ r), rfl, by omega, by omega, by omega, ?_, fun j hj => hc j (by omega)⟩
        have := free_lt (hc (min m (2 ^ r) - 1) (by omega))
        omega
end Go.Proofs.YtgkindoidmglnaaGreatDoor.TFacts
