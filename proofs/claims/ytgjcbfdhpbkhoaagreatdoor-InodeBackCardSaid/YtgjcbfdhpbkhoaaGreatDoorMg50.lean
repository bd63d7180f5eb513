/- The first block, packed by the document. -/
import Derived.Test.YtgjcbfdhpbkhoaaGreatDoorMg16
import Derived.Test.YtgjcbfdhpbkhoaaGreatDoorMg13
import Derived.Test.YtgjcbfdhpbkhoaaGreatDoorMg10
namespace Go.Proofs.YtgjcbfdhpbkhoaaGreatDoor.SRPack
open Go.RowKit WMem WPlain WFace2 WWide WAny WCrc WSeal WRefPack WRefSeal GPlain GWithin GGeo GGeo2 GFace SNums SPlain SRMay
theorem Boxed.nine {a w : World} {v0 v1 v2 v3 v4 v5 v6 v7 v8 : Value} (h : Boxed a w [v0, v1, v2, v3, v4, v5, v6, v7, v8]) :
    w.cell? ⟨a.heap.size, 0, none⟩ = some v0 ∧ w.cell? ⟨a.heap.size, 1, none⟩ = some v1 ∧ w.cell? ⟨a.heap.size, 2, none⟩ = some v2 ∧ w.cell? ⟨a.heap.size, 3, none⟩ = some v3 ∧ w.cell? ⟨a.heap.size, 4, none⟩ = some v4 ∧
      w.cell? ⟨a.heap.size, 5, none⟩ = some v5 ∧ w.cell? ⟨a.heap.size, 6, none⟩ = some v6 ∧ w.cell? ⟨a.heap.size, 7, none⟩ = some v7 ∧ w.cell? ⟨a.heap.size, 8, none⟩ = some v8 :=
  ⟨h.cell 0 _ rfl, h.cell 1 _ rfl, h.cell 2 _ rfl, h.cell 3 _ rfl, h.cell 4 _ rfl, h.cell 5 _ rfl, h.cell 6 _ rfl, h.cell 7 _ rfl, h.cell 8 _ rfl⟩
theorem sl_new {w : World} {g : Nat} (hg : w.heap.size = g) (cs : List Value) (T : TypeId) : Sl (w.alloc (.cells cs.toArray T)) (g + 1) (some ⟨g, 0, none⟩) cs := by
  subst hg
  exact Sl.of_row (n := cs.length) (row_new _ _) (by omega) (by simp)
theorem refPack_at (len : Nat) (xs : List UInt64) (hlen : xs.length = len) (len' : Nat) (ws : List Int) (hlen' : ws.length = len') (B : Nat) (A A' : Option Addr) (c c' : Nat) (w : World) (size : Nat) (hB : B ≤ w.heap.size) (h : packs xs ws (size : Int)) (hx : fit (nats ws) xs) (hA : Sl w B A (xs.map u64v)) (hA' : Sl w B A' (ws.map i64v)) :
    Calls Tryz.prog 23 #[.slice A len c, .slice A' len' c', .int .i64 (size : Int)] w fun e w' =>
      ∃ g, e = .returned (.tuple #[.slice (some ⟨g, 0, none⟩) size size, .int .i64 0]) ∧ w.heap.size ≤ g ∧ Row w' g (bytesOf_ xs ws (size : Int)) [] ∧ Below w.heap.size w w' := by
  subst hlen
  subst hlen'
  exact refPack_ok xs ws size B A A' c c' w hB h hx hA hA'
theorem own_of_row {w : World} {base g : Nat} {l : List UInt8} (hg : base ≤ g) (hR : Row w g l []) (hl : l.length = (256 : Int).toNat) : Own w base (.slice (some ⟨g, 0, none⟩) 256 256) l := by
  have hl' : l.length = 256 := hl
  exact .inr ⟨g, 256, [], by rw [hl'], hg, by omega, hR⟩
def ucells (b p n j fb fi oo mo : Nat) (cl : Nat) : List Value := [.int .u64 1213813321, .int .u64 1, .int .u64 (b : Int), .int .u64 (p : Int), .int .u64 (n : Int), .int .u64 (j : Int), .int .u64 (fb : Int), .int .u64 (fi : Int), .int .u64 (oo : Int), .int .u64 (mo : Int), .int .u64 (cl : Int)]
theorem u64v_of {x : Nat} (h : x < 4294967296) : u64v (UInt64.ofNat x) = .int .u64 (x : Int) := by
  unfold u64v
  rw [ofNat_small (by omega)]
theorem ucells_eq (b p n j fb fi oo mo : Nat) (cl : Bool) (h : SMay b p n j fb fi oo mo) : (nums (supN b p n j fb fi oo mo cl)).map u64v = ucells b p n j fb fi oo mo (if cl = true then 1 else 0) := by
  obtain ⟨_, _, _, _, _, _, _, _, _, _, _, _, _, _, _, _, _⟩ := h
  have hc : (if cl = true then 1 else 0) < 4294967296 := by split <;> omega
  simp only [nums, supN, List.map_cons, List.map_nil, Int.toNat_natCast, ucells]
  rw [u64v_of (x := 1213813321) (by omega), u64v_of (x := 1) (by omega), u64v_of (x := b) (by omega), u64v_of (x := p) (by omega), u64v_of (x := n) (by omega), u64v_of (x := j) (by omega), u64v_of (x := fb) (by omega), u64v_of (x := fi) (by omega), u64v_of (x := oo) (by omega), u64v_of (x := mo) (by omega), u64v_of hc]
  rfl
def wcells : List Value := [.int .i64 4, .int .i64 2, .int .i64 4, .int .i64 4, .int .i64 4, .int .i64 4, .int .i64 4, .int .i64 4, .int .i64 4, .int .i64 4, .int .i64 1]
theorem wcells_eq : supW.map i64v = wcells := rfl
set_option maxHeartbeats 2000000 in
theorem refPackSuper_nat (b p n j fb fi oo mo : Nat) (cl : Bool) (w : World) (h : supMay b p n j fb fi oo mo = true) :
    Calls Tryz.prog 65 #[.agg #[.int .i64 (b : Int), .int .i64 (p : Int), .int .i64 (n : Int), .int .i64 (j : Int), .int .i64 (fb : Int), .int .i64 (fi : Int), .int .i64 (oo : Int), .int .i64 (mo : Int), .bool cl]] w fun e w' => ∃ v, e = .returned (.tuple #[v, .int .i64 0]) ∧ Own w' w.heap.size v (supBytes b p n j fb fi oo mo cl) ∧ Below w.heap.size w w' := by
  have HX := Lib.hid (Boxed.start w [.int .i64 (b : Int), .int .i64 (p : Int), .int .i64 (n : Int), .int .i64 (j : Int), .int .i64 (fb : Int), .int .i64 (fi : Int), .int .i64 (oo : Int), .int .i64 (mo : Int), .bool cl] 124)
  have hs := supMay_of h
  have HF := Lib.hid (sup_fit cl hs)
  have HU := Lib.hid (ucells_eq b p n j fb fi oo mo cl hs)
  have HP := Lib.hid (sup_packs (supN b p n j fb fi oo mo cl) rfl)
  have H := Lib.hid h
  obtain ⟨_, _, b1, _, p1, _, n1, _, j1, _, fb1, _, fi1, _, oo1, _, mo1⟩ := hs
  clear h
  cases cl
  all_goals
    go_enter Tryz.func65, Tryz.ntmps65
    go_wp2_with fail
    refine (refsuperMay_is b p n j fb fi oo mo _ _ true H.out).mono ?_
    rintro e w1 ⟨rfl, hb1⟩
    have HY := Lib.hid (HX.out.go hb1)
    obtain ⟨c0, c1, c2, c3, c4, c5, c6, c7, c8⟩ := Boxed.nine HY.out
    have hlt := HY.out.lt
    clear hb1
    go_wp2_with fail
    refine (refPack_at 11 _ (by rw [nums_len]; rfl) 11 supW rfl (w1.heap.size + 3) _ _ 11 11 _ 256 (by simp) HP.out HF.out ?_ ?_).mono ?_
    · rw [HU.out]
      refine Sl.up (B := w1.heap.size + 1 + 1) (alloc_sl ?_ ?_ _) (by omega)
      · exact sl_new (by simp) (ucells b p n j fb fi oo mo _) _
      · simp
    · rw [wcells_eq]
      exact sl_new (by simp) wcells _
    rintro e w2 ⟨g2, rfl, hg2, hR2, hb2⟩
    have HY2 := Lib.hid ((((HY.out.alloc _).alloc _).alloc _).go hb2)
    have hwg : w.heap.size ≤ g2 := Nat.le_trans (Nat.le_trans (Nat.le_of_lt hlt) (by simp; omega)) hg2
    have hR2' : Row w2 g2 (bytesOf_ _ supW 256) [] := hR2
    have HO := Lib.hid (own_of_row hwg hR2' (bytesOf_len supW _ 256 HP.out))
    clear hR2 hR2' hb2 hg2 c0 c1 c2 c3 c4 c5 c6 c7 c8
    go_wp2_with fail
    refine (refSeal_any _ w.heap.size _ 0 w2 (by decide) (by rw [bytesOf_len supW _ 256 HP.out]; decide) HO.out).mono ?_
    rintro e w3 ⟨rfl, hO3, hg3⟩
    have HO3 := Lib.hid hO3
    have HG3 := Lib.hid hg3
    clear hO3 hg3
    go_wp2
    go_ret2
    exact ⟨_, rfl, HO3.out, HY2.out.below.grown HG3.out HY2.out.below.size (by intro k hk; simp [Value.ownBlock] at hk; subst hk; exact hwg)⟩
theorem refPackSuper_yes (b p n j fb fi oo mo : Int) (cl : Bool) (w : World) (h : supMay b p n j fb fi oo mo = true) :
    Calls Tryz.prog 65 #[.agg #[.int .i64 b, .int .i64 p, .int .i64 n, .int .i64 j, .int .i64 fb, .int .i64 fi, .int .i64 oo, .int .i64 mo, .bool cl]] w fun e w' => ∃ v, e = .returned (.tuple #[v, .int .i64 0]) ∧ Own w' w.heap.size v (supBytes b p n j fb fi oo mo cl) ∧ Below w.heap.size w w' := by
  have hs := supMay_of h
  obtain ⟨b, rfl⟩ := Int.eq_ofNat_of_zero_le hs.b0
  obtain ⟨p, rfl⟩ := Int.eq_ofNat_of_zero_le hs.p0
  obtain ⟨n, rfl⟩ := Int.eq_ofNat_of_zero_le hs.n0
  obtain ⟨j, rfl⟩ := Int.eq_ofNat_of_zero_le hs.j0
  obtain ⟨fb, rfl⟩ := Int.eq_ofNat_of_zero_le hs.fb0
  obtain ⟨fi, rfl⟩ := Int.eq_ofNat_of_zero_le hs.fi0
  obtain ⟨oo, rfl⟩ := Int.eq_ofNat_of_zero_le hs.oo0
  obtain ⟨mo, rfl⟩ := Int.eq_ofNat_of_zero_le hs.mo0
  exact refPackSuper_nat b p n j fb fi oo mo cl w h
end Go.Proofs.YtgjcbfdhpbkhoaaGreatDoor.SRPack
