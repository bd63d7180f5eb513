/- slices.Insert of one thing ahead of the last one of a row. -/
import Derived.Test.YtmlgchmladkfpaaGreatDoorMg37
import Derived.Shelf.Spec.SlicesInsertGrow
import Derived.Test.YtmlgchmladkfpaaGreatDoorMg35
namespace Go.Proofs.YtmlgchmladkfpaaGreatDoor.NIns
open Go.RowKit WMem WPlain WAppend Ext Map DPlain DMem EPlain EMem EFace NPlain NMem NMake

/-- a row of things: its own block -/
structure TRow (W : World) (g cap : Nat) (cs : List Value) : Prop where
  ex : ∃ cur : Array Value, W.heap[g]? = some (.cells cur 47 (0, 0)) ∧ cur.size = cap ∧ cs.length ≤ cap ∧ cur.toList.take cs.length = cs
theorem TRow.cell {W : World} {g cap : Nat} {cs : List Value} (h : TRow W g cap cs) (j : Nat) (u : Value) (hu : cs[j]? = some u) : W.cell? ⟨g, j, none⟩ = some u := by
  obtain ⟨cur, h1, h2, h3, h4⟩ := h.ex
  rw [row_cell h1]
  rw [← h4, List.getElem?_take] at hu
  split at hu
  · simpa using hu
  · cases hu
theorem TRow.some {W : World} {g cap : Nat} {cs : List Value} (h : TRow W g cap cs) (j : Nat) (hj : j < cap) : (W.cell? ⟨g, j, none⟩).isSome = true := by
  obtain ⟨cur, h1, h2, h3, h4⟩ := h.ex
  rw [row_cell h1, Array.getElem?_eq_getElem (by omega)]
  rfl
theorem TRow.free {W : World} {g cap : Nat} {cs : List Value} (h : TRow W g cap cs) (j : Nat) : W.frozen? ⟨g, j, none⟩ = false := by
  obtain ⟨cur, h1, h2, h3, h4⟩ := h.ex
  exact row_free h1 j
theorem TRow.shape {W : World} {g cap : Nat} {cs : List Value} (h : TRow W g cap cs) : W.shape? g = Option.some (47, cap) := by
  obtain ⟨cur, h1, h2, h3, h4⟩ := h.ex
  simp [World.shape?, h1, h2]
theorem setCells_one (W : World) (g o : Nat) (x : Value) : W.setCells g o [x] = W.setCell ⟨g, o, none⟩ x := rfl
set_option maxHeartbeats 2000000 in
set_option maxRecDepth 100000 in
theorem Insert_room {W : World} {g cap vb k n : Nat} {cs : List Value} {x u : Value} (hr : TRow W g cap cs) (hx : TRow W vb 1 [x]) (hne : vb ≠ g) (hn : cs.length = n) (hk : n = k + 1) (hu : cs[k]? = some u) (hroom : n + 1 ≤ cap) (hcap : n ≤ 1000000) (hcm : cap ≤ maxLen) (h1 : u.oneCell' = true) (h2 : x.oneCell' = true) :
    Calls Tryz.prog 119 #[.slice (some ⟨g, 0, none⟩) n cap, .int .i64 (k : Int), .slice (some ⟨vb, 0, none⟩) 1 1] W fun e w' =>
      e = .returned (.slice (some ⟨g, 0, none⟩) (n + 1) cap) ∧ ∃ q, w' = ((W.setCell ⟨g, k + 1, none⟩ u).setCell ⟨g, k, none⟩ x).drewN q := by
  have hov : ∀ lb cb, (callFunc 152 #[.slice (some ⟨vb, 0, none⟩) 1 1, .slice (some ⟨g, k + 1, none⟩) lb cb]).run Tryz.prog W = .ok (.value (.bool false)) W := fun lb cb => by
    rw [run_callFunc_extern Tryz.func152 (by kernel_rfl) (by kernel_rfl) (by kernel_rfl) (e := Extern.SlicesOverlaps.overlaps #[59, 59] #[4]) (by kernel_rfl),
      Lib.run_overlaps_apart W 59 4 47 (by kernel_rfl) 1 (fun _ => by kernel_rfl) ⟨vb, 0, none⟩ ⟨g, k + 1, none⟩ 1 1 lb cb hne _ _ _ _ hx.shape hr.shape (by omega) (hx.free 0) (hx.free 1)]
    rfl
  have hsz : (Tryz.prog.info? 47).map (·.size) = some 1 := by kernel_rfl
  have hw1 : IntKind.i64.wrap ((k : Int) + 1) = (k : Int) + 1 := by rw [IntKind.wrap_i64]; omega
  have hw2 : IntKind.i64.wrap ((n : Int) + 1) = (n : Int) + 1 := by rw [IntKind.wrap_i64]; omega
  have hz : ((k : Int) == (n : Int)) = false := by simp; omega
  have hcp1 : ∀ ty dl dc sl sc, dl = 1 → sl = 2 → (Builtin.copy_ #[59, 59] ty #[.slice (some ⟨g, k + 1, none⟩) dl dc, .slice (some ⟨g, k, none⟩) sl sc]).run Tryz.prog W.drew = .ok (goInt 1) (W.drew.setCell ⟨g, k + 1, none⟩ u) := fun ty dl dc sl sc e1 e2 =>
    run_copy_cells W.drew _ _ ty 47 g (k + 1) dl dc ⟨g, k, none⟩ sl sc [u] (by kernel_rfl) hsz (by subst e1 e2; rfl)
      (fun j v hj => by
        cases j with
        | zero => cases hj; exact hr.cell k u hu
        | succ j => cases hj)
      (fun j hj => hr.some _ (by simp at hj; omega)) (fun j hj => hr.free _) (by simpa using h1)
  have hne2 : ((⟨vb, 0, none⟩ : Addr).block = g) → False := fun e => hne e
  have hcp2 : ∀ ty dl dc, dl = 2 → (Builtin.copy_ #[59, 59] ty #[.slice (some ⟨g, k, none⟩) dl dc, .slice (some ⟨vb, 0, none⟩) 1 1]).run Tryz.prog (W.setCell ⟨g, k + 1, none⟩ u).drew = .ok (goInt 1) ((W.setCell ⟨g, k + 1, none⟩ u).drew.setCell ⟨g, k, none⟩ x) := fun ty dl dc e =>
    run_copy_cells _ _ _ ty 47 g k dl dc ⟨vb, 0, none⟩ 1 1 [x] (by kernel_rfl) hsz (by subst e; rfl)
      (fun j v hj => by
        cases j with
        | zero => cases hj; exact (World.cell?_setCells_out g [u] (k + 1) W ⟨vb, 0, none⟩ (fun h _ => absurd h hne)).trans (hx.cell 0 x rfl)
        | succ j => cases hj)
      (fun j hj => isSome_setCells g [u] (k + 1) W (fun j hj => hr.some _ (by simp at hj; omega)) _ (hr.some _ (by simp at hj; omega))) (fun j hj => (World.frozen?_setCells g [u] (k + 1) W _).trans (hr.free _)) (by simpa using h2)
  have mixed : Tryz.prog.follows Departure.mixedOrders = true := by kernel_rfl
  have hb1 : (0 : Int) ≤ (k : Int) + 1 := by omega
  have hb2 : (k : Int) ≤ (k : Int) + 1 := by omega
  have hb3 : (k : Int) ≤ (k : Int) + 1 + 1 := by omega
  have hc1 : ¬ (cap = k + 1) := by omega
  have hc2 : ¬ (cap = k) := by omega
  have htn : ((k : Int) + 1).toNat = k + 1 := by omega
  have hc63 : cap ≤ 9223372036854775807 := hcm
  go_enter Tryz.func119, Tryz.ntmps119
  go_wp2_with (simp only [hov])
  go_region_law_o (refine step_copy_runI rfl _ _ 59 59 rfl (.slice (some ⟨g, k + 1, none⟩) 1 (cap - (k + 1))) (.slice (some ⟨g, k, none⟩) (k + 1 + 1 - k) (cap - k)) (by simp [Act.eval, Act.put]) (by simp [Act.eval, Act.put]) (hcp1 _ 1 (cap - (k + 1)) (k + 1 + 1 - k) (cap - k) rfl (by omega)) ?_)
  go_wp2_with (refine wpList_copy_runI _ rfl (.tmp 80) (.tmp 81) 59 59 rfl (.slice (some ⟨g, k, none⟩) (k + 1 + 1 - k) (cap - k)) (.slice (some ⟨vb, 0, none⟩) 1 1) rfl rfl (hcp2 _ _ _ (by omega)) ?_)
  go_ret
  subst hk
  exact ⟨rfl, 1, rfl⟩
set_option maxHeartbeats 2000000 in
set_option maxRecDepth 100000 in
theorem Insert_grow {W : World} {g cap vb k n : Nat} {cs : List Value} {x u : Value} (hr : TRow W g cap cs) (hx : TRow W vb 1 [x]) (hn : cs.length = n) (hk : n = k + 1) (hu : cs[k]? = some u) (hroom : cap = n) (hcap : cap ≤ 1000000000) (h1 : u.oneCell' = true) (h2 : x.oneCell' = true) :
    Calls Tryz.prog 119 #[.slice (some ⟨g, 0, none⟩) n cap, .int .i64 (k : Int), .slice (some ⟨vb, 0, none⟩) 1 1] W fun e w' =>
      ∃ (G : Nat) (row : Array Value), e = .returned (.slice (some ⟨W.heap.size, 0, none⟩) (n + 1) G) ∧ n + 1 ≤ G ∧ G ≤ maxLen ∧ row.size = G ∧ row.toList.take k = cs.take k ∧ ∃ q, w' = (W.alloc (.cells ((row.setIfInBounds k x).setIfInBounds (k + 1) u) 47)).drewN q := by
  have hsz : (Tryz.prog.info? 47).map (·.size) = some 1 := by kernel_rfl
  obtain ⟨i0, hi0, hz0, hzs, hzb⟩ := info_parts (P := Tryz.prog) (e := 47) (z := .nilFunc) (size := 1) (bytes := 8) (by kernel_rfl)
  have hw1 : IntKind.i64.wrap ((k : Int) + 1) = (k : Int) + 1 := by rw [IntKind.wrap_i64]; omega
  have hw2 : IntKind.i64.wrap ((n : Int) + 1) = (n : Int) + 1 := by rw [IntKind.wrap_i64]; omega
  have hz : ((k : Int) == (n : Int)) = false := by simp; omega
  have hold : (Builtin.firstCells i0.size k (.slice (some ⟨g, 0, none⟩) k cap)).run Tryz.prog W.drew = .ok (cs.take k).toArray W.drew := by
    rw [hzs]
    exact run_firstCells_some W.drew 1 k ⟨g, 0, none⟩ k cap (cs.take k) (by rw [List.length_take]; omega) (fun j v hj => by
      rw [Addr.add_lit]
      rw [List.getElem?_take] at hj
      split at hj
      · rw [Nat.zero_add]; exact hr.cell j v hj
      · cases hj)
  have hrz : ∀ ty, (Builtin.append_ #[59, 3] ty #[.slice (some ⟨g, 0, none⟩) k cap, .int .i64 2]).run Tryz.prog W =
      .ok (.slice (some ⟨W.heap.size, 0, none⟩) (k + 2) (grownCap W (k + 2) cap 47)) (W.drew.alloc (.cells ((cs.take k).toArray ++ Builtin.zeroCells Value.nilFunc.cells 2 ++ Builtin.zeroCells Value.nilFunc.cells (grownCap W (k + 2) cap 47 - (k + 2))) 47)) := fun ty =>
    Lib.run_append_grow_zeros W 59 3 ty 47 i0 _ .i64 .i64 (by kernel_rfl) (by kernel_rfl) hi0 hz0 (some ⟨g, 0, none⟩) k cap (cs.take k) hold 2 (by omega) (by omega) (by omega) (by omega) (by rw [hzb]; omega) (by rw [hzb]; exact growslice_fits (by omega) (by omega))
  have hGn : k + 2 ≤ grownCap W (k + 2) cap 47 := grownCap_ge W _ _ _
  have hGm := grownCap_le_maxLen W (k + 2) cap 47 (by unfold maxLen; omega)
  generalize grownCap W (k + 2) cap 47 = G at *
  obtain ⟨row, hrow⟩ : ∃ row : Array Value, (cs.take k).toArray ++ Builtin.zeroCells Value.nilFunc.cells 2 ++ Builtin.zeroCells Value.nilFunc.cells (G - (k + 2)) = row := ⟨_, rfl⟩
  have hkl : k < cs.length := by omega
  have hrs : row.size = G := by
    rw [← hrow]
    simp [Builtin.zeroCells, Value.cells]
    omega
  have hrt : row.toList.take k = cs.take k := by
    rw [← hrow, Array.toList_append, Array.toList_append, List.append_assoc]
    exact List.take_left' (by simp; omega)
  rw [hrow] at hrz
  clear hrow hold
  have hgl : g < W.heap.size := World.block_lt_of_cell? _ _ (hr.cell k u hu)
  have hvl : vb < W.heap.size := World.block_lt_of_cell? _ _ (hx.cell 0 x rfl)
  obtain ⟨W1, hW1⟩ : ∃ W1, W1 = W.drew.alloc (.cells row 47) := ⟨_, rfl⟩
  have hN : ∀ j, j < k + 2 → (W1.cell? ⟨W.heap.size, j, none⟩).isSome = true := fun j hj => by
    rw [hW1, World.cell?_alloc_at (w := W.drew) row _ W.heap.size j rfl, Array.getElem?_eq_getElem (by omega)]; rfl
  have hNf : ∀ j, W1.frozen? ⟨W.heap.size, j, none⟩ = false := fun j => by rw [hW1]; exact World.frozen?_alloc_at (w := W.drew) row _ W.heap.size j rfl
  have hOb : W1.cell? ⟨g, k, none⟩ = some u := by rw [hW1, World.cell?_alloc_past (w := W.drew) _ g k hgl]; exact hr.cell k u hu
  have hOv : W1.cell? ⟨vb, 0, none⟩ = some x := by rw [hW1, World.cell?_alloc_past (w := W.drew) _ vb 0 hvl]; exact hx.cell 0 x rfl
  have hcpA : ∀ (V : World), (∀ y, V.cell? y = W1.cell? y) → (∀ y, V.frozen? y = W1.frozen? y) → ∀ ty dl dc, dl = 2 → (Builtin.copy_ #[59, 59] ty #[.slice (some ⟨W.heap.size, k, none⟩) dl dc, .slice (some ⟨vb, 0, none⟩) 1 1]).run Tryz.prog V = .ok (goInt 1) (V.setCell ⟨W.heap.size, k, none⟩ x) := fun V hV hF ty dl dc e =>
    run_copy_cells V _ _ ty 47 W.heap.size k dl dc ⟨vb, 0, none⟩ 1 1 [x] (by kernel_rfl) hsz (by subst e; rfl)
      (fun j v hj => by
        cases j with
        | zero => cases hj; exact (hV _).trans hOv
        | succ j => cases hj)
      (fun j hj => by rw [hV]; exact hN _ (by simp at hj; omega)) (fun j hj => by rw [hF]; exact hNf _) (by simpa using h2)
  have hcpB : ∀ (V : World), (∀ y, V.cell? y = (W1.setCell ⟨W.heap.size, k, none⟩ x).cell? y) → (∀ y, V.frozen? y = (W1.setCell ⟨W.heap.size, k, none⟩ x).frozen? y) → ∀ ty dl dc sl sc, dl = 1 → sl = 1 → (Builtin.copy_ #[59, 59] ty #[.slice (some ⟨W.heap.size, k + 1, none⟩) dl dc, .slice (some ⟨g, k, none⟩) sl sc]).run Tryz.prog V = .ok (goInt 1) (V.setCell ⟨W.heap.size, k + 1, none⟩ u) := fun V hV hF ty dl dc sl sc e e2 =>
    run_copy_cells V _ _ ty 47 W.heap.size (k + 1) dl dc ⟨g, k, none⟩ sl sc [u] (by kernel_rfl) hsz (by subst e e2; rfl)
      (fun j v hj => by
        cases j with
        | zero => cases hj; exact (hV _).trans ((World.cell?_setCells_out W.heap.size [x] k W1 ⟨g, k, none⟩ (fun h _ => by have h : g = W.heap.size := h; omega)).trans hOb)
        | succ j => cases hj)
      (fun j hj => by rw [hV]; exact isSome_setCells W.heap.size [x] k W1 (fun j hj => hN _ (by simp at hj; omega)) _ (hN _ (by simp at hj; omega))) (fun j hj => by rw [hF]; exact (World.frozen?_setCells W.heap.size [x] k W1 _).trans (hNf _)) (by simpa using h1)
  subst hW1
  have hE1 : ∀ y, ((W.alloc (.cells row 47)).drew).cell? y = (W.drew.alloc (.cells row 47)).cell? y := fun y => rfl
  have hE2 : ∀ y, ((W.alloc (.cells row 47)).drew).frozen? y = (W.drew.alloc (.cells row 47)).frozen? y := fun y => rfl
  have hF1 : ∀ y, ((((W.alloc (.cells row 47)).drew.setCell ⟨W.heap.size, k, none⟩ x).drew).cell? y) = ((W.drew.alloc (.cells row 47)).setCell ⟨W.heap.size, k, none⟩ x).cell? y := fun y => rfl
  have hF2 : ∀ y, ((((W.alloc (.cells row 47)).drew.setCell ⟨W.heap.size, k, none⟩ x).drew).frozen? y) = ((W.drew.alloc (.cells row 47)).setCell ⟨W.heap.size, k, none⟩ x).frozen? y := fun y => rfl
  have HRW := Lib.hid (And.intro hrs hrt)
  have mixed : Tryz.prog.follows Departure.mixedOrders = true := by kernel_rfl
  have hb1 : (0 : Int) ≤ (k : Int) + 1 := by omega
  have hb2 : (k : Int) ≤ (k : Int) + 1 := by omega
  have hb3 : (k : Int) ≤ (k : Int) + 1 + 1 := by omega
  have hc1 : ¬ (G = k + 1) := by omega
  have hc2 : ¬ (G = k) := by omega
  have hc3 : ¬ (cap = k) := by omega
  have hcn : (k : Int) + 1 ≤ (cap : Int) := by omega
  have htn : ((k : Int) + 1).toNat = k + 1 := by omega
  have hkk : (k : Int) + 1 + 1 - (k : Int) = 2 := by omega
  have hlt : (cap : Int) < (k : Int) + 1 + 1 := by omega
  have hG63 : G ≤ 9223372036854775807 := hGm
  have hk0 : ((k : Int) == (k : Int) + 1) = false := by simp; omega
  have hk2 : (k : Int) + 1 ≤ (k : Int) + 2 := by omega
  have hcn2 : k ≤ cap := by omega
  have HK := Lib.hid hk
  rw [hk]
  clear hn hk hroom hu hw2 hz hkl hr hx h1 h2 hsz
  clear hN hNf hOb hOv hgl hvl hrt hrs hi0 hz0 hzs hzb
  go_enter Tryz.func119, Tryz.ntmps119
  go_wp2_with (first
    | (at_builtin; refine Lib.wpList_append_run _ rfl _ _ _ _ rfl _ _ rfl rfl _ _ (hrz _) ?_)
    | (refine wpList_copy_runI _ rfl (.tmp 43) (.tmp 44) 59 59 rfl _ _ rfl rfl (hcpA _ hE1 hE2 _ _ _ (by omega)) ?_)
    | fail)
  go_region_law_o (refine step_copy_runI rfl _ _ 59 59 rfl (.slice (some ⟨W.heap.size, k + 1, none⟩) (k + 2 - (k + 1)) (G - (k + 1))) (.slice (some ⟨g, k, none⟩) 1 (cap - k)) (by simp [Act.eval, Act.put]) (by simp [Act.eval, Act.put]) (hcpB _ hF1 hF2 _ (k + 2 - (k + 1)) (G - (k + 1)) 1 (cap - k) (by omega) rfl) ?_)
  go_wp2
  go_ret
  exact ⟨G, row, rfl, hGn, hGm, HRW.out.1, HRW.out.2, 2, rfl⟩
theorem _root_.Go.Proofs.YtmlgchmladkfpaaGreatDoor.NMem.AreThings.cut {w : World} {K : Nat → Prop} {jb : Nat} {vs : List Value} {l : List Thing} (h : AreThings w K jb vs l) (k : Nat) : AreThings w K jb (vs.take k) (l.take k) ∧ AreThings w K jb (vs.drop k) (l.drop k) := by
  refine ⟨⟨by simp [h.1], fun i hi => ?_⟩, ⟨by simp [h.1], fun i hi => ?_⟩⟩
  · have hi' : i < l.length ∧ i < k := by simp at hi; omega
    obtain ⟨v, hv, hth⟩ := h.2 i hi'.1
    exact ⟨v, by rw [List.getElem?_take, if_pos hi'.2]; exact hv, by rw [List.getElem_take]; exact hth⟩
  · have hi' : k + i < l.length := by simp at hi; omega
    obtain ⟨v, hv, hth⟩ := h.2 (k + i) hi'
    exact ⟨v, by rw [List.getElem?_drop]; exact hv, by rw [List.getElem_drop]; exact hth⟩
theorem take_sets {l : List Value} {k : Nat} {x u : Value} {r : List Value} (hl : k + 2 ≤ r.length) (hr : r.take k = l) : ((r.set k x).set (k + 1) u).take (k + 2) = l ++ [x, u] := by
  subst hr
  refine List.ext_getElem? fun i => ?_
  rw [List.getElem?_take]
  by_cases h1 : i < k
  · rw [if_pos (by omega), List.getElem?_set_ne (by omega), List.getElem?_set_ne (by omega), List.getElem?_append_left (by simp; omega), List.getElem?_take, if_pos h1]
  · rw [List.getElem?_append_right (by simp; omega)]
    have hk : (r.take k).length = k := by simp; omega
    rw [hk]
    by_cases h2 : i = k
    · subst h2
      rw [if_pos (by omega), List.getElem?_set_ne (by omega), List.getElem?_set_self (by omega)]
      simp
    · by_cases h3 : i = k + 1
      · subst h3
        rw [if_pos (by omega), List.getElem?_set_self (by simp; omega), show k + 1 - k = 1 by omega]
        rfl
      · rw [if_neg (by omega), show i - k = (i - k - 2) + 2 by omega]
        rfl
theorem Insert_own {W : World} {base k n vb : Nat} {v x : Value} {cs : List Value} (ho : W.ownsRow base 47 1 v n cs) (hbase : base ≤ W.heap.size) (hx : W.heap[vb]? = some (.cells #[x] 47 (0, 0))) (hne : ∀ q, v.ownBlock = some q → q ≠ vb)
    (hk : n = k + 1) (hn : n ≤ 1000000) (h1 : ∀ u ∈ cs, u.oneCell' = true) (h2 : x.oneCell' = true) :
    Calls Tryz.prog 119 #[v, .int .i64 (k : Int), .slice (some ⟨vb, 0, none⟩) 1 1] W fun e w' =>
      ∃ v', e = .returned v' ∧ w'.ownsRow base 47 1 v' (n + 1) (cs.take k ++ x :: cs.drop k) ∧ W.grownBy w' v.ownBlock := by
  obtain ⟨hl, ⟨rfl, h0⟩ | ⟨g, cap, cur, rfl, hb, hg, hnc, hm, hcs, ht⟩⟩ := ho
  · omega
  have hl : cs.length = n := by simpa using hl
  have hcs : cur.size = cap := by simpa using hcs
  have ht : cur.toList.take n = cs := by simpa using ht
  have hkl : k < cs.length := by omega
  have hT : TRow W g cap cs := ⟨cur, hg, hcs, by omega, by rw [hl]; exact ht⟩
  have hX : TRow W vb 1 [x] := ⟨#[x], hx, rfl, Nat.le_refl _, rfl⟩
  have hu : cs[k]? = some cs[k] := List.getElem?_eq_getElem hkl
  have hd : cs.drop k = [cs[k]] := by
    rw [List.drop_eq_getElem_cons hkl, List.drop_of_length_le (by omega)]
  have hu1 := h1 _ (List.getElem_mem hkl)
  have hck : cs.take k = cur.toList.take k := by rw [← ht, List.take_take]; congr 1; omega
  rw [hd]
  generalize cs[k] = u at *
  by_cases hroom : n + 1 ≤ cap
  · refine (Insert_room hT hX (fun e => hne g rfl e.symm) hl hk hu hroom hn hm hu1 h2).mono ?_
    rintro e w' ⟨rfl, q, rfl⟩
    refine ⟨_, rfl, ⟨by simp; omega, .inr ⟨g, cap, _, rfl, hb, row_set (row_set hg (k + 1) u) k x, hroom, hm, by simp [hcs], ?_⟩⟩, ?_⟩
    · rw [Nat.mul_one, Array.toList_setIfInBounds, Array.toList_setIfInBounds, hk, List.set_comm _ _ (by omega), hck]
      exact take_sets (by simp; omega) rfl
    · exact grown_trans (grown_set (grown_set (grown_refl _ _) (k + 1) u) k x) ⟨rfl, rfl, rfl, Nat.le_refl _, fun _ _ _ => rfl⟩
  · refine (Insert_grow hT hX hl hk hu (by omega) (by omega) hu1 h2).mono ?_
    rintro e w' ⟨G, row, rfl, hG, hGm, hrs, hrt, q, rfl⟩
    refine ⟨_, rfl, ⟨by simp; omega, .inr ⟨W.heap.size, G, _, rfl, hbase, row_new W _, hG, hGm, by simp [hrs], ?_⟩⟩, ?_⟩
    · rw [Nat.mul_one, Array.toList_setIfInBounds, Array.toList_setIfInBounds, hk]
      exact take_sets (by simp; omega) hrt
    · exact grown_trans (World.grownBy_alloc W _ _) ⟨rfl, rfl, rfl, Nat.le_refl _, fun _ _ _ => rfl⟩
/-- a thing laid ahead of the last one -/
theorem Insert_things {w W : World} {K : Nat → Prop} {jb k vb : Nat} {v x : Value} {l : List Thing} {t : Thing} (hT : TR w K jb W v (k + 1) l) (ht : There K w) (hx : W.heap[vb]? = some (.cells #[x] 47 (0, 0))) (hne : ∀ q, v.ownBlock = some q → q ≠ vb)
    (hn : k + 1 ≤ 1000000) (hth : ThingIs W (New K w W) jb x t) :
    Calls Tryz.prog 119 #[v, .int .i64 (k : Int), .slice (some ⟨vb, 0, none⟩) 1 1] W fun e w' =>
      ∃ v', e = .returned v' ∧ TR w K jb w' v' (k + 1 + 1) (l.take k ++ t :: l.drop k) := by
  obtain ⟨⟨vs, h1, h2, h3⟩, h4, h5⟩ := hT
  refine (Insert_own h1 h5.size hx hne rfl hn h3 (func_one hth)).mono ?_
  rintro e w' ⟨v', rfl, hr, hg⟩
  have hk := new_grown h1 hg h5.size ht
  have hvl : vs.length = k + 1 := by rw [h2.1, h4]
  have e1 : vs.take k ++ x :: vs.drop k = (vs.take k ++ [x]) ++ vs.drop k := by simp
  have e2 : l.take k ++ t :: l.drop k = (l.take k ++ [t]) ++ l.drop k := by simp
  have hA : AreThings w' (New K w w') jb (vs.take k ++ x :: vs.drop k) (l.take k ++ t :: l.drop k) := by
    rw [e1, e2]
    have hx' : AreThings w' (New K w w') jb [x] [t] := ⟨rfl, fun i hi => by
      obtain rfl : i = 0 := by simpa using hi
      exact ⟨x, rfl, hth.keep hk (new_up hg.size hk)⟩⟩
    exact AreThings.append (AreThings.append (AreThings.cut (h2.keep hk (new_up hg.size hk)) k).1 hx') (AreThings.cut (h2.keep hk (new_up hg.size hk)) k).2
  exact ⟨v', rfl, ⟨_, hr, hA, things_one hA⟩, by simp; omega, h5.grown hg h5.size (fun j hj => own_ge h1 j hj)⟩
end Go.Proofs.YtmlgchmladkfpaaGreatDoor.NIns
/- A transaction laid: what is left then. -/
namespace Go.Proofs.YtmlgchmladkfpaaGreatDoor.NLay2
open Go.RowKit WMem WPlain WAppend WCrc Ext Map DPlain DMem EPlain EMem EFace ECommit JPlain JMem JLayM NPlain NMem NFace NCred NMake NCheck NRun NHead NPart NRevoke NIns

theorem set_size (W : World) (a : Addr) (u : Value) : (W.setCell a u).heap.size = W.heap.size := by simp [World.setCell]
/-- a row of things, while a cell of an old block turns in both worlds -/
theorem TR.set {w W : World} {K : Nat → Prop} {jb n i : Nat} {v u : Value} {l : List Thing} {cs : Array Value} {T : TypeId} (h : TR w K jb W v n l) (hj : w.heap[jb]? = some (.cells cs T (0, 0))) (hK : ¬ K jb) : TR (w.setCell ⟨jb, i, none⟩ u) K jb (W.setCell ⟨jb, i, none⟩ u) v n l := by
  obtain ⟨⟨vs, h1, h2, h3⟩, h4, h5⟩ := h
  have lj := row_lt hj
  have hW : ∀ q, q ≠ jb → (W.setCell ⟨jb, i, none⟩ u).heap[q]? = W.heap[q]? := fun q hq => Below.heap_setCell W _ u q hq
  have hw : ∀ q, q ≠ jb → (w.setCell ⟨jb, i, none⟩ u).heap[q]? = w.heap[q]? := fun q hq => Below.heap_setCell w _ u q hq
  have hk : ∀ q, New K w W q → (W.setCell ⟨jb, i, none⟩ u).heap[q]? = W.heap[q]? := fun q hq => hW q (fun e => by
    subst e
    rcases hq with hq | hq
    · exact hK hq
    · omega)
  have hs : ∀ q, New K w W q → New K (w.setCell ⟨jb, i, none⟩ u) (W.setCell ⟨jb, i, none⟩ u) q := fun q hq => by
    have hq' := new_up (Nat.le_of_eq (set_size W ⟨jb, i, none⟩ u).symm) hk q hq
    rcases hq' with hq' | hq'
    · exact .inl hq'
    · exact .inr ⟨by rw [set_size]; exact hq'.1, hq'.2⟩
  refine ⟨⟨vs, ?_, h2.keep hk hs, h3⟩, h4, ⟨h5.os, h5.tape, h5.output, by rw [set_size, set_size]; exact h5.size, fun q hq => ?_⟩⟩
  · rw [set_size]
    exact own_same h1 (fun q hq => hW q (by have := own_ge h1 q hq; omega))
  · rw [set_size] at hq
    by_cases e : q = jb
    · subst e
      rw [row_set hj i u, row_set ((h5.block q hq).trans hj) i u]
    · rw [hW q e, hw q e]
      exact h5.block q hq
/-- what is left is laid anew, behind another store to the same cell -/
theorem relay2 {w W : World} {K : Nat → Prop} {ρ : Ro} {D : Nat → Prop} {jb ml mc b db : Nat} {j : Jr} {s : Sto} {u v : Value} {l : List Thing} {n : Nat} (h : JO w ρ D K jb ml mc b db j s) (hT : TR (w.setCell ⟨jb, 12, none⟩ u) K jb W v n l) :
    JGo w (W.setCell ⟨jb, 12, none⟩ v) ρ D K ρ D (Plus K w W) jb ml mc b db { j with left := l } s := by
  obtain ⟨A, c, rfl, hc, hth⟩ := things_of hT
  have hb := hT.below
  have hl := hT.len
  have hsz := hb.size
  rw [set_size] at hsz
  subst hl
  obtain ⟨A0, c0, hx, _, _⟩ := h.jx
  obtain ⟨n1, n2⟩ := hx.ne1
  have lj := hx.lt
  have lml := hx.live.lt
  have lmc := hx.cred.lt
  have hx0 := hx.turn (i := 12) (u := u) (j' := j) (v' := u) rfl rfl rfl rfl
  have hx1 : JX W K jb ml mc b db s.N j u := hx0.keep (fun q hq => hb.block q (hx0.own_there q hq)) hb.size
  have t1 := hx1.turn (i := 12) (u := .slice A l.length c) (j' := { j with left := l }) (v' := .slice A l.length c) rfl rfl rfl rfl
  have hE0 := ext_cell (Ext.refl (fun x => x = jb) w) 12 u
  have hE1 : Ext (fun x => x = jb) w W := hE0.trans (Ext.of_below hb (fun x => x = jb)) (fun _ h => .inl h)
  have hE : Ext (fun x => x = jb) w (W.setCell ⟨jb, 12, none⟩ (.slice A l.length c)) := ext_cell hE1 12 _
  have hth : Things W (Plus K w W) jb A l := hth.keep (fun _ _ => rfl) (fun q hq => by
    rcases hq with hq | hq
    · exact .inl hq
    · rw [set_size] at hq; exact .inr hq)
  have hP : ∀ q, Plus K w W q → (W.setCell ⟨jb, 12, none⟩ (.slice A l.length c)).heap[q]? = W.heap[q]? := fun q hq => Below.heap_setCell W _ _ q (fun e => by
    have e : q = jb := e
    subst e
    rcases hq with hq | hq
    · exact hx.nk.1 hq
    · omega)
  have hnk : ¬ Plus K w W jb ∧ ¬ Plus K w W ml ∧ ¬ Plus K w W mc := by
    refine ⟨fun hq => ?_, fun hq => ?_, fun hq => ?_⟩
    · rcases hq with hq | hq
      · exact hx.nk.1 hq
      · omega
    · rcases hq with hq | hq
      · exact hx.nk.2.1 hq
      · omega
    · rcases hq with hq | hq
      · exact hx.nk.2.2 hq
      · omega
  refine ⟨⟨h.own.keep (fun q hq => hE.block q (h.own.there q hq) (fun e => h.far q (.inl e) hq)) hE.size, ⟨A, c, ⟨t1.block, t1.live, t1.cred, hnk, hx.ne, fun q hq => ?_⟩, hth.keep hP (fun _ h => h), hc⟩, fun q h1 h2 => ?_⟩, hE.more (fun q _ hq => .inr (.inl hq)), fun q hq => ?_, fun q hq => hE.block q (hx.there q hq) (fun e => hx.nk.1 (e ▸ hq)), fun q hq => .inl hq⟩
  · rcases hq with hq | hq
    · exact Nat.lt_of_lt_of_le (hx.there q hq) hE.size
    · rw [set_size]; exact hq.2
  · have := h.own.there q h2
    rcases h1 with e | e | e | e
    · exact h.far q (.inl e) h2
    · exact h.far q (.inr (.inl e)) h2
    · exact h.far q (.inr (.inr (.inl e))) h2
    · rcases e with e | e
      · exact h.far q (.inr (.inr (.inr e))) h2
      · omega
  · rcases hq with hq | hq
    · exact .inl (.inl hq)
    · rcases hq with e | e | e | e
      · exact .inl (.inr (.inl e))
      · exact .inl (.inr (.inr (.inl e)))
      · exact .inl (.inr (.inr (.inr (.inl e))))
      · rcases e with e | e
        · exact .inl (.inr (.inr (.inr (.inr e))))
        · exact .inr e.1
/-- new blocks come to those that are never written again -/
theorem JO.plus {w0 w : World} {K : Nat → Prop} {ρ : Ro} {D : Nat → Prop} {jb ml mc b db : Nat} {j : Jr} {s : Sto} (h : JO w ρ D K jb ml mc b db j s) (h0 : There (JAll ρ D K jb ml mc) w0) : JO w ρ D (Plus K w0 w) jb ml mc b db j s := by
  obtain ⟨A, c, hx, hth, hc⟩ := h.jx
  refine ⟨h.own, ⟨A, c, ⟨hx.block, hx.live, hx.cred, ⟨fun hq => ?_, fun hq => ?_, fun hq => ?_⟩, hx.ne, fun q hq => ?_⟩, hth.keep (fun _ _ => rfl) (fun _ h => .inl h), hc⟩, fun q h1 h2 => ?_⟩
  · rcases hq with hq | hq
    · exact hx.nk.1 hq
    · have := h0 jb (.inr (.inl rfl)); omega
  · rcases hq with hq | hq
    · exact hx.nk.2.1 hq
    · have := h0 ml (.inr (.inr (.inl rfl))); omega
  · rcases hq with hq | hq
    · exact hx.nk.2.2 hq
    · have := h0 mc (.inr (.inr (.inr (.inl rfl)))); omega
  · rcases hq with hq | hq
    · exact hx.there q hq
    · exact hq.2
  · rcases h1 with e | e | e | e
    · exact h.far q (.inl e) h2
    · exact h.far q (.inr (.inl e)) h2
    · exact h.far q (.inr (.inr (.inl e))) h2
    · rcases e with e | e
      · exact h.far q (.inr (.inr (.inr e))) h2
      · have := h0 q (.inl h2); omega
end Go.Proofs.YtmlgchmladkfpaaGreatDoor.NLay2
