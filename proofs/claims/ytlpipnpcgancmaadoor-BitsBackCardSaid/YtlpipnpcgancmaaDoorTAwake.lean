/- The document's examples hold: awake answers true. -/
import Derived.Test.YtlpipnpcgancmaaDoorTAwM
import Derived.Test.YtlpipnpcgancmaaDoorTTop
namespace Go.Proofs.YtlpipnpcgancmaaDoor.TAwake
open Go.RowKit WMem WPlain WAppend WCrc WSeal WAny TPlain TBits TSet TWalk TOrd TCut TBud TTurn TFace TTurnF TSame TFind TAwM TTop

theorem a_find1 (B : Nat) (A : Option Addr) (c : Nat) (w : World) (hB : B ≤ w.heap.size) (hA : Sl w B A (b0.map u8v)) :
    Calls Tryd.prog 21 #[.slice A 256 c, .int .i64 (-1), .int .i64 3] w fun e w' => e = .returned (.tuple #[.int .i64 0, .int .i64 3, .bool true]) ∧ Below w.heap.size w w' := by
  rw [← find1]
  exact Find_any b0 256 b0_len B A c (-1) 3 w hB (by decide) hA
theorem a_find2 (B : Nat) (A : Option Addr) (c : Nat) (w : World) (hB : B ≤ w.heap.size) (hA : Sl w B A (b0.map u8v)) :
    Calls Tryd.prog 21 #[.slice A 256 c, .int .i64 8, .int .i64 5] w fun e w' => e = .returned (.tuple #[.int .i64 8, .int .i64 2, .bool true]) ∧ Below w.heap.size w w' := by
  rw [← find2]
  exact Find_any b0 256 b0_len B A c 8 5 w hB (by decide) hA
theorem a_find3 (B : Nat) (A : Option Addr) (c : Nat) (w : World) (hB : B ≤ w.heap.size) (hA : Sl w B A (c0.map u8v)) :
    Calls Tryd.prog 21 #[.slice A 256 c, .int .i64 3, .int .i64 2] w fun e w' => e = .returned (.tuple #[.int .i64 0, .int .i64 2, .bool true]) ∧ Below w.heap.size w w' := by
  rw [← find3]
  exact Find_any c0 256 c0_len B A c 3 2 w hB (by decide) hA
theorem a_turn1 (B : Nat) (A : Option Addr) (c : Nat) (w : World) (hc : 256 ≤ c) (hB : B ≤ w.heap.size) (hA : Sl w B A (b0.map u8v)) (hT : Tab w) :
    Calls Tryd.prog 14 #[.slice A 256 c, .int .i64 10, .int .i64 3, .int .i64 1, .bool true, .int .u32 7] w fun e w' => ∃ g cap rest, e = .returned (.tuple #[.slice (some ⟨g, 0, none⟩) 256 cap, .int .i64 0]) ∧ w.heap.size ≤ g ∧ 256 ≤ cap ∧ Row w' g c0 rest ∧ Below w.heap.size w w' :=
  Turn_done b0 256 b0_len B A c 10 3 1 true 7 w (by decide) hc hB hA hT turn1
theorem a_turn2 (B : Nat) (A : Option Addr) (c : Nat) (w : World) (hc : 256 ≤ c) (hB : B ≤ w.heap.size) (hA : Sl w B A (c0.map u8v)) (hT : Tab w) :
    Calls Tryd.prog 14 #[.slice A 256 c, .int .i64 10, .int .i64 3, .int .i64 1, .bool true, .int .u32 7] w fun e w' => e = .returned (.tuple #[.slice none 0 0, .int .i64 117]) ∧ Below w.heap.size w w' :=
  Turn_fail c0 256 c0_len B A c 10 3 1 true 7 w (by decide) hc (by decide) hB hA hT 117 turn2 (by decide)
theorem a_turn3 (B : Nat) (A : Option Addr) (c : Nat) (w : World) (hc : 256 ≤ c) (hB : B ≤ w.heap.size) (hA : Sl w B A (c0.map u8v)) (hT : Tab w) :
    Calls Tryd.prog 14 #[.slice A 256 c, .int .i64 10, .int .i64 9, .int .i64 2, .bool true, .int .u32 7] w fun e w' => e = .returned (.tuple #[.slice none 0 0, .int .i64 22]) ∧ Below w.heap.size w w' :=
  Turn_fail c0 256 c0_len B A c 10 9 2 true 7 w (by decide) hc (by decide) hB hA hT 22 turn3 (by decide)
theorem a_zeros (B : Nat) (A : Option Addr) (c : Nat) (w : World) (hA : Sl w B A (c0.map u8v)) :
    Calls Tryd.prog 23 #[.slice A 256 c] w fun e w' => e = .returned (.int .i64 9) ∧ w = w' := by
  have h := Zeros_any c0 256 c0_len B A c w (by decide) hA
  rw [zeros_c0] at h
  exact h
theorem a_check (B : Nat) (A : Option Addr) (c : Nat) (w : World) (hc : 256 ≤ c) (hA : Sl w B A (c0.map u8v)) (hT : Tab w) :
    Calls Tryd.prog 19 #[.slice A 256 c, .int .i64 10, .int .u32 7] w fun e w' => e = .returned (.int .i64 0) ∧ Drew w w' := by
  have h := Check_any c0 256 c0_len B A c 10 7 w (by decide) hc hA hT
  rw [chk_c0] at h
  exact h
/-- what the walk carries along: a row of its own, the table, and how far it is -/
structure At (w wr : World) (g : Nat) (l : List UInt8) (rest : List Value) : Prop where
  row : Row wr g l rest
  tab : Tab wr
  below : Below w.heap.size w wr
  ge : w.heap.size ≤ g
theorem At.go {w wr w' : World} {g : Nat} {l : List UInt8} {rest : List Value} (h : At w wr g l rest) (ht : 0 < w.heap.size) (hb : Below wr.heap.size wr w') : At w w' g l rest :=
  ⟨h.row.keep hb h.row.lt, Tab.below h.tab hb (by have := h.below.size; omega), h.below.trans (hb.mono h.below.size), h.ge⟩
theorem At.sl {w wr : World} {g : Nat} {l : List UInt8} {rest : List Value} (h : At w wr g l rest) : Sl wr wr.heap.size (some ⟨g, 0, none⟩) (l.map u8v) := h.row.sl h.row.lt
theorem At.alloc {w wr : World} {g : Nat} {l : List UInt8} {rest : List Value} (h : At w wr g l rest) (o : Obj) : At w (wr.alloc o) g l rest :=
  ⟨h.row.alloc o, Tab.alloc h.tab o, h.below.alloc h.below.size o, h.ge⟩
theorem At.setRow {w wr : World} {g : Nat} {l : List UInt8} {rest : List Value} (h : At w wr g l rest) (ht : 0 < w.heap.size) (k : Nat) (hk : w.heap.size ≤ k) (hkg : k ≠ g) (cs : Array Value) : At w (wr.setRow k cs) g l rest :=
  ⟨(setRow_other wr k g cs (Ne.symm hkg)).trans h.row, Tab.keep h.tab fun p hp => cell_setRow_other wr k cs p (by rw [hp]; omega), below_setRow h.below hk cs, h.ge⟩
/-- beside it an array of eleven counts -/
theorem oarr {wr : World} {k : Nat} {f : Nat → Nat} (h : wr.heap[k]? = some (.cells (arrC f) 38 (0, 0))) {i : Nat} (hi : i < 11) : wr.cell? ⟨k, i, none⟩ = some (.int .i64 (f i : Nat)) := by
  rw [cell_of_row wr k i _ _ _ h]
  show (vals f 11).toArray[i]? = _
  rw [List.getElem?_toArray]
  exact vals_at f hi
/-- what the calls of the examples answer, the two bitmaps and the counts behind letters -/
structure Calls8 (b c : List UInt8) (f : Nat → Nat) : Prop where
  new : ∀ w, Tab w → Calls Tryd.prog 12 #[.int .i64 10, .int .u32 7] w fun e w' => ∃ g, e = .returned (.tuple #[.slice (some ⟨g, 0, none⟩) 256 256, .int .i64 0]) ∧ w.heap.size ≤ g ∧ Row w' g b [] ∧ Below w.heap.size w w'
  orders : ∀ B A k w, B ≤ w.heap.size → Sl w B A (b.map u8v) → Calls Tryd.prog 25 #[.slice A 256 k] w fun e w' => e = .returned (arr f) ∧ Below w.heap.size w w'
  find1 : ∀ B A k w, B ≤ w.heap.size → Sl w B A (b.map u8v) → Calls Tryd.prog 21 #[.slice A 256 k, .int .i64 (-1), .int .i64 3] w fun e w' => e = .returned (.tuple #[.int .i64 0, .int .i64 3, .bool true]) ∧ Below w.heap.size w w'
  find2 : ∀ B A k w, B ≤ w.heap.size → Sl w B A (b.map u8v) → Calls Tryd.prog 21 #[.slice A 256 k, .int .i64 8, .int .i64 5] w fun e w' => e = .returned (.tuple #[.int .i64 8, .int .i64 2, .bool true]) ∧ Below w.heap.size w w'
  turn1 : ∀ B A k w, 256 ≤ k → B ≤ w.heap.size → Sl w B A (b.map u8v) → Tab w → Calls Tryd.prog 14 #[.slice A 256 k, .int .i64 10, .int .i64 3, .int .i64 1, .bool true, .int .u32 7] w fun e w' => ∃ g cap rest, e = .returned (.tuple #[.slice (some ⟨g, 0, none⟩) 256 cap, .int .i64 0]) ∧ w.heap.size ≤ g ∧ 256 ≤ cap ∧ Row w' g c rest ∧ Below w.heap.size w w'
  find3 : ∀ B A k w, B ≤ w.heap.size → Sl w B A (c.map u8v) → Calls Tryd.prog 21 #[.slice A 256 k, .int .i64 3, .int .i64 2] w fun e w' => e = .returned (.tuple #[.int .i64 0, .int .i64 2, .bool true]) ∧ Below w.heap.size w w'
  turn2 : ∀ B A k w, 256 ≤ k → B ≤ w.heap.size → Sl w B A (c.map u8v) → Tab w → Calls Tryd.prog 14 #[.slice A 256 k, .int .i64 10, .int .i64 3, .int .i64 1, .bool true, .int .u32 7] w fun e w' => e = .returned (.tuple #[.slice none 0 0, .int .i64 117]) ∧ Below w.heap.size w w'
  turn3 : ∀ B A k w, 256 ≤ k → B ≤ w.heap.size → Sl w B A (c.map u8v) → Tab w → Calls Tryd.prog 14 #[.slice A 256 k, .int .i64 10, .int .i64 9, .int .i64 2, .bool true, .int .u32 7] w fun e w' => e = .returned (.tuple #[.slice none 0 0, .int .i64 22]) ∧ Below w.heap.size w w'
  zeros : ∀ B A k w, Sl w B A (c.map u8v) → Calls Tryd.prog 23 #[.slice A 256 k] w fun e w' => e = .returned (.int .i64 9) ∧ w = w'
  check : ∀ B A k w, 256 ≤ k → Sl w B A (c.map u8v) → Tab w → Calls Tryd.prog 19 #[.slice A 256 k, .int .i64 10, .int .u32 7] w fun e w' => e = .returned (.int .i64 0) ∧ Drew w w'
  o0 : f 0 = 0
  o1 : f 1 = 1
  o3 : f 3 = 1
theorem calls8 : Calls8 b0 c0 (ordN b0) where
  new w hT := New_yes 10 7 w (by decide) (by decide) hT
  orders B A k w hB hA := Orders_any b0 256 b0_len B A k w hB (by decide) hA
  find1 := a_find1
  find2 := a_find2
  turn1 := a_turn1
  find3 := a_find3
  turn2 := a_turn2
  turn3 := a_turn3
  zeros := a_zeros
  check := a_check
  o0 := o0
  o1 := o1
  o3 := o3
theorem arrow {w w' : World} {o : Nat} {x : Obj} (h : w.heap[o]? = some x ∧ o < w.heap.size) (hb : Below w.heap.size w w') : w'.heap[o]? = some x ∧ o < w'.heap.size :=
  ⟨(hb.block o h.2).trans h.1, Nat.lt_of_lt_of_le h.2 hb.size⟩
theorem counts {b c : List UInt8} {f : Nat → Nat} (H : Calls8 b c f) {w : World} {k : Nat} (h : w.heap[k]? = some (.cells (arrC f) 38 (0, 0))) :
    w.cell? ⟨k, 0, none⟩ = some (.int .i64 0) ∧ w.cell? ⟨k, 1, none⟩ = some (.int .i64 1) ∧ w.cell? ⟨k, 3, none⟩ = some (.int .i64 1) :=
  ⟨by rw [oarr h (by decide), H.o0]; rfl, by rw [oarr h (by decide), H.o1]; rfl, by rw [oarr h (by decide), H.o3]; rfl⟩
set_option maxHeartbeats 2000000 in
set_option maxRecDepth 100000 in
theorem awake_of (b c : List UInt8) (f : Nat → Nat) (H8 : Calls8 b c f) (w : World) (hT : Tab w) :
    Calls Tryd.prog 10 #[] w fun e w' => e = .returned (.bool true) ∧ Below w.heap.size w w' := by
  have ht := Tab.lt hT
  have HT := Lib.hid hT
  have H := Lib.hid H8
  clear hT H8
  go_enter Tryd.func10, Tryd.ntmps10
  go_wp2_with fail
  refine (H.out.new w HT.out).mono ?_
  rintro e w1 ⟨g, rfl, hg, hR, hb⟩
  have H1 : Hid (At w w1 g b []) := Lib.hid ⟨hR, Tab.below HT.out hb ht, hb, hg⟩
  clear hR hb
  go_wp2_with fail
  refine (H.out.orders _ _ _ _ (Nat.le_refl _) H1.out.sl).mono ?_
  rintro e w2 ⟨rfl, hb2⟩
  have H2 := Lib.hid (H1.out.go ht hb2)
  clear hb2
  have hs2 := H2.out.row.lt
  have hs2' := H2.out.below.size
  go_wp2_with (refine wpList_store_row rfl 38 (.tmp 3) (.tmp 24) rfl w2.heap.size (arrC f) rfl rfl 38 zeros11 (row_new w2 _) (infoA' _) rfl (oneA _) ?_)
  have hR3 : ((w2.alloc (.cells zeros11 38)).setRow w2.heap.size (arrC f)).heap[w2.heap.size]? = some (.cells (arrC f) 38 (0, 0)) := setRow_heap _ _ _ _ _ _ (row_new w2 _)
  have H3 := Lib.hid ((H2.out.alloc (.cells zeros11 38)).setRow ht w2.heap.size hs2' (by omega) (arrC f))
  have hlt3 : w2.heap.size < ((w2.alloc (.cells zeros11 38)).setRow w2.heap.size (arrC f)).heap.size := by simp
  generalize (w2.alloc (.cells zeros11 38)).setRow w2.heap.size (arrC f) = w3 at *
  generalize w2.heap.size = o at *
  have HO3 := Lib.hid (And.intro hR3 hlt3)
  clear hR3 hlt3
  go_wp2_with fail
  refine (H.out.find1 _ _ _ _ (Nat.le_refl _) H3.out.sl).mono ?_
  rintro e w4 ⟨rfl, hb⟩
  have H4 := Lib.hid (H3.out.go ht hb)
  have HO4 := Lib.hid (arrow HO3.out hb)
  clear hb
  go_wp2_with fail
  refine (H.out.find2 _ _ _ _ (Nat.le_refl _) H4.out.sl).mono ?_
  rintro e w5 ⟨rfl, hb⟩
  have H5 := Lib.hid (H4.out.go ht hb)
  have HO5 := Lib.hid (arrow HO4.out hb)
  clear hb
  go_wp2_with fail
  refine (H.out.turn1 _ _ _ _ (Nat.le_refl _) (Nat.le_refl _) H5.out.sl H5.out.tab).mono ?_
  rintro e w6 ⟨g2, cap, rest, rfl, hg2, hcap, hR, hb⟩
  have H6 : Hid (At w w6 g2 c rest) := Lib.hid ⟨hR, (H5.out.go ht hb).tab, (H5.out.go ht hb).below, by have := H5.out.below.size; omega⟩
  have HO6 := Lib.hid (arrow HO5.out hb)
  clear hR hb
  go_wp2_with fail
  refine (H.out.find3 _ _ _ _ (Nat.le_refl _) H6.out.sl).mono ?_
  rintro e w7 ⟨rfl, hb⟩
  have H7 := Lib.hid (H6.out.go ht hb)
  have HO7 := Lib.hid (arrow HO6.out hb)
  clear hb
  go_wp2_with fail
  refine (H.out.turn2 _ _ _ _ hcap (Nat.le_refl _) H7.out.sl H7.out.tab).mono ?_
  rintro e w8 ⟨rfl, hb⟩
  have H8 := Lib.hid (H7.out.go ht hb)
  have HO8 := Lib.hid (arrow HO7.out hb)
  clear hb
  go_wp2_with fail
  refine (H.out.turn3 _ _ _ _ hcap (Nat.le_refl _) H8.out.sl H8.out.tab).mono ?_
  rintro e w9 ⟨rfl, hb⟩
  have H9 := Lib.hid (H8.out.go ht hb)
  have HO9 := Lib.hid (arrow HO8.out hb)
  clear hb
  obtain ⟨c0, c1, c3⟩ := counts H.out HO9.out.1
  go_wp2_with (first
    | (go_at_call 23; refine (H.out.zeros _ _ _ _ H9.out.sl).mono ?_; rintro e w' ⟨rfl, rfl⟩)
    | (go_at_call 19; refine (H.out.check _ _ _ _ hcap H9.out.sl H9.out.tab).mono ?_; rintro e w10 ⟨rfl, hd⟩))
  go_ret
  exact ⟨rfl, H9.out.below.trans ((drew_below hd).mono H9.out.below.size)⟩
theorem awake_any (w : World) (hT : Tab w) :
    Calls Tryd.prog 10 #[] w fun e w' => e = .returned (.bool true) ∧ Below w.heap.size w w' := awake_of b0 c0 (ordN b0) calls8 w hT
end Go.Proofs.YtlpipnpcgancmaaDoor.TAwake
