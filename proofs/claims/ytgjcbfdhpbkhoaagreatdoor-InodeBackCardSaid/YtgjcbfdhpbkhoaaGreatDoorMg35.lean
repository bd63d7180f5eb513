/- The store: newCache and New. -/
import Derived.Test.YtgjcbfdhpbkhoaaGreatDoorMg33
import Derived.Test.YtgjcbfdhpbkhoaaGreatDoorMg34
namespace Go.Proofs.YtgjcbfdhpbkhoaaGreatDoor.ENew
open Go.RowKit WMem WPlain WAppend Ext Map DPlain DMem Mk DBase EPlain EMem ECache
def zsh (n : Nat) : List Value := (List.range (n * 2)).map fun i => if i % 2 = 0 then .map none else .slice none 0 0
theorem zsh_len (n : Nat) : (zsh n).length = n * 2 := by simp [zsh]
theorem zsh1 {n i : Nat} (h : i < n) : (zsh n)[i * 2 + 1]? = some (.slice none 0 0) := by
  unfold zsh
  rw [List.getElem?_map, List.getElem?_range (by omega)]
  simp
theorem made_two (n : Nat) : madeCells #[.map none, .slice none 0 0] (n * 2) = (zsh n).toArray := by
  apply Array.ext
  · simp [madeCells, zsh]
  · intro i h1 h2
    simp [madeCells, zsh]
    have : i % 2 = 0 ∨ i % 2 = 1 := by omega
    rcases this with h | h <;> simp [h]
theorem make_shards (n : Nat) (hn : n ≤ 16) (w : World) : (Instr.makeSlice 102 (.int .i64 (n : Int)) (.int .i64 (n : Int))).run Tryz.prog w = .ok (.slice (some ⟨w.heap.size, 0, none⟩) n n) (w.alloc (.cells (zsh n).toArray 155)) := by
  obtain ⟨i, h1, h2, h3, h4⟩ := info_parts (P := Tryz.prog) (e := 155) (z := .agg #[.map none, .slice none 0 0]) (size := 2) (bytes := 32) (by kernel_rfl)
  have h := run_make (P := Tryz.prog) w 102 155 i (.agg #[.map none, .slice none 0 0]) (by kernel_rfl) h1 h2 .i64 .i64 n n (by omega) (by omega) (by rw [h4]; omega) (by omega)
  rw [h]
  simp only [Int.toNat_natCast, h3]
  rw [← made_two]
  rfl
structure CIn (w wr : World) (ns room k : Nat) (xs : List Value) : Prop where
  size : wr.heap.size = w.heap.size + 3 + k
  row : RowV wr (w.heap.size + 1) 155 xs
  res : wr.heap[w.heap.size]? = some (.cells #[.slice none 0 0, .int .i64 0] 104 (0, 0))
  loc : wr.heap[w.heap.size + 2]? = some (.cells #[.slice (some ⟨w.heap.size + 1, 0, none⟩) ns ns, .int .i64 (room : Int)] 104 (0, 0))
  len : xs.length = ns * 2
  cell0 : ∀ i, i < k → xs[i * 2]? = some (.map (some (w.heap.size + 3 + i)))
  cell1 : ∀ i, i < ns → xs[i * 2 + 1]? = some (.slice none 0 0)
  maps : ∀ i, i < k → MapIs wr (w.heap.size + 3 + i) 0 (fun _ => none)
  below : Below w.heap.size w wr
theorem CIn.start (w : World) (ns room : Nat) : CIn w (((w.alloc (.cells #[.slice none 0 0, .int .i64 0] 104)).alloc (.cells (zsh ns).toArray 155)).alloc
      (.cells #[.slice (some ⟨w.heap.size + 1, 0, none⟩) ns ns, .int .i64 (room : Int)] 104)) ns room 0 (zsh ns) := by
  refine ⟨by simp, ?_, row_alloc (row_alloc (row_new w _) _) _, ?_, zsh_len ns, fun i hi => (by omega), fun i hi => zsh1 hi, fun i hi => (by omega), ((((Below.refl _ _).alloc (Nat.le_refl _) _).alloc (by simp) _).alloc (by simp; omega) _)⟩
  · have h := row_new (w.alloc (.cells #[.slice none 0 0, .int .i64 0] 104)) (.cells (zsh ns).toArray 155)
    rw [World.size_alloc] at h
    exact row_alloc h _
  · have h := row_new ((w.alloc (.cells #[.slice none 0 0, .int .i64 0] 104)).alloc (.cells (zsh ns).toArray 155)) (.cells #[.slice (some ⟨w.heap.size + 1, 0, none⟩) ns ns, .int .i64 (room : Int)] 104)
    rw [World.size_alloc, World.size_alloc] at h
    exact h
theorem CIn.step {w wr : World} {ns room k : Nat} {xs : List Value} (h : CIn w wr ns room k xs) (hk : k < ns) :
    CIn w ((wr.alloc (.map #[] 0)).setCell ⟨w.heap.size + 1, k * 2, none⟩ (.map (some (w.heap.size + 3 + k)))) ns room (k + 1) (xs.set (k * 2) (.map (some (w.heap.size + 3 + k)))) := by
  have hs := h.size
  have f : ∀ q, q ≠ w.heap.size + 1 → q < wr.heap.size → ((wr.alloc (.map #[] 0)).setCell ⟨w.heap.size + 1, k * 2, none⟩ (.map (some (w.heap.size + 3 + k)))).heap[q]? = wr.heap[q]? := fun q q1 q2 =>
    (Below.heap_setCell _ _ _ q q1).trans (Below.heap_alloc _ _ _ q2)
  refine ⟨by simp [World.setCell, hs]; omega, (h.row.alloc _).set _ _, (f _ (by omega) (by omega)).trans h.res, (f _ (by omega) (by omega)).trans h.loc, by simp [h.len], fun i hi => ?_, fun i hi => ?_, fun i hi => ?_, (h.below.alloc (by omega) _).setCell (by simp) _⟩
  · by_cases e : i = k
    · subst e
      rw [List.getElem?_set_self (by rw [h.len]; omega)]
    · rw [List.getElem?_set_ne (by omega)]
      exact h.cell0 i (by omega)
  · rw [List.getElem?_set_ne (by omega)]
    exact h.cell1 i hi
  · by_cases e : i = k
    · subst e
      have hm := MapIs.made wr
      rw [hs] at hm
      exact hm.keep (Below.heap_setCell _ _ _ _ (by simp; omega))
    · exact (h.maps i (by omega)).keep (f _ (by omega) (by omega))
set_option maxRecDepth 100000 in
set_option maxHeartbeats 800000 in
theorem newCache_any (ns room : Nat) (w : World) (h2 : ns ≤ 16) :
    Calls Tryz.prog 58 #[.int .i64 ns, .int .i64 room] w fun e w' => e = .returned (.agg #[.slice (some ⟨w.heap.size + 1, 0, none⟩) ns ns, .int .i64 room]) ∧ Below w.heap.size w w' ∧ w'.heap.size = w.heap.size + 3 + ns ∧
      ∃ xs : List Value, w'.heap[w.heap.size + 1]? = some (.cells xs.toArray 155 (0, 0)) ∧ xs.length = ns * 2 ∧ (∀ i, i < ns → xs[i * 2]? = some (.map (some (w.heap.size + 3 + i))) ∧ xs[i * 2 + 1]? = some (.slice none 0 0)) ∧ ∀ i, i < ns → MapIs w' (w.heap.size + 3 + i) 0 (fun _ => none) := by
  have hmk := make_shards ns h2
  have hmm := @run_makeMap Tryz.prog
  have HST := Lib.hid (CIn.start w ns room)
  go_enter Tryz.func58, Tryz.ntmps58
  go_wp2_with fail
  clear hmk
  go_loopw [14] (fun i wr => ∃ (k : Nat) (xs : List Value), k ≤ ns ∧ i = .int .i64 k ∧ CIn w wr ns room k xs) (fun i _ => ns - (RowKit.intOf i).toNat)
  case atStart => exact ⟨0, zsh ns, Nat.zero_le _, rfl, HST.out⟩
  case round =>
    obtain ⟨k, xs, hk, rfl, hc⟩ := hrel
    have l0 : wr.cell? ⟨w.heap.size + 1 + 1, 0, none⟩ = some (.slice (some ⟨w.heap.size + 1, 0, none⟩) ns ns) := by rw [row_cell hc.loc]; rfl
    have l1 : wr.cell? ⟨w.heap.size + 1 + 1, 1, none⟩ = some (.int .i64 (room : Int)) := by rw [row_cell hc.loc]; rfl
    have HC := Lib.hid hc
    by_cases hlt : k < ns
    · have hz : wr.heap.size = w.heap.size + 3 + k := hc.size
      have hx : ∃ v, (wr.alloc (.map #[] 0)).cell? ⟨w.heap.size + 1, k * 2, none⟩ = some v := by
        have h := (hc.row.alloc (.map #[] 0)).cell (i := k * 2) (by rw [hc.len]; omega)
        exact ⟨_, h⟩
      obtain ⟨v, hx⟩ := hx
      have hf : (wr.alloc (.map #[] 0)).frozen? ⟨w.heap.size + 1, k * 2, none⟩ = false := (hc.row.alloc _).free _
      clear hc
      go_wp2
      go_roundw
      case rel =>
        exact ⟨k + 1, _, by omega, by go_num, HC.out.step hlt⟩
      case measure => simp [RowKit.intOf]; omega
    · obtain rfl : k = ns := by omega
      have r0 : wr.cell? ⟨w.heap.size, 0, none⟩ = some (.slice none 0 0) := by rw [row_cell hc.res]; rfl
      have r1 : wr.cell? ⟨w.heap.size, 1, none⟩ = some (.int .i64 0) := by rw [row_cell hc.res]; rfl
      have f0 := row_free hc.res 0
      have f1 := row_free hc.res 1
      clear hc
      go_wp2
      obtain ⟨W, hW⟩ : ∃ W, W = ((wr.setCell ⟨w.heap.size, 0, none⟩ (.slice (some ⟨w.heap.size + 1, 0, none⟩) k k)).setCell ⟨w.heap.size, 1, none⟩ (.int .i64 (room : Int))) := ⟨_, rfl⟩
      have hc := HC.out
      have e0 : W.heap[w.heap.size]? = some (.cells #[.slice (some ⟨w.heap.size + 1, 0, none⟩) k k, .int .i64 (room : Int)] 104 (0, 0)) := by
        rw [hW]
        have h1 := row_set (row_set hc.res 0 (.slice (some ⟨w.heap.size + 1, 0, none⟩) k k)) 1 (.int .i64 (room : Int))
        simpa using h1
      have far : ∀ q, q ≠ w.heap.size → W.heap[q]? = wr.heap[q]? := fun q hq => by
        rw [hW]
        exact (Below.heap_setCell _ _ _ q hq).trans (Below.heap_setCell _ _ _ q hq)
      have r2 : W.cell? ⟨w.heap.size, 0, none⟩ = some (.slice (some ⟨w.heap.size + 1, 0, none⟩) k k) := by rw [row_cell e0]; rfl
      have r3 : W.cell? ⟨w.heap.size, 1, none⟩ = some (.int .i64 (room : Int)) := by rw [row_cell e0]; rfl
      have hB : Below w.heap.size w W := by
        rw [hW]
        exact (hc.below.setCell (by simp) _).setCell (by simp) _
      have hsz : W.heap.size = wr.heap.size := by rw [hW]; simp [World.setCell]
      rw [← hW]
      refine bodyPost_ret (v := .agg #[.slice (some ⟨w.heap.size + 1, 0, none⟩) k k, .int .i64 (room : Int)]) (by simp [results, Tryz.results58, go_sem, r2, r3]) rfl ⟨rfl, hB, hsz.trans hc.size, xs, (far _ (by omega)).trans hc.row, hc.len, fun i hi => ⟨hc.cell0 i hi, hc.cell1 i hi⟩, fun i hi => (hc.maps i hi).keep (far _ (by omega))⟩
theorem MapB.none {w : World} {ρ : Ro} {r : Role} {b : Nat} (N : Nat) (hr : ρ b = r) (h : MapIs w b 0 (fun _ => none)) : MapB w ρ r b N (fun _ => none) :=
  ⟨hr, _, h.mono (Nat.zero_le _), fun k v e => (by cases e), fun n _ => rfl⟩
theorem MapH.none {w : World} {ρ : Ro} {b : Nat} (N : Nat) (hr : ρ b = .hld) (h : MapIs w b 0 (fun _ => none)) : MapH w ρ b N (fun _ => false) :=
  ⟨hr, _, h.mono (Nat.zero_le _), fun k v e => (by cases e), fun n _ => rfl⟩
def newRo (z ns : Nat) : Ro := fun k => if k = z then .chg else if k = z + 1 then .wai else if k = z + 3 then .row else if z + 5 ≤ k ∧ k < z + 5 + ns then .mp (k - (z + 5)) else if k = z + 5 + ns then .hld else if k = z + 5 + ns + 1 then .store else .no
theorem newRo_mine {z ns k : Nat} (h : Mine (newRo z ns) k) : z ≤ k ∧ k < z + 5 + ns + 2 := by
  unfold Mine newRo at h
  by_cases h1 : z ≤ k ∧ k < z + 5 + ns + 2
  · exact h1
  · exfalso
    apply h
    rw [if_neg (by omega), if_neg (by omega), if_neg (by omega), if_neg (by omega), if_neg (by omega), if_neg (by omega)]
theorem new_store {w W3 : World} {db ns room : Nat} {d : St} {xs : List Value} (h1 : 1 ≤ ns) (h2 : ns ≤ 16) (h3 : 1 ≤ room) (h4 : room ≤ 256) (h5 : 128 ≤ d.L.length) (h6 : d.L.length ≤ 4096)
    (hB : Below (w.heap.size + 2) ((w.alloc (.map #[] 0)).alloc (.map #[] 0)) W3) (hz : W3.heap.size = w.heap.size + 2 + 3 + ns) (hrow : W3.heap[w.heap.size + 2 + 1]? = some (.cells xs.toArray 155 (0, 0))) (hlen : xs.length = ns * 2)
    (hc : ∀ i, i < ns → xs[i * 2]? = some (.map (some (w.heap.size + 2 + 3 + i))) ∧ xs[i * 2 + 1]? = some (.slice none 0 0)) (hm : ∀ i, i < ns → MapIs W3 (w.heap.size + 2 + 3 + i) 0 (fun _ => none)) :
    SS ((W3.alloc (.map #[] 0)).alloc (.cells #[.pointer (some ⟨db, 0, none⟩), .map (some w.heap.size), .map (some (w.heap.size + 1)), .slice (some ⟨w.heap.size + 2 + 1, 0, none⟩) ns ns, .int .i64 (room : Int), .map (some W3.heap.size), .slice none 0 0, .int .i64 0, .int .i64 0] 109))
      (newRo w.heap.size ns) (W3.heap.size + 1) db (fresh d ns room) := by
  have hm1 : MapIs W3 w.heap.size 0 (fun _ => none) := ((MapIs.made w).alloc (.map #[] 0)).keep (hB.block _ (by omega))
  have hm2 : MapIs W3 (w.heap.size + 1) 0 (fun _ => none) := by
    have h := MapIs.made (w.alloc (.map #[] 0))
    rw [World.size_alloc] at h
    exact h.keep (hB.block _ (by omega))
  have hm3 := (MapIs.made W3).alloc (.cells #[.pointer (some ⟨db, 0, none⟩), .map (some w.heap.size), .map (some (w.heap.size + 1)), .slice (some ⟨w.heap.size + 2 + 1, 0, none⟩) ns ns, .int .i64 (room : Int), .map (some W3.heap.size), .slice none 0 0, .int .i64 0, .int .i64 0] 109)
  have hbl := row_new (W3.alloc (.map #[] 0)) (.cells #[.pointer (some ⟨db, 0, none⟩), .map (some w.heap.size), .map (some (w.heap.size + 1)), .slice (some ⟨w.heap.size + 2 + 1, 0, none⟩) ns ns, .int .i64 (room : Int), .map (some W3.heap.size), .slice none 0 0, .int .i64 0, .int .i64 0] 109)
  rw [World.size_alloc] at hbl
  have r3 : newRo w.heap.size ns (w.heap.size + 2 + 1) = .row := by
    unfold newRo
    rw [if_neg (by omega), if_neg (by omega), if_pos (by omega)]
  have gl : ∀ i, i < ns → (List.replicate ns ([] : List Nat)).getD i [] = [] := fun i hi => by
    rw [List.getD_eq_getElem?_getD]
    simp [hi]
  have hcn : ∀ rd : Nat → Bk, hasC rd [] = fun _ => none := fun rd => by funext j; simp [hasC]
  refine ⟨w.heap.size, w.heap.size + 1, W3.heap.size, w.heap.size + 2 + 1, .slice none 0 0, [], ⟨?_, ?_, ?_, ?_, ?_, ?_, ?_, ?_, ?_⟩, fresh_wf h1 h2 h3 h4 h5 h6⟩
  · simpa [fresh] using hbl
  · unfold newRo
    rw [if_neg (by omega), if_neg (by omega), if_neg (by omega), if_neg (by omega), if_neg (by omega), if_pos (by omega)]
  · exact MapB.none _ (by unfold newRo; rw [if_pos rfl]) ((hm1.alloc _).alloc _)
  · exact MapB.none _ (by unfold newRo; rw [if_neg (by omega), if_pos rfl]) ((hm2.alloc _).alloc _)
  · exact MapH.none _ (by unfold newRo; rw [if_neg (by omega), if_neg (by omega), if_neg (by omega), if_neg (by omega), if_pos (by omega)]) hm3
  · refine ⟨xs, fun i => w.heap.size + 2 + 3 + i, fun _ => .slice none 0 0, ⟨row_alloc (row_alloc hrow _) _, r3, by simp [fresh, hlen], fun i hi => ?_, fun i hi => ?_, fun i hi => ?_, fun i hi => ?_⟩⟩
    · exact (hc i (by simpa [fresh] using hi)).1
    · exact (hc i (by simpa [fresh] using hi)).2
    · have hi' : i < ns := by simpa [fresh] using hi
      show MapB _ _ _ _ _ (hasC _ ((List.replicate ns []).getD i []))
      rw [gl i hi', hcn]
      refine MapB.none _ ?_ (((hm i hi').alloc _).alloc _)
      unfold newRo
      rw [if_neg (by omega), if_neg (by omega), if_neg (by omega), if_pos (by omega)]
      congr 1
      omega
    · have hi' : i < ns := by simpa [fresh] using hi
      show OwnS _ _ _ _ _ ((List.replicate ns []).getD i []).length (((List.replicate ns []).getD i []).map natv)
      rw [gl i hi']
      exact ⟨World.ownsRow_nil _ _ _ _, fun q hq => (by cases hq)⟩
  · exact ⟨World.ownsRow_nil _ _ _ _, fun q hq => (by cases hq)⟩
  · exact ⟨rfl, fun k hk => (by cases hk)⟩
  · intro k hk
    have := newRo_mine hk
    simp [hz]
    omega
set_option maxRecDepth 100000 in
set_option maxHeartbeats 800000 in
theorem New_yes (db ns room : Nat) (d : St) (w : World) (c0 : w.cell? ⟨db, 0, none⟩ = some (.int .i64 (d.L.length : Int))) (h1 : 1 ≤ ns) (h2 : ns ≤ 16) (h3 : 1 ≤ room) (h4 : room ≤ 256) (h5 : 128 ≤ d.L.length) (h6 : d.L.length ≤ 4096) :
    Calls Tryz.prog 33 #[.pointer (some ⟨db, 0, none⟩), .int .i64 ns, .int .i64 room] w fun e w' => ∃ b ρ, e = .returned (.tuple #[.pointer (some ⟨b, 0, none⟩), .int .i64 0]) ∧ SS w' ρ b db (fresh d ns room) ∧ (∀ k, Mine ρ k → w.heap.size ≤ k) ∧ Below w.heap.size w w' := by
  have g0 : ((d.L.length : Int) == 0) = false := by rw [beq_eq_false_iff_ne]; omega
  have g1 : decide ((ns : Int) < 1) = false := by simp; omega
  have g2 : decide ((16 : Int) < (ns : Int)) = false := by simp; omega
  have g3 : decide ((room : Int) < 1) = false := by simp; omega
  have g4 : decide ((256 : Int) < (room : Int)) = false := by simp; omega
  have hmm := @run_makeMap Tryz.prog
  have HN := fun (xs : List Value) (W3 : World) a b c d' e => Lib.hid (new_store (w := w) (W3 := W3) (db := db) (xs := xs) h1 h2 h3 h4 h5 h6 a b c d' e)
  go_enter Tryz.func33, Tryz.ntmps33
  go_wp2_with fail
  refine (Blocks_at _ _ _ c0).mono ?_
  rintro e w' ⟨rfl, rfl⟩
  go_wp2_with fail
  refine (newCache_any ns room _ h2).mono ?_
  rintro e W3 ⟨rfl, hB, hz, xs, hrow, hlen, hc, hm⟩
  have e1 : ((w.alloc (.map #[] 0)).alloc (.map #[] 0)).heap.size = w.heap.size + 2 := by simp
  rw [e1] at hB hz hrow hc hm
  have HS := HN xs W3 hB hz hrow hlen hc (fun i hi => hm i hi)
  have HB : Hid (Below w.heap.size w W3) := ((((Below.refl _ _).alloc (Nat.le_refl _) _).alloc (by simp) _).trans (hB.mono (by omega)))
  have HZ := Lib.hid hz
  clear hB hz hrow hlen hc hm HN
  go_wp2
  go_ret2
  exact ⟨_, _, rfl, HS, fun k hk => (newRo_mine hk).1, (HB.out.alloc (by have := HZ.out; omega) _).alloc (by have := HZ.out; simp; omega) _⟩
end Go.Proofs.YtgjcbfdhpbkhoaaGreatDoor.ENew
