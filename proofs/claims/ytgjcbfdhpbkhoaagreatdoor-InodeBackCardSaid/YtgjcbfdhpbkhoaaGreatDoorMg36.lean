/- The program's disk: New and Read. -/
import Derived.Test.YtgjcbfdhpbkhoaaGreatDoorMg34
import Derived.Laws.CopyOwn
import Derived.Carry
namespace Go.Proofs.YtgjcbfdhpbkhoaaGreatDoor.DRead
open Go.RowKit WMem WPlain WAppend Ext Map DPlain DMem Mk DBase
abbrev Made (w w' : World) : Nat → Prop := fun g => w.heap.size ≤ g ∧ g < w'.heap.size
theorem new_disk (n : Nat) (w : World) (h0 : 128 ≤ n) (h1 : n ≤ 4096) :
    DD (((w.alloc (.map #[] 0)).alloc (.map #[] 0)).alloc (.cells #[.int .i64 (n : Int), .int .i64 0, .map (some w.heap.size), .slice none 0 0, .map (some (w.heap.size + 1))] 94))
      (Made w (((w.alloc (.map #[] 0)).alloc (.map #[] 0)).alloc (.cells #[.int .i64 (n : Int), .int .i64 0, .map (some w.heap.size), .slice none 0 0, .map (some (w.heap.size + 1))] 94))) (w.heap.size + 2) (St.new n) := by
  refine ⟨w.heap.size, w.heap.size + 1, 0, 0, fun _ => none, fun _ => none, .slice none 0 0, [], ⟨⟨by omega, by simp⟩, ?_, ⟨by omega, by simp; omega⟩, ⟨by omega, by simp⟩, by omega, ((MapIs.made w).alloc _).alloc _, ?_, ?_, ?_, ?_, ?_, wf_new n, ?_, ?_, ?_⟩, Nat.le_refl _, Nat.le_refl _⟩
  · have h := row_new ((w.alloc (.map #[] 0)).alloc (.map #[] 0)) (.cells #[.int .i64 (n : Int), .int .i64 0, .map (some w.heap.size), .slice none 0 0, .map (some (w.heap.size + 1))] 94)
    simpa [St.new] using h
  · have h := (MapIs.made (w.alloc (.map #[] 0))).alloc (.cells #[.int .i64 (n : Int), .int .i64 0, .map (some w.heap.size), .slice none 0 0, .map (some (w.heap.size + 1))] 94)
    simpa using h
  · exact ⟨World.ownsRow_nil _ _ _ _, fun g hg => (by cases hg)⟩
  · exact ⟨rfl, fun i hi => (by cases hi)⟩
  · refine ⟨fun k v hv => (by cases hv), fun k hk _ => ?_⟩
    simp [St.new]
  · exact ⟨fun k v hv => (by cases hv), fun k _ => rfl⟩
  · simpa [St.new] using h0
  · simpa [St.new] using h1
  · intro k hk; exact hk.2
set_option maxHeartbeats 400000 in
set_option maxRecDepth 100000 in
theorem New_yes (n : Nat) (w : World) (h0 : 128 ≤ n) (h1 : n ≤ 4096) :
    Calls Tryz.prog 30 #[.int .i64 n] w fun e w' => ∃ g, e = .returned (.tuple #[.pointer (some ⟨g, 0, none⟩), .int .i64 0]) ∧ DD w' (Made w w') g (St.new n) ∧ Below w.heap.size w w' := by
  have HD := Lib.hid (new_disk n w h0 h1)
  have hmm := @run_makeMap Tryz.prog
  have hn0 : (128 : Int) ≤ (n : Int) := by omega
  have hn1 : (n : Int) ≤ 4096 := by omega
  go_enter Tryz.func30, Tryz.ntmps30
  go_wp2
  go_ret2
  exact ⟨w.heap.size + 2, rfl, HD.out, (((Below.refl _ _).alloc (Nat.le_refl _) _).alloc (by simp) _).alloc (by simp; omega) _⟩
theorem splice_any (z : UInt8) (n : Nat) (l : List UInt8) : splice ((List.replicate n z).map u8v ++ []) 0 (l.map u8v) = (l ++ List.replicate (n - l.length) z).map u8v ++ [] := by
  simp [splice, List.drop_replicate]
theorem splice_head (l : List UInt8) (_h : l.length ≤ 256) : splice ((List.replicate 256 (0 : UInt8)).map u8v ++ []) 0 (l.map u8v) = (l ++ List.replicate (256 - l.length) 0).map u8v ++ [] := splice_any 0 256 l
set_option maxHeartbeats 800000 in
set_option maxRecDepth 100000 in
theorem Read_late (b n m m2 : Nat) (k : List UInt8) (A : Option Addr) (c : Nat) (w : World) (c0 : w.cell? ⟨b, 0, none⟩ = some (.int .i64 m)) (hn : n < m) (c4 : w.cell? ⟨b, 4, none⟩ = some (.map (some m2)))
    (hl : (Instr.lookup 91 (.map (some m2)) (.int .i64 n) true).run Tryz.prog w = .ok (.tuple #[.slice A k.length c, .bool true]) w) (hA : Sl w w.heap.size A (k.map u8v)) (hk : k.length ≤ 256) :
    Calls Tryz.prog 106 #[.pointer (some ⟨b, 0, none⟩), .int .i64 n] w fun e w' =>
      ∃ g, e = .returned (.tuple #[.slice (some ⟨g, 0, none⟩) 256 256, .int .i64 0]) ∧ w.heap.size ≤ g ∧ Row w' g (k ++ List.replicate (256 - k.length) 0) [] ∧ Below w.heap.size w w' := by
  have HA := Lib.hid hA
  have hmk := make256
  have U1 : Tryz.prog.underlying 22 = some (.slice 5) := by kernel_rfl
  have U2 : (Tryz.prog.info? 5).map (·.size) = some 1 := by kernel_rfl
  have HN : Hid ((k.map u8v).length = Nat.min k.length 256) := (List.length_map ..).trans (Nat.min_eq_left hk).symm
  have HF : Hid (0 + (k.map u8v).length ≤ ((List.replicate 256 (0 : UInt8)).map u8v ++ []).length) := by
    show _ ≤ _
    rw [List.length_append, List.length_map, List.length_map, List.length_replicate, List.length_nil]
    omega
  have HS := Lib.hid (splice_head k hk)
  have HZ : Hid ((w.alloc (.cells (zrow 256) 5)).heap[w.heap.size]? = some (.cells ((List.replicate 256 (0 : UInt8)).map u8v ++ []).toArray 5 (0, 0))) := row_new _ _
  have HB : Hid (Below w.heap.size w (w.alloc (.cells (zrow 256) 5))) := (Below.refl _ _).alloc (Nat.le_refl _) _
  have HC : Hid (0 < (k.map u8v).length → ∃ ad, A = some ad ∧ ∀ j v, (k.map u8v)[j]? = some v → (w.alloc (.cells (zrow 256) 5)).cell? (ad.add j) = some v) := fun h0 => by
    obtain ⟨ad, hAd, _, _⟩ := hA 0 _ (List.getElem?_eq_getElem h0)
    refine ⟨ad, hAd, fun j v hv => ?_⟩
    obtain ⟨ad', hAd', hb, hc⟩ := hA j v hv
    rw [hAd] at hAd'
    injection hAd' with hAd'
    subst hAd'
    rw [World.cell?_alloc_lt w _ _ (by rw [addr_add_block]; exact hb)]
    exact hc
  clear hA
  go_enter Tryz.func106, Tryz.ntmps106
  go_wp2_with (first
    | (go_at_call 89; refine (has_yes b n m _ c0 hn).mono ?_; rintro e w' ⟨rfl, rfl⟩)
    | (with_reducible show wpList _ _ _ (Oper.mk (some 33) _ _ _ _ _ :: _) _ _
       go_must (refine wpList_copy_splice rfl (.tmp 31) (.tmp 32) 22 22 rfl 5 U1 U2 (some ⟨w.heap.size, 0, none⟩) A 256 256 k.length c (by rfl) (by rfl) w.heap.size 0 _ 5 HZ.out (k.map u8v) HN.out (fun h0 => ⟨rfl, HC.out h0⟩) HF.out (one_u8 k) w.heap.size w HB.out (Nat.le_refl _) ?_)
       intro w2 HG2 hB2))
  go_ret2
  refine ⟨w.heap.size, rfl, Nat.le_refl _, ?_, hB2⟩
  have h := HG2.out
  rw [HS.out] at h
  exact h
set_option maxHeartbeats 800000 in
set_option maxRecDepth 100000 in
theorem Read_done (b n m m1 m2 : Nat) (k : List UInt8) (A : Option Addr) (c : Nat) (w : World) (c0 : w.cell? ⟨b, 0, none⟩ = some (.int .i64 m)) (hn : n < m) (c4 : w.cell? ⟨b, 4, none⟩ = some (.map (some m2))) (c2 : w.cell? ⟨b, 2, none⟩ = some (.map (some m1)))
    (hl : (Instr.lookup 91 (.map (some m2)) (.int .i64 n) true).run Tryz.prog w = .ok (.tuple #[.slice none 0 0, .bool false]) w)
    (hl2 : (Instr.lookup 91 (.map (some m1)) (.int .i64 n) false).run Tryz.prog w = .ok (.slice A k.length c) w) (hA : Sl w w.heap.size A (k.map u8v)) (hk : k.length ≤ 256) :
    Calls Tryz.prog 106 #[.pointer (some ⟨b, 0, none⟩), .int .i64 n] w fun e w' =>
      ∃ g, e = .returned (.tuple #[.slice (some ⟨g, 0, none⟩) 256 256, .int .i64 0]) ∧ w.heap.size ≤ g ∧ Row w' g (k ++ List.replicate (256 - k.length) 0) [] ∧ Below w.heap.size w w' := by
  have HA := Lib.hid hA
  have hmk := make256
  have U1 : Tryz.prog.underlying 22 = some (.slice 5) := by kernel_rfl
  have U2 : (Tryz.prog.info? 5).map (·.size) = some 1 := by kernel_rfl
  have HN : Hid ((k.map u8v).length = Nat.min k.length 256) := (List.length_map ..).trans (Nat.min_eq_left hk).symm
  have HF : Hid (0 + (k.map u8v).length ≤ ((List.replicate 256 (0 : UInt8)).map u8v ++ []).length) := by
    show _ ≤ _
    rw [List.length_append, List.length_map, List.length_map, List.length_replicate, List.length_nil]
    omega
  have HS := Lib.hid (splice_head k hk)
  have HZ : Hid ((w.alloc (.cells (zrow 256) 5)).heap[w.heap.size]? = some (.cells ((List.replicate 256 (0 : UInt8)).map u8v ++ []).toArray 5 (0, 0))) := row_new _ _
  have HB : Hid (Below w.heap.size w (w.alloc (.cells (zrow 256) 5))) := (Below.refl _ _).alloc (Nat.le_refl _) _
  have HC : Hid (0 < (k.map u8v).length → ∃ ad, A = some ad ∧ ∀ j v, (k.map u8v)[j]? = some v → (w.alloc (.cells (zrow 256) 5)).cell? (ad.add j) = some v) := fun h0 => by
    obtain ⟨ad, hAd, _, _⟩ := hA 0 _ (List.getElem?_eq_getElem h0)
    refine ⟨ad, hAd, fun j v hv => ?_⟩
    obtain ⟨ad', hAd', hb, hc⟩ := hA j v hv
    rw [hAd] at hAd'
    injection hAd' with hAd'
    subst hAd'
    rw [World.cell?_alloc_lt w _ _ (by rw [addr_add_block]; exact hb)]
    exact hc
  clear hA
  go_enter Tryz.func106, Tryz.ntmps106
  go_wp2_with (first
    | (go_at_call 89; refine (has_yes b n m _ c0 hn).mono ?_; rintro e w' ⟨rfl, rfl⟩)
    | (with_reducible show wpList _ _ _ (Oper.mk (some 33) _ _ _ _ _ :: _) _ _
       go_must (refine wpList_copy_splice rfl (.tmp 31) (.tmp 32) 22 22 rfl 5 U1 U2 (some ⟨w.heap.size, 0, none⟩) A 256 256 k.length c (by rfl) (by rfl) w.heap.size 0 _ 5 HZ.out (k.map u8v) HN.out (fun h0 => ⟨rfl, HC.out h0⟩) HF.out (one_u8 k) w.heap.size w HB.out (Nat.le_refl _) ?_)
       intro w2 HG2 hB2))
  go_ret2
  refine ⟨w.heap.size, rfl, Nat.le_refl _, ?_, hB2⟩
  have h := HG2.out
  rw [HS.out] at h
  exact h
theorem blk_sl {w : World} {S : Nat → Prop} {v : Value} {l : List UInt8} (h : IsBlk w S v l) : ∃ g c, v = .slice (some ⟨g, 0, none⟩) l.length c ∧ Sl w w.heap.size (some ⟨g, 0, none⟩) (l.map u8v) := by
  obtain ⟨g, c, rest, rfl, _, hl, _, hr⟩ := h
  exact ⟨g, c, by rw [hl], hr.sl hr.lt⟩
theorem fits_nat {n : Nat} (h : n ≤ 4096) : Fits (n : Int) := ⟨by omega, by omega⟩
theorem Read_yes (S : Nat → Prop) (b n : Nat) (s : St) (w : World) (hd : DD w S b s) (hn : n < s.L.length) :
    Calls Tryz.prog 106 #[.pointer (some ⟨b, 0, none⟩), .int .i64 n] w fun e w' =>
      ∃ g, e = .returned (.tuple #[.slice (some ⟨g, 0, none⟩) 256 256, .int .i64 0]) ∧ w.heap.size ≤ g ∧ Row w' g (s.readAt n) [] ∧ Below w.heap.size w w' := by
  obtain ⟨m1, m2, n1, n2, f, h, Pv, ys, hx, _, _⟩ := hd
  have hf : Fits (n : Int) := fits_nat (by have := hx.most; omega)
  have l2 := hx.late.look_ok hf
  cases hh : h n with
  | some v =>
    obtain ⟨n', l, hnn, hlast, hv⟩ := hx.lateOf.1 _ _ hh
    obtain rfl : n = n' := by omega
    obtain ⟨g0, c, rfl, hsl⟩ := blk_sl hv
    rw [hh] at l2
    refine (Read_late b n s.L.length m2 l (some ⟨g0, 0, none⟩) c w hx.c0 hn hx.c4 l2 hsl (by rw [hv.len]; exact Nat.le_refl _)).mono ?_
    rintro e w' ⟨g, rfl, h1, h2, h3⟩
    refine ⟨g, rfl, h1, ?_, h3⟩
    unfold St.readAt
    rw [hlast]
    rw [hv.len] at h2
    simpa using h2
  | none =>
    have hlast := hx.lateOf.2 _ hh
    rw [hh] at l2
    have l1 := hx.done.look hf
    have hL : s.L.getD n [] = s.L[n] := by rw [List.getD_eq_getElem?_getD, List.getElem?_eq_getElem hn]; rfl
    cases hff : f n with
    | some v =>
      obtain ⟨n', hn', hnn, hv⟩ := hx.doneOf.1 _ _ hff
      obtain rfl : n = n' := by omega
      obtain ⟨g0, c, rfl, hsl⟩ := blk_sl hv
      rw [hff] at l1
      refine (Read_done b n s.L.length m1 m2 s.L[n] (some ⟨g0, 0, none⟩) c w hx.c0 hn hx.c4 hx.c2 l2 l1 hsl (by rw [hv.len]; exact Nat.le_refl _)).mono ?_
      rintro e w' ⟨g, rfl, h1, h2, h3⟩
      refine ⟨g, rfl, h1, ?_, h3⟩
      unfold St.readAt
      rw [hlast, Option.getD_none, hL]
      rw [hv.len] at h2
      simpa using h2
    | none =>
      have hz := hx.doneOf.2 n hn hff
      rw [hff] at l1
      refine (Read_done b n s.L.length m1 m2 [] none 0 w hx.c0 hn hx.c4 hx.c2 l2 l1 (Sl.nil _ _ _) (Nat.zero_le _)).mono ?_
      rintro e w' ⟨g, rfl, h1, h2, h3⟩
      refine ⟨g, rfl, h1, ?_, h3⟩
      unfold St.readAt
      rw [hlast, Option.getD_none, hL, hz]
      exact h2
end Go.Proofs.YtgjcbfdhpbkhoaaGreatDoor.DRead
