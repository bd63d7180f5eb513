/- The faces Pack and Unpack: what is given up within is caught and answered. -/
import Derived.Test.YtkkcipjlinfieaaDoorWUnpack
import Derived.Test.YtkkcipjlinfieaaDoorWFace
namespace Go.Proofs.YtkkcipjlinfieaaDoor.WFace2
open Go.RowKit WMem WPlain WGive WGet WPut WAppend WHelp WList WPack WUnpack WFace

theorem alloc_sl {w : World} {B : Nat} {A : Option Addr} {xs : List Value} (h : Sl w B A xs) (hB : B ≤ w.heap.size) (o : Obj) : Sl (w.alloc o) B A xs := h.keep fun q hq => World.cell?_alloc_lt w o q (by omega)

/-- a face that answers a row of its own: the row lies behind the face's own cell -/
theorem face_end {w w1 w' : World} {T : TypeId} {xs : List Value} {o : Obj} {v : Value} (hR : RowV w1 (w.alloc o).heap.size T xs) (hb : Below (w.alloc o).heap.size (w.alloc o) w1) (hs : (w.alloc o).heap.size < w1.heap.size)
    (hg : (w1.setCell ⟨w.heap.size, 0, none⟩ v).grownBy w' (some w.heap.size)) : RowV w' (w.heap.size + 1) T xs ∧ Below w.heap.size w w' := by
  have e : (w.alloc o).heap.size = w.heap.size + 1 := by simp
  rw [e] at hR hb hs
  have g1 : w1.grownBy w' (some w.heap.size) := grown_trans (grown_setp (p := ⟨w.heap.size, 0, none⟩) (grown_refl w1 _) v) hg
  refine ⟨hR.grown g1 (by simp), ?_⟩
  exact ((Below.refl _ _).alloc (Nat.le_refl _) o).trans ((hb.mono (by omega)).trans (grown_below g1 (Nat.le_refl _) (by omega)))

set_option maxHeartbeats 400000 in
theorem Unpack_ok (ns : List Nat) (b : List UInt8) (B : Nat) (A A' : Option Addr) (c c' : Nat) (w : World) (hB : B ≤ w.heap.size) (hf : fine ns) (ht : tot ns = b.length) (hl : b.length ≤ 140737488355328) (hl' : ns.length ≤ 17592186044416)
    (hA : Sl w B A (b.map u8v)) (hA' : Sl w B A' (ns.map natv)) :
    Calls Tryd.prog 47 #[.slice A b.length c, .slice A' ns.length c'] w fun e w' =>
      ∃ g, e = .returned (.tuple #[.slice (some ⟨g, 0, none⟩) ns.length ns.length, .int .i64 0]) ∧ w.heap.size ≤ g ∧ RowV w' g 66 ((unp ns b).map u64v) ∧ Below w.heap.size w w' := by
  have hmf := mf
  have HF := Lib.hid hf
  have HA := Lib.hid (alloc_sl hA hB (.cells #[.int .i64 0] 26))
  have HA' := Lib.hid (alloc_sl hA' hB (.cells #[.int .i64 0] 26))
  have HT := Lib.hid ht
  have hb : ((b.length : Int) == (tot ns : Int)) = true := by rw [beq_iff_eq]; omega
  have ht' : tot ns ≤ 140737488355328 := by omega
  clear hf hA hA' ht
  go_enter_defers Tryd.func47, Tryd.ntmps47
  go_wp2_with fail
  refine (total_ok ns B A' c' _ HF.out hl' HA'.out).mono ?_
  rintro e w1 ⟨rfl, rfl⟩
  go_wp2_with (go_at_call 57; refine (must_ok _ _).mono ?_; rintro e w' ⟨rfl, rfl⟩)
  refine (unpack_ok ns b B A A' c c' _ (by simp; omega) HF.out HT.out hl hl' HA.out HA'.out).mono ?_
  rintro e w1 ⟨rfl, hR, hb1, hsz⟩
  have hc1 : w1.cell? ⟨w.heap.size, 0, none⟩ = some (.int .i64 0) := (hb1.cell (by simp)).trans (by simp [go_sem])
  have hz1 : w1.frozen? ⟨w.heap.size, 0, none⟩ = false := (hb1.frozen (by simp)).trans (by simp [go_sem])
  have HR := Lib.hid hR
  have HB := Lib.hid hb1
  have HZ := Lib.hid hsz
  clear hR hb1 hsz hb
  go_wp2
  refine leaves_cons (f := 66) (args := #[.pointer (some ⟨w.heap.size, 0, none⟩)]) (by simp) (by simp [go_sem]) ?_
  refine (unpack_idle _ 0 _ (by simp [go_sem, hc1]) (by simp [go_sem, hz1])).mono ?_
  rintro e u' w' ⟨rfl, rfl, hc, hg⟩
  simp only [Leaves, settle]
  refine ⟨_, ?_, w.heap.size + 1, rfl, by omega, ?_⟩
  · simp [results, Tryd.results47, go_sem, hc]
  · exact face_end HR.out HB.out HZ.out hg

/-- a face that gives up: nothing of what was there has turned -/
theorem gave_up {w w' : World} {o : Obj} (hg : (w.alloc o).grownBy w' (some w.heap.size)) : Below w.heap.size w w' :=
  ((Below.refl _ _).alloc (Nat.le_refl _) _).trans (grown_below hg (Nat.le_refl _) (by simp))

set_option maxHeartbeats 400000 in
theorem Unpack_width (ws : List Int) (len : Nat) (B : Nat) (A A' : Option Addr) (c c' : Nat) (w : World) (hB : B ≤ w.heap.size) (hf : ¬ ∀ n ∈ ws, 1 ≤ n ∧ n ≤ 8) (hl' : ws.length ≤ 17592186044416)
    (hA' : Sl w B A' (ws.map i64v)) :
    Calls Tryd.prog 47 #[.slice A len c, .slice A' ws.length c'] w fun e w' => e = .returned (.tuple #[.slice none 0 0, .int .i64 22]) ∧ Below w.heap.size w w' := by
  have hmf := mf
  have HF := Lib.hid hf
  have HA' := Lib.hid (alloc_sl hA' hB (.cells #[.int .i64 0] 26))
  clear hf hA'
  go_enter_defers Tryd.func47, Tryd.ntmps47
  go_wp2_with (go_at_call 58; refine (total_no ws B A' c' _ HF.out hl' HA'.out).mono ?_; rintro e w1 ⟨rfl, rfl⟩)
  refine leaves_cons (f := 66) (args := #[.pointer (some ⟨w.heap.size, 0, none⟩)]) (by simp) (by simp [go_sem]) ?_
  refine (unpack_caught _ 0 22 _ _ (by simp [go_sem]) (by simp [go_sem])).mono ?_
  rintro e u' w' ⟨rfl, rfl, hc, hg⟩
  simp only [Leaves, settle, List.dropWhile]
  refine ⟨_, ?_, rfl, gave_up hg⟩
  simp [results, Tryd.results47, go_sem, hc]

set_option maxHeartbeats 400000 in
theorem Unpack_len (ns : List Nat) (len : Nat) (B : Nat) (A A' : Option Addr) (c c' : Nat) (w : World) (hB : B ≤ w.heap.size) (hf : fine ns) (ht : tot ns ≠ len) (hl' : ns.length ≤ 17592186044416)
    (hA' : Sl w B A' (ns.map natv)) :
    Calls Tryd.prog 47 #[.slice A len c, .slice A' ns.length c'] w fun e w' => e = .returned (.tuple #[.slice none 0 0, .int .i64 22]) ∧ Below w.heap.size w w' := by
  have hmf := mf
  have HF := Lib.hid hf
  have HA' := Lib.hid (alloc_sl hA' hB (.cells #[.int .i64 0] 26))
  have hb : ((len : Int) == (tot ns : Int)) = false := by rw [beq_eq_false_iff_ne]; omega
  have ht' := (tot_le ns hf).2
  clear hf hA' ht
  go_enter_defers Tryd.func47, Tryd.ntmps47
  go_wp2_with (first | (go_at_call 58; refine (total_ok ns B A' c' _ HF.out hl' HA'.out).mono ?_; rintro e w1 ⟨rfl, rfl⟩) | (go_at_call 57; refine (must_no _ _).mono ?_; rintro e w' ⟨rfl, rfl⟩))
  refine leaves_cons (f := 66) (args := #[.pointer (some ⟨w.heap.size, 0, none⟩)]) (by simp) (by simp [go_sem]) ?_
  refine (unpack_caught _ 0 22 _ _ (by simp [go_sem]) (by simp [go_sem])).mono ?_
  rintro e u' w' ⟨rfl, rfl, hc, hg⟩
  simp only [Leaves, settle, List.dropWhile]
  refine ⟨_, ?_, rfl, gave_up hg⟩
  simp [results, Tryd.results47, go_sem, hc]

set_option maxHeartbeats 400000 in
theorem Pack_count (len len' : Nat) (size : Int) (A A' : Option Addr) (c c' : Nat) (w : World) (h : len ≠ len') :
    Calls Tryd.prog 31 #[.slice A len c, .slice A' len' c', .int .i64 size] w fun e w' => e = .returned (.tuple #[.slice none 0 0, .int .i64 22]) ∧ Below w.heap.size w w' := by
  have hmf := mf
  have hb : ((len : Int) == (len' : Int)) = false := by rw [beq_eq_false_iff_ne]; omega
  have hb2 : (len == len') = false := by rw [beq_eq_false_iff_ne]; omega
  clear h
  go_enter_defers Tryd.func31, Tryd.ntmps31
  go_wp2_with (go_at_call 57; refine (must_no _ _).mono ?_; rintro e w' ⟨rfl, rfl⟩)
  refine leaves_cons (f := 56) (args := #[.pointer (some ⟨w.heap.size, 0, none⟩)]) (by simp) (by simp [go_sem]) ?_
  refine (pack_caught _ 0 22 _ _ (by simp [go_sem]) (by simp [go_sem])).mono ?_
  rintro e u' w' ⟨rfl, rfl, hc, hg⟩
  simp only [Leaves, settle, List.dropWhile]
  refine ⟨_, ?_, rfl, gave_up hg⟩
  simp [results, Tryd.results31, go_sem, hc]

set_option maxHeartbeats 400000 in
theorem Pack_width (ws : List Int) (len : Nat) (size : Int) (B : Nat) (A A' : Option Addr) (c c' : Nat) (w : World) (hB : B ≤ w.heap.size) (h : len = ws.length) (hf : ¬ ∀ n ∈ ws, 1 ≤ n ∧ n ≤ 8) (hl' : ws.length ≤ 17592186044416)
    (hA' : Sl w B A' (ws.map i64v)) :
    Calls Tryd.prog 31 #[.slice A len c, .slice A' ws.length c', .int .i64 size] w fun e w' => e = .returned (.tuple #[.slice none 0 0, .int .i64 22]) ∧ Below w.heap.size w w' := by
  have hmf := mf
  have HF := Lib.hid hf
  have HA' := Lib.hid (alloc_sl hA' hB (.cells #[.int .i64 0] 26))
  subst h
  have hb : ((ws.length : Int) == (ws.length : Int)) = true := by rw [beq_iff_eq]
  clear hf hA'
  go_enter_defers Tryd.func31, Tryd.ntmps31
  go_wp2_with (first | (go_at_call 57; refine (must_ok _ _).mono ?_; rintro e w' ⟨rfl, rfl⟩) | (go_at_call 58; refine (total_no ws B A' c' _ HF.out hl' HA'.out).mono ?_; rintro e w1 ⟨rfl, rfl⟩))
  refine leaves_cons (f := 56) (args := #[.pointer (some ⟨w.heap.size, 0, none⟩)]) (by simp) (by simp [go_sem]) ?_
  refine (pack_caught _ 0 22 _ _ (by simp [go_sem]) (by simp [go_sem])).mono ?_
  rintro e u' w' ⟨rfl, rfl, hc, hg⟩
  simp only [Leaves, settle, List.dropWhile]
  refine ⟨_, ?_, rfl, gave_up hg⟩
  simp [results, Tryd.results31, go_sem, hc]

/-- what stands in the test of the size, both ways -/
theorem size_no (t : Nat) (size : Int) (h : ¬ ((t : Int) ≤ size ∧ size ≤ 4096)) : (decide ((t : Int) ≤ size) = true ∧ decide (size ≤ 4096) = false) ∨ decide ((t : Int) ≤ size) = false := by
  by_cases h1 : (t : Int) ≤ size
  · exact .inl ⟨by simpa using h1, by simp; omega⟩
  · exact .inr (by simpa using h1)

set_option maxHeartbeats 400000 in
theorem Pack_size (ns : List Nat) (len : Nat) (size : Int) (B : Nat) (A A' : Option Addr) (c c' : Nat) (w : World) (hB : B ≤ w.heap.size) (h : len = ns.length) (hf : fine ns) (hs : ¬ ((tot ns : Int) ≤ size ∧ size ≤ 4096)) (hl' : ns.length ≤ 17592186044416)
    (hA' : Sl w B A' (ns.map natv)) :
    Calls Tryd.prog 31 #[.slice A len c, .slice A' ns.length c', .int .i64 size] w fun e w' => e = .returned (.tuple #[.slice none 0 0, .int .i64 22]) ∧ Below w.heap.size w w' := by
  have hmf := mf
  have HF := Lib.hid hf
  have HA' := Lib.hid (alloc_sl hA' hB (.cells #[.int .i64 0] 26))
  subst h
  have hb : ((ns.length : Int) == (ns.length : Int)) = true := by rw [beq_iff_eq]
  have ht' := (tot_le ns hf).2
  have hs' := size_no _ _ hs
  clear hf hA' hs
  rcases hs' with ⟨d1, d2⟩ | d1
  · go_enter_defers Tryd.func31, Tryd.ntmps31
    go_wp2_with fail
    refine (must_ok _ _).mono ?_
    rintro e w' ⟨rfl, rfl⟩
    go_wp2_with fail
    refine (total_ok ns B A' c' _ HF.out hl' HA'.out).mono ?_
    rintro e w1 ⟨rfl, rfl⟩
    go_wp2_with (go_at_call 57; refine (must_no _ _).mono ?_; rintro e w' ⟨rfl, rfl⟩)
    refine leaves_cons (f := 56) (args := #[.pointer (some ⟨w.heap.size, 0, none⟩)]) (by simp) (by simp [go_sem]) ?_
    refine (pack_caught _ 0 22 _ _ (by simp [go_sem]) (by simp [go_sem])).mono ?_
    rintro e u' w' ⟨rfl, rfl, hc, hg⟩
    simp only [Leaves, settle, List.dropWhile]
    refine ⟨_, ?_, rfl, gave_up hg⟩
    simp [results, Tryd.results31, go_sem, hc]
  · go_enter_defers Tryd.func31, Tryd.ntmps31
    go_wp2_with fail
    refine (must_ok _ _).mono ?_
    rintro e w' ⟨rfl, rfl⟩
    go_wp2_with fail
    refine (total_ok ns B A' c' _ HF.out hl' HA'.out).mono ?_
    rintro e w1 ⟨rfl, rfl⟩
    go_wp2_with (go_at_call 57; refine (must_no _ _).mono ?_; rintro e w' ⟨rfl, rfl⟩)
    refine leaves_cons (f := 56) (args := #[.pointer (some ⟨w.heap.size, 0, none⟩)]) (by simp) (by simp [go_sem]) ?_
    refine (pack_caught _ 0 22 _ _ (by simp [go_sem]) (by simp [go_sem])).mono ?_
    rintro e u' w' ⟨rfl, rfl, hc, hg⟩
    simp only [Leaves, settle, List.dropWhile]
    refine ⟨_, ?_, rfl, gave_up hg⟩
    simp [results, Tryd.results31, go_sem, hc]

set_option maxHeartbeats 400000 in
theorem Pack_big (ns : List Nat) (xs : List UInt64) (size B : Nat) (A A' : Option Addr) (c c' : Nat) (w : World) (hB : B ≤ w.heap.size) (h : ns.length = xs.length) (hf : fine ns) (hx : ¬ fit ns xs) (ht : tot ns ≤ size) (hs : size ≤ 4096)
    (hA : Sl w B A (xs.map u64v)) (hA' : Sl w B A' (ns.map natv)) :
    Calls Tryd.prog 31 #[.slice A xs.length c, .slice A' ns.length c', .int .i64 size] w fun e w' => e = .returned (.tuple #[.slice none 0 0, .int .i64 34]) ∧ Below w.heap.size w w' := by
  have hmf := mf
  have HF := Lib.hid hf
  have HX := Lib.hid hx
  have HH := Lib.hid h
  have HA := Lib.hid (alloc_sl hA hB (.cells #[.int .i64 0] 26))
  have HA' := Lib.hid (alloc_sl hA' hB (.cells #[.int .i64 0] 26))
  have hb : ((xs.length : Int) == (ns.length : Int)) = true := by rw [beq_iff_eq]; omega
  have hb2 : (xs.length == ns.length) = true := by rw [beq_iff_eq]; omega
  have hn4 := (tot_le ns hf).1
  have hxl : xs.length ≤ 4096 := by omega
  have d1 : decide ((tot ns : Int) ≤ (size : Int)) = true := by simpa using ht
  have d2 : decide ((size : Int) ≤ 4096) = true := by simp; omega
  have d3 : decide (tot ns ≤ size) = true := by simpa using ht
  clear hf hx hA hA' h
  go_enter_defers Tryd.func31, Tryd.ntmps31
  go_wp2_with fail
  refine (must_ok _ _).mono ?_
  rintro e w' ⟨rfl, rfl⟩
  go_wp2_with fail
  refine (total_ok ns B A' c' _ HF.out (by omega) HA'.out).mono ?_
  rintro e w1 ⟨rfl, rfl⟩
  go_wp2_with fail
  refine (must_ok _ _).mono ?_
  rintro e w' ⟨rfl, rfl⟩
  go_wp2_with fail
  refine (pack_no ns xs size B A A' c c' _ (by simp; omega) HH.out HF.out HX.out ht hs HA.out HA'.out).mono ?_
  rintro e w1 ⟨rfl, hb1⟩
  have hc1 : w1.cell? ⟨w.heap.size, 0, none⟩ = some (.int .i64 0) := (hb1.cell (by simp)).trans (by simp [go_sem])
  have hz1 : w1.frozen? ⟨w.heap.size, 0, none⟩ = false := (hb1.frozen (by simp)).trans (by simp [go_sem])
  have HB := Lib.hid hb1
  clear hb1
  refine leaves_cons (f := 56) (args := #[.pointer (some ⟨w.heap.size, 0, none⟩)]) (by simp) (by simp [go_sem]) ?_
  refine (pack_caught _ 0 34 _ _ (by simp [go_sem, hc1]) (by simp [go_sem, hz1])).mono ?_
  rintro e u' w' ⟨rfl, rfl, hc, hg⟩
  simp only [Leaves, settle, List.dropWhile]
  refine ⟨_, ?_, rfl, ?_⟩
  · simp [results, Tryd.results31, go_sem, hc]
  · have h1 := HB.out.size
    have h2 := HB.out
    simp at h1 h2
    exact ((Below.refl _ _).alloc (Nat.le_refl _) _).trans ((h2.mono (by omega)).trans (grown_below hg (Nat.le_refl _) (by simp; omega)))

set_option maxHeartbeats 400000 in
theorem Pack_ok (ns : List Nat) (xs : List UInt64) (size B : Nat) (A A' : Option Addr) (c c' : Nat) (w : World) (hB : B ≤ w.heap.size) (h : ns.length = xs.length) (hf : fine ns) (hx : fit ns xs) (ht : tot ns ≤ size) (hs : size ≤ 4096)
    (hA : Sl w B A (xs.map u64v)) (hA' : Sl w B A' (ns.map natv)) :
    Calls Tryd.prog 31 #[.slice A xs.length c, .slice A' ns.length c', .int .i64 size] w fun e w' =>
      ∃ g, e = .returned (.tuple #[.slice (some ⟨g, 0, none⟩) size size, .int .i64 0]) ∧ w.heap.size ≤ g ∧ Row w' g (WPack.part size ns xs ns.length) [] ∧ Below w.heap.size w w' := by
  have hmf := mf
  have HF := Lib.hid hf
  have HX := Lib.hid hx
  have HH := Lib.hid h
  have HA := Lib.hid (alloc_sl hA hB (.cells #[.int .i64 0] 26))
  have HA' := Lib.hid (alloc_sl hA' hB (.cells #[.int .i64 0] 26))
  have hb : ((xs.length : Int) == (ns.length : Int)) = true := by rw [beq_iff_eq]; omega
  have hb2 : (xs.length == ns.length) = true := by rw [beq_iff_eq]; omega
  have hn4 := (tot_le ns hf).1
  have hxl : xs.length ≤ 4096 := by omega
  have d1 : decide ((tot ns : Int) ≤ (size : Int)) = true := by simpa using ht
  have d2 : decide ((size : Int) ≤ 4096) = true := by simp; omega
  have d3 : decide (tot ns ≤ size) = true := by simpa using ht
  clear hf hx hA hA' h
  go_enter_defers Tryd.func31, Tryd.ntmps31
  go_wp2_with fail
  refine (must_ok _ _).mono ?_
  rintro e w' ⟨rfl, rfl⟩
  go_wp2_with fail
  refine (total_ok ns B A' c' _ HF.out (by omega) HA'.out).mono ?_
  rintro e w1 ⟨rfl, rfl⟩
  go_wp2_with fail
  refine (must_ok _ _).mono ?_
  rintro e w' ⟨rfl, rfl⟩
  go_wp2_with fail
  refine (pack_ok ns xs size B A A' c c' _ (by simp; omega) HH.out HF.out HX.out ht hs HA.out HA'.out).mono ?_
  rintro e w1 ⟨rfl, hR, hb1, hsz⟩
  have hc1 : w1.cell? ⟨w.heap.size, 0, none⟩ = some (.int .i64 0) := (hb1.cell (by simp)).trans (by simp [go_sem])
  have hz1 : w1.frozen? ⟨w.heap.size, 0, none⟩ = false := (hb1.frozen (by simp)).trans (by simp [go_sem])
  have HR := Lib.hid hR
  have HB := Lib.hid hb1
  have HZ := Lib.hid hsz
  clear hR hb1 hsz hb hb2 d1 d2 d3
  go_wp2
  refine leaves_cons (f := 56) (args := #[.pointer (some ⟨w.heap.size, 0, none⟩)]) (by simp) (by simp [go_sem]) ?_
  refine (pack_idle _ 0 _ (by simp [go_sem, hc1]) (by simp [go_sem, hz1])).mono ?_
  rintro e u' w' ⟨rfl, rfl, hc, hg⟩
  simp only [Leaves, settle]
  refine ⟨_, ?_, w.heap.size + 1, rfl, by omega, ?_⟩
  · simp [results, Tryd.results31, go_sem, hc]
  · exact face_end (T := 5) (xs := (WPack.part size ns xs ns.length).map u8v ++ []) HR.out HB.out HZ.out hg
end Go.Proofs.YtkkcipjlinfieaaDoor.WFace2
