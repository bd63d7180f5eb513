/- The faces Get and Put: what is given up within is caught and answered. -/
import Derived.Test.YtgegmoejhnjhjaaDoorProg
import Derived.Test.YtgegmoejhnjhjaaDoorWPlain
import Derived.Test.YtgegmoejhnjhjaaDoorWMem
import Derived.Test.YtgegmoejhnjhjaaDoorWGive
import Derived.Test.YtgegmoejhnjhjaaDoorWGet
import Derived.Test.YtgegmoejhnjhjaaDoorWPut
import Derived.WalkKit
import Derived.WalkSpells
import Derived.WalkLawsBesides
import Derived.Defers
import Derived.Recover
import Derived.Handy
namespace Go.Proofs.YtgegmoejhnjhjaaDoor.WFace
open Go.RowKit WMem WPlain WGive WGet WPut

theorem mf (fn : Fn) (first cap : Array Value) (w : World) : (Instr.makeFunc fn first cap).run Tryd.prog w = .ok (.func fn first cap) w := rfl

set_option maxHeartbeats 400000 in
theorem Get_ok (l : List UInt8) (B : Nat) (A : Option Addr) (c p n : Nat) (w : World) (h1 : 1 ≤ n) (h2 : n ≤ 8) (h4 : p + n ≤ l.length) (hl : l.length ≤ 140737488355328) (hA : Sl w B A (l.map u8v)) (hB : B ≤ w.heap.size) :
    Calls Tryd.prog 49 #[.slice A l.length c, .int .i64 p, .int .i64 n] w fun e w' => e = .returned (.tuple #[.int .u64 (num ((l.drop p).take n) : Nat), .int .i64 0]) ∧ Below w.heap.size w w' := by
  have hmf := mf
  go_enter_defers Tryd.func49, Tryd.ntmps49
  go_wp2_with (go_at_call 78; refine (get_ok l B A c p n _ h1 h2 h4 hl (hA.keep fun q hq => World.cell?_alloc_lt w _ q (by omega))).mono ?_; rintro e w' ⟨rfl, rfl⟩)
  refine leaves_cons (f := 77) (args := #[.pointer (some ⟨w.heap.size, 0, none⟩)]) (by simp) (by simp [go_sem]) ?_
  refine (get_idle _ 0 _ (by simp [go_sem]) (by simp [go_sem])).mono ?_
  rintro e u' w' ⟨rfl, rfl, hc, hg⟩
  have hb := grown_below hg (Nat.le_refl _) (by simp)
  simp only [Leaves, settle]
  refine ⟨_, ?_, rfl, ?_⟩
  · simp [results, Tryd.results49, go_sem, hc]
  · exact (Below.refl _ _).alloc (Nat.le_refl _) _ |>.trans (hb.mono (by simp))

set_option maxHeartbeats 400000 in
theorem Get_no (A : Option Addr) (len c : Nat) (p n : Int) (w : World) (h : ¬ (1 ≤ n ∧ n ≤ 8 ∧ 0 ≤ p ∧ p ≤ len - n)) (hl : len ≤ 140737488355328) :
    Calls Tryd.prog 49 #[.slice A len c, .int .i64 p, .int .i64 n] w fun e w' => e = .returned (.tuple #[.int .u64 0, .int .i64 22]) ∧ Below w.heap.size w w' := by
  have hmf := mf
  have H := Lib.hid h
  clear h
  go_enter_defers Tryd.func49, Tryd.ntmps49
  go_wp2_with (go_at_call 78; refine (get_no A len c p n _ H.out hl).mono ?_; rintro e w' ⟨rfl, rfl⟩)
  refine leaves_cons (f := 77) (args := #[.pointer (some ⟨w.heap.size, 0, none⟩)]) (by simp) (by simp [go_sem]) ?_
  refine (get_caught _ 0 22 _ _ (by simp [go_sem]) (by simp [go_sem])).mono ?_
  rintro e u' w' ⟨rfl, rfl, hc, hg⟩
  have hb := grown_below hg (Nat.le_refl _) (by simp)
  simp only [Leaves, settle, List.dropWhile]
  refine ⟨_, ?_, rfl, ?_⟩
  · simp [results, Tryd.results49, go_sem, hc]
  · exact (Below.refl _ _).alloc (Nat.le_refl _) _ |>.trans (hb.mono (by simp))

/-- the end of a face that has one cell of its own for its error: what is below that cell stays -/
theorem face_row {w w1 w' : World} {g : Nat} {l : List UInt8} {rest : List Value} {o : Obj} (hR : Row w1 g l rest) (hG : (w.alloc o).grownBy w1 (some g)) (hg : g < w.heap.size) (hb : Below w.heap.size w1 w') :
    Row w' g l rest ∧ w.grownBy w' (some g) :=
  ⟨hR.keep hb hg, ⟨hb.os.trans hG.os, hb.tape.trans hG.tape, hb.output.trans hG.output, Nat.le_trans (by simp) (Nat.le_trans hG.size hb.size),
    fun k hk hne => (hb.block k hk).trans ((hG.block k (by simp; omega) hne).trans (Below.heap_alloc w o k hk))⟩⟩

set_option maxHeartbeats 400000 in
theorem Put_ok (l : List UInt8) (rest : List Value) (g c p n x : Nat) (w : World) (h1 : 1 ≤ n) (h2 : n ≤ 8) (h4 : p + n ≤ l.length) (hl : l.length ≤ 140737488355328) (hx : x < 2 ^ (8 * n)) (hA : Row w g l rest) :
    Calls Tryd.prog 50 #[.slice (some ⟨g, 0, none⟩) l.length c, .int .i64 p, .int .i64 n, .int .u64 x] w fun e w' => e = .returned (.int .i64 0) ∧ Row w' g (patch l p (dig n x)) rest ∧ w.grownBy w' (some g) := by
  have hmf := mf
  have HX := Lib.hid hx
  have HA := Lib.hid hA
  clear hx hA
  go_enter_defers Tryd.func50, Tryd.ntmps50
  go_wp2_with fail
  refine (put_ok l rest g c p n x _ h1 h2 h4 hl HX.out (HA.out.alloc _)).mono ?_
  rintro e w1 ⟨rfl, hR, hG⟩
  have hlt := HA.out.lt
  have hc1 : w1.cell? ⟨w.heap.size, 0, none⟩ = some (.int .i64 0) := hG.cell (by simp [go_sem]) (by simp; omega)
  have hz1 : w1.frozen? ⟨w.heap.size, 0, none⟩ = false := (World.frozen?_of_block (w := w.alloc _) (hG.block w.heap.size (by simp) (by simp; omega))).trans (by simp [go_sem])
  have HR := Lib.hid hR
  have HG := Lib.hid hG
  clear hR hG
  go_wp2
  refine leaves_cons (f := 79) (args := #[.pointer (some ⟨w.heap.size, 0, none⟩)]) (by simp) (by simp [go_sem]) ?_
  refine (put_idle _ 0 _ (by simp [go_sem, hc1]) (by simp [go_sem, hz1])).mono ?_
  rintro e u' w' ⟨rfl, rfl, hc, hg⟩
  have hb := grown_below hg (Nat.le_refl _) (by have := HG.out.size; simp at this ⊢; omega)
  simp only [Leaves, settle]
  refine ⟨_, ?_, rfl, ?_⟩
  · simp [results, Tryd.results50, go_sem, hc]
  · exact face_row HR.out HG.out hlt (((Below.refl _ _).setCell (Nat.le_refl _) _).trans hb)

theorem Put_place (A : Option Addr) (len c x : Nat) (p n : Int) (w : World) (h : ¬ (1 ≤ n ∧ n ≤ 8 ∧ 0 ≤ p ∧ p ≤ len - n)) (hl : len ≤ 140737488355328) :
    Calls Tryd.prog 50 #[.slice A len c, .int .i64 p, .int .i64 n, .int .u64 x] w fun e w' => e = .returned (.int .i64 22) ∧ Below w.heap.size w w' := by
  have hmf := mf
  have H := Lib.hid h
  clear h
  go_enter_defers Tryd.func50, Tryd.ntmps50
  go_wp2_with (go_at_call 64; refine (put_place A len c x p n _ H.out hl).mono ?_; rintro e w' ⟨rfl, rfl⟩)
  refine leaves_cons (f := 79) (args := #[.pointer (some ⟨w.heap.size, 0, none⟩)]) (by simp) (by simp [go_sem]) ?_
  refine (put_caught _ 0 22 _ _ (by simp [go_sem]) (by simp [go_sem])).mono ?_
  rintro e u' w' ⟨rfl, rfl, hc, hg⟩
  have hb := grown_below hg (Nat.le_refl _) (by simp)
  simp only [Leaves, settle, List.dropWhile]
  refine ⟨_, ?_, rfl, ?_⟩
  · simp [results, Tryd.results50, go_sem, hc]
  · exact (Below.refl _ _).alloc (Nat.le_refl _) _ |>.trans (hb.mono (by simp))
theorem Put_big (A : Option Addr) (len c p n x : Nat) (w : World) (h1 : 1 ≤ n) (h2 : n ≤ 8) (h4 : p + n ≤ len) (hl : len ≤ 140737488355328) (hx : ¬ x < 2 ^ (8 * n)) :
    Calls Tryd.prog 50 #[.slice A len c, .int .i64 p, .int .i64 n, .int .u64 x] w fun e w' => e = .returned (.int .i64 34) ∧ Below w.heap.size w w' := by
  have hmf := mf
  have H := Lib.hid hx
  clear hx
  go_enter_defers Tryd.func50, Tryd.ntmps50
  go_wp2_with (go_at_call 64; refine (put_big A len c p n x _ h1 h2 h4 hl H.out).mono ?_; rintro e w' ⟨rfl, rfl⟩)
  refine leaves_cons (f := 79) (args := #[.pointer (some ⟨w.heap.size, 0, none⟩)]) (by simp) (by simp [go_sem]) ?_
  refine (put_caught _ 0 34 _ _ (by simp [go_sem]) (by simp [go_sem])).mono ?_
  rintro e u' w' ⟨rfl, rfl, hc, hg⟩
  have hb := grown_below hg (Nat.le_refl _) (by simp)
  simp only [Leaves, settle, List.dropWhile]
  refine ⟨_, ?_, rfl, ?_⟩
  · simp [results, Tryd.results50, go_sem, hc]
  · exact (Below.refl _ _).alloc (Nat.le_refl _) _ |>.trans (hb.mono (by simp))
end Go.Proofs.YtgegmoejhnjhjaaDoor.WFace
