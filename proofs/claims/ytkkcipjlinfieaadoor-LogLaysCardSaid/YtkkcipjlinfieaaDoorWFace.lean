/- The faces Get and Put: what is given up within is caught and answered. -/
import Derived.Test.YtkkcipjlinfieaaDoorProg
import Derived.Test.YtkkcipjlinfieaaDoorWPlain
import Derived.Test.YtkkcipjlinfieaaDoorWMem
import Derived.Test.YtkkcipjlinfieaaDoorWGive
import Derived.Test.YtkkcipjlinfieaaDoorWGet
import Derived.Test.YtkkcipjlinfieaaDoorWPut
import Derived.WalkKit
import Derived.WalkSpells
import Derived.WalkLawsBesides
import Derived.Defers
import Derived.Recover
import Derived.Handy
namespace Go.Proofs.YtkkcipjlinfieaaDoor.WFace
open Go.RowKit WMem WPlain WGive WGet WPut

theorem mf (fn : Fn) (first cap : Array Value) (w : World) : (Instr.makeFunc fn first cap).run Tryd.prog w = .ok (.func fn first cap) w := rfl

set_option maxHeartbeats 400000 in
theorem Get_ok (l : List UInt8) (B : Nat) (A : Option Addr) (c p n : Nat) (w : World) (h1 : 1 ≤ n) (h2 : n ≤ 8) (h4 : p + n ≤ l.length) (hl : l.length ≤ 140737488355328) (hA : Sl w B A (l.map u8v)) (hB : B ≤ w.heap.size) :
    Calls Tryd.prog 26 #[.slice A l.length c, .int .i64 p, .int .i64 n] w fun e w' => e = .returned (.tuple #[.int .u64 (num ((l.drop p).take n) : Nat), .int .i64 0]) ∧ Below w.heap.size w w' := by
  have hmf := mf
  go_enter_defers Tryd.func26, Tryd.ntmps26
  go_wp2_with (go_at_call 46; refine (get_ok l B A c p n _ h1 h2 h4 hl (hA.keep fun q hq => World.cell?_alloc_lt w _ q (by omega))).mono ?_; rintro e w' ⟨rfl, rfl⟩)
  refine leaves_cons (f := 44) (args := #[.pointer (some ⟨w.heap.size, 0, none⟩)]) (by simp) (by simp [go_sem]) ?_
  refine (get_idle _ 0 _ (by simp [go_sem]) (by simp [go_sem])).mono ?_
  rintro e u' w' ⟨rfl, rfl, hc, hg⟩
  have hb := grown_below hg (Nat.le_refl _) (by simp)
  simp only [Leaves, settle]
  refine ⟨_, ?_, rfl, ?_⟩
  · simp [results, Tryd.results26, go_sem, hc]
  · exact (Below.refl _ _).alloc (Nat.le_refl _) _ |>.trans (hb.mono (by simp))

set_option maxHeartbeats 400000 in
theorem Get_no (A : Option Addr) (len c : Nat) (p n : Int) (w : World) (h : ¬ (1 ≤ n ∧ n ≤ 8 ∧ 0 ≤ p ∧ p ≤ len - n)) (hl : len ≤ 140737488355328) :
    Calls Tryd.prog 26 #[.slice A len c, .int .i64 p, .int .i64 n] w fun e w' => e = .returned (.tuple #[.int .u64 0, .int .i64 22]) ∧ Below w.heap.size w w' := by
  have hmf := mf
  have H := Lib.hid h
  clear h
  go_enter_defers Tryd.func26, Tryd.ntmps26
  go_wp2_with (go_at_call 46; refine (get_no A len c p n _ H.out hl).mono ?_; rintro e w' ⟨rfl, rfl⟩)
  refine leaves_cons (f := 44) (args := #[.pointer (some ⟨w.heap.size, 0, none⟩)]) (by simp) (by simp [go_sem]) ?_
  refine (get_caught _ 0 22 _ _ (by simp [go_sem]) (by simp [go_sem])).mono ?_
  rintro e u' w' ⟨rfl, rfl, hc, hg⟩
  have hb := grown_below hg (Nat.le_refl _) (by simp)
  simp only [Leaves, settle, List.dropWhile]
  refine ⟨_, ?_, rfl, ?_⟩
  · simp [results, Tryd.results26, go_sem, hc]
  · exact (Below.refl _ _).alloc (Nat.le_refl _) _ |>.trans (hb.mono (by simp))

/-- the end of a face that has one cell of its own for its error: what is below that cell stays -/
theorem face_row {w w1 w' : World} {g : Nat} {l : List UInt8} {rest : List Value} {o : Obj} (hR : Row w1 g l rest) (hG : (w.alloc o).grownBy w1 (some g)) (hg : g < w.heap.size) (hb : Below w.heap.size w1 w') :
    Row w' g l rest ∧ w.grownBy w' (some g) :=
  ⟨hR.keep hb hg, ⟨hb.os.trans hG.os, hb.tape.trans hG.tape, hb.output.trans hG.output, Nat.le_trans (by simp) (Nat.le_trans hG.size hb.size),
    fun k hk hne => (hb.block k hk).trans ((hG.block k (by simp; omega) hne).trans (Below.heap_alloc w o k hk))⟩⟩

end Go.Proofs.YtkkcipjlinfieaaDoor.WFace
