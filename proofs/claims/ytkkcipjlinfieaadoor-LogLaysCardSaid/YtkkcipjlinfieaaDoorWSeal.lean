/- Seals: the faces Seal and Sealed. -/
import Derived.Test.YtkkcipjlinfieaaDoorWFace2
import Derived.Test.YtkkcipjlinfieaaDoorWCrc
import Derived.Test.YtkkcipjlinfieaaDoorWPack
import Derived.Deep.QuietTactic
import Derived.BigQuiet
namespace Go.Proofs.YtkkcipjlinfieaaDoor.WSeal
open Go.RowKit WMem WPlain WGive WGet WPut WAppend WHelp WFace WFace2 WCrc WPack

theorem Tab.keep {w w' : World} (h : Tab w) (hk : ∀ p : Addr, p.block = 0 → w'.cell? p = w.cell? p) : Tab w' := fun r hr => (hk _ rfl).trans (h r hr)
theorem Tab.lt {w : World} (h : Tab w) : 0 < w.heap.size := World.block_lt_of_cell? w _ (h 0 (by decide))
theorem Tab.alloc {w : World} (h : Tab w) (o : Obj) : Tab (w.alloc o) := Tab.keep h fun p hp => World.cell?_alloc_lt w o p (by rw [hp]; exact Tab.lt h)
theorem Tab.drewN {w : World} (h : Tab w) (n : Nat) : Tab (w.drewN n) := h
theorem Tab.below {w w' : World} {B : Nat} (h : Tab w) (hb : Below B w w') (hB : 0 < B) : Tab w' := Tab.keep h fun p hp => hb.cell (by rw [hp]; exact hB)
theorem Tab.grown {w w' : World} {row : Option Nat} (h : Tab w) (hg : w.grownBy w' row) (hr : some 0 ≠ row) : Tab w' :=
  Tab.keep h fun p hp => World.cell?_of_block (hg.block p.block (by rw [hp]; exact Tab.lt h) (by rw [hp]; exact hr))

set_option maxHeartbeats 400000 in
theorem Seal_ok (l : List UInt8) (rest : List Value) (g c seed : Nat) (w : World) (hs : seed < 4294967296) (h4 : 4 ≤ l.length) (hl : l.length ≤ 140737488355328) (hc : l.length ≤ c) (hR : Row w g l rest) (hT : Tab w) :
    Calls Tryd.prog 34 #[.slice (some ⟨g, 0, none⟩) l.length c, .int .u32 seed] w fun e w' =>
      e = .returned (.int .i64 0) ∧ Row w' g (patch l (l.length - 4) (dig 4 (crc seed (l.take (l.length - 4))))) rest ∧ w.grownBy w' (some g) := by
  have hmf := mf
  have HT := Lib.hid (Tab.alloc hT (.cells #[.int .i64 0] 26))
  have HR0 := Lib.hid (hR.alloc (.cells #[.int .i64 0] 26))
  have hlt := hR.lt
  clear hT hR
  obtain ⟨p, hp⟩ : ∃ p, l.length = p + 4 := ⟨l.length - 4, by omega⟩
  have hpl : (l.take p).length = p := by simp; omega
  have hcl := crc_lt seed (l.take p)
  have HC := Lib.hid (wire_crc seed (l.take p) _ (some ⟨g, 0, none⟩) c _ hs (by omega) (by rw [List.map_take]; exact (HR0.out.sl (B := w.heap.size) hlt).take p) HT.out)
  rw [hpl] at HC
  have hpe : l.length - 4 = p := by omega
  rw [hpe]
  have hd4 : decide ((4 : Int) ≤ (p : Int) + 4) = true := by simp; omega
  have HP := Lib.hid hp
  clear hpe hpl
  rw [hp] at h4 hl hc ⊢
  clear hp
  go_enter_defers Tryd.func34, Tryd.ntmps34
  go_wp2_with fail
  refine (must_ok _ _).mono ?_
  rintro e w' ⟨rfl, rfl⟩
  go_wp2_with fail
  refine HC.out.mono ?_
  rintro e w' ⟨rfl, rfl⟩
  go_wp2_with fail
  refine (put_at (p + 4) l HP.out rest g c p 4 (crc seed (l.take p)) _ (by omega) (by omega) (by omega) hl (by omega) HR0.out).mono ?_
  rintro e w1 ⟨rfl, hR, hG⟩
  have hc1 : w1.cell? ⟨w.heap.size, 0, none⟩ = some (.int .i64 0) := hG.cell (by simp [go_sem]) (by simp; omega)
  have hz1 : w1.frozen? ⟨w.heap.size, 0, none⟩ = false := (World.frozen?_of_block (w := w.alloc _) (hG.block w.heap.size (by simp) (by simp; omega))).trans (by simp [go_sem])
  have HR := Lib.hid hR
  have HG := Lib.hid hG
  clear hR hG
  go_wp2
  refine leaves_cons (f := 61) (args := #[.pointer (some ⟨w.heap.size, 0, none⟩)]) (by simp) (by simp [go_sem]) ?_
  refine (seal_idle _ 0 _ (by simp [go_sem, hc1]) (by simp [go_sem, hz1])).mono ?_
  rintro e u' w' ⟨rfl, rfl, hc, hg⟩
  have hb := grown_below hg (Nat.le_refl _) (by have := HG.out.size; simp at this ⊢; omega)
  simp only [Leaves, settle]
  refine ⟨_, ?_, rfl, ?_⟩
  · simp [results, Tryd.results34, go_sem, hc]
  · exact face_row HR.out HG.out hlt (((Below.refl _ _).setCell (Nat.le_refl _) _).trans hb)

set_option maxHeartbeats 400000 in
theorem Seal_no (A : Option Addr) (len c seed : Nat) (w : World) (h4 : len < 4) :
    Calls Tryd.prog 34 #[.slice A len c, .int .u32 seed] w fun e w' => e = .returned (.int .i64 22) ∧ Below w.heap.size w w' := by
  have hmf := mf
  have hd4 : decide ((4 : Int) ≤ (len : Int)) = false := by simp; omega
  have hd5 : decide (4 ≤ len) = false := by simp; omega
  go_enter_defers Tryd.func34, Tryd.ntmps34
  go_wp2_with fail
  refine (must_no _ _).mono ?_
  rintro e w' ⟨rfl, rfl⟩
  refine leaves_cons (f := 61) (args := #[.pointer (some ⟨w.heap.size, 0, none⟩)]) (by simp) (by simp [go_sem]) ?_
  refine (seal_caught _ 0 22 _ _ (by simp [go_sem]) (by simp [go_sem])).mono ?_
  rintro e u' w' ⟨rfl, rfl, hc, hg⟩
  simp only [Leaves, settle, List.dropWhile]
  refine ⟨_, ?_, rfl, gave_up hg⟩
  simp [results, Tryd.results34, go_sem, hc]

/-- does the sum stand there? -/
def sealB (l : List UInt8) (seed : Nat) : Bool := decide (4 ≤ l.length) && (num (l.drop (l.length - 4)) == crc seed (l.take (l.length - 4)))

theorem quiet_left {P : Program} {f : FuncId} {args : Array Value} {w : World} {n : Nat} {v : Value}
    (h : Calls P f args (w.drewN n) fun e w' => e = .returned v ∧ w.drewN n = w') : Calls P f args (w.drewN n) fun e w'' => e = .returned v ∧ ∃ m, w'' = w.drewN m :=
  h.mono fun _ _ ⟨he, hm⟩ => ⟨he, n, hm.symm⟩

end Go.Proofs.YtkkcipjlinfieaaDoor.WSeal
