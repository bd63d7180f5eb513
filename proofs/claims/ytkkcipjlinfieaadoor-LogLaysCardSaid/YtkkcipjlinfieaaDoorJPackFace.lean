/- Pack in one contract. -/
import Derived.Test.YtkkcipjlinfieaaDoorJPack
namespace Go.Proofs.YtkkcipjlinfieaaDoor.JPackFace
open Go.RowKit WMem WPlain WCrc JPlain JMem JPack
/-- what Pack answers -/
def PackR (r : Rec) (w : World) (e : Ending) (w' : World) : Prop :=
  (recMay r = true → ∃ g, e = .returned (.tuple #[.slice (some ⟨g, 0, none⟩) 256 256, .int .i64 0]) ∧ w.heap.size ≤ g ∧ Row w' g (recBytes r) []) ∧
    (recMay r = false → e = .returned (.tuple #[.slice none 0 0, .int .i64 22])) ∧ Below w.heap.size w w'
theorem Pack_any (r : Rec) (hs : r.sum < 4294967296) (B : Nat) (A : Option Addr) (c : Nat) (w : World) (hB : B ≤ w.heap.size) (hA : Ents w B A r.ents) (hl : r.ents.length ≤ 140737488355328) (hT : Tab w) :
    Calls Tryd.prog 12 #[recV r A c] w (PackR r w) := by
  cases h : recMay r with
  | false => exact (Pack_no r h B A c w hB hA hl).mono fun e w' ⟨h1, h2⟩ => ⟨fun h' => (by rw [h] at h'; cases h'), fun _ => h1, h2⟩
  | true => exact (Pack_yes r h hs B A c w hB hA hT).mono fun e w' ⟨g, h1, h2, h3, h4⟩ => ⟨fun _ => ⟨g, h1, h2, h3⟩, fun h' => (by rw [h] at h'; cases h'), h4⟩
end Go.Proofs.YtkkcipjlinfieaaDoor.JPackFace
