/- Bytes of nought, made by a call. -/
import Derived.Test.YthhihcmkjkofhaaProg
import Derived.Test.YthhihcmkjkofhaaWMem
import Derived.Test.YthhihcmkjkofhaaWAppend
import Derived.KernelRfl
namespace Go.Proofs.Ythhihcmkjkofhaa.Mk
open Go.RowKit WMem WAppend

def zrow (n : Nat) : Array Value := ((List.replicate n (0 : UInt8)).map u8v ++ []).toArray
theorem made_one (z : Value) (n : Nat) : madeCells #[z] n = (List.replicate n z).toArray := by
  apply Array.ext
  · simp [madeCells]
  · intro i h1 h2
    simp [madeCells, Nat.mod_one]
theorem zrow_eq (n : Nat) : zrow n = (List.replicate n (Value.int .u8 0)).toArray := by simp [zrow, u8v]
theorem zrow_row (w : World) (n : Nat) : Row (w.alloc (.cells (zrow n) 5)) w.heap.size (List.replicate n 0) [] := row_new _ _
theorem one_u8 (l : List UInt8) : ∀ u ∈ l.map u8v, u.oneCell' = true := by
  intro u hu
  obtain ⟨x, _, rfl⟩ := List.mem_map.1 hu
  rfl
end Go.Proofs.Ythhihcmkjkofhaa.Mk
