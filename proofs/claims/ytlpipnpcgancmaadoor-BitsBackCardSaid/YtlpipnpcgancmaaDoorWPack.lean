/- Lists of numbers, each in its width: the program's inner call pack. -/
import Derived.Test.YtlpipnpcgancmaaDoorWList
import Derived.Deep.LoopGhost
namespace Go.Proofs.YtlpipnpcgancmaaDoor.WPack
open Go.RowKit WMem WPlain WGive WGet WPut WAppend WHelp WList

/-- bytes of nought -/
def zrow (n : Nat) : Array Value := ((List.replicate n (0 : UInt8)).map u8v ++ []).toArray
theorem made_one (z : Value) (n : Nat) : madeCells #[z] n = (List.replicate n z).toArray := by
  apply Array.ext
  · simp [madeCells]
  · intro i h1 h2
    simp [madeCells, Nat.mod_one]
theorem zrow_eq (n : Nat) : zrow n = (List.replicate n (Value.int .u8 0)).toArray := by simp [zrow, u8v]
theorem make_bytes (n : Nat) (hn : n ≤ 281474976710656) (w : World) : (Instr.makeSlice 22 (.int .i64 (n : Int)) (.int .i64 (n : Int))).run Tryd.prog w = .ok (.slice (some ⟨w.heap.size, 0, none⟩) n n) (w.alloc (.cells (zrow n) 5)) := by
  obtain ⟨i, h1, h2, h3, h4⟩ := info_parts (P := Tryd.prog) (e := 5) (z := .int .u8 0) (size := 1) (bytes := 1) (by kernel_rfl)
  have h := run_make (P := Tryd.prog) w 22 5 i (.int .u8 0) (by kernel_rfl) h1 h2 .i64 .i64 n n (by omega) (by omega) (by rw [h4]; omega) (by omega)
  rw [h]
  simp only [Int.toNat_natCast, h3, Nat.mul_one]
  rw [zrow_eq, ← made_one]
  rfl
theorem zrow_row (w : World) (n : Nat) : Row (w.alloc (.cells (zrow n) 5)) w.heap.size (List.replicate n 0) [] := row_new _ _

theorem put_at (len : Nat) (l : List UInt8) (hlen : l.length = len) (rest : List Value) (g c p n x : Nat) (w : World) (h1 : 1 ≤ n) (h2 : n ≤ 8) (h4 : p + n ≤ len) (hl : len ≤ 140737488355328) (hx : x < 2 ^ (8 * n)) (hA : Row w g l rest) :
    Calls Tryd.prog 55 #[.slice (some ⟨g, 0, none⟩) len c, .int .i64 p, .int .i64 n, .int .u64 x] w fun e w' => e = .returned (.tuple #[]) ∧ Row w' g (patch l p (dig n x)) rest ∧ w.grownBy w' (some g) := by
  subst hlen
  exact put_ok l rest g c p n x w h1 h2 h4 hl hx hA

/-- what lies in the row when k numbers are written -/
def part (size : Nat) (ns : List Nat) (xs : List UInt64) (k : Nat) : List UInt8 := packed (ns.take k) (xs.take k) ++ List.replicate (size - tot (ns.take k)) 0
theorem part_len (size : Nat) (ns : List Nat) (xs : List UInt64) (k : Nat) (h : ns.length = xs.length) (ht : tot ns ≤ size) : (part size ns xs k).length = size := by
  have := tot_take_le ns k
  rw [part, List.length_append, packed_length _ _ (by simp [h]), List.length_replicate]; omega
theorem part_zero (size : Nat) (ns : List Nat) (xs : List UInt64) : part size ns xs 0 = List.replicate size 0 := by simp [part, packed, tot]
theorem part_next (size : Nat) (ns : List Nat) (xs : List UInt64) (k : Nat) (h : ns.length = xs.length) (hk : k < ns.length) :
    patch (part size ns xs k) (tot (ns.take k)) (dig ns[k] (xs[k]'(by omega)).toNat) = part size ns xs (k + 1) := by
  have e : tot (ns.take k) = (packed (ns.take k) (xs.take k)).length := (packed_length _ _ (by simp [h])).symm
  unfold part
  rw [packed_take_succ ns xs h k hk, tot_take_succ ns k hk]
  conv => lhs; rw [e]
  rw [patch_zeros, dig_length]
  rw [← e, Nat.sub_sub]

end Go.Proofs.YtlpipnpcgancmaaDoor.WPack
