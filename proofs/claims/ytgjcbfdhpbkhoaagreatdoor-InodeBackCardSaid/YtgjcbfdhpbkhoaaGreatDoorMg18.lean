/- bytes.Equal, and the statements' own Same: do two rows of bytes say the same? -/
import Derived.Test.YtgjcbfdhpbkhoaaGreatDoorMg9
import Derived.Shelf.Bytes.SlEqualAll
import Derived.Deep.QuietTactic
import Derived.BigQuiet
namespace Go.Proofs.YtgjcbfdhpbkhoaaGreatDoor.SEqual
open Go.RowKit WMem WPlain WHelp
def ints (l : List UInt8) : List Int := l.map fun b => (b.toNat : Int)
theorem ints_len (l : List UInt8) : (ints l).length = l.length := by simp [ints]
theorem bytesIn_of {w : World} {B : Nat} {A : Option Addr} {l : List UInt8} (h : Sl w B A (l.map u8v)) : Lib.BytesIn w A l.length (ints l) := by
  match l, A with
  | [], _ => exact Lib.BytesIn.nil _ _ _
  | x :: l, A =>
    obtain ⟨a, rfl, _, _⟩ := h 0 (u8v x) (by simp)
    refine Lib.BytesIn.of_cells fun i hi => ?_
    obtain ⟨a', e, _, hc⟩ := h.u8 (k := i) hi
    injection e with e
    subst e
    rw [hc]
    unfold ints
    rw [List.getD_eq_getElem?_getD, List.getElem?_map, List.getElem?_eq_getElem hi]
    rfl
theorem ints_back (l : List UInt8) : (strOfNums (ints l)).toList = l := by
  rw [Lib.strOfNums_toList]
  unfold Lib.bytesOf ints
  rw [List.map_map]
  conv => rhs; rw [← List.map_id l]
  apply List.map_congr_left
  intro b _
  simp
theorem conv_bytes (l : List UInt8) (B : Nat) (A : Option Addr) (c : Nat) (w : World) (h : Sl w B A (l.map u8v)) : (convert 22 9 (.slice A l.length c)).run Tryz.prog w = .ok (.string (strOfNums (ints l))) w :=
  (bytesIn_of h).convert (P := Tryz.prog) (ints_len l) c 22 5 9 (by kernel_rfl) (by kernel_rfl) (by kernel_rfl)
set_option maxHeartbeats 400000 in
theorem Equal_any (l r : List UInt8) (B B' : Nat) (A A' : Option Addr) (c c' : Nat) (w : World) (hA : Sl w B A (l.map u8v)) (hA' : Sl w B' A' (r.map u8v)) :
    Calls Tryz.prog 25 #[.slice A l.length c, .slice A' r.length c'] w fun e w' => e = .returned (.bool (l == r)) ∧ w = w' := by
  have h1 := conv_bytes l B A c w hA
  have h2 := conv_bytes r B' A' c' w hA'
  have he : ((strOfNums (ints l)).toList == (strOfNums (ints r)).toList) = (l == r) := by rw [ints_back, ints_back]
  clear hA hA'
  generalize (l == r) = q at *
  generalize strOfNums (ints l) = x at *
  generalize strOfNums (ints r) = y at *
  go_enter Tryz.func25, Tryz.ntmps25
  go_wp2
  go_ret
  exact ⟨rfl, rfl⟩
theorem Equal_at (n n' : Nat) (l r : List UInt8) (hn : l.length = n) (hn' : r.length = n') (B B' : Nat) (A A' : Option Addr) (c c' : Nat) (w : World) (hA : Sl w B A (l.map u8v)) (hA' : Sl w B' A' (r.map u8v)) (q : Bool) (hq : (l == r) = q) :
    Calls Tryz.prog 25 #[.slice A n c, .slice A' n' c'] w fun e w' => e = .returned (.bool q) ∧ w = w' := by
  subst hn
  subst hn'
  subst hq
  exact Equal_any l r B B' A A' c c' w hA hA'
end Go.Proofs.YtgjcbfdhpbkhoaaGreatDoor.SEqual
