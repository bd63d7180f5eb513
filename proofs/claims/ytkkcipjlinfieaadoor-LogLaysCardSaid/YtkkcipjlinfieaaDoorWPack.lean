/- Lists of numbers, each in its width: the program's inner call pack. -/
import Derived.Test.YtkkcipjlinfieaaDoorWList
import Derived.Deep.LoopGhost
namespace Go.Proofs.YtkkcipjlinfieaaDoor.WPack
open Go.RowKit WMem WPlain WGive WGet WPut WAppend WHelp WList

/-- bytes of nought -/
def zrow (n : Nat) : Array Value := ((List.replicate n (0 : UInt8)).map u8v ++ []).toArray
theorem made_one (z : Value) (n : Nat) : madeCells #[z] n = (List.replicate n z).toArray := by
  apply Array.ext
  · simp [madeCells]
  · intro i h1 h2
    simp [madeCells, Nat.mod_one]
theorem zrow_eq (n : Nat) : zrow n = (List.replicate n (Value.int .u8 0)).toArray := by simp [zrow, u8v]
theorem make_bytes (n : Nat) (hn : n ≤ 281474976710656) (w : World) : (Instr.makeSlice 31 (.int .i64 (n : Int)) (.int .i64 (n : Int))).run Tryd.prog w = .ok (.slice (some ⟨w.heap.size, 0, none⟩) n n) (w.alloc (.cells (zrow n) 5)) := by
  obtain ⟨i, h1, h2, h3, h4⟩ := info_parts (P := Tryd.prog) (e := 5) (z := .int .u8 0) (size := 1) (bytes := 1) (by kernel_rfl)
  have h := run_make (P := Tryd.prog) w 31 5 i (.int .u8 0) (by kernel_rfl) h1 h2 .i64 .i64 n n (by omega) (by omega) (by rw [h4]; omega) (by omega)
  rw [h]
  simp only [Int.toNat_natCast, h3, Nat.mul_one]
  rw [zrow_eq, ← made_one]
  rfl
theorem zrow_row (w : World) (n : Nat) : Row (w.alloc (.cells (zrow n) 5)) w.heap.size (List.replicate n 0) [] := row_new _ _

theorem put_at (len : Nat) (l : List UInt8) (hlen : l.length = len) (rest : List Value) (g c p n x : Nat) (w : World) (h1 : 1 ≤ n) (h2 : n ≤ 8) (h4 : p + n ≤ len) (hl : len ≤ 140737488355328) (hx : x < 2 ^ (8 * n)) (hA : Row w g l rest) :
    Calls Tryd.prog 62 #[.slice (some ⟨g, 0, none⟩) len c, .int .i64 p, .int .i64 n, .int .u64 x] w fun e w' => e = .returned (.tuple #[]) ∧ Row w' g (patch l p (dig n x)) rest ∧ w.grownBy w' (some g) := by
  subst hlen
  exact put_ok l rest g c p n x w h1 h2 h4 hl hx hA

/-- what lies in the row when k numbers are written -/
def part (size : Nat) (ns : List Nat) (xs : List UInt64) (k : Nat) : List UInt8 := packed (ns.take k) (xs.take k) ++ List.replicate (size - tot (ns.take k)) 0
theorem part_len (size : Nat) (ns : List Nat) (xs : List UInt64) (k : Nat) (h : ns.length = xs.length) (ht : tot ns ≤ size) : (part size ns xs k).length = size := by
  have := tot_take_le ns k
  rw [part, List.length_append, packed_length _ _ (by simp [h]), List.length_replicate]; omega
theorem part_zero (size : Nat) (ns : List Nat) (xs : List UInt64) : part size ns xs 0 = List.replicate size 0 := by simp [part, packed, tot]
theorem part_next (size : Nat) (ns : List Nat) (xs : List UInt64) (k : Nat) (h : ns.length = xs.length) (hk : k < ns.length) :
    patch (part size ns xs k) (tot (ns.take k)) (dig ns[k] (xs[k]'(by omega)).toNat) = part size ns xs (k + 1) := by
  have e : tot (ns.take k) = (packed (ns.take k) (xs.take k)).length := (packed_length _ _ (by simp [h])).symm
  unfold part
  rw [packed_take_succ ns xs h k hk, tot_take_succ ns k hk]
  conv => lhs; rw [e]
  rw [patch_zeros, dig_length]
  rw [← e, Nat.sub_sub]

set_option maxHeartbeats 1000000 in
theorem pack_ok (ns : List Nat) (xs : List UInt64) (size B : Nat) (A A' : Option Addr) (c c' : Nat) (w : World) (hB : B ≤ w.heap.size) (h : ns.length = xs.length) (hf : fine ns) (hx : fit ns xs) (ht : tot ns ≤ size) (hs : size ≤ 4096)
    (hA : Sl w B A (xs.map u64v)) (hA' : Sl w B A' (ns.map natv)) :
    Calls Tryd.prog 59 #[.slice A xs.length c, .slice A' ns.length c', .int .i64 size] w fun e w' =>
      e = .returned (.slice (some ⟨w.heap.size, 0, none⟩) size size) ∧ Row w' w.heap.size (part size ns xs ns.length) [] ∧ Below w.heap.size w w' ∧ w.heap.size < w'.heap.size := by
  have hn4 : ns.length ≤ 4096 := by have := (tot_le ns hf).1; omega
  have hmk := make_bytes size (by omega)
  have HF := Lib.hid hf
  have HX := Lib.hid hx
  have HA := Lib.hid hA
  have HA' := Lib.hid hA'
  have HE := Lib.hid h
  have hxl : xs.length ≤ 4096 := by omega
  clear hf hx hA hA' h
  go_enter Tryd.func59, Tryd.ntmps59
  go_wp2
  clear hmk
  go_loopw [8, 15] (fun v i wr => ∃ k : Nat, k ≤ ns.length ∧ i = .int .i64 k ∧ v = .int .i64 (tot (ns.take k) : Nat) ∧ Row wr w.heap.size (part size ns xs k) [] ∧ Below w.heap.size w wr) (fun _ i _ => ns.length - (intOf i).toNat)
  case atStart => exact ⟨0, Nat.zero_le _, rfl, by simp [tot], by rw [part_zero]; exact zrow_row w size, (Below.refl _ _).alloc (Nat.le_refl _) _⟩
  case round =>
    obtain ⟨k, hk, rfl, rfl, hR, hb⟩ := hrel
    have HR := Lib.hid hR
    have HB := Lib.hid hb
    clear hR hb
    by_cases hlt : k < ns.length
    · have hkx : k < xs.length := by have := HE.out; omega
      obtain ⟨a', rfl, hab', hc'⟩ := (HA'.out.below_le HB.out hB).nat hlt
      obtain ⟨a, rfl, hab, hc⟩ := (HA.out.below_le HB.out hB).u64 hkx
      obtain ⟨f1, f2⟩ := fine_get HF.out hlt
      have t1 := tot_take_le ns k
      have t3 := tot_take_le ns (k + 1)
      rw [tot_take_succ ns k hlt] at t3
      have HS := Lib.hid (tot_take_succ ns k hlt)
      have HP := Lib.hid (part_next size ns xs k HE.out hlt)
      have HL := Lib.hid (part_len size ns xs k HE.out ht)
      have HG := Lib.hid (fit_get HE.out HX.out hlt)
      generalize tot (ns.take k) = d at *
      generalize ns[k] = n at *
      generalize xs[k] = x at *
      generalize part size ns xs k = pt at *
      go_wp2_with (go_at_call 62; refine (put_at size pt HL.out [] w.heap.size size d n x.toNat _ f1 f2 (by omega) (by omega) HG.out HR.out).mono ?_; rintro e w1 ⟨rfl, hR1, hG1⟩)
      go_roundw
      case rel =>
        refine ⟨k + 1, by omega, by go_num, by rw [HS.out]; go_num, by rw [← HP.out]; exact hR1, ?_⟩
        exact HB.out.trans (grown_below hG1 (Nat.le_refl _) HR.out.lt)
      case measure => simp [intOf]; omega
    · obtain rfl : k = ns.length := by omega
      go_wp2
      go_ret
      exact ⟨rfl, HR.out, HB.out, HR.out.lt⟩

set_option maxHeartbeats 1000000 in
/-- a number that does not go into its width -/
theorem pack_no (ns : List Nat) (xs : List UInt64) (size B : Nat) (A A' : Option Addr) (c c' : Nat) (w : World) (hB : B ≤ w.heap.size) (h : ns.length = xs.length) (hf : fine ns) (hx : ¬ fit ns xs) (ht : tot ns ≤ size) (hs : size ≤ 4096)
    (hA : Sl w B A (xs.map u64v)) (hA' : Sl w B A' (ns.map natv)) :
    Calls Tryd.prog 59 #[.slice A xs.length c, .slice A' ns.length c', .int .i64 size] w fun e w' => e = given 34 ∧ Below w.heap.size w w' := by
  have hn4 : ns.length ≤ 4096 := by have := (tot_le ns hf).1; omega
  have hmk := make_bytes size (by omega)
  have HF := Lib.hid hf
  have HX := Lib.hid hx
  have HA := Lib.hid hA
  have HA' := Lib.hid hA'
  have HE := Lib.hid h
  have hxl : xs.length ≤ 4096 := by omega
  clear hf hx hA hA' h
  go_enter Tryd.func59, Tryd.ntmps59
  go_wp2
  clear hmk
  go_loopw [8, 15] (fun v i wr => ∃ k : Nat, k ≤ ns.length ∧ i = .int .i64 k ∧ v = .int .i64 (tot (ns.take k) : Nat) ∧ Row wr w.heap.size (part size ns xs k) [] ∧ Below w.heap.size w wr ∧ fit (ns.take k) (xs.take k)) (fun _ i _ => ns.length - (intOf i).toNat)
  case atStart => exact ⟨0, Nat.zero_le _, rfl, by simp [tot], by rw [part_zero]; exact zrow_row w size, (Below.refl _ _).alloc (Nat.le_refl _) _, trivial⟩
  case round =>
    obtain ⟨k, hk, rfl, rfl, hR, hb, hfit⟩ := hrel
    have HR := Lib.hid hR
    have HB := Lib.hid hb
    have HFI := Lib.hid hfit
    clear hR hb hfit
    by_cases hlt : k < ns.length
    · have hkx : k < xs.length := by have := HE.out; omega
      obtain ⟨a', rfl, hab', hc'⟩ := (HA'.out.below_le HB.out hB).nat hlt
      obtain ⟨a, rfl, hab, hc⟩ := (HA.out.below_le HB.out hB).u64 hkx
      obtain ⟨f1, f2⟩ := fine_get HF.out hlt
      have t1 := tot_take_le ns k
      have t3 := tot_take_le ns (k + 1)
      rw [tot_take_succ ns k hlt] at t3
      have HS := Lib.hid (tot_take_succ ns k hlt)
      have HP := Lib.hid (part_next size ns xs k HE.out hlt)
      have HL := Lib.hid (part_len size ns xs k HE.out ht)
      have HN := Lib.hid (fit_succ HE.out hlt HFI.out)
      generalize tot (ns.take k) = d at *
      generalize ns[k] = n at *
      generalize xs[k] = x at *
      generalize part size ns xs k = pt at *
      by_cases hg : x.toNat < 2 ^ (8 * n)
      · have HG := Lib.hid hg
        clear hg
        go_wp2_with (go_at_call 62; refine (put_at size pt HL.out [] w.heap.size size d n x.toNat _ f1 f2 (by omega) (by omega) HG.out HR.out).mono ?_; rintro e w1 ⟨rfl, hR1, hG1⟩)
        go_roundw
        case rel =>
          refine ⟨k + 1, by omega, by go_num, by rw [HS.out]; go_num, by rw [← HP.out]; exact hR1, ?_, HN.out HG.out⟩
          exact HB.out.trans (grown_below hG1 (Nat.le_refl _) HR.out.lt)
        case measure => simp [intOf]; omega
      · have HG := Lib.hid hg
        clear hg
        go_wp2_with (go_at_call 62; refine (put_big _ size size d n x.toNat _ f1 f2 (by omega) (by omega) HG.out).mono ?_; rintro e w1 ⟨rfl, rfl⟩)
        exact ⟨rfl, rfl, HB.out⟩
    · exact absurd (by have := HFI.out; rwa [List.take_of_length_le (by omega), List.take_of_length_le (by have := HE.out; omega)] at this) HX.out
end Go.Proofs.YtkkcipjlinfieaaDoor.WPack
