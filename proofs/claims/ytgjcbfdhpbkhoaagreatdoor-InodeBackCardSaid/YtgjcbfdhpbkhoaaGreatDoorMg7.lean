/- How layer wire gives up: must, the checks of a width and of a place, what a face makes of what it has caught. -/
import Derived.Test.YtgjcbfdhpbkhoaaGreatDoorProg
import Derived.Test.YtgjcbfdhpbkhoaaGreatDoorMg1
import Derived.WalkKit
import Derived.WalkSpells
import Derived.WalkLawsBesides
import Derived.Defers
import Derived.Recover
import Derived.Handy
import Derived.KernelRfl
import Derived.Test.YtgjcbfdhpbkhoaaGreatDoorMg2
import Derived.Outline
namespace Go.Proofs.YtgjcbfdhpbkhoaaGreatDoor.WGive
open Go.RowKit WMem
abbrev fault (e : Int) : Value := .iface 172 (.agg #[.int .i64 e])
abbrev given (e : Int) : Ending := .panicked [{ v := fault e, recovered := false }]
theorem must_ok (e : Int) (w : World) : Calls Tryz.prog 73 #[.bool true, .int .i64 e] w fun r w' => r = .returned (.tuple #[]) ∧ w = w' := by
  go_enter Tryz.func73, Tryz.ntmps73
  go_wp2
  go_end0
  exact ⟨rfl, rfl⟩
theorem must_no (e : Int) (w : World) : Calls Tryz.prog 73 #[.bool false, .int .i64 e] w fun r w' => r = given e ∧ w = w' := by
  go_enter Tryz.func73, Tryz.ntmps73
  go_wp2
  exact ⟨rfl, rfl, rfl⟩
theorem width_ok (n : Int) (w : World) (h1 : 1 ≤ n) (h2 : n ≤ 8) : Calls Tryz.prog 108 #[.int .i64 n] w fun r w' => r = .returned (.tuple #[]) ∧ w = w' := by
  have d1 : decide (1 ≤ n) = true := by simpa using h1
  have d2 : decide (n ≤ 8) = true := by simpa using h2
  go_enter Tryz.func108, Tryz.ntmps108
  go_wp2_with (go_at_call 73; refine (must_ok _ _).mono ?_; rintro e w' ⟨rfl, rfl⟩)
  go_end0
  exact ⟨rfl, rfl⟩
theorem width_no (n : Int) (w : World) (h : n < 1 ∨ 8 < n) : Calls Tryz.prog 108 #[.int .i64 n] w fun r w' => r = given 22 ∧ w = w' := by
  by_cases h1 : 1 ≤ n
  · have d1 : decide (1 ≤ n) = true := by simpa using h1
    have d2 : decide (n ≤ 8) = false := by simp; omega
    go_enter Tryz.func108, Tryz.ntmps108
    go_wp2_with (go_at_call 73; refine (must_no _ _).mono ?_; rintro e w' ⟨rfl, rfl⟩)
    exact ⟨rfl, rfl, rfl⟩
  · have d1 : decide (1 ≤ n) = false := by simpa using h1
    go_enter Tryz.func108, Tryz.ntmps108
    go_wp2_with (go_at_call 73; refine (must_no _ _).mono ?_; rintro e w' ⟨rfl, rfl⟩)
    exact ⟨rfl, rfl, rfl⟩
theorem place_ok (A : Option Addr) (len c : Nat) (at_ n : Int) (w : World) (h1 : 1 ≤ n) (h2 : n ≤ 8) (h3 : 0 ≤ at_) (h4 : at_ ≤ len - n) (hl : len ≤ 140737488355328) :
    Calls Tryz.prog 109 #[.slice A len c, .int .i64 at_, .int .i64 n] w fun r w' => r = .returned (.tuple #[]) ∧ w = w' := by
  have d1 : decide (0 ≤ at_) = true := by simpa using h3
  have d2 : decide (at_ ≤ (len : Int) - n) = true := by simpa using h4
  go_enter Tryz.func109, Tryz.ntmps109
  go_wp2_with (first | (go_at_call 108; refine (width_ok _ _ h1 h2).mono ?_; rintro e w' ⟨rfl, rfl⟩) | (go_at_call 73; refine (must_ok _ _).mono ?_; rintro e w' ⟨rfl, rfl⟩))
  go_end0
  exact ⟨rfl, rfl⟩
theorem place_no (A : Option Addr) (len c : Nat) (at_ n : Int) (w : World) (h : ¬ (1 ≤ n ∧ n ≤ 8 ∧ 0 ≤ at_ ∧ at_ ≤ len - n)) (hl : len ≤ 140737488355328) :
    Calls Tryz.prog 109 #[.slice A len c, .int .i64 at_, .int .i64 n] w fun r w' => r = given 22 ∧ w = w' := by
  by_cases hn : 1 ≤ n ∧ n ≤ 8
  · obtain ⟨h1, h2⟩ := hn
    by_cases h3 : 0 ≤ at_
    · have d1 : decide (0 ≤ at_) = true := by simpa using h3
      have d2 : decide (at_ ≤ (len : Int) - n) = false := by simp; omega
      clear h
      go_enter Tryz.func109, Tryz.ntmps109
      go_wp2_with (first | (go_at_call 108; refine (width_ok _ _ h1 h2).mono ?_; rintro e w' ⟨rfl, rfl⟩) | (go_at_call 73; refine (must_no _ _).mono ?_; rintro e w' ⟨rfl, rfl⟩))
      exact ⟨rfl, rfl, rfl⟩
    · have d1 : decide (0 ≤ at_) = false := by simpa using h3
      clear h
      go_enter Tryz.func109, Tryz.ntmps109
      go_wp2_with (first | (go_at_call 108; refine (width_ok _ _ h1 h2).mono ?_; rintro e w' ⟨rfl, rfl⟩) | (go_at_call 73; refine (must_no _ _).mono ?_; rintro e w' ⟨rfl, rfl⟩))
      exact ⟨rfl, rfl, rfl⟩
  · have hx : n < 1 ∨ 8 < n := by omega
    clear h hn
    go_enter Tryz.func109, Tryz.ntmps109
    go_wp2_with (go_at_call 108; refine (width_no _ _ hx).mono ?_; rintro e w' ⟨rfl, rfl⟩)
    exact ⟨rfl, rfl, rfl⟩
theorem givenUp_nil (w : World) : Calls Tryz.prog 72 #[.nilIface] w fun r w' => r = .returned (.int .i64 0) ∧ w = w' := by
  go_enter Tryz.func72, Tryz.ntmps72
  go_wp2
  go_ret
  exact ⟨rfl, rfl⟩
theorem givenUp_fault (x : Int) (w : World) : Calls Tryz.prog 72 #[fault x] w fun r w' => r = .returned (.int .i64 x) ∧ Below w.heap.size w w' := by
  have hta : ∀ w : World, (Instr.typeAssert (fault x) 20 172 true).run Tryz.prog w = .ok (.tuple #[.agg #[.int .i64 x], .bool true]) w := fun _ => by kernel_rfl
  go_enter Tryz.func72, Tryz.ntmps72
  go_wp2
  go_ret
  exact ⟨rfl, by go_grown⟩
theorem seal_caught (p : Addr) (y x : Int) (older : List PanicEntry) (w : World) (hc : w.cell? p = some (.int .i64 y)) (hz : w.frozen? p = false) :
    CallsD Tryz.prog 76 #[.pointer (some p)] (.panicking ({ v := fault x, recovered := false } :: older)) w fun e u' w' =>
      e = .returned (.tuple #[]) ∧ u' = .panicking ({ v := fault x, recovered := true } :: older) ∧ w'.cell? p = some (.int .i64 x) ∧ w.grownBy w' (some p.block) := by
  refine callsD_of_wpS Tryz.func76 rfl fun c₀ cs hu => ?_
  apply wpS_region
  simp [wpOpsS, go_sem, recoverD, hu, Tryz.ntmps76]
  refine (givenUp_fault x w).mono ?_
  rintro e w' ⟨rfl, hb⟩
  have hlt := World.block_lt_of_cell? w p hc
  have hc' := (hb.cell hlt).trans hc
  have hz' := (hb.frozen hlt).trans hz
  simp [go_sem, hc', hz', bodyPostS, results, Tryz.results76]
  exact grown_setp (below_grown hb _) _
theorem seal_idle (p : Addr) (y : Int) (w : World) (hc : w.cell? p = some (.int .i64 y)) (hz : w.frozen? p = false) :
    CallsD Tryz.prog 76 #[.pointer (some p)] .returning w fun e u' w' => e = .returned (.tuple #[]) ∧ u' = .returning ∧ w'.cell? p = some (.int .i64 0) ∧ w.grownBy w' (some p.block) := by
  refine callsD_of_wpS Tryz.func76 rfl fun c₀ cs hu => ?_
  apply wpS_region
  simp [wpOpsS, go_sem, recoverD, hu, Tryz.ntmps76]
  refine (givenUp_nil w).mono ?_
  rintro e w' ⟨rfl, rfl⟩
  simp [go_sem, hc, hz, bodyPostS, results, Tryz.results76]
  exact ⟨c₀.mode, rfl, hu, grown_setp (grown_refl _ _) _⟩
theorem pack_idle (p : Addr) (y : Int) (w : World) (hc : w.cell? p = some (.int .i64 y)) (hz : w.frozen? p = false) :
    CallsD Tryz.prog 71 #[.pointer (some p)] .returning w fun e u' w' => e = .returned (.tuple #[]) ∧ u' = .returning ∧ w'.cell? p = some (.int .i64 0) ∧ w.grownBy w' (some p.block) := by
  refine callsD_of_wpS Tryz.func71 rfl fun c₀ cs hu => ?_
  apply wpS_region
  simp [wpOpsS, go_sem, recoverD, hu, Tryz.ntmps71]
  refine (givenUp_nil w).mono ?_
  rintro e w' ⟨rfl, rfl⟩
  simp [go_sem, hc, hz, bodyPostS, results, Tryz.results71]
  exact ⟨c₀.mode, rfl, hu, grown_setp (grown_refl _ _) _⟩
theorem unpack_idle (p : Addr) (y : Int) (w : World) (hc : w.cell? p = some (.int .i64 y)) (hz : w.frozen? p = false) :
    CallsD Tryz.prog 81 #[.pointer (some p)] .returning w fun e u' w' => e = .returned (.tuple #[]) ∧ u' = .returning ∧ w'.cell? p = some (.int .i64 0) ∧ w.grownBy w' (some p.block) := by
  refine callsD_of_wpS Tryz.func81 rfl fun c₀ cs hu => ?_
  apply wpS_region
  simp [wpOpsS, go_sem, recoverD, hu, Tryz.ntmps81]
  refine (givenUp_nil w).mono ?_
  rintro e w' ⟨rfl, rfl⟩
  simp [go_sem, hc, hz, bodyPostS, results, Tryz.results81]
  exact ⟨c₀.mode, rfl, hu, grown_setp (grown_refl _ _) _⟩
end Go.Proofs.YtgjcbfdhpbkhoaaGreatDoor.WGive
/- A number is read from bytes, and written into them: the program's inner calls get and put, whether they give up or not. -/
namespace Go.Proofs.YtgjcbfdhpbkhoaaGreatDoor.WGet
open Go.RowKit WMem WPlain WGive
theorem pow_le_56 {k : Nat} (h : k < 8) : 2 ^ (8 * k) ≤ 2 ^ 56 := Nat.pow_le_pow_right (by decide) (by omega)
theorem byte_shift (x : UInt8) (k : Nat) (h : k < 8) : IntKind.u64.wrap ((x.toNat : Int) * 2 ^ (8 * k)) = ((x.toNat * 2 ^ (8 * k) : Nat) : Int) ∧ x.toNat * 2 ^ (8 * k) < 18446744073709551616 := by
  have h2 : x.toNat * 2 ^ (8 * k) ≤ 255 * 2 ^ 56 := Nat.mul_le_mul (by have := byte_lt x; omega) (pow_le_56 h)
  have h3 : ((x.toNat * 2 ^ (8 * k) : Nat) : Int) = (x.toNat : Int) * 2 ^ (8 * k) := by simp
  rw [IntKind.wrap_u64, ← h3]
  constructor
  · omega
  · omega
theorem or_go (l : List UInt8) (x : UInt8) (h : l.length < 8) :
    bits BinOp.or IntKind.u64 (num l : Nat) (IntKind.u64.wrap ((x.toNat : Int) * 2 ^ (8 * l.length))) = ((num (l ++ [x]) : Nat) : Int) := by
  obtain ⟨h1, h2⟩ := byte_shift x l.length h
  have h3 : num l < 18446744073709551616 := by
    have := num_lt l
    have := pow_le_56 h
    omega
  rw [h1, u64_or_nat _ _ h3 h2, num_or]
theorem num_lt_u64 (l : List UInt8) (h : l.length ≤ 8) : num l < 18446744073709551616 := by
  have h1 := num_lt l
  have h2 : 2 ^ (8 * l.length) ≤ 2 ^ 64 := Nat.pow_le_pow_right (by decide) (by omega)
  omega
theorem part_succ (l : List UInt8) (p k : Nat) (h : p + k < l.length) : (l.drop p).take (k + 1) = (l.drop p).take k ++ [l[p + k]] := by
  rw [List.take_succ_eq_append_getElem (by simp; omega)]
  simp
theorem part_length (l : List UInt8) (p k : Nat) (h : p + k ≤ l.length) : ((l.drop p).take k).length = k := by simp; omega
set_option maxHeartbeats 400000 in
theorem get_ok (l : List UInt8) (B : Nat) (A : Option Addr) (c p n : Nat) (w : World) (h1 : 1 ≤ n) (h2 : n ≤ 8) (h4 : p + n ≤ l.length) (hl : l.length ≤ 140737488355328) (hA : Sl w B A (l.map u8v)) :
    Calls Tryz.prog 110 #[.slice A l.length c, .int .i64 p, .int .i64 n] w fun e w' => e = .returned (.int .u64 (num ((l.drop p).take n) : Nat)) ∧ w = w' := by
  go_enter Tryz.func110, Tryz.ntmps110
  go_wp2_with (go_at_call 109; refine (place_ok _ _ _ _ _ _ (by omega) (by omega) (by omega) (by omega) hl).mono ?_; rintro e w' ⟨rfl, rfl⟩)
  go_loop [7, 14] (fun v i => ∃ k : Nat, k ≤ n ∧ i = .int .i64 k ∧ v = .int .u64 (num ((l.drop p).take k) : Nat)) (fun _ i => n - (intOf i).toNat)
  case atStart => exact ⟨0, Nat.zero_le _, rfl, by simp [num]⟩
  case round =>
    obtain ⟨k, hk, rfl, rfl⟩ := hrel
    by_cases hlt : k < n
    · obtain ⟨a, rfl, hab, hc⟩ := hA.u8 (k := p + k) (by omega)
      have HS := Lib.hid (part_succ l p k (by omega))
      have HL := Lib.hid (part_length l p k (by omega))
      obtain ⟨x, hxe⟩ : ∃ x, x = l[p + k] := ⟨_, rfl⟩
      rw [← hxe] at hc HS
      clear hxe
      have hx := byte_lt x
      obtain ⟨m, hm⟩ : ∃ m, m = (l.drop p).take k := ⟨_, rfl⟩
      rw [← hm] at HS HL ⊢
      clear hm
      go_wp2
      go_round
      case rel =>
        refine ⟨k + 1, by omega, by go_num, ?_⟩
        rw [HS.out]
        have := or_go m x (by have := HL.out; omega)
        rw [HL.out] at this
        rw [this]
      case measure => simp [intOf]; omega
    · obtain rfl : k = n := by omega
      go_wp2
      go_ret
      exact ⟨rfl, rfl⟩
theorem get_no (A : Option Addr) (len c : Nat) (p n : Int) (w : World) (h : ¬ (1 ≤ n ∧ n ≤ 8 ∧ 0 ≤ p ∧ p ≤ len - n)) (hl : len ≤ 140737488355328) :
    Calls Tryz.prog 110 #[.slice A len c, .int .i64 p, .int .i64 n] w fun e w' => e = given 22 ∧ w = w' := by
  have H := Lib.hid h
  clear h
  go_enter Tryz.func110, Tryz.ntmps110
  go_wp2_with (go_at_call 109; refine (place_no _ _ _ _ _ _ H.out hl).mono ?_; rintro e w' ⟨rfl, rfl⟩)
  exact ⟨rfl, rfl, rfl⟩
end Go.Proofs.YtgjcbfdhpbkhoaaGreatDoor.WGet
/- A number is written into bytes: the program's inner call put, whether it gives up or not. -/
namespace Go.Proofs.YtgjcbfdhpbkhoaaGreatDoor.WPut
open Go.RowKit WMem WPlain WGive WGet
theorem fits_go (x n : Nat) (hx : x < 2 ^ (8 * n)) : ((x : Int) / 2 ^ (8 * n) == 0) = true := by
  rw [beq_iff_eq]
  have h : ((x / 2 ^ (8 * n) : Nat) : Int) = (x : Int) / 2 ^ (8 * n) := by simp
  rw [← h, Nat.div_eq_of_lt hx]; rfl
theorem byte_go (x k : Nat) : IntKind.u8.wrap ((x : Int) / 2 ^ (8 * k)) = ((UInt8.ofNat (x / 2 ^ (8 * k) % 256)).toNat : Int) := by
  have h : ((x / 2 ^ (8 * k) : Nat) : Int) = (x : Int) / 2 ^ (8 * k) := by simp
  rw [IntKind.wrap_u8', ← h]
  simp
set_option maxHeartbeats 400000 in
theorem put_ok (l : List UInt8) (rest : List Value) (g c p n x : Nat) (w : World) (h1 : 1 ≤ n) (h2 : n ≤ 8) (h4 : p + n ≤ l.length) (hl : l.length ≤ 140737488355328) (hx : x < 2 ^ (8 * n)) (hA : Row w g l rest) :
    Calls Tryz.prog 77 #[.slice (some ⟨g, 0, none⟩) l.length c, .int .i64 p, .int .i64 n, .int .u64 x] w fun e w' => e = .returned (.tuple #[]) ∧ Row w' g (patch l p (dig n x)) rest ∧ w.grownBy w' (some g) := by
  have hz := fits_go x n hx
  clear hx
  go_enter Tryz.func77, Tryz.ntmps77
  go_wp2_with (first | (go_at_call 109; refine (place_ok _ _ _ _ _ _ (by omega) (by omega) (by omega) (by omega) hl).mono ?_; rintro e w' ⟨rfl, rfl⟩) | (go_at_call 73; refine (must_ok _ _).mono ?_; rintro e w' ⟨rfl, rfl⟩))
  clear hz
  go_loopw [20] (fun i wr => ∃ k : Nat, k ≤ n ∧ i = .int .i64 k ∧ Row wr g (patch l p (dig k x)) rest ∧ w.grownBy wr (some g)) (fun i _ => n - (intOf i).toNat)
  case atStart => exact ⟨0, Nat.zero_le _, rfl, by simpa [dig, patch_nil] using hA, grown_refl _ _⟩
  case round =>
    obtain ⟨k, hk, rfl, hR, hG⟩ := hrel
    by_cases hlt : k < n
    · have hpl := patch_length l p (dig k x) (by rw [dig_length]; omega)
      have hc := hR.cell (i := p + k) (by omega)
      have hf := hR.free (p + k)
      have HR := Lib.hid hR
      have HG := Lib.hid hG
      have HP := Lib.hid hpl
      have HS := Lib.hid (patch_snoc l p (dig k x) (UInt8.ofNat (x / 2 ^ (8 * k) % 256)) (by rw [dig_length]; omega))
      have hy := byte_go x k
      generalize (patch l p (dig k x))[p + k].toNat = old at hc
      clear hR hG hpl
      obtain ⟨y, hye⟩ : ∃ y, y = UInt8.ofNat (x / 2 ^ (8 * k) % 256) := ⟨_, rfl⟩
      rw [← hye] at hy HS
      have HY := Lib.hid hye
      clear hye
      go_wp2
      go_roundw
      case rel =>
        refine ⟨k + 1, by omega, by go_num, ?_, grown_set HG.out _ _⟩
        rw [dig_succ, ← HY.out, HS.out, dig_length]
        exact HR.out.set (by rw [HP.out]; omega) y
      case measure => simp [intOf]; omega
    · obtain rfl : k = n := by omega
      have HR := Lib.hid hR
      have HG := Lib.hid hG
      clear hR hG
      go_wp2
      go_end0
      exact ⟨rfl, HR.out, HG.out⟩
end Go.Proofs.YtgjcbfdhpbkhoaaGreatDoor.WPut
/- The faces Get and Put: what is given up within is caught and answered. -/
namespace Go.Proofs.YtgjcbfdhpbkhoaaGreatDoor.WFace
open Go.RowKit WMem WPlain WGive WGet WPut
theorem mf (fn : Fn) (first cap : Array Value) (w : World) : (Instr.makeFunc fn first cap).run Tryz.prog w = .ok (.func fn first cap) w := rfl
theorem face_row {w w1 w' : World} {g : Nat} {l : List UInt8} {rest : List Value} {o : Obj} (hR : Row w1 g l rest) (hG : (w.alloc o).grownBy w1 (some g)) (hg : g < w.heap.size) (hb : Below w.heap.size w1 w') :
    Row w' g l rest ∧ w.grownBy w' (some g) :=
  ⟨hR.keep hb hg, ⟨hb.os.trans hG.os, hb.tape.trans hG.tape, hb.output.trans hG.output, Nat.le_trans (by simp) (Nat.le_trans hG.size hb.size),
    fun k hk hne => (hb.block k hk).trans ((hG.block k (by simp; omega) hne).trans (Below.heap_alloc w o k hk))⟩⟩
end Go.Proofs.YtgjcbfdhpbkhoaaGreatDoor.WFace
/- The document's answers for places and numbers: fits, Get, small, Put. -/
namespace Go.Proofs.YtgjcbfdhpbkhoaaGreatDoor.WRef
open Go.RowKit WMem WPlain WGet WPut
set_option maxHeartbeats 400000 in
theorem fits_yes (A : Option Addr) (len c : Nat) (p n : Int) (w : World) (h1 : 1 ≤ n) (h2 : n ≤ 8) (h3 : 0 ≤ p) (h4 : p ≤ len - n) (hl : len ≤ 140737488355328) :
    Calls Tryz.prog 79 #[.slice A len c, .int .i64 p, .int .i64 n] w fun e w' => e = .returned (.bool true) ∧ w = w' := by
  have d1 : decide ((1 : Int) ≤ n) = true := by simpa using h1
  have d2 : decide (n ≤ 8) = true := by simpa using h2
  have d3 : decide (0 ≤ p) = true := by simpa using h3
  have d4 : decide (p ≤ (len : Int)) = true := by simp; omega
  have d5 : decide (n ≤ (len : Int) - p) = true := by simp; omega
  go_enter Tryz.func79, Tryz.ntmps79
  go_wp2
  go_ret
  exact ⟨rfl, rfl⟩
theorem num_cons_go (l : List UInt8) (p n k : Nat) (h : p + n ≤ l.length) (hk : k < n) :
    num ((l.drop (p + k)).take (n - k)) = (l[p + k]'(by omega)).toNat + 256 * num ((l.drop (p + (k + 1))).take (n - (k + 1))) := by
  have e : (l.drop (p + k)).take (n - k) = l[p + k]'(by omega) :: (l.drop (p + (k + 1))).take (n - (k + 1)) := by
    rw [List.drop_eq_getElem_cons (by omega : p + k < l.length), show n - k = (n - (k + 1)) + 1 by omega, List.take_succ_cons]
    rfl
  rw [e]; rfl
set_option maxHeartbeats 400000 in
theorem refGet_ok (l : List UInt8) (B : Nat) (A : Option Addr) (c p n : Nat) (w : World) (h1 : 1 ≤ n) (h2 : n ≤ 8) (h4 : p + n ≤ l.length) (hl : l.length ≤ 140737488355328) (hA : Sl w B A (l.map u8v)) :
    Calls Tryz.prog 52 #[.slice A l.length c, .int .i64 p, .int .i64 n] w fun e w' => e = .returned (.tuple #[.int .u64 (num ((l.drop p).take n) : Nat), .int .i64 0]) ∧ w = w' := by
  go_enter Tryz.func52, Tryz.ntmps52
  go_wp2_with (go_at_call 79; refine (fits_yes A l.length c p n _ (by omega) (by omega) (by omega) (by omega) hl).mono ?_; rintro e w' ⟨rfl, rfl⟩)
  go_loop [8, 9] (fun v i => ∃ k : Nat, k ≤ n ∧ i = .int .i64 ((k : Int) - 1) ∧ v = .int .u64 (num ((l.drop (p + k)).take (n - k)) : Nat)) (fun _ i => (intOf i + 1).toNat)
  case atStart => exact ⟨n, Nat.le_refl _, rfl, by simp [num]⟩
  case round =>
    obtain ⟨k, hk, rfl, rfl⟩ := hrel
    rcases k with _ | j
    · rw [show (((0 : Nat) : Int) - 1) = -1 by omega, show p + 0 = p by omega, show n - 0 = n by omega]
      go_wp2
      go_ret2
      exact ⟨rfl, rfl⟩
    · rw [show (((j + 1 : Nat) : Int) - 1) = (j : Int) by omega]
      obtain ⟨a, rfl, hab, hc⟩ := hA.u8 (k := p + j) (by omega)
      have HS := Lib.hid (num_cons_go l p n j h4 (by omega))
      have hd : num ((l.drop (p + (j + 1))).take (n - (j + 1))) < 72057594037927936 := by
        have h5 := num_lt ((l.drop (p + (j + 1))).take (n - (j + 1)))
        have h6 := pow_le_56 (k := ((l.drop (p + (j + 1))).take (n - (j + 1))).length) (by simp; omega)
        omega
      have hx := byte_lt (l[p + j]'(by omega))
      generalize num ((l.drop (p + (j + 1))).take (n - (j + 1))) = d at *
      generalize (l[p + j]'(by omega)).toNat = x at *
      go_wp2
      go_round
      case rel => exact ⟨j, by omega, rfl, by rw [HS.out]; go_num⟩
      case measure => simp [intOf]
theorem div_next (x k : Nat) : x / 2 ^ (8 * k) / 256 = x / 2 ^ (8 * (k + 1)) := by
  rw [Nat.div_div_eq_div_mul, show 8 * (k + 1) = 8 * k + 8 by omega, Nat.pow_add]
theorem div_u64 (x k : Nat) (h : x < 18446744073709551616) : x / 2 ^ (8 * k) < 18446744073709551616 := Nat.lt_of_le_of_lt (Nat.div_le_self _ _) h
set_option maxHeartbeats 400000 in
theorem small_any (x n : Nat) (r : Bool) (w : World) (hx : x < 18446744073709551616) (hn : n ≤ 8) (hr : r = decide (x < 2 ^ (8 * n))) :
    Calls Tryz.prog 80 #[.int .u64 x, .int .i64 n] w fun e w' => e = .returned (.bool r) ∧ w = w' := by
  have HR := Lib.hid hr
  clear hr
  go_enter Tryz.func80, Tryz.ntmps80
  go_wp2
  go_loop [0, 5] (fun v i => ∃ k : Nat, k ≤ n ∧ i = .int .i64 k ∧ v = .int .u64 (x / 2 ^ (8 * k) : Nat)) (fun _ i => n - (intOf i).toNat)
  case atStart => exact ⟨0, Nat.zero_le _, rfl, by simp⟩
  case round =>
    obtain ⟨k, hk, rfl, rfl⟩ := hrel
    by_cases hlt : k < n
    · have HS := Lib.hid (div_next x k)
      have hd := div_u64 x k hx
      generalize x / 2 ^ (8 * k) = d at *
      go_wp2
      go_round
      case rel => exact ⟨k + 1, by omega, by go_num, by rw [← HS.out]; rfl⟩
      case measure => simp [intOf]; omega
    · obtain rfl : k = n := by omega
      have he : ((x / 2 ^ (8 * k) : Nat) == 0) = r := by
        rw [HR.out, Bool.eq_iff_iff, beq_iff_eq, decide_eq_true_iff, Nat.div_eq_zero_iff]
        have := Nat.two_pow_pos (8 * k)
        omega
      have hd := div_u64 x k hx
      have he2 : (((x / 2 ^ (8 * k) : Nat) : Int) == 0) = r := by
        rw [← he, Bool.eq_iff_iff, beq_iff_eq, beq_iff_eq]; omega
      generalize x / 2 ^ (8 * k) = d at *
      go_wp2
      go_ret
      exact ⟨rfl, rfl⟩
theorem refbyte_go (x : Nat) : IntKind.u8.wrap ((x : Int) % 256) = ((UInt8.ofNat (x % 256)).toNat : Int) := by
  rw [IntKind.wrap_u8']
  simp
set_option maxHeartbeats 400000 in
theorem refPut_ok (len : Nat) (l : List UInt8) (hlen : l.length = len) (rest : List Value) (g c p n x : Nat) (w : World) (h1 : 1 ≤ n) (h2 : n ≤ 8) (h4 : p + n ≤ len) (hl : len ≤ 140737488355328) (hx : x < 2 ^ (8 * n)) (hA : Row w g l rest) :
    Calls Tryz.prog 47 #[.slice (some ⟨g, 0, none⟩) len c, .int .i64 p, .int .i64 n, .int .u64 x] w fun e w' => e = .returned (.int .i64 0) ∧ Row w' g (patch l p (dig n x)) rest ∧ w.grownBy w' (some g) := by
  have hx64 : x < 18446744073709551616 := by
    have : 2 ^ (8 * n) ≤ 2 ^ 64 := Nat.pow_le_pow_right (by decide) (by omega)
    omega
  have HX := Lib.hid (show true = decide (x < 2 ^ (8 * n)) by simpa using hx)
  have HL := Lib.hid hlen
  clear hx hlen
  go_enter Tryz.func47, Tryz.ntmps47
  go_wp2_with (first | (go_at_call 79; refine (fits_yes _ len c p n _ (by omega) (by omega) (by omega) (by omega) hl).mono ?_; rintro e w' ⟨rfl, rfl⟩) | (go_at_call 80; refine (small_any x n true _ hx64 h2 HX.out).mono ?_; rintro e w' ⟨rfl, rfl⟩))
  go_loopw [3, 9] (fun v i wr => ∃ k : Nat, k ≤ n ∧ i = .int .i64 k ∧ v = .int .u64 (x / 2 ^ (8 * k) : Nat) ∧ Row wr g (patch l p (dig k x)) rest ∧ w.grownBy wr (some g)) (fun _ i _ => n - (intOf i).toNat)
  case atStart => exact ⟨0, Nat.zero_le _, rfl, by simp, by simpa [dig, patch_nil] using hA, grown_refl _ _⟩
  case round =>
    obtain ⟨k, hk, rfl, rfl, hR, hG⟩ := hrel
    by_cases hlt : k < n
    · have hll := HL.out
      have hpl := patch_length l p (dig k x) (by rw [dig_length]; omega)
      have hc := hR.cell (i := p + k) (by omega)
      have hf := hR.free (p + k)
      have HR := Lib.hid hR
      have HG := Lib.hid hG
      have HP := Lib.hid hpl
      have HS := Lib.hid (patch_snoc l p (dig k x) (UInt8.ofNat (x / 2 ^ (8 * k) % 256)) (by rw [dig_length]; omega))
      have hy := refbyte_go (x / 2 ^ (8 * k))
      have HN := Lib.hid (div_next x k)
      have hd := div_u64 x k hx64
      generalize (patch l p (dig k x))[p + k].toNat = old at hc
      clear hR hG hpl hll
      obtain ⟨y, hye⟩ : ∃ y, y = UInt8.ofNat (x / 2 ^ (8 * k) % 256) := ⟨_, rfl⟩
      rw [← hye] at hy HS
      have HY := Lib.hid hye
      clear hye
      obtain ⟨d, hde⟩ : ∃ d, d = x / 2 ^ (8 * k) := ⟨_, rfl⟩
      rw [← hde] at hy HN hd ⊢
      clear hde
      go_wp2
      go_roundw
      case rel =>
        refine ⟨k + 1, by omega, by go_num, by rw [← HN.out]; rfl, ?_, grown_set HG.out _ _⟩
        rw [dig_succ, ← HY.out, HS.out, dig_length]
        exact HR.out.set (by rw [HP.out]; have := HL.out; omega) y
      case measure => simp [intOf]; omega
    · obtain rfl : k = n := by omega
      have HR := Lib.hid hR
      have HG := Lib.hid hG
      clear hR hG
      go_wp2
      go_ret
      exact ⟨rfl, HR.out, HG.out⟩
end Go.Proofs.YtgjcbfdhpbkhoaaGreatDoor.WRef
/- The variadic helper of layout: is none of some numbers below the least one or above the most? -/
namespace Go.Proofs.YtgjcbfdhpbkhoaaGreatDoor.GWithin
open Go.RowKit WMem GPlain
set_option maxHeartbeats 400000 in
theorem within_any (lo hi : Int) (l : List Int) (B : Nat) (A : Option Addr) (c : Nat) (w : World) (hA : Sl w B A (l.map i64v)) (hl : l.length ≤ 140737488355328) :
    Calls Tryz.prog 111 #[.int .i64 lo, .int .i64 hi, .slice A l.length c] w fun e w' => e = .returned (.bool (allIn lo hi l)) ∧ w = w' := by
  have HA := Lib.hid hA
  clear hA
  go_enter Tryz.func111, Tryz.ntmps111
  go_wp2
  go_loop [11] (fun i => ∃ k : Nat, k ≤ l.length ∧ i = .int .i64 k ∧ Hid (allIn lo hi (l.take k) = true)) (fun i => l.length - (intOf i).toNat)
  case atStart => exact ⟨0, Nat.zero_le _, rfl, Lib.hid rfl⟩
  case round =>
    obtain ⟨k, hk, rfl, HK⟩ := hrel
    by_cases hlt : k < l.length
    · obtain ⟨a, rfl, _, hc⟩ := HA.out.i64 hlt
      have HS := Lib.hid (allIn_take lo hi l k hlt)
      have HN := Lib.hid (allIn_no lo hi l k hlt)
      generalize l[k] = x at *
      by_cases h1 : lo ≤ x
      · have d1 : decide (x < lo) = false := by simpa using h1
        by_cases h2 : x ≤ hi
        · have d2 : decide (hi < x) = false := by simpa using h2
          have HX := Lib.hid (inB_true.2 ⟨h1, h2⟩)
          go_wp2
          go_round
          case rel => exact ⟨k + 1, by omega, by go_num, Lib.hid (by rw [HS.out, HK.out, HX.out]; rfl)⟩
          case measure => simp [intOf]; omega
        · have d2 : decide (hi < x) = true := by simpa using h2
          have HX := Lib.hid (HN.out (inB_false.2 (.inr (by omega))))
          clear h2
          go_wp2
          go_ret
          exact ⟨by rw [HX.out]; rfl, rfl⟩
      · have d1 : decide (x < lo) = true := by simpa using h1
        have HX := Lib.hid (HN.out (inB_false.2 (.inl (by omega))))
        clear h1
        go_wp2
        go_ret
        exact ⟨by rw [HX.out]; rfl, rfl⟩
    · obtain rfl : k = l.length := by omega
      have HX := Lib.hid (show allIn lo hi l = true by have := HK.out; rwa [List.take_length] at this)
      go_wp2
      go_ret
      exact ⟨by rw [HX.out]; rfl, rfl⟩
theorem within_one (lo hi x : Int) (a : Addr) (c : Nat) (w : World) (ha : w.cell? a = some (.int .i64 x)) :
    Calls Tryz.prog 111 #[.int .i64 lo, .int .i64 hi, .slice (some a) 1 c] w fun e w' => e = .returned (.bool (inB lo hi x)) ∧ w = w' := by
  have h := within_any lo hi [x] (a.block + 1) (some a) c w (fun k u hu => by
    match k with
    | 0 => simp at hu; subst hu; exact ⟨a, rfl, by omega, by simpa [Addr.add, i64v] using ha⟩
    | k + 1 => simp at hu) (by simp)
  refine h.mono ?_
  rintro e w' ⟨rfl, rfl⟩
  exact ⟨by simp [allIn], rfl⟩
end Go.Proofs.YtgjcbfdhpbkhoaaGreatDoor.GWithin
