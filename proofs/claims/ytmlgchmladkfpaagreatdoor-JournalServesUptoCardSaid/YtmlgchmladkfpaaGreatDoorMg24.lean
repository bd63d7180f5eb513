/- Lists of numbers, each in its width: the program's inner call pack. -/
import Derived.Test.YtmlgchmladkfpaaGreatDoorMg23
import Derived.Deep.LoopGhost
import Derived.Test.YtmlgchmladkfpaaGreatDoorMg22
import Derived.Test.YtmlgchmladkfpaaGreatDoorMg25
import Derived.Deep.QuietTactic
import Derived.BigQuiet
import Derived.Test.YtmlgchmladkfpaaGreatDoorMg2
import Derived.WalkKit
import Derived.WalkSpells
import Derived.WalkLawsBesides
import Derived.Handy
import Derived.Outline
import Derived.Lib.SliceRun
import Derived.RegionTactic
import Derived.BigRegion
namespace Go.Proofs.YtmlgchmladkfpaaGreatDoor.WPack
open Go.RowKit WMem WPlain WGive WGet WPut WAppend WHelp WList

/-- bytes of nought -/
def zrow (n : Nat) : Array Value := ((List.replicate n (0 : UInt8)).map u8v ++ []).toArray
theorem made_one (z : Value) (n : Nat) : madeCells #[z] n = (List.replicate n z).toArray := by
  apply Array.ext
  · simp [madeCells]
  · intro i h1 h2
    simp [madeCells, Nat.mod_one]
theorem zrow_eq (n : Nat) : zrow n = (List.replicate n (Value.int .u8 0)).toArray := by simp [zrow, u8v]
theorem make_bytes (n : Nat) (hn : n ≤ 281474976710656) (w : World) : (Instr.makeSlice 43 (.int .i64 (n : Int)) (.int .i64 (n : Int))).run Tryz.prog w = .ok (.slice (some ⟨w.heap.size, 0, none⟩) n n) (w.alloc (.cells (zrow n) 5)) := by
  obtain ⟨i, h1, h2, h3, h4⟩ := info_parts (P := Tryz.prog) (e := 5) (z := .int .u8 0) (size := 1) (bytes := 1) (by kernel_rfl)
  have h := run_make (P := Tryz.prog) w 43 5 i (.int .u8 0) (by kernel_rfl) h1 h2 .i64 .i64 n n (by omega) (by omega) (by rw [h4]; omega) (by omega)
  rw [h]
  simp only [Int.toNat_natCast, h3, Nat.mul_one]
  rw [zrow_eq, ← made_one]
  rfl
theorem zrow_row (w : World) (n : Nat) : Row (w.alloc (.cells (zrow n) 5)) w.heap.size (List.replicate n 0) [] := row_new _ _

theorem put_at (len : Nat) (l : List UInt8) (hlen : l.length = len) (rest : List Value) (g c p n x : Nat) (w : World) (h1 : 1 ≤ n) (h2 : n ≤ 8) (h4 : p + n ≤ len) (hl : len ≤ 140737488355328) (hx : x < 2 ^ (8 * n)) (hA : Row w g l rest) :
    Calls Tryz.prog 181 #[.slice (some ⟨g, 0, none⟩) len c, .int .i64 p, .int .i64 n, .int .u64 x] w fun e w' => e = .returned (.tuple #[]) ∧ Row w' g (patch l p (dig n x)) rest ∧ w.grownBy w' (some g) := by
  subst hlen
  exact put_ok l rest g c p n x w h1 h2 h4 hl hx hA

/-- what lies in the row when k numbers are written -/
def part (size : Nat) (ns : List Nat) (xs : List UInt64) (k : Nat) : List UInt8 := packed (ns.take k) (xs.take k) ++ List.replicate (size - tot (ns.take k)) 0
theorem part_len (size : Nat) (ns : List Nat) (xs : List UInt64) (k : Nat) (h : ns.length = xs.length) (ht : tot ns ≤ size) : (part size ns xs k).length = size := by
  have := tot_take_le ns k
  rw [part, List.length_append, packed_length _ _ (by simp [h]), List.length_replicate]; omega
theorem part_zero (size : Nat) (ns : List Nat) (xs : List UInt64) : part size ns xs 0 = List.replicate size 0 := by simp [part, packed, tot]
theorem part_next (size : Nat) (ns : List Nat) (xs : List UInt64) (k : Nat) (h : ns.length = xs.length) (hk : k < ns.length) :
    patch (part size ns xs k) (tot (ns.take k)) (dig ns[k] (xs[k]'(by omega)).toNat) = part size ns xs (k + 1) := by
  have e : tot (ns.take k) = (packed (ns.take k) (xs.take k)).length := (packed_length _ _ (by simp [h])).symm
  unfold part
  rw [packed_take_succ ns xs h k hk, tot_take_succ ns k hk]
  conv => lhs; rw [e]
  rw [patch_zeros, dig_length]
  rw [← e, Nat.sub_sub]

set_option maxHeartbeats 1000000 in
theorem pack_ok (ns : List Nat) (xs : List UInt64) (size B : Nat) (A A' : Option Addr) (c c' : Nat) (w : World) (hB : B ≤ w.heap.size) (h : ns.length = xs.length) (hf : fine ns) (hx : fit ns xs) (ht : tot ns ≤ size) (hs : size ≤ 4096)
    (hA : Sl w B A (xs.map u64v)) (hA' : Sl w B A' (ns.map natv)) :
    Calls Tryz.prog 178 #[.slice A xs.length c, .slice A' ns.length c', .int .i64 size] w fun e w' =>
      e = .returned (.slice (some ⟨w.heap.size, 0, none⟩) size size) ∧ Row w' w.heap.size (part size ns xs ns.length) [] ∧ Below w.heap.size w w' ∧ w.heap.size < w'.heap.size := by
  have hn4 : ns.length ≤ 4096 := by have := (tot_le ns hf).1; omega
  have hmk := make_bytes size (by omega)
  have HF := Lib.hid hf
  have HX := Lib.hid hx
  have HA := Lib.hid hA
  have HA' := Lib.hid hA'
  have HE := Lib.hid h
  have hxl : xs.length ≤ 4096 := by omega
  clear hf hx hA hA' h
  go_enter Tryz.func178, Tryz.ntmps178
  go_wp2
  clear hmk
  go_loopw [8, 15] (fun v i wr => ∃ k : Nat, k ≤ ns.length ∧ i = .int .i64 k ∧ v = .int .i64 (tot (ns.take k) : Nat) ∧ Row wr w.heap.size (part size ns xs k) [] ∧ Below w.heap.size w wr) (fun _ i _ => ns.length - (intOf i).toNat)
  case atStart => exact ⟨0, Nat.zero_le _, rfl, by simp [tot], by rw [part_zero]; exact zrow_row w size, (Below.refl _ _).alloc (Nat.le_refl _) _⟩
  case round =>
    obtain ⟨k, hk, rfl, rfl, hR, hb⟩ := hrel
    have HR := Lib.hid hR
    have HB := Lib.hid hb
    clear hR hb
    by_cases hlt : k < ns.length
    · have hkx : k < xs.length := by have := HE.out; omega
      obtain ⟨a', rfl, hab', hc'⟩ := (HA'.out.below_le HB.out hB).nat hlt
      obtain ⟨a, rfl, hab, hc⟩ := (HA.out.below_le HB.out hB).u64 hkx
      obtain ⟨f1, f2⟩ := fine_get HF.out hlt
      have t1 := tot_take_le ns k
      have t3 := tot_take_le ns (k + 1)
      rw [tot_take_succ ns k hlt] at t3
      have HS := Lib.hid (tot_take_succ ns k hlt)
      have HP := Lib.hid (part_next size ns xs k HE.out hlt)
      have HL := Lib.hid (part_len size ns xs k HE.out ht)
      have HG := Lib.hid (fit_get HE.out HX.out hlt)
      generalize tot (ns.take k) = d at *
      generalize ns[k] = n at *
      generalize xs[k] = x at *
      generalize part size ns xs k = pt at *
      go_wp2_with (go_at_call 181; refine (put_at size pt HL.out [] w.heap.size size d n x.toNat _ f1 f2 (by omega) (by omega) HG.out HR.out).mono ?_; rintro e w1 ⟨rfl, hR1, hG1⟩)
      go_roundw
      case rel =>
        refine ⟨k + 1, by omega, by go_num, by rw [HS.out]; go_num, by rw [← HP.out]; exact hR1, ?_⟩
        exact HB.out.trans (grown_below hG1 (Nat.le_refl _) HR.out.lt)
      case measure => simp [intOf]; omega
    · obtain rfl : k = ns.length := by omega
      go_wp2
      go_ret
      exact ⟨rfl, HR.out, HB.out, HR.out.lt⟩

set_option maxHeartbeats 1000000 in
/-- a number that does not go into its width -/
theorem pack_no (ns : List Nat) (xs : List UInt64) (size B : Nat) (A A' : Option Addr) (c c' : Nat) (w : World) (hB : B ≤ w.heap.size) (h : ns.length = xs.length) (hf : fine ns) (hx : ¬ fit ns xs) (ht : tot ns ≤ size) (hs : size ≤ 4096)
    (hA : Sl w B A (xs.map u64v)) (hA' : Sl w B A' (ns.map natv)) :
    Calls Tryz.prog 178 #[.slice A xs.length c, .slice A' ns.length c', .int .i64 size] w fun e w' => e = given 34 ∧ Below w.heap.size w w' := by
  have hn4 : ns.length ≤ 4096 := by have := (tot_le ns hf).1; omega
  have hmk := make_bytes size (by omega)
  have HF := Lib.hid hf
  have HX := Lib.hid hx
  have HA := Lib.hid hA
  have HA' := Lib.hid hA'
  have HE := Lib.hid h
  have hxl : xs.length ≤ 4096 := by omega
  clear hf hx hA hA' h
  go_enter Tryz.func178, Tryz.ntmps178
  go_wp2
  clear hmk
  go_loopw [8, 15] (fun v i wr => ∃ k : Nat, k ≤ ns.length ∧ i = .int .i64 k ∧ v = .int .i64 (tot (ns.take k) : Nat) ∧ Row wr w.heap.size (part size ns xs k) [] ∧ Below w.heap.size w wr ∧ fit (ns.take k) (xs.take k)) (fun _ i _ => ns.length - (intOf i).toNat)
  case atStart => exact ⟨0, Nat.zero_le _, rfl, by simp [tot], by rw [part_zero]; exact zrow_row w size, (Below.refl _ _).alloc (Nat.le_refl _) _, trivial⟩
  case round =>
    obtain ⟨k, hk, rfl, rfl, hR, hb, hfit⟩ := hrel
    have HR := Lib.hid hR
    have HB := Lib.hid hb
    have HFI := Lib.hid hfit
    clear hR hb hfit
    by_cases hlt : k < ns.length
    · have hkx : k < xs.length := by have := HE.out; omega
      obtain ⟨a', rfl, hab', hc'⟩ := (HA'.out.below_le HB.out hB).nat hlt
      obtain ⟨a, rfl, hab, hc⟩ := (HA.out.below_le HB.out hB).u64 hkx
      obtain ⟨f1, f2⟩ := fine_get HF.out hlt
      have t1 := tot_take_le ns k
      have t3 := tot_take_le ns (k + 1)
      rw [tot_take_succ ns k hlt] at t3
      have HS := Lib.hid (tot_take_succ ns k hlt)
      have HP := Lib.hid (part_next size ns xs k HE.out hlt)
      have HL := Lib.hid (part_len size ns xs k HE.out ht)
      have HN := Lib.hid (fit_succ HE.out hlt HFI.out)
      generalize tot (ns.take k) = d at *
      generalize ns[k] = n at *
      generalize xs[k] = x at *
      generalize part size ns xs k = pt at *
      by_cases hg : x.toNat < 2 ^ (8 * n)
      · have HG := Lib.hid hg
        clear hg
        go_wp2_with (go_at_call 181; refine (put_at size pt HL.out [] w.heap.size size d n x.toNat _ f1 f2 (by omega) (by omega) HG.out HR.out).mono ?_; rintro e w1 ⟨rfl, hR1, hG1⟩)
        go_roundw
        case rel =>
          refine ⟨k + 1, by omega, by go_num, by rw [HS.out]; go_num, by rw [← HP.out]; exact hR1, ?_, HN.out HG.out⟩
          exact HB.out.trans (grown_below hG1 (Nat.le_refl _) HR.out.lt)
        case measure => simp [intOf]; omega
      · have HG := Lib.hid hg
        clear hg
        go_wp2_with (go_at_call 181; refine (put_big _ size size d n x.toNat _ f1 f2 (by omega) (by omega) HG.out).mono ?_; rintro e w1 ⟨rfl, rfl⟩)
        exact ⟨rfl, rfl, HB.out⟩
    · exact absurd (by have := HFI.out; rwa [List.take_of_length_le (by omega), List.take_of_length_le (by have := HE.out; omega)] at this) HX.out
end Go.Proofs.YtmlgchmladkfpaaGreatDoor.WPack
/- Lists of numbers, each in its width: the program's inner call unpack. -/
namespace Go.Proofs.YtmlgchmladkfpaaGreatDoor.WUnpack
open Go.RowKit WMem WPlain WGive WGet WPut WAppend WHelp WList WPack

/-- numbers of nought -/
def znums (n : Nat) : Array Value := (List.replicate n (Value.int .u64 0)).toArray
theorem make_nums (n : Nat) (hn : n ≤ 17592186044416) (w : World) : (Instr.makeSlice 182 (.int .i64 (n : Int)) (.int .i64 (n : Int))).run Tryz.prog w = .ok (.slice (some ⟨w.heap.size, 0, none⟩) n n) (w.alloc (.cells (znums n) 183)) := by
  obtain ⟨i, h1, h2, h3, h4⟩ := info_parts (P := Tryz.prog) (e := 183) (z := .int .u64 0) (size := 1) (bytes := 8) (by kernel_rfl)
  have h := run_make (P := Tryz.prog) w 182 183 i (.int .u64 0) (by kernel_rfl) h1 h2 .i64 .i64 n n (by omega) (by omega) (by rw [h4]; omega) (by omega)
  rw [h]
  simp only [Int.toNat_natCast, h3, Nat.mul_one]
  rw [znums, ← made_one]
  rfl
/-- what lies in the row when k numbers are read -/
def some_ (ns : List Nat) (b : List UInt8) (k : Nat) : List Value := ((unp ns b).take k).map u64v ++ List.replicate (ns.length - k) (Value.int .u64 0)
theorem some_zero (ns : List Nat) (b : List UInt8) : some_ ns b 0 = List.replicate ns.length (Value.int .u64 0) := by simp [some_]
theorem some_all (ns : List Nat) (b : List UInt8) : some_ ns b ns.length = (unp ns b).map u64v := by
  rw [some_, List.take_of_length_le (by rw [unp_length]; exact Nat.le_refl _)]; simp
theorem some_len (ns : List Nat) (b : List UInt8) (k : Nat) (h : k ≤ ns.length) : (some_ ns b k).length = ns.length := by simp [some_, unp_length]; omega
theorem some_next (ns : List Nat) (b : List UInt8) (k : Nat) (h : k < ns.length) (hf : fine ns) : (some_ ns b k).set k (Value.int .u64 (num ((b.drop (tot (ns.take k))).take ns[k]) : Nat)) = some_ ns b (k + 1) := by
  have hn := fine_get hf h
  have e : u64v ((unp ns b)[k]'(by rw [unp_length]; exact h)) = Value.int .u64 (num ((b.drop (tot (ns.take k))).take ns[k]) : Nat) := by
    rw [unp_get ns b k h, u64v, num_u64 _ (by simp; omega)]
  rw [← e]
  unfold some_
  have hl : (((unp ns b).take k).map u64v).length = k := by simp [unp_length]; omega
  rw [List.set_append_right _ _ (by omega), hl, Nat.sub_self]
  rw [show ns.length - k = (ns.length - (k + 1)) + 1 by omega, List.replicate_succ, List.set_cons_zero]
  rw [List.take_succ_eq_append_getElem (by rw [unp_length]; exact h), List.map_append, List.append_assoc]
  rfl

set_option maxHeartbeats 1000000 in
theorem unpack_ok (ns : List Nat) (b : List UInt8) (B : Nat) (A A' : Option Addr) (c c' : Nat) (w : World) (hB : B ≤ w.heap.size) (hf : fine ns) (ht : tot ns = b.length) (hl : b.length ≤ 140737488355328) (hl' : ns.length ≤ 17592186044416)
    (hA : Sl w B A (b.map u8v)) (hA' : Sl w B A' (ns.map natv)) :
    Calls Tryz.prog 212 #[.slice A b.length c, .slice A' ns.length c'] w fun e w' =>
      e = .returned (.slice (some ⟨w.heap.size, 0, none⟩) ns.length ns.length) ∧ RowV w' w.heap.size 183 ((unp ns b).map u64v) ∧ Below w.heap.size w w' ∧ w.heap.size < w'.heap.size := by
  have hmk := make_nums ns.length hl'
  have HF := Lib.hid hf
  have HA := Lib.hid hA
  have HA' := Lib.hid hA'
  have HT := Lib.hid ht
  clear hf hA hA' ht
  go_enter Tryz.func212, Tryz.ntmps212
  go_wp2
  clear hmk
  go_loopw [6, 14] (fun v i wr => ∃ k : Nat, k ≤ ns.length ∧ i = .int .i64 k ∧ v = .int .i64 (tot (ns.take k) : Nat) ∧ RowV wr w.heap.size 183 (some_ ns b k) ∧ Below w.heap.size w wr) (fun _ i _ => ns.length - (intOf i).toNat)
  case atStart => exact ⟨0, Nat.zero_le _, rfl, by simp [tot], by rw [some_zero]; exact row_new _ _, (Below.refl _ _).alloc (Nat.le_refl _) _⟩
  case round =>
    obtain ⟨k, hk, rfl, rfl, hR, hb⟩ := hrel
    have HR := Lib.hid hR
    have HB := Lib.hid hb
    clear hR hb
    by_cases hlt : k < ns.length
    · obtain ⟨a', rfl, hab', hc'⟩ := (HA'.out.below_le HB.out hB).nat hlt
      obtain ⟨f1, f2⟩ := fine_get HF.out hlt
      have t3 := tot_take_le ns (k + 1)
      rw [tot_take_succ ns k hlt, HT.out] at t3
      have HS := Lib.hid (tot_take_succ ns k hlt)
      have HP := Lib.hid (some_next ns b k hlt HF.out)
      have hsl := some_len ns b k hk
      have hcx := HR.out.cell (i := k) (by omega)
      have hfx := HR.out.free k
      generalize (some_ ns b k)[k] = old at hcx
      have HL := Lib.hid hsl
      clear hsl
      generalize tot (ns.take k) = d at *
      generalize ns[k] = n at *
      generalize some_ ns b k = pt at *
      go_wp2_with (go_at_call 221; refine (get_ok b B A c d n _ f1 f2 t3 hl (HA.out.below_le HB.out hB)).mono ?_; rintro e w1 ⟨rfl, rfl⟩)
      go_roundw
      case rel =>
        refine ⟨k + 1, by omega, by go_num, by rw [HS.out]; go_num, by rw [← HP.out]; exact HR.out.set k _, HB.out.setCell (Nat.le_refl _) _⟩
      case measure => simp [intOf]; omega
    · obtain rfl : k = ns.length := by omega
      go_wp2
      go_ret
      exact ⟨rfl, by rw [← some_all]; exact HR.out, HB.out, HR.out.lt⟩
end Go.Proofs.YtmlgchmladkfpaaGreatDoor.WUnpack
/- The faces Pack and Unpack: what is given up within is caught and answered. -/
namespace Go.Proofs.YtmlgchmladkfpaaGreatDoor.WFace2
open Go.RowKit WMem WPlain WGive WGet WPut WAppend WHelp WList WPack WUnpack WFace

theorem alloc_sl {w : World} {B : Nat} {A : Option Addr} {xs : List Value} (h : Sl w B A xs) (hB : B ≤ w.heap.size) (o : Obj) : Sl (w.alloc o) B A xs := h.keep fun q hq => World.cell?_alloc_lt w o q (by omega)

/-- a face that answers a row of its own: the row lies behind the face's own cell -/
theorem face_end {w w1 w' : World} {T : TypeId} {xs : List Value} {o : Obj} {v : Value} (hR : RowV w1 (w.alloc o).heap.size T xs) (hb : Below (w.alloc o).heap.size (w.alloc o) w1) (hs : (w.alloc o).heap.size < w1.heap.size)
    (hg : (w1.setCell ⟨w.heap.size, 0, none⟩ v).grownBy w' (some w.heap.size)) : RowV w' (w.heap.size + 1) T xs ∧ Below w.heap.size w w' := by
  have e : (w.alloc o).heap.size = w.heap.size + 1 := by simp
  rw [e] at hR hb hs
  have g1 : w1.grownBy w' (some w.heap.size) := grown_trans (grown_setp (p := ⟨w.heap.size, 0, none⟩) (grown_refl w1 _) v) hg
  refine ⟨hR.grown g1 (by simp), ?_⟩
  exact ((Below.refl _ _).alloc (Nat.le_refl _) o).trans ((hb.mono (by omega)).trans (grown_below g1 (Nat.le_refl _) (by omega)))

set_option maxHeartbeats 400000 in
theorem Unpack_ok (ns : List Nat) (b : List UInt8) (B : Nat) (A A' : Option Addr) (c c' : Nat) (w : World) (hB : B ≤ w.heap.size) (hf : fine ns) (ht : tot ns = b.length) (hl : b.length ≤ 140737488355328) (hl' : ns.length ≤ 17592186044416)
    (hA : Sl w B A (b.map u8v)) (hA' : Sl w B A' (ns.map natv)) :
    Calls Tryz.prog 195 #[.slice A b.length c, .slice A' ns.length c'] w fun e w' =>
      ∃ g, e = .returned (.tuple #[.slice (some ⟨g, 0, none⟩) ns.length ns.length, .int .i64 0]) ∧ w.heap.size ≤ g ∧ RowV w' g 183 ((unp ns b).map u64v) ∧ Below w.heap.size w w' := by
  have hmf := mf
  have HF := Lib.hid hf
  have HA := Lib.hid (alloc_sl hA hB (.cells #[.int .i64 0] 25))
  have HA' := Lib.hid (alloc_sl hA' hB (.cells #[.int .i64 0] 25))
  have HT := Lib.hid ht
  have hb : ((b.length : Int) == (tot ns : Int)) = true := by rw [beq_iff_eq]; omega
  have ht' : tot ns ≤ 140737488355328 := by omega
  clear hf hA hA' ht
  go_enter_defers Tryz.func195, Tryz.ntmps195
  go_wp2_with fail
  refine (total_ok ns B A' c' _ HF.out hl' HA'.out).mono ?_
  rintro e w1 ⟨rfl, rfl⟩
  go_wp2_with (go_at_call 176; refine (must_ok _ _).mono ?_; rintro e w' ⟨rfl, rfl⟩)
  refine (unpack_ok ns b B A A' c c' _ (by simp; omega) HF.out HT.out hl hl' HA.out HA'.out).mono ?_
  rintro e w1 ⟨rfl, hR, hb1, hsz⟩
  have hc1 : w1.cell? ⟨w.heap.size, 0, none⟩ = some (.int .i64 0) := (hb1.cell (by simp)).trans (by simp [go_sem])
  have hz1 : w1.frozen? ⟨w.heap.size, 0, none⟩ = false := (hb1.frozen (by simp)).trans (by simp [go_sem])
  have HR := Lib.hid hR
  have HB := Lib.hid hb1
  have HZ := Lib.hid hsz
  clear hR hb1 hsz hb
  go_wp2
  refine leaves_cons (f := 211) (args := #[.pointer (some ⟨w.heap.size, 0, none⟩)]) (by simp) (by simp [go_sem]) ?_
  refine (unpack_idle _ 0 _ (by simp [go_sem, hc1]) (by simp [go_sem, hz1])).mono ?_
  rintro e u' w' ⟨rfl, rfl, hc, hg⟩
  simp only [Leaves, settle]
  refine ⟨_, ?_, w.heap.size + 1, rfl, by omega, ?_⟩
  · simp [results, Tryz.results195, go_sem, hc]
  · exact face_end HR.out HB.out HZ.out hg

/-- a face that gives up: nothing of what was there has turned -/
theorem gave_up {w w' : World} {o : Obj} (hg : (w.alloc o).grownBy w' (some w.heap.size)) : Below w.heap.size w w' :=
  ((Below.refl _ _).alloc (Nat.le_refl _) _).trans (grown_below hg (Nat.le_refl _) (by simp))

set_option maxHeartbeats 400000 in
theorem Unpack_width (ws : List Int) (len : Nat) (B : Nat) (A A' : Option Addr) (c c' : Nat) (w : World) (hB : B ≤ w.heap.size) (hf : ¬ ∀ n ∈ ws, 1 ≤ n ∧ n ≤ 8) (hl' : ws.length ≤ 17592186044416)
    (hA' : Sl w B A' (ws.map i64v)) :
    Calls Tryz.prog 195 #[.slice A len c, .slice A' ws.length c'] w fun e w' => e = .returned (.tuple #[.slice none 0 0, .int .i64 22]) ∧ Below w.heap.size w w' := by
  have hmf := mf
  have HF := Lib.hid hf
  have HA' := Lib.hid (alloc_sl hA' hB (.cells #[.int .i64 0] 25))
  clear hf hA'
  go_enter_defers Tryz.func195, Tryz.ntmps195
  go_wp2_with (go_at_call 177; refine (total_no ws B A' c' _ HF.out hl' HA'.out).mono ?_; rintro e w1 ⟨rfl, rfl⟩)
  refine leaves_cons (f := 211) (args := #[.pointer (some ⟨w.heap.size, 0, none⟩)]) (by simp) (by simp [go_sem]) ?_
  refine (unpack_caught _ 0 22 _ _ (by simp [go_sem]) (by simp [go_sem])).mono ?_
  rintro e u' w' ⟨rfl, rfl, hc, hg⟩
  simp only [Leaves, settle, List.dropWhile]
  refine ⟨_, ?_, rfl, gave_up hg⟩
  simp [results, Tryz.results195, go_sem, hc]

set_option maxHeartbeats 400000 in
theorem Unpack_len (ns : List Nat) (len : Nat) (B : Nat) (A A' : Option Addr) (c c' : Nat) (w : World) (hB : B ≤ w.heap.size) (hf : fine ns) (ht : tot ns ≠ len) (hl' : ns.length ≤ 17592186044416)
    (hA' : Sl w B A' (ns.map natv)) :
    Calls Tryz.prog 195 #[.slice A len c, .slice A' ns.length c'] w fun e w' => e = .returned (.tuple #[.slice none 0 0, .int .i64 22]) ∧ Below w.heap.size w w' := by
  have hmf := mf
  have HF := Lib.hid hf
  have HA' := Lib.hid (alloc_sl hA' hB (.cells #[.int .i64 0] 25))
  have hb : ((len : Int) == (tot ns : Int)) = false := by rw [beq_eq_false_iff_ne]; omega
  have ht' := (tot_le ns hf).2
  clear hf hA' ht
  go_enter_defers Tryz.func195, Tryz.ntmps195
  go_wp2_with (first | (go_at_call 177; refine (total_ok ns B A' c' _ HF.out hl' HA'.out).mono ?_; rintro e w1 ⟨rfl, rfl⟩) | (go_at_call 176; refine (must_no _ _).mono ?_; rintro e w' ⟨rfl, rfl⟩))
  refine leaves_cons (f := 211) (args := #[.pointer (some ⟨w.heap.size, 0, none⟩)]) (by simp) (by simp [go_sem]) ?_
  refine (unpack_caught _ 0 22 _ _ (by simp [go_sem]) (by simp [go_sem])).mono ?_
  rintro e u' w' ⟨rfl, rfl, hc, hg⟩
  simp only [Leaves, settle, List.dropWhile]
  refine ⟨_, ?_, rfl, gave_up hg⟩
  simp [results, Tryz.results195, go_sem, hc]

set_option maxHeartbeats 400000 in
theorem Pack_count (len len' : Nat) (size : Int) (A A' : Option Addr) (c c' : Nat) (w : World) (h : len ≠ len') :
    Calls Tryz.prog 129 #[.slice A len c, .slice A' len' c', .int .i64 size] w fun e w' => e = .returned (.tuple #[.slice none 0 0, .int .i64 22]) ∧ Below w.heap.size w w' := by
  have hmf := mf
  have hb : ((len : Int) == (len' : Int)) = false := by rw [beq_eq_false_iff_ne]; omega
  have hb2 : (len == len') = false := by rw [beq_eq_false_iff_ne]; omega
  clear h
  go_enter_defers Tryz.func129, Tryz.ntmps129
  go_wp2_with (go_at_call 176; refine (must_no _ _).mono ?_; rintro e w' ⟨rfl, rfl⟩)
  refine leaves_cons (f := 174) (args := #[.pointer (some ⟨w.heap.size, 0, none⟩)]) (by simp) (by simp [go_sem]) ?_
  refine (pack_caught _ 0 22 _ _ (by simp [go_sem]) (by simp [go_sem])).mono ?_
  rintro e u' w' ⟨rfl, rfl, hc, hg⟩
  simp only [Leaves, settle, List.dropWhile]
  refine ⟨_, ?_, rfl, gave_up hg⟩
  simp [results, Tryz.results129, go_sem, hc]

set_option maxHeartbeats 400000 in
theorem Pack_width (ws : List Int) (len : Nat) (size : Int) (B : Nat) (A A' : Option Addr) (c c' : Nat) (w : World) (hB : B ≤ w.heap.size) (h : len = ws.length) (hf : ¬ ∀ n ∈ ws, 1 ≤ n ∧ n ≤ 8) (hl' : ws.length ≤ 17592186044416)
    (hA' : Sl w B A' (ws.map i64v)) :
    Calls Tryz.prog 129 #[.slice A len c, .slice A' ws.length c', .int .i64 size] w fun e w' => e = .returned (.tuple #[.slice none 0 0, .int .i64 22]) ∧ Below w.heap.size w w' := by
  have hmf := mf
  have HF := Lib.hid hf
  have HA' := Lib.hid (alloc_sl hA' hB (.cells #[.int .i64 0] 25))
  subst h
  have hb : ((ws.length : Int) == (ws.length : Int)) = true := by rw [beq_iff_eq]
  clear hf hA'
  go_enter_defers Tryz.func129, Tryz.ntmps129
  go_wp2_with (first | (go_at_call 176; refine (must_ok _ _).mono ?_; rintro e w' ⟨rfl, rfl⟩) | (go_at_call 177; refine (total_no ws B A' c' _ HF.out hl' HA'.out).mono ?_; rintro e w1 ⟨rfl, rfl⟩))
  refine leaves_cons (f := 174) (args := #[.pointer (some ⟨w.heap.size, 0, none⟩)]) (by simp) (by simp [go_sem]) ?_
  refine (pack_caught _ 0 22 _ _ (by simp [go_sem]) (by simp [go_sem])).mono ?_
  rintro e u' w' ⟨rfl, rfl, hc, hg⟩
  simp only [Leaves, settle, List.dropWhile]
  refine ⟨_, ?_, rfl, gave_up hg⟩
  simp [results, Tryz.results129, go_sem, hc]

/-- what stands in the test of the size, both ways -/
theorem size_no (t : Nat) (size : Int) (h : ¬ ((t : Int) ≤ size ∧ size ≤ 4096)) : (decide ((t : Int) ≤ size) = true ∧ decide (size ≤ 4096) = false) ∨ decide ((t : Int) ≤ size) = false := by
  by_cases h1 : (t : Int) ≤ size
  · exact .inl ⟨by simpa using h1, by simp; omega⟩
  · exact .inr (by simpa using h1)

set_option maxHeartbeats 400000 in
theorem Pack_size (ns : List Nat) (len : Nat) (size : Int) (B : Nat) (A A' : Option Addr) (c c' : Nat) (w : World) (hB : B ≤ w.heap.size) (h : len = ns.length) (hf : fine ns) (hs : ¬ ((tot ns : Int) ≤ size ∧ size ≤ 4096)) (hl' : ns.length ≤ 17592186044416)
    (hA' : Sl w B A' (ns.map natv)) :
    Calls Tryz.prog 129 #[.slice A len c, .slice A' ns.length c', .int .i64 size] w fun e w' => e = .returned (.tuple #[.slice none 0 0, .int .i64 22]) ∧ Below w.heap.size w w' := by
  have hmf := mf
  have HF := Lib.hid hf
  have HA' := Lib.hid (alloc_sl hA' hB (.cells #[.int .i64 0] 25))
  subst h
  have hb : ((ns.length : Int) == (ns.length : Int)) = true := by rw [beq_iff_eq]
  have ht' := (tot_le ns hf).2
  have hs' := size_no _ _ hs
  clear hf hA' hs
  rcases hs' with ⟨d1, d2⟩ | d1
  · go_enter_defers Tryz.func129, Tryz.ntmps129
    go_wp2_with fail
    refine (must_ok _ _).mono ?_
    rintro e w' ⟨rfl, rfl⟩
    go_wp2_with fail
    refine (total_ok ns B A' c' _ HF.out hl' HA'.out).mono ?_
    rintro e w1 ⟨rfl, rfl⟩
    go_wp2_with (go_at_call 176; refine (must_no _ _).mono ?_; rintro e w' ⟨rfl, rfl⟩)
    refine leaves_cons (f := 174) (args := #[.pointer (some ⟨w.heap.size, 0, none⟩)]) (by simp) (by simp [go_sem]) ?_
    refine (pack_caught _ 0 22 _ _ (by simp [go_sem]) (by simp [go_sem])).mono ?_
    rintro e u' w' ⟨rfl, rfl, hc, hg⟩
    simp only [Leaves, settle, List.dropWhile]
    refine ⟨_, ?_, rfl, gave_up hg⟩
    simp [results, Tryz.results129, go_sem, hc]
  · go_enter_defers Tryz.func129, Tryz.ntmps129
    go_wp2_with fail
    refine (must_ok _ _).mono ?_
    rintro e w' ⟨rfl, rfl⟩
    go_wp2_with fail
    refine (total_ok ns B A' c' _ HF.out hl' HA'.out).mono ?_
    rintro e w1 ⟨rfl, rfl⟩
    go_wp2_with (go_at_call 176; refine (must_no _ _).mono ?_; rintro e w' ⟨rfl, rfl⟩)
    refine leaves_cons (f := 174) (args := #[.pointer (some ⟨w.heap.size, 0, none⟩)]) (by simp) (by simp [go_sem]) ?_
    refine (pack_caught _ 0 22 _ _ (by simp [go_sem]) (by simp [go_sem])).mono ?_
    rintro e u' w' ⟨rfl, rfl, hc, hg⟩
    simp only [Leaves, settle, List.dropWhile]
    refine ⟨_, ?_, rfl, gave_up hg⟩
    simp [results, Tryz.results129, go_sem, hc]

set_option maxHeartbeats 400000 in
theorem Pack_big (ns : List Nat) (xs : List UInt64) (size B : Nat) (A A' : Option Addr) (c c' : Nat) (w : World) (hB : B ≤ w.heap.size) (h : ns.length = xs.length) (hf : fine ns) (hx : ¬ fit ns xs) (ht : tot ns ≤ size) (hs : size ≤ 4096)
    (hA : Sl w B A (xs.map u64v)) (hA' : Sl w B A' (ns.map natv)) :
    Calls Tryz.prog 129 #[.slice A xs.length c, .slice A' ns.length c', .int .i64 size] w fun e w' => e = .returned (.tuple #[.slice none 0 0, .int .i64 34]) ∧ Below w.heap.size w w' := by
  have hmf := mf
  have HF := Lib.hid hf
  have HX := Lib.hid hx
  have HH := Lib.hid h
  have HA := Lib.hid (alloc_sl hA hB (.cells #[.int .i64 0] 25))
  have HA' := Lib.hid (alloc_sl hA' hB (.cells #[.int .i64 0] 25))
  have hb : ((xs.length : Int) == (ns.length : Int)) = true := by rw [beq_iff_eq]; omega
  have hb2 : (xs.length == ns.length) = true := by rw [beq_iff_eq]; omega
  have hn4 := (tot_le ns hf).1
  have hxl : xs.length ≤ 4096 := by omega
  have d1 : decide ((tot ns : Int) ≤ (size : Int)) = true := by simpa using ht
  have d2 : decide ((size : Int) ≤ 4096) = true := by simp; omega
  have d3 : decide (tot ns ≤ size) = true := by simpa using ht
  clear hf hx hA hA' h
  go_enter_defers Tryz.func129, Tryz.ntmps129
  go_wp2_with fail
  refine (must_ok _ _).mono ?_
  rintro e w' ⟨rfl, rfl⟩
  go_wp2_with fail
  refine (total_ok ns B A' c' _ HF.out (by omega) HA'.out).mono ?_
  rintro e w1 ⟨rfl, rfl⟩
  go_wp2_with fail
  refine (must_ok _ _).mono ?_
  rintro e w' ⟨rfl, rfl⟩
  go_wp2_with fail
  refine (pack_no ns xs size B A A' c c' _ (by simp; omega) HH.out HF.out HX.out ht hs HA.out HA'.out).mono ?_
  rintro e w1 ⟨rfl, hb1⟩
  have hc1 : w1.cell? ⟨w.heap.size, 0, none⟩ = some (.int .i64 0) := (hb1.cell (by simp)).trans (by simp [go_sem])
  have hz1 : w1.frozen? ⟨w.heap.size, 0, none⟩ = false := (hb1.frozen (by simp)).trans (by simp [go_sem])
  have HB := Lib.hid hb1
  clear hb1
  refine leaves_cons (f := 174) (args := #[.pointer (some ⟨w.heap.size, 0, none⟩)]) (by simp) (by simp [go_sem]) ?_
  refine (pack_caught _ 0 34 _ _ (by simp [go_sem, hc1]) (by simp [go_sem, hz1])).mono ?_
  rintro e u' w' ⟨rfl, rfl, hc, hg⟩
  simp only [Leaves, settle, List.dropWhile]
  refine ⟨_, ?_, rfl, ?_⟩
  · simp [results, Tryz.results129, go_sem, hc]
  · have h1 := HB.out.size
    have h2 := HB.out
    simp at h1 h2
    exact ((Below.refl _ _).alloc (Nat.le_refl _) _).trans ((h2.mono (by omega)).trans (grown_below hg (Nat.le_refl _) (by simp; omega)))

set_option maxHeartbeats 400000 in
theorem Pack_ok (ns : List Nat) (xs : List UInt64) (size B : Nat) (A A' : Option Addr) (c c' : Nat) (w : World) (hB : B ≤ w.heap.size) (h : ns.length = xs.length) (hf : fine ns) (hx : fit ns xs) (ht : tot ns ≤ size) (hs : size ≤ 4096)
    (hA : Sl w B A (xs.map u64v)) (hA' : Sl w B A' (ns.map natv)) :
    Calls Tryz.prog 129 #[.slice A xs.length c, .slice A' ns.length c', .int .i64 size] w fun e w' =>
      ∃ g, e = .returned (.tuple #[.slice (some ⟨g, 0, none⟩) size size, .int .i64 0]) ∧ w.heap.size ≤ g ∧ Row w' g (WPack.part size ns xs ns.length) [] ∧ Below w.heap.size w w' := by
  have hmf := mf
  have HF := Lib.hid hf
  have HX := Lib.hid hx
  have HH := Lib.hid h
  have HA := Lib.hid (alloc_sl hA hB (.cells #[.int .i64 0] 25))
  have HA' := Lib.hid (alloc_sl hA' hB (.cells #[.int .i64 0] 25))
  have hb : ((xs.length : Int) == (ns.length : Int)) = true := by rw [beq_iff_eq]; omega
  have hb2 : (xs.length == ns.length) = true := by rw [beq_iff_eq]; omega
  have hn4 := (tot_le ns hf).1
  have hxl : xs.length ≤ 4096 := by omega
  have d1 : decide ((tot ns : Int) ≤ (size : Int)) = true := by simpa using ht
  have d2 : decide ((size : Int) ≤ 4096) = true := by simp; omega
  have d3 : decide (tot ns ≤ size) = true := by simpa using ht
  clear hf hx hA hA' h
  go_enter_defers Tryz.func129, Tryz.ntmps129
  go_wp2_with fail
  refine (must_ok _ _).mono ?_
  rintro e w' ⟨rfl, rfl⟩
  go_wp2_with fail
  refine (total_ok ns B A' c' _ HF.out (by omega) HA'.out).mono ?_
  rintro e w1 ⟨rfl, rfl⟩
  go_wp2_with fail
  refine (must_ok _ _).mono ?_
  rintro e w' ⟨rfl, rfl⟩
  go_wp2_with fail
  refine (pack_ok ns xs size B A A' c c' _ (by simp; omega) HH.out HF.out HX.out ht hs HA.out HA'.out).mono ?_
  rintro e w1 ⟨rfl, hR, hb1, hsz⟩
  have hc1 : w1.cell? ⟨w.heap.size, 0, none⟩ = some (.int .i64 0) := (hb1.cell (by simp)).trans (by simp [go_sem])
  have hz1 : w1.frozen? ⟨w.heap.size, 0, none⟩ = false := (hb1.frozen (by simp)).trans (by simp [go_sem])
  have HR := Lib.hid hR
  have HB := Lib.hid hb1
  have HZ := Lib.hid hsz
  clear hR hb1 hsz hb hb2 d1 d2 d3
  go_wp2
  refine leaves_cons (f := 174) (args := #[.pointer (some ⟨w.heap.size, 0, none⟩)]) (by simp) (by simp [go_sem]) ?_
  refine (pack_idle _ 0 _ (by simp [go_sem, hc1]) (by simp [go_sem, hz1])).mono ?_
  rintro e u' w' ⟨rfl, rfl, hc, hg⟩
  simp only [Leaves, settle]
  refine ⟨_, ?_, w.heap.size + 1, rfl, by omega, ?_⟩
  · simp [results, Tryz.results129, go_sem, hc]
  · exact face_end (T := 5) (xs := (WPack.part size ns xs ns.length).map u8v ++ []) HR.out HB.out HZ.out hg
end Go.Proofs.YtmlgchmladkfpaaGreatDoor.WFace2
/- The faces Pack and Unpack, each by one contract for whatever it is called with. -/
namespace Go.Proofs.YtmlgchmladkfpaaGreatDoor.WWide
open Go.RowKit WMem WPlain WGive WGet WPut WAppend WHelp WList WPack WUnpack WFace WFace2

/-- each width may be -/
def fineI (ws : List Int) : Prop := ∀ n ∈ ws, 1 ≤ n ∧ n ≤ 8
def nats (ws : List Int) : List Nat := ws.map Int.toNat
theorem nats_len (ws : List Int) : (nats ws).length = ws.length := by simp [nats]
theorem nats_vals (ws : List Int) (h : fineI ws) : ws.map i64v = (nats ws).map natv := by
  rw [nats, List.map_map]
  apply List.map_congr_left
  intro n hn
  have := h n hn
  simp only [Function.comp, i64v, natv]
  congr 1
  omega
theorem nats_fine (ws : List Int) (h : fineI ws) : fine (nats ws) := by
  intro n hn
  obtain ⟨m, hm, rfl⟩ := List.mem_map.1 hn
  have := h m hm
  omega

section
variable (b : List UInt8) (ws : List Int) (B : Nat) (A A' : Option Addr) (c c' : Nat) (w : World)

theorem UnpackW_ok (hB : B ≤ w.heap.size) (hf : fineI ws) (ht : tot (nats ws) = b.length) (hl : b.length ≤ 140737488355328) (hl' : ws.length ≤ 17592186044416) (hA : Sl w B A (b.map u8v)) (hA' : Sl w B A' (ws.map i64v)) :
    Calls Tryz.prog 195 #[.slice A b.length c, .slice A' ws.length c'] w fun e w' =>
      ∃ g, e = .returned (.tuple #[.slice (some ⟨g, 0, none⟩) ws.length ws.length, .int .i64 0]) ∧ w.heap.size ≤ g ∧ RowV w' g 183 ((unp (nats ws) b).map u64v) ∧ Below w.heap.size w w' := by
  have h := Unpack_ok (nats ws) b B A A' c c' w hB (nats_fine ws hf) ht hl (by rw [nats_len]; exact hl') hA (by rw [← nats_vals ws hf]; exact hA')
  rw [nats_len] at h
  exact h
theorem UnpackW_no (hB : B ≤ w.heap.size) (h : ¬ (fineI ws ∧ tot (nats ws) = b.length)) (hl' : ws.length ≤ 17592186044416) (hA' : Sl w B A' (ws.map i64v)) :
    Calls Tryz.prog 195 #[.slice A b.length c, .slice A' ws.length c'] w fun e w' => e = .returned (.tuple #[.slice none 0 0, .int .i64 22]) ∧ Below w.heap.size w w' := by
  by_cases hf : fineI ws
  · have h2 := Unpack_len (nats ws) b.length B A A' c c' w hB (nats_fine ws hf) (fun e => h ⟨hf, e⟩) (by rw [nats_len]; exact hl') (by rw [← nats_vals ws hf]; exact hA')
    rw [nats_len] at h2
    exact h2
  · exact Unpack_width ws b.length B A A' c c' w hB hf hl' hA'

variable (xs : List UInt64)
/-- what Pack packs -/
def packs (xs : List UInt64) (ws : List Int) (size : Int) : Prop := xs.length = ws.length ∧ fineI ws ∧ (tot (nats ws) : Int) ≤ size ∧ size ≤ 4096
/-- its bytes -/
def bytesOf_ (xs : List UInt64) (ws : List Int) (size : Int) : List UInt8 := WPack.part size.toNat (nats ws) xs (nats ws).length
theorem bytesOf_len (size : Int) (h : packs xs ws size) : (bytesOf_ xs ws size).length = size.toNat := by
  obtain ⟨h1, h2, h3, h4⟩ := h
  exact part_len _ _ _ _ (by rw [nats_len, h1]) (by omega)
theorem PackW_ok (size : Int) (hB : B ≤ w.heap.size) (h : packs xs ws size) (hx : fit (nats ws) xs) (hA : Sl w B A (xs.map u64v)) (hA' : Sl w B A' (ws.map i64v)) :
    Calls Tryz.prog 129 #[.slice A xs.length c, .slice A' ws.length c', .int .i64 size] w fun e w' =>
      ∃ g, e = .returned (.tuple #[.slice (some ⟨g, 0, none⟩) size.toNat size.toNat, .int .i64 0]) ∧ w.heap.size ≤ g ∧ Row w' g (bytesOf_ xs ws size) [] ∧ Below w.heap.size w w' := by
  obtain ⟨h1, h2, h3, h4⟩ := h
  obtain ⟨size, rfl⟩ := Int.eq_ofNat_of_zero_le (show 0 ≤ size by omega)
  have h5 := Pack_ok (nats ws) xs size B A A' c c' w hB (by rw [nats_len, h1]) (nats_fine ws h2) hx (by omega) (by omega) hA (by rw [← nats_vals ws h2]; exact hA')
  rw [nats_len] at h5
  simp only [bytesOf_, Int.toNat_natCast, nats_len]
  exact h5
theorem PackW_big (size : Int) (hB : B ≤ w.heap.size) (h : packs xs ws size) (hx : ¬ fit (nats ws) xs) (hA : Sl w B A (xs.map u64v)) (hA' : Sl w B A' (ws.map i64v)) :
    Calls Tryz.prog 129 #[.slice A xs.length c, .slice A' ws.length c', .int .i64 size] w fun e w' => e = .returned (.tuple #[.slice none 0 0, .int .i64 34]) ∧ Below w.heap.size w w' := by
  obtain ⟨h1, h2, h3, h4⟩ := h
  obtain ⟨size, rfl⟩ := Int.eq_ofNat_of_zero_le (show 0 ≤ size by omega)
  have h5 := Pack_big (nats ws) xs size B A A' c c' w hB (by rw [nats_len, h1]) (nats_fine ws h2) hx (by omega) (by omega) hA (by rw [← nats_vals ws h2]; exact hA')
  rw [nats_len] at h5
  exact h5
theorem PackW_no (size : Int) (hB : B ≤ w.heap.size) (h : ¬ packs xs ws size) (hl' : ws.length ≤ 17592186044416) (hA' : Sl w B A' (ws.map i64v)) :
    Calls Tryz.prog 129 #[.slice A xs.length c, .slice A' ws.length c', .int .i64 size] w fun e w' => e = .returned (.tuple #[.slice none 0 0, .int .i64 22]) ∧ Below w.heap.size w w' := by
  by_cases h1 : xs.length = ws.length
  · by_cases h2 : fineI ws
    · have h5 := Pack_size (nats ws) xs.length size B A A' c c' w hB (by rw [nats_len, h1]) (nats_fine ws h2) (fun h3 => h ⟨h1, h2, h3⟩) (by rw [nats_len]; exact hl') (by rw [← nats_vals ws h2]; exact hA')
      rw [nats_len] at h5
      exact h5
    · exact Pack_width ws xs.length size B A A' c c' w hB h1 h2 hl' hA'
  · exact Pack_count xs.length ws.length size A A' c c' w h1
end
theorem UnpackW_at (len : Nat) (b : List UInt8) (hlen : b.length = len) (ws : List Int) (B : Nat) (A A' : Option Addr) (c c' : Nat) (w : World) (hB : B ≤ w.heap.size) (hf : fineI ws) (ht : tot (nats ws) = b.length) (hl : len ≤ 140737488355328) (hl' : ws.length ≤ 17592186044416) (hA : Sl w B A (b.map u8v)) (hA' : Sl w B A' (ws.map i64v)) :
    Calls Tryz.prog 195 #[.slice A len c, .slice A' ws.length c'] w fun e w' =>
      ∃ g, e = .returned (.tuple #[.slice (some ⟨g, 0, none⟩) ws.length ws.length, .int .i64 0]) ∧ w.heap.size ≤ g ∧ RowV w' g 183 ((unp (nats ws) b).map u64v) ∧ Below w.heap.size w w' := by
  subst hlen
  exact UnpackW_ok b ws B A A' c c' w hB hf ht hl hl' hA hA'
theorem PackW_at (len : Nat) (xs : List UInt64) (hlen : xs.length = len) (ws : List Int) (B : Nat) (A A' : Option Addr) (c c' : Nat) (w : World) (size : Nat) (hB : B ≤ w.heap.size) (h : packs xs ws (size : Int)) (hx : fit (nats ws) xs) (hA : Sl w B A (xs.map u64v)) (hA' : Sl w B A' (ws.map i64v)) :
    Calls Tryz.prog 129 #[.slice A len c, .slice A' ws.length c', .int .i64 (size : Int)] w fun e w' =>
      ∃ g, e = .returned (.tuple #[.slice (some ⟨g, 0, none⟩) size size, .int .i64 0]) ∧ w.heap.size ≤ g ∧ Row w' g (bytesOf_ xs ws (size : Int)) [] ∧ Below w.heap.size w w' := by
  subst hlen
  exact PackW_ok ws B A A' c c' w xs (size : Int) hB h hx hA hA'
end Go.Proofs.YtmlgchmladkfpaaGreatDoor.WWide
/- Seals: the faces Seal and Sealed. -/
namespace Go.Proofs.YtmlgchmladkfpaaGreatDoor.WSeal
open Go.RowKit WMem WPlain WGive WGet WPut WAppend WHelp WFace WFace2 WCrc WPack

theorem Tab.keep {w w' : World} (h : Tab w) (hk : ∀ p : Addr, p.block = 0 → w'.cell? p = w.cell? p) : Tab w' := fun r hr => (hk _ rfl).trans (h r hr)
theorem Tab.lt {w : World} (h : Tab w) : 0 < w.heap.size := World.block_lt_of_cell? w _ (h 0 (by decide))
theorem Tab.alloc {w : World} (h : Tab w) (o : Obj) : Tab (w.alloc o) := Tab.keep h fun p hp => World.cell?_alloc_lt w o p (by rw [hp]; exact Tab.lt h)
theorem Tab.drewN {w : World} (h : Tab w) (n : Nat) : Tab (w.drewN n) := h
theorem Tab.below {w w' : World} {B : Nat} (h : Tab w) (hb : Below B w w') (hB : 0 < B) : Tab w' := Tab.keep h fun p hp => hb.cell (by rw [hp]; exact hB)
theorem Tab.grown {w w' : World} {row : Option Nat} (h : Tab w) (hg : w.grownBy w' row) (hr : some 0 ≠ row) : Tab w' :=
  Tab.keep h fun p hp => World.cell?_of_block (hg.block p.block (by rw [hp]; exact Tab.lt h) (by rw [hp]; exact hr))

set_option maxHeartbeats 400000 in
theorem Seal_ok (l : List UInt8) (rest : List Value) (g c seed : Nat) (w : World) (hs : seed < 4294967296) (h4 : 4 ≤ l.length) (hl : l.length ≤ 140737488355328) (hc : l.length ≤ c) (hR : Row w g l rest) (hT : Tab w) :
    Calls Tryz.prog 132 #[.slice (some ⟨g, 0, none⟩) l.length c, .int .u32 seed] w fun e w' =>
      e = .returned (.int .i64 0) ∧ Row w' g (patch l (l.length - 4) (dig 4 (crc seed (l.take (l.length - 4))))) rest ∧ w.grownBy w' (some g) := by
  have hmf := mf
  have HT := Lib.hid (Tab.alloc hT (.cells #[.int .i64 0] 25))
  have HR0 := Lib.hid (hR.alloc (.cells #[.int .i64 0] 25))
  have hlt := hR.lt
  clear hT hR
  obtain ⟨p, hp⟩ : ∃ p, l.length = p + 4 := ⟨l.length - 4, by omega⟩
  have hpl : (l.take p).length = p := by simp; omega
  have hcl := crc_lt seed (l.take p)
  have HC := Lib.hid (wire_crc seed (l.take p) _ (some ⟨g, 0, none⟩) c _ hs (by omega) (by rw [List.map_take]; exact (HR0.out.sl (B := w.heap.size) hlt).take p) HT.out)
  rw [hpl] at HC
  have hpe : l.length - 4 = p := by omega
  rw [hpe]
  have hd4 : decide ((4 : Int) ≤ (p : Int) + 4) = true := by simp; omega
  have HP := Lib.hid hp
  clear hpe hpl
  rw [hp] at h4 hl hc ⊢
  clear hp
  go_enter_defers Tryz.func132, Tryz.ntmps132
  go_wp2_with fail
  refine (must_ok _ _).mono ?_
  rintro e w' ⟨rfl, rfl⟩
  go_wp2_with fail
  refine HC.out.mono ?_
  rintro e w' ⟨rfl, rfl⟩
  go_wp2_with fail
  refine (put_at (p + 4) l HP.out rest g c p 4 (crc seed (l.take p)) _ (by omega) (by omega) (by omega) hl (by omega) HR0.out).mono ?_
  rintro e w1 ⟨rfl, hR, hG⟩
  have hc1 : w1.cell? ⟨w.heap.size, 0, none⟩ = some (.int .i64 0) := hG.cell (by simp [go_sem]) (by simp; omega)
  have hz1 : w1.frozen? ⟨w.heap.size, 0, none⟩ = false := (World.frozen?_of_block (w := w.alloc _) (hG.block w.heap.size (by simp) (by simp; omega))).trans (by simp [go_sem])
  have HR := Lib.hid hR
  have HG := Lib.hid hG
  clear hR hG
  go_wp2
  refine leaves_cons (f := 180) (args := #[.pointer (some ⟨w.heap.size, 0, none⟩)]) (by simp) (by simp [go_sem]) ?_
  refine (seal_idle _ 0 _ (by simp [go_sem, hc1]) (by simp [go_sem, hz1])).mono ?_
  rintro e u' w' ⟨rfl, rfl, hc, hg⟩
  have hb := grown_below hg (Nat.le_refl _) (by have := HG.out.size; simp at this ⊢; omega)
  simp only [Leaves, settle]
  refine ⟨_, ?_, rfl, ?_⟩
  · simp [results, Tryz.results132, go_sem, hc]
  · exact face_row HR.out HG.out hlt (((Below.refl _ _).setCell (Nat.le_refl _) _).trans hb)

set_option maxHeartbeats 400000 in
theorem Seal_no (A : Option Addr) (len c seed : Nat) (w : World) (h4 : len < 4) :
    Calls Tryz.prog 132 #[.slice A len c, .int .u32 seed] w fun e w' => e = .returned (.int .i64 22) ∧ Below w.heap.size w w' := by
  have hmf := mf
  have hd4 : decide ((4 : Int) ≤ (len : Int)) = false := by simp; omega
  have hd5 : decide (4 ≤ len) = false := by simp; omega
  go_enter_defers Tryz.func132, Tryz.ntmps132
  go_wp2_with fail
  refine (must_no _ _).mono ?_
  rintro e w' ⟨rfl, rfl⟩
  refine leaves_cons (f := 180) (args := #[.pointer (some ⟨w.heap.size, 0, none⟩)]) (by simp) (by simp [go_sem]) ?_
  refine (seal_caught _ 0 22 _ _ (by simp [go_sem]) (by simp [go_sem])).mono ?_
  rintro e u' w' ⟨rfl, rfl, hc, hg⟩
  simp only [Leaves, settle, List.dropWhile]
  refine ⟨_, ?_, rfl, gave_up hg⟩
  simp [results, Tryz.results132, go_sem, hc]

/-- does the sum stand there? -/
def sealB (l : List UInt8) (seed : Nat) : Bool := decide (4 ≤ l.length) && (num (l.drop (l.length - 4)) == crc seed (l.take (l.length - 4)))

theorem quiet_left {P : Program} {f : FuncId} {args : Array Value} {w : World} {n : Nat} {v : Value}
    (h : Calls P f args (w.drewN n) fun e w' => e = .returned v ∧ w.drewN n = w') : Calls P f args (w.drewN n) fun e w'' => e = .returned v ∧ ∃ m, w'' = w.drewN m :=
  h.mono fun _ _ ⟨he, hm⟩ => ⟨he, n, hm.symm⟩

end Go.Proofs.YtmlgchmladkfpaaGreatDoor.WSeal
/- The faces and the document's answers for places, numbers and seals, each by one contract for whatever it is called with. -/
namespace Go.Proofs.YtmlgchmladkfpaaGreatDoor.WAny
open Go.RowKit WMem WPlain WGive WGet WPut WAppend WHelp WFace WFace2 WCrc WPack WSeal WRef

abbrev okPlace (len : Nat) (p n : Int) : Prop := 1 ≤ n ∧ n ≤ 8 ∧ 0 ≤ p ∧ p ≤ len - n
def getX (l : List UInt8) (p n : Int) : Nat := if okPlace l.length p n then num ((l.drop p.toNat).take n.toNat) else 0
def getE (l : List UInt8) (p n : Int) : Int := if okPlace l.length p n then 0 else 22
def putE (l : List UInt8) (p n : Int) (x : Nat) : Int := if okPlace l.length p n then (if x < 2 ^ (8 * n.toNat) then 0 else 34) else 22
def putL (l : List UInt8) (p n : Int) (x : Nat) : List UInt8 := if okPlace l.length p n then (if x < 2 ^ (8 * n.toNat) then patch l p.toNat (dig n.toNat x) else l) else l
def sealE (l : List UInt8) : Int := if 4 ≤ l.length then 0 else 22
def sealL (l : List UInt8) (seed : Nat) : List UInt8 := if 4 ≤ l.length then patch l (l.length - 4) (dig 4 (crc seed (l.take (l.length - 4)))) else l

theorem putL_len (l : List UInt8) (p n : Int) (x : Nat) : (putL l p n x).length = l.length := by
  unfold putL
  split
  · rename_i h
    split
    · exact patch_length _ _ _ (by rw [dig_length]; omega)
    · rfl
  · rfl
theorem sealL_len (l : List UInt8) (seed : Nat) : (sealL l seed).length = l.length := by
  unfold sealL
  split
  · exact patch_length _ _ _ (by rw [dig_length]; omega)
  · rfl

/-- a slice of the call's own with just these bytes: nil, or a row -/
def Own (w : World) (base : Nat) (v : Value) (l : List UInt8) : Prop :=
  (v = .slice none 0 0 ∧ l = []) ∨ ∃ g c rest, v = .slice (some ⟨g, 0, none⟩) l.length c ∧ base ≤ g ∧ l.length ≤ c ∧ Row w g l rest
theorem Own.of_row {w : World} {base : Nat} {v : Value} {l : List UInt8} (h : w.ownsRow base 5 1 v l.length (l.map u8v)) : Own w base v l := by
  obtain ⟨hl, h | ⟨g, cap, cur, rfl, hb, hg, hnc, hcm, hcs, ht⟩⟩ := h
  · exact .inl ⟨h.1, List.eq_nil_of_length_eq_zero h.2⟩
  · refine .inr ⟨g, cap, cur.toList.drop l.length, rfl, hb, hnc, ?_⟩
    rw [Nat.mul_one] at ht
    unfold Row
    rw [← ht, List.take_append_drop]
    exact hg
theorem Own.sl {w : World} {base : Nat} {v : Value} {l : List UInt8} (h : Own w base v l) : ∃ A c, v = .slice A l.length c ∧ Sl w w.heap.size A (l.map u8v) ∧ l.length ≤ c := by
  rcases h with ⟨rfl, rfl⟩ | ⟨g, c, rest, rfl, _, hc, hR⟩
  · exact ⟨none, 0, rfl, Sl.nil _ _ _, Nat.le_refl _⟩
  · exact ⟨_, c, rfl, hR.sl hR.lt, hc⟩
theorem Own.at_ {w : World} {base : Nat} {A : Option Addr} {n c : Nat} {l : List UInt8} (h : Own w base (.slice A n c) l) : l.length = n ∧ Sl w w.heap.size A (l.map u8v) ∧ n ≤ c := by
  obtain ⟨A', c', e, h1, h2⟩ := h.sl
  injection e with e1 e2 e3
  subst e1
  subst e2
  subst e3
  exact ⟨rfl, h1, h2⟩
theorem Own.keep {w w' : World} {base : Nat} {v : Value} {l : List UInt8} (h : Own w base v l) (hb : Below w.heap.size w w') : Own w' base v l := by
  rcases h with h | ⟨g, c, rest, rfl, h1, hc, hR⟩
  · exact .inl h
  · exact .inr ⟨g, c, rest, rfl, h1, hc, hR.keep hb hR.lt⟩
theorem Own.grown {w w' : World} {base : Nat} {v : Value} {l : List UInt8} {row : Option Nat} (h : Own w base v l) (hb : w.grownBy w' row) (hr : ∀ k, row = some k → k < base) : Own w' base v l := by
  rcases h with h | ⟨g, c, rest, rfl, h1, hc, hR⟩
  · exact .inl h
  · exact .inr ⟨g, c, rest, rfl, h1, hc, hR.grown hb (fun e => by have := hr g e.symm; omega)⟩
theorem Own.block {w : World} {base : Nat} {v : Value} {l : List UInt8} (h : Own w base v l) : ∀ k, v.ownBlock = some k → base ≤ k ∧ k < w.heap.size := by
  intro k hk
  rcases h with ⟨rfl, _⟩ | ⟨g, c, rest, rfl, h1, _, hR⟩
  · simp [Value.ownBlock] at hk
  · simp [Value.ownBlock] at hk
    subst hk
    exact ⟨h1, hR.lt⟩
theorem Own.drewN {w : World} {base : Nat} {v : Value} {l : List UInt8} (h : Own w base v l) (n : Nat) : Own (w.drewN n) base v l := h

section
variable (l : List UInt8) (B : Nat) (A : Option Addr) (c : Nat) (p n : Int) (w : World)

theorem Get_any (hl : l.length ≤ 140737488355328) (hA : Sl w B A (l.map u8v)) (hB : B ≤ w.heap.size) :
    Calls Tryz.prog 208 #[.slice A l.length c, .int .i64 p, .int .i64 n] w fun e w' => e = .returned (.tuple #[.int .u64 (getX l p n : Nat), .int .i64 (getE l p n)]) ∧ Below w.heap.size w w' := by
  unfold getX getE
  by_cases h : okPlace l.length p n
  · rw [if_pos h, if_pos h]
    obtain ⟨h1, h2, h3, h4⟩ := h
    obtain ⟨p, rfl⟩ := Int.eq_ofNat_of_zero_le h3
    obtain ⟨n, rfl⟩ := Int.eq_ofNat_of_zero_le (show 0 ≤ n by omega)
    exact Get_ok l B A c p n w (by omega) (by omega) (by omega) hl hA hB
  · rw [if_neg h, if_neg h]
    exact Get_no A l.length c p n w h hl
theorem Put_any (rest : List Value) (g x : Nat) (hl : l.length ≤ 140737488355328) (hR : Row w g l rest) :
    Calls Tryz.prog 223 #[.slice (some ⟨g, 0, none⟩) l.length c, .int .i64 p, .int .i64 n, .int .u64 x] w fun e w' => e = .returned (.int .i64 (putE l p n x)) ∧ Row w' g (putL l p n x) rest ∧ w.grownBy w' (some g) := by
  unfold putE putL
  by_cases h : okPlace l.length p n
  · rw [if_pos h, if_pos h]
    obtain ⟨h1, h2, h3, h4⟩ := h
    obtain ⟨p, rfl⟩ := Int.eq_ofNat_of_zero_le h3
    obtain ⟨n, rfl⟩ := Int.eq_ofNat_of_zero_le (show 0 ≤ n by omega)
    simp only [Int.toNat_natCast]
    by_cases hx : x < 2 ^ (8 * n)
    · rw [if_pos hx, if_pos hx]
      exact Put_ok l rest g c p n x w (by omega) (by omega) (by omega) hl hx hR
    · rw [if_neg hx, if_neg hx]
      exact (Put_big _ l.length c p n x w (by omega) (by omega) (by omega) hl hx).mono fun e w' ⟨he, hb⟩ => ⟨he, hR.keep hb hR.lt, below_grown hb _⟩
  · rw [if_neg h, if_neg h]
    exact (Put_place _ l.length c x p n w h hl).mono fun e w' ⟨he, hb⟩ => ⟨he, hR.keep hb hR.lt, below_grown hb _⟩
theorem PutOwn_any (base : Nat) (v : Value) (x : Nat) (hl : l.length ≤ 140737488355328) (hO : Own w base v l) :
    Calls Tryz.prog 223 #[v, .int .i64 p, .int .i64 n, .int .u64 x] w fun e w' => e = .returned (.int .i64 (putE l p n x)) ∧ Own w' base v (putL l p n x) ∧ w.grownBy w' v.ownBlock := by
  have hO' := hO
  rcases hO with ⟨rfl, rfl⟩ | ⟨g, c, rest, rfl, hg, hc, hR⟩
  · have h : ¬ okPlace ([] : List UInt8).length p n := by intro h; obtain ⟨_, _, _, h4⟩ := h; simp at h4; omega
    have e1 : putE [] p n x = 22 := by unfold putE; rw [if_neg h]
    have e2 : putL [] p n x = [] := by unfold putL; rw [if_neg h]
    rw [e1, e2]
    exact (Put_place none 0 0 x p n w h (by decide)).mono fun e w' ⟨he, hb⟩ => ⟨he, .inl ⟨rfl, rfl⟩, below_grown hb _⟩
  · have hll := putL_len l p n x
    exact (Put_any l c p n w rest g x hl hR).mono fun e w' ⟨he, h5, h6⟩ => ⟨he, .inr ⟨g, c, rest, by rw [hll], hg, by rw [hll]; exact hc, h5⟩, h6⟩
theorem Get_at (len : Nat) (h : l.length = len) (hl : len ≤ 140737488355328) (hA : Sl w B A (l.map u8v)) (hB : B ≤ w.heap.size) :
    Calls Tryz.prog 208 #[.slice A len c, .int .i64 p, .int .i64 n] w fun e w' => e = .returned (.tuple #[.int .u64 (getX l p n : Nat), .int .i64 (getE l p n)]) ∧ Below w.heap.size w w' := by
  subst h
  exact Get_any l B A c p n w hl hA hB
theorem Seal_any (rest : List Value) (g seed : Nat) (hs : seed < 4294967296) (hl : l.length ≤ 140737488355328) (hc : l.length ≤ c) (hR : Row w g l rest) (hT : Tab w) :
    Calls Tryz.prog 132 #[.slice (some ⟨g, 0, none⟩) l.length c, .int .u32 seed] w fun e w' => e = .returned (.int .i64 (sealE l)) ∧ Row w' g (sealL l seed) rest ∧ w.grownBy w' (some g) := by
  unfold sealE sealL
  by_cases h : 4 ≤ l.length
  · rw [if_pos h, if_pos h]
    exact Seal_ok l rest g c seed w hs h hl hc hR hT
  · rw [if_neg h, if_neg h]
    exact (Seal_no _ l.length c seed w (by omega)).mono fun e w' ⟨he, hb⟩ => ⟨he, hR.keep hb hR.lt, below_grown hb _⟩
end

/-- what stands elsewhere stays -/
theorem apart_getX (l : List UInt8) (p n : Int) (x : Nat) (q m : Int) (h1 : okPlace l.length q m) (h2 : okPlace l.length p n) (h : q + m ≤ p ∨ p + n ≤ q) : getX (putL l p n x) q m = getX l q m := by
  unfold getX
  rw [putL_len, if_pos h1, if_pos h1]
  unfold putL
  rw [if_pos h2]
  split
  · rw [patch_apart _ _ _ (by rw [dig_length]; omega) _ _ (by rw [dig_length]; omega)]
  · rfl
end Go.Proofs.YtmlgchmladkfpaaGreatDoor.WAny
/- Fields as numbers; the program's block of numbers, sealed. -/
namespace Go.Proofs.YtmlgchmladkfpaaGreatDoor.SNums
open Go.RowKit WMem WPlain WGive WGet WPut WAppend WHelp WList WPack WUnpack WFace WFace2 WSeal WAny WWide WCrc

def nums (l : List Nat) : List UInt64 := l.map UInt64.ofNat
theorem nums_len (l : List Nat) : (nums l).length = l.length := by simp [nums]
/-- what lies in the row when k fields are written -/
def filled (l : List Nat) (k : Nat) : List Value := ((nums l).take k).map u64v ++ List.replicate (l.length - k) (Value.int .u64 0)
theorem filled_zero (l : List Nat) : filled l 0 = List.replicate l.length (Value.int .u64 0) := by simp [filled]
theorem filled_all (l : List Nat) : filled l l.length = (nums l).map u64v := by
  rw [filled, List.take_of_length_le (by rw [nums_len]; exact Nat.le_refl _)]; simp
theorem filled_len (l : List Nat) (k : Nat) (h : k ≤ l.length) : (filled l k).length = l.length := by simp [filled, nums_len]; omega
theorem filled_next (l : List Nat) (k : Nat) (h : k < l.length) (hx : l[k] < 18446744073709551616) : (filled l k).set k (Value.int .u64 (l[k] : Nat)) = filled l (k + 1) := by
  have e : u64v ((nums l)[k]'(by rw [nums_len]; exact h)) = Value.int .u64 (l[k] : Nat) := by
    simp only [nums, List.getElem_map, u64v, UInt64.toNat_ofNat']
    rw [Nat.mod_eq_of_lt hx]
  rw [← e]
  unfold filled
  have hl : (((nums l).take k).map u64v).length = k := by simp [nums_len]; omega
  rw [List.set_append_right _ _ (by omega), hl, Nat.sub_self]
  rw [show l.length - k = (l.length - (k + 1)) + 1 by omega, List.replicate_succ, List.set_cons_zero]
  rw [List.take_succ_eq_append_getElem (by rw [nums_len]; exact h), List.map_append, List.append_assoc]
  rfl

/-- a block of numbers, sealed -/
def blockOf (xs : List UInt64) (ws : List Int) (seed : Nat) : List UInt8 := sealL (bytesOf_ xs ws 256) seed
theorem blockOf_len (xs : List UInt64) (ws : List Int) (seed : Nat) (h : packs xs ws 256) : (blockOf xs ws seed).length = 256 := by
  unfold blockOf
  rw [sealL_len, bytesOf_len ws xs 256 h]; rfl
end Go.Proofs.YtmlgchmladkfpaaGreatDoor.SNums
/- What Seal wrote is a seal, and no seal stands when one byte is turned. -/
namespace Go.Proofs.YtmlgchmladkfpaaGreatDoor.WTurn
open WPlain WSeal WAny

theorem sealed_sealL (l : List UInt8) (seed : Nat) (h : 4 ≤ l.length) : sealB (sealL l seed) seed = true := by
  have hl := sealL_len l seed
  have hd : (dig 4 (crc seed (l.take (l.length - 4)))).length = 4 := dig_length _ _
  unfold sealB
  rw [hl]
  unfold sealL
  rw [if_pos h]
  have h1 := patch_part l (l.length - 4) (dig 4 (crc seed (l.take (l.length - 4)))) (by omega)
  rw [hd, List.take_of_length_le (by simp only [List.length_drop]; rw [patch_length _ _ _ (by omega)]; omega)] at h1
  have h2 := patch_apart l (l.length - 4) (dig 4 (crc seed (l.take (l.length - 4)))) (by omega) 0 (l.length - 4) (.inl (by omega))
  simp only [List.drop_zero] at h2
  rw [h1, h2, num_dig]
  have h3 := crc_lt seed (l.take (l.length - 4))
  rw [Nat.mod_eq_of_lt (by omega)]
  simp [h]

theorem num_inj (l r : List UInt8) (hl : l.length = r.length) (h : num l = num r) : l = r := by
  rw [← dig_num l, ← dig_num r, hl, h]

theorem turned (s : List UInt8) (seed i : Nat) (y : UInt8) (hs : sealB s seed = true) (hi : i < s.length) (hy : y ≠ s[i]) : sealB (s.set i y) seed = false := by
  unfold sealB at hs ⊢
  simp only [Bool.and_eq_true, decide_eq_true_eq, beq_iff_eq] at hs
  obtain ⟨h4, he⟩ := hs
  rw [List.length_set]
  simp only [Bool.and_eq_false_iff, decide_eq_false_iff_not, beq_eq_false_iff_ne]
  right
  by_cases hp : i < s.length - 4
  · rw [List.drop_set_of_lt hp, List.take_set]
    intro e
    rw [he] at e
    have hit : i < (s.take (s.length - 4)).length := by simp; omega
    have e3 : (s.take (s.length - 4))[i] = s[i] := by simp
    generalize s.take (s.length - 4) = t at *
    have e1 : t = t.take i ++ s[i] :: t.drop (i + 1) := by
      rw [← e3, ← List.drop_eq_getElem_cons hit, List.take_append_drop]
    have e2 : t.set i y = t.take i ++ y :: t.drop (i + 1) := by
      rw [List.set_eq_take_append_cons_drop, if_pos hit]
    refine crc_turned seed (t.take i) (t.drop (i + 1)) s[i] y (Ne.symm hy) ?_
    rw [← e1, ← e2]
    exact e
  · have e0 : (s.take (s.length - 4)).set i y = s.take (s.length - 4) := List.set_eq_of_length_le (by simp; omega)
    rw [List.take_set, e0, ← he]
    intro e
    have e1 := num_inj _ _ (by simp) e
    have e2 := congrArg (fun l => l[i - (s.length - 4)]?) e1
    simp only [List.getElem?_drop, List.getElem?_set] at e2
    rw [show s.length - 4 + (i - (s.length - 4)) = i by omega] at e2
    simp [hi] at e2
    exact hy e2
end Go.Proofs.YtmlgchmladkfpaaGreatDoor.WTurn
/- Records of the journal in plain mathematics: which may be, their blocks, what a block says. -/
namespace Go.Proofs.YtmlgchmladkfpaaGreatDoor.JPlain
open Go.RowKit WMem WPlain WPack WWide WAny WTurn SNums

structure Ent where
  blk : Int
  esc : Bool
  deriving DecidableEq
structure Rec where
  kind : Int
  seq : Int
  ents : List Ent
  sum : Nat
  start : Int
  deriving DecidableEq

def nul : Rec := ⟨0, 0, [], 0, 0⟩
def hasOk (kind : Int) (n : Nat) : Bool := if kind = 1 then decide (1 ≤ n ∧ n ≤ 48) else if kind = 3 then decide (1 ≤ n ∧ n ≤ 60) else decide ((kind = 2 ∨ kind = 4) ∧ n = 0)
def blkOk (x : Ent) : Bool := decide (0 ≤ x.blk ∧ x.blk ≤ 4095)
def seqOk (s : Int) : Bool := decide (1 ≤ s ∧ s ≤ 2147483647)
def restOk (r : Rec) : Bool :=
  if r.kind = 1 then decide (r.sum = 0 ∧ r.start = 0) else if r.kind = 3 then decide (r.sum = 0 ∧ r.start = 0) && !r.ents.any (·.esc) else if r.kind = 2 then decide (r.start = 0) else
    if r.kind = 4 then decide (r.sum = 0 ∧ 0 ≤ r.start ∧ r.start ≤ 511) else false
def recMay (r : Rec) : Bool := seqOk r.seq && hasOk r.kind r.ents.length && r.ents.all blkOk && restOk r

theorem hasOk_cases {kind : Int} {n : Nat} (h : hasOk kind n = true) : (kind = 1 ∧ 1 ≤ n ∧ n ≤ 48) ∨ (kind = 3 ∧ 1 ≤ n ∧ n ≤ 60) ∨ (kind = 2 ∧ n = 0) ∨ (kind = 4 ∧ n = 0) := by
  unfold hasOk at h
  split at h
  · simp at h; omega
  · split at h
    · simp at h; omega
    · simp at h; omega
theorem recMay_iff {r : Rec} : recMay r = true ↔ seqOk r.seq = true ∧ hasOk r.kind r.ents.length = true ∧ (∀ x ∈ r.ents, blkOk x = true) ∧ restOk r = true := by
  simp only [recMay, Bool.and_eq_true, List.all_eq_true, and_assoc]

/-! the numbers of a record -/
def ent2 (x : Ent) : List Nat := [x.blk.toNat, if x.esc then 1 else 0]
def bodyN (r : Rec) : List Nat := if r.kind = 1 then r.ents.flatMap ent2 else if r.kind = 3 then r.ents.map (·.blk.toNat) else if r.kind = 2 then [r.sum] else [r.start.toNat]
def alt (i : Nat) : Int := if i % 2 = 0 then 4 else 1
def bodyW (kind : Int) (n : Nat) : List Int := if kind = 1 then (List.range (2 * n)).map alt else if kind = 3 then List.replicate n 4 else [4]
def headN (r : Rec) : List Nat := [1213813321, r.kind.toNat, r.seq.toNat, r.ents.length]
def headW : List Int := [4, 1, 4, 2]
def recN (r : Rec) : List Nat := headN r ++ bodyN r
def recW (kind : Int) (n : Nat) : List Int := headW ++ bodyW kind n
def recBytes (r : Rec) : List UInt8 := blockOf (nums (recN r)) (recW r.kind r.ents.length) r.seq.toNat

theorem ent2s_len (l : List Ent) : (l.flatMap ent2).length = 2 * l.length := by
  induction l with
  | nil => rfl
  | cons x l ih => simp only [List.flatMap_cons, List.length_append, List.length_cons, ih]; simp [ent2]; omega
theorem bodyN_len {r : Rec} (h : hasOk r.kind r.ents.length = true) : (bodyN r).length = (bodyW r.kind r.ents.length).length := by
  unfold bodyN bodyW
  rcases hasOk_cases h with ⟨e, _⟩ | ⟨e, _⟩ | ⟨e, _⟩ | ⟨e, _⟩
  · rw [e]
    simp only [if_true]
    rw [ent2s_len]
    simp
  all_goals simp [e]
theorem recN_len {r : Rec} (h : hasOk r.kind r.ents.length = true) : (recN r).length = (recW r.kind r.ents.length).length := by
  simp only [recN, recW, List.length_append, bodyN_len h]; rfl
theorem bodyW_fine (kind : Int) (n : Nat) : fineI (bodyW kind n) := by
  intro x hx
  unfold bodyW at hx
  split at hx
  · obtain ⟨i, _, rfl⟩ := List.mem_map.1 hx
    unfold alt; split <;> omega
  · split at hx
    · have := List.eq_of_mem_replicate hx; omega
    · simp at hx; omega
theorem headW_fine : fineI headW := by
  intro x hx
  simp [headW] at hx
  omega
theorem recW_fine (kind : Int) (n : Nat) : fineI (recW kind n) := by
  intro x hx
  rcases List.mem_append.1 hx with h | h
  · exact headW_fine x h
  · exact bodyW_fine kind n x h
theorem alt_tot : ∀ n, tot (nats ((List.range (2 * n)).map alt)) = 5 * n
  | 0 => rfl
  | n + 1 => by
    have ih := alt_tot n
    rw [show 2 * (n + 1) = 2 * n + 1 + 1 by omega, List.range_succ, List.range_succ]
    simp only [nats, tot, List.map_append, List.sum_append, List.map_cons, List.map_nil, List.sum_cons, List.sum_nil] at ih ⊢
    rw [ih]
    have e1 : alt (2 * n) = 4 := by unfold alt; rw [if_pos (by omega)]
    have e2 : alt (2 * n + 1) = 1 := by unfold alt; rw [if_neg (by omega)]
    rw [e1, e2]
    simp
    omega
theorem nats_append (a b : List Int) : nats (a ++ b) = nats a ++ nats b := by simp [nats]
theorem tot_append (a b : List Nat) : tot (a ++ b) = tot a + tot b := by simp [tot]
def bodyT (kind : Int) (n : Nat) : Nat := if kind = 1 then 5 * n else if kind = 3 then 4 * n else 4
theorem fours_tot (n : Nat) : tot (nats (List.replicate n (4 : Int))) = 4 * n := by
  have e : nats (List.replicate n (4 : Int)) = List.replicate n 4 := by simp [nats]
  rw [e]
  unfold tot
  rw [List.sum_replicate_nat]
  omega
theorem bodyW_tot (kind : Int) (n : Nat) : tot (nats (bodyW kind n)) = bodyT kind n := by
  unfold bodyW bodyT
  split
  · exact alt_tot n
  · split
    · exact fours_tot n
    · rfl
theorem recW_tot (kind : Int) (n : Nat) : tot (nats (recW kind n)) = 11 + bodyT kind n := by
  rw [recW, nats_append, tot_append, bodyW_tot]; rfl
theorem bodyT_le {kind : Int} {n : Nat} (h : hasOk kind n = true) : bodyT kind n ≤ 240 := by
  unfold bodyT
  rcases hasOk_cases h with ⟨e, _⟩ | ⟨e, _⟩ | ⟨e, _⟩ | ⟨e, _⟩ <;> simp [e] <;> omega
theorem rec_packs {r : Rec} (h : hasOk r.kind r.ents.length = true) : packs (nums (recN r)) (recW r.kind r.ents.length) 256 :=
  ⟨by rw [nums_len, recN_len h], recW_fine _ _, by rw [recW_tot]; have := bodyT_le h; omega, by decide⟩
theorem recBytes_len {r : Rec} (h : hasOk r.kind r.ents.length = true) : (recBytes r).length = 256 := blockOf_len _ _ _ (rec_packs h)

/-- at even places blocks, at odd ones whether they are escaped -/
theorem ent2s_get (l : List Ent) : ∀ (i : Nat) (hi : i < l.length), (l.flatMap ent2)[2 * i]? = some l[i].blk.toNat ∧ (l.flatMap ent2)[2 * i + 1]? = some (if l[i].esc then 1 else 0) := by
  induction l with
  | nil => intro i hi; cases hi
  | cons x l ih =>
    intro i hi
    have e : (x :: l).flatMap ent2 = ent2 x ++ l.flatMap ent2 := rfl
    match i with
    | 0 => simp [e, ent2]
    | i + 1 =>
      have h := ih i (by simpa using hi)
      have g : ∀ k, ((x :: l).flatMap ent2)[2 * (i + 1) + k]? = (l.flatMap ent2)[2 * i + k]? := fun k => by
        rw [e, List.getElem?_append_right (by simp [ent2]; omega)]
        congr 1
        simp [ent2]
        omega
      have g0 := g 0
      simp only [Nat.add_zero] at g0
      rw [g0, g 1]
      simpa using h
theorem blkOk_iff {x : Ent} : blkOk x = true ↔ 0 ≤ x.blk ∧ x.blk ≤ 4095 := by simp [blkOk]
theorem seqOk_iff {s : Int} : seqOk s = true ↔ 1 ≤ s ∧ s ≤ 2147483647 := by simp [seqOk]
theorem ofNat_of {x : Nat} (h : x < 18446744073709551616) : (UInt64.ofNat x).toNat = x := by
  simp only [UInt64.toNat_ofNat']
  exact Nat.mod_eq_of_lt h
/-- each number of a record goes into its width -/
theorem rec_in {r : Rec} (h : recMay r = true) (hs : r.sum < 4294967296) : ∀ (k : Nat) (hk : k < (recN r).length) (hw : k < (nats (recW r.kind r.ents.length)).length), (recN r)[k] < 2 ^ (8 * (nats (recW r.kind r.ents.length))[k]) := by
  obtain ⟨h1, h2, h3, h4⟩ := recMay_iff.1 h
  have q1 := seqOk_iff.1 h1
  intro k hk hw
  have two : (2 : Nat) ^ (8 * 4) = 4294967296 := by decide
  have one : (2 : Nat) ^ (8 * 1) = 256 := by decide
  have tw : (2 : Nat) ^ (8 * 2) = 65536 := by decide
  have hkind : r.kind.toNat < 256 ∧ r.ents.length < 65536 := by rcases hasOk_cases h2 with ⟨e, _⟩ | ⟨e, _⟩ | ⟨e, _⟩ | ⟨e, _⟩ <;> omega
  have hsplit : ∀ j, k = 4 + j → (recN r)[k]? = (bodyN r)[j]? ∧ (nats (recW r.kind r.ents.length))[k]? = (nats (bodyW r.kind r.ents.length))[j]? := fun j e => by
    subst e
    constructor
    · rw [recN, List.getElem?_append_right (by simp [headN])]; simp [headN]
    · rw [recW, nats_append, List.getElem?_append_right (by simp [headW, nats])]; simp [headW, nats]
  by_cases h0 : k < 4
  · have e1 : (recN r)[k]? = (headN r)[k]? := by rw [recN, List.getElem?_append_left (by simpa [headN] using h0)]
    have e2 : (nats (recW r.kind r.ents.length))[k]? = (nats headW)[k]? := by rw [recW, nats_append, List.getElem?_append_left (by simpa [headW, nats] using h0)]
    rw [List.getElem?_eq_getElem hk] at e1
    rw [List.getElem?_eq_getElem hw] at e2
    generalize (recN r)[k] = x at *
    generalize (nats (recW r.kind r.ents.length))[k] = y at *
    clear hk hw hsplit
    match k, h0 with
    | 0, _ => simp [headN, headW, nats] at e1 e2; rw [e1, e2]; decide
    | 1, _ => simp [headN, headW, nats] at e1 e2; rw [e1, e2]; omega
    | 2, _ => simp [headN, headW, nats] at e1 e2; rw [e1, e2]; omega
    | 3, _ => simp [headN, headW, nats] at e1 e2; rw [e1, e2]; omega
  · obtain ⟨j, hj⟩ : ∃ j, k = 4 + j := ⟨k - 4, by omega⟩
    obtain ⟨e1, e2⟩ := hsplit j hj
    rw [List.getElem?_eq_getElem hk] at e1
    rw [List.getElem?_eq_getElem hw] at e2
    generalize (recN r)[k] = x at *
    generalize (nats (recW r.kind r.ents.length))[k] = y at *
    unfold bodyN at e1
    unfold bodyW at e2
    unfold restOk at h4
    rcases hasOk_cases h2 with ⟨e, hn⟩ | ⟨e, hn⟩ | ⟨e, hn⟩ | ⟨e, hn⟩
    · simp only [e, if_true] at e1 e2
      have hj2 : j < 2 * r.ents.length := by
        have := (List.getElem?_eq_some_iff.1 e1.symm).1
        rwa [ent2s_len] at this
      simp only [nats, List.map_map, List.getElem?_map, List.getElem?_range hj2, Option.map_some, Function.comp, Option.some.injEq] at e2
      obtain ⟨g0, g1⟩ := ent2s_get r.ents (j / 2) (by omega)
      have hb := blkOk_iff.1 (h3 r.ents[j / 2] (List.getElem_mem (by omega)))
      by_cases hp : j % 2 = 0
      · rw [show 2 * (j / 2) = j by omega] at g0
        rw [g0] at e1
        have e3 : alt j = 4 := by unfold alt; rw [if_pos hp]
        rw [e3] at e2
        injection e1 with e1
        subst e1
        subst e2
        show _ < 2 ^ (8 * 4)
        omega
      · rw [show 2 * (j / 2) + 1 = j by omega] at g1
        rw [g1] at e1
        have e3 : alt j = 1 := by unfold alt; rw [if_neg hp]
        rw [e3] at e2
        injection e1 with e1
        subst e1
        subst e2
        show _ < 2 ^ (8 * 1)
        split <;> omega
    · simp only [e, show ¬ ((3 : Int) = 1) by decide, if_true, if_false] at e1 e2
      have hj2 : j < r.ents.length := by
        have := (List.getElem?_eq_some_iff.1 e1.symm).1
        simpa using this
      simp only [nats, List.map_replicate, List.getElem?_replicate, if_pos hj2, Option.some.injEq] at e2
      have hb := blkOk_iff.1 (h3 r.ents[j] (List.getElem_mem hj2))
      rw [List.getElem?_map, List.getElem?_eq_getElem hj2] at e1
      simp only [Option.map_some, Option.some.injEq] at e1
      subst e1
      subst e2
      show _ < 2 ^ (8 * 4)
      omega
    · simp only [e, show ¬ ((2 : Int) = 1) by decide, show ¬ ((2 : Int) = 3) by decide, if_true, if_false] at e1 e2
      match j with
      | 0 =>
        simp [nats] at e1 e2
        subst e1
        subst e2
        omega
      | j + 1 => simp at e1
    · simp only [e, show ¬ ((4 : Int) = 1) by decide, show ¬ ((4 : Int) = 3) by decide, show ¬ ((4 : Int) = 2) by decide, if_true, if_false] at e1 e2 h4
      have h5 := of_decide_eq_true h4
      match j with
      | 0 =>
        simp [nats] at e1 e2
        subst e1
        subst e2
        omega
      | j + 1 => simp at e1
theorem rec_fit {r : Rec} (h : recMay r = true) (hs : r.sum < 4294967296) : fit (nats (recW r.kind r.ents.length)) (nums (recN r)) := by
  have hl := recN_len (recMay_iff.1 h).2.1
  refine fit_of_get _ _ (by rw [nums_len, nats_len, hl]) fun k hk => ?_
  have hk' : k < (recN r).length := by rw [nats_len] at hk; omega
  have hi := rec_in h hs k hk' hk
  simp only [nums, List.getElem_map]
  have hb : (nats (recW r.kind r.ents.length))[k] ≤ 8 := (fine_get (nats_fine _ (recW_fine _ _)) hk).2
  have : (2 : Nat) ^ (8 * (nats (recW r.kind r.ents.length))[k]) ≤ 2 ^ 64 := Nat.pow_le_pow_right (by decide) (by omega)
  rw [ofNat_of (Nat.lt_of_lt_of_le hi this)]
  exact hi

/-! what a block says -/
def saysEnt (b : List UInt8) (kind : Int) (i : Nat) : Ent := if kind = 1 then ⟨(getX b ((11 + 5 * i : Nat) : Int) 4 : Nat), getX b ((11 + 5 * i + 4 : Nat) : Int) 1 == 1⟩ else ⟨(getX b ((11 + 4 * i : Nat) : Int) 4 : Nat), false⟩
def saysK (b : List UInt8) : Int := (getX b 4 1 : Nat)
def saysL (b : List UInt8) : Nat := getX b 9 2
def says (b : List UInt8) : Rec :=
  ⟨saysK b, (getX b 5 4 : Nat), (List.range (min (saysL b) 61)).map (saysEnt b (saysK b)), if saysK b = 2 then getX b 11 4 else 0, if saysK b = 4 then (getX b 11 4 : Nat) else 0⟩
def isRec (b : List UInt8) : Bool := decide (b.length = 256) && recMay (says b) && (recBytes (says b) == b)
def unpR (b : List UInt8) : Rec := if isRec b = true then says b else nul
def unpE (b : List UInt8) : Int := if isRec b = true then 0 else 117

/-- a block says the numbers of which it was made -/
theorem block_says (xs : List UInt64) (ws : List Int) (seed : Nat) (h : packs xs ws 256) (hx : fit (nats ws) xs) (ht : tot (nats ws) ≤ 252) :
    unp (nats ws) ((blockOf xs ws seed).take (tot (nats ws))) = xs := by
  have hl := bytesOf_len ws xs 256 h
  have hl' : (bytesOf_ xs ws 256).length = 256 := hl
  have hp : (blockOf xs ws seed).take (tot (nats ws)) = (bytesOf_ xs ws 256).take (tot (nats ws)) := by
    unfold blockOf sealL
    rw [if_pos (by omega), hl']
    have := patch_apart (bytesOf_ xs ws 256) (256 - 4) (dig 4 (crc seed ((bytesOf_ xs ws 256).take (256 - 4)))) (by rw [dig_length]; omega) 0 (tot (nats ws)) (.inl (by omega))
    simpa using this
  rw [hp]
  have hn : (nats ws).length = xs.length := by rw [nats_len]; exact h.1.symm
  have hq : (bytesOf_ xs ws 256).take (tot (nats ws)) = packed (nats ws) xs := by
    have t1 : (nats ws).take (nats ws).length = nats ws := List.take_length
    have t2 : xs.take (nats ws).length = xs := by rw [hn, List.take_length]
    unfold bytesOf_ WPack.part
    rw [t1, t2]
    exact List.take_left' (packed_length (nats ws) xs hn)
  rw [hq]
  exact unp_packed (nats ws) xs hn hx
/-- a number of a row of numbers, and the same read by its place -/
theorem unp_place (ns : List Nat) (hf : fine ns) (b : List UInt8) (m k : Nat) (hk : k < ns.length) (hm : tot ns ≤ m) (hb : m ≤ b.length) (p n : Nat) (hp : tot (ns.take k) = p) (hn : ns[k] = n) :
    ((unp ns (b.take m))[k]'(by rw [unp_length]; exact hk)).toNat = getX b (p : Int) (n : Int) := by
  have h1 := fine_get hf hk
  have h2 := tot_take_succ ns k hk
  have h3 := tot_take_le ns (k + 1)
  rw [unp_get ns _ k hk, hp, hn]
  rw [hn] at h1 h2
  have hcut : ((b.take m).drop p).take n = (b.drop p).take n := by
    rw [List.drop_take, List.take_take, Nat.min_eq_left (by omega)]
  rw [hcut, num_u64 _ (Nat.le_trans (List.length_take_le _ _) h1.2)]
  unfold getX
  rw [if_pos ⟨by omega, by omega, by omega, by omega⟩]
  simp
theorem recs_at {r : Rec} (h : recMay r = true) (hs : r.sum < 4294967296) (k : Nat) (x p n : Nat) (hx : (recN r)[k]? = some x) (hn : (nats (recW r.kind r.ents.length))[k]? = some n) (hp : tot ((nats (recW r.kind r.ents.length)).take k) = p) :
    getX (recBytes r) (p : Int) (n : Int) = x := by
  have h2 := (recMay_iff.1 h).2.1
  have hl := recBytes_len h2
  have ht : tot (nats (recW r.kind r.ents.length)) ≤ 252 := by rw [recW_tot]; have := bodyT_le h2; omega
  have hb := block_says (nums (recN r)) (recW r.kind r.ents.length) r.seq.toNat (rec_packs h2) (rec_fit h hs) ht
  obtain ⟨hk, hn'⟩ := List.getElem?_eq_some_iff.1 hn
  obtain ⟨hk', hx'⟩ := List.getElem?_eq_some_iff.1 hx
  have hu := unp_place (nats (recW r.kind r.ents.length)) (nats_fine _ (recW_fine _ _)) (recBytes r) _ k hk (Nat.le_refl _) (by omega) p n hp hn'
  rw [← hu]
  have e : (unp (nats (recW r.kind r.ents.length)) ((recBytes r).take (tot (nats (recW r.kind r.ents.length)))))[k]? = (nums (recN r))[k]? := by
    rw [show (unp (nats (recW r.kind r.ents.length)) ((recBytes r).take (tot (nats (recW r.kind r.ents.length))))) = nums (recN r) from hb]
  rw [List.getElem?_eq_getElem (by rw [unp_length]; exact hk), List.getElem?_eq_getElem (by rw [nums_len]; exact hk')] at e
  injection e with e
  rw [e]
  simp only [nums, List.getElem_map]
  rw [hx']
  have hi := rec_in h hs k hk' hk
  rw [hx', hn'] at hi
  have hb8 : n ≤ 8 := by have := (fine_get (nats_fine _ (recW_fine r.kind r.ents.length)) hk).2; omega
  have : (2 : Nat) ^ (8 * n) ≤ 2 ^ 64 := Nat.pow_le_pow_right (by decide) (by omega)
  exact ofNat_of (Nat.lt_of_lt_of_le hi this)
end Go.Proofs.YtmlgchmladkfpaaGreatDoor.JPlain
/- Words for memory: a slice that reads as entries; a record as a value; a box of the call's own. Nothing of the program but its name. -/
namespace Go.Proofs.YtmlgchmladkfpaaGreatDoor.JMem
open Go.RowKit WMem WPlain JPlain

theorem below_box {w : World} (o : Obj) : Below w.heap.size w (w.alloc o) := (Below.refl _ _).alloc (Nat.le_refl _) _
theorem below_box_to {w w' : World} {o : Obj} (h : Below (w.alloc o).heap.size (w.alloc o) w') : Below w.heap.size w w' := (below_box o).trans (h.mono (by simp))
/-- a box of the call's own, and all behind it -/
structure Boxed (a w : World) (vs : List Value) : Prop where
  below : Below a.heap.size a w
  lt : a.heap.size < w.heap.size
  cell : ∀ i v, vs[i]? = some v → w.cell? ⟨a.heap.size, i, none⟩ = some v
section
variable {a w w' : World} {vs : List Value}
theorem Boxed.start (w : World) (vs : List Value) (T : TypeId) : Boxed w (w.alloc (.cells vs.toArray T)) vs :=
  ⟨below_box _, by simp, fun i v h => by
    rw [row_cell (row_new w (.cells vs.toArray T)), List.getElem?_toArray]; exact h⟩
theorem Boxed.go (h : Boxed a w vs) (hb : Below w.heap.size w w') : Boxed a w' vs :=
  ⟨h.below.trans (hb.mono (by have := h.lt; omega)), by have := h.lt; have := hb.size; omega, fun i v hv => (hb.cell (p := ⟨a.heap.size, i, none⟩) h.lt).trans (h.cell i v hv)⟩
theorem Boxed.drewN (h : Boxed a w vs) (n : Nat) : Boxed a (w.drewN n) vs := h.go (below_drewN (Below.refl _ _) n)
theorem Boxed.alloc (h : Boxed a w vs) (o : Obj) : Boxed a (w.alloc o) vs := h.go (below_box o)
theorem Boxed.two {v0 v1 : Value} (h : Boxed a w [v0, v1]) : w.cell? ⟨a.heap.size, 0, none⟩ = some v0 ∧ w.cell? ⟨a.heap.size, 1, none⟩ = some v1 :=
  ⟨h.cell 0 _ rfl, h.cell 1 _ rfl⟩
theorem Boxed.five {v0 v1 v2 v3 v4 : Value} (h : Boxed a w [v0, v1, v2, v3, v4]) : w.cell? ⟨a.heap.size, 0, none⟩ = some v0 ∧ w.cell? ⟨a.heap.size, 1, none⟩ = some v1 ∧ w.cell? ⟨a.heap.size, 2, none⟩ = some v2 ∧ w.cell? ⟨a.heap.size, 3, none⟩ = some v3 ∧ w.cell? ⟨a.heap.size, 4, none⟩ = some v4 :=
  ⟨h.cell 0 _ rfl, h.cell 1 _ rfl, h.cell 2 _ rfl, h.cell 3 _ rfl, h.cell 4 _ rfl⟩
end

theorem addr_field (a : Addr) (n j : Nat) (hj : j ≠ 0) : (⟨(a.add n).block, (a.add n).off + j, none⟩ : Addr) = a.add (n + j) := by
  rw [← addr_add_add a n j]
  generalize a.add n = x
  unfold Addr.add
  rw [if_neg hj]
/-- the slice that begins at A reads as entries; it lies below block B -/
def Ents (w : World) (B : Nat) (A : Option Addr) (l : List Ent) : Prop :=
  ∀ (i : Nat) (hi : i < l.length), ∃ a, A = some a ∧ a.block < B ∧ w.cell? (a.add (i * 2)) = some (.int .i64 l[i].blk) ∧ w.cell? (a.add (i * 2 + 1)) = some (.bool l[i].esc)
section
variable {w w' : World} {B B' : Nat} {A : Option Addr} {l : List Ent}
theorem Ents.nil (w : World) (B : Nat) (A : Option Addr) : Ents w B A [] := fun i hi => by cases hi
theorem Ents.keep (h : Ents w B A l) (hk : ∀ p : Addr, p.block < B → w'.cell? p = w.cell? p) : Ents w' B A l := fun i hi => by
  obtain ⟨a, hA, hab, h1, h2⟩ := h i hi
  have hk' : ∀ n, w'.cell? (a.add n) = w.cell? (a.add n) := fun n => hk _ (by rw [addr_add_block]; omega)
  exact ⟨a, hA, hab, (hk' _).trans h1, (hk' _).trans h2⟩
theorem Ents.below (h : Ents w B A l) (hb : Below B' w w') (hB : B ≤ B') : Ents w' B A l := h.keep fun _ hp => hb.cell (by omega)
theorem Ents.up (h : Ents w B A l) (hB : B ≤ B') : Ents w B' A l := fun i hi => by
  obtain ⟨a, hA, hab, h1⟩ := h i hi
  exact ⟨a, hA, by omega, h1⟩
theorem Ents.drewN (h : Ents w B A l) (n : Nat) : Ents (w.drewN n) B A l := h
theorem Ents.alloc (h : Ents w B A l) (hB : B ≤ w.heap.size) (o : Obj) : Ents (w.alloc o) B A l := h.below (below_box o) hB
/-- one of them, as the walk spells it -/
theorem Ents.at_ (h : Ents w B A l) {k : Nat} (hk : k < l.length) : ∃ a, A = some a ∧ a.block < B ∧ w.cell? (a.add (k * 2)) = some (.int .i64 l[k].blk) ∧
    w.cell? ⟨(a.add (k * 2)).block, (a.add (k * 2)).off + 1, none⟩ = some (.bool l[k].esc) := by
  obtain ⟨a, hA, hab, h1, h2⟩ := h k hk
  exact ⟨a, hA, hab, h1, (congrArg w.cell? (addr_field a (k * 2) 1 (by decide))).trans h2⟩
end
/-- a record as a value: its entries' slice lies elsewhere -/
def recV (r : Rec) (A : Option Addr) (c : Nat) : Value := .agg #[.int .i64 r.kind, .int .i64 r.seq, .slice A r.ents.length c, .int .u32 (r.sum : Int), .int .i64 r.start]
end Go.Proofs.YtmlgchmladkfpaaGreatDoor.JMem
/- math/bits.Mul of small numbers. -/
namespace Go.Proofs.YtmlgchmladkfpaaGreatDoor.JMul
open Go.RowKit WMem

theorem low32 (n : Nat) (h : n < 4294967296) : bits BinOp.and IntKind.u64 (n : Int) 4294967295 = (n : Int) := by
  have e := u64_and_nat n 4294967295 (by omega) (by decide)
  rw [Nat.and_two_pow_sub_one_eq_mod n 32] at e
  rw [show ((4294967295 : Nat) : Int) = 4294967295 from rfl] at e
  rw [e]
  omega
theorem mul_any (a n m : Nat) (ha : a ≤ 1000) (hn : n ≤ 1000) (hm : a * n = m) (w : World) : Calls Tryz.prog 205 #[.int .u64 (a : Int), .int .u64 (n : Int)] w fun e w' => e = .returned (.tuple #[.int .u64 0, .int .u64 (m : Int)]) ∧ w = w' := by
  have hm2 : m ≤ 1000000 := by
    subst hm
    exact Nat.mul_le_mul ha hn
  have e1 := low32 a (by omega)
  have e2 := low32 n (by omega)
  have e3 : (n : Int) / 4294967296 = 0 := by omega
  have e3' : (a : Int) / 4294967296 = 0 := by omega
  have e4 : (a : Int) * (n : Int) = (m : Int) := by rw [← hm]; simp
  have e5 : IntKind.u64.wrap (m : Int) = (m : Int) := by rw [IntKind.wrap_u64]; omega
  have e6 : (m : Int) / 4294967296 = 0 := by omega
  have e7 : IntKind.u64.wrap 0 = 0 := by decide
  have e8 : bits BinOp.and IntKind.u64 0 4294967295 = 0 := by decide
  clear hm ha hn hm2
  go_enter Tryz.func205, Tryz.ntmps205
  go_wp2
  go_ret2
  exact ⟨rfl, rfl⟩
end Go.Proofs.YtmlgchmladkfpaaGreatDoor.JMul
/- Escape, Unescape, and bytes.Clone. -/
namespace Go.Proofs.YtmlgchmladkfpaaGreatDoor.JEscape
open Go.RowKit WMem WPlain WAppend WHelp WAny WFace2 JPlain JMem

set_option maxHeartbeats 1000000 in
theorem Clone_any (l : List UInt8) (B : Nat) (A : Option Addr) (c : Nat) (w : World) (hB : B ≤ w.heap.size) (hl : l.length ≤ 140737488351232) (hA : Sl w B A (l.map u8v)) :
    Calls Tryz.prog 54 #[.slice A l.length c] w fun e w' => ∃ v, e = .returned v ∧ WAny.Own w' w.heap.size v l ∧ Below w.heap.size w w' := by
  cases A with
  | none =>
    obtain rfl : l = [] := by
      cases l with
      | nil => rfl
      | cons x l => obtain ⟨a, h, _⟩ := hA 0 (u8v x) (by simp); cases h
    clear hA
    have hnil : ∀ w : World, (binOp .eql 43 (.slice none 0 c) (.slice none 0 0)).run Tryz.prog w = .ok (.bool true) w := fun w => Lib.run_eql_slice_nil (P := Tryz.prog) w 43 5 none 0 c 0 0 (by kernel_rfl)
    simp only [List.length_nil]
    go_enter Tryz.func54, Tryz.ntmps54
    go_wp2
    go_ret
    exact ⟨_, rfl, .inl ⟨rfl, rfl⟩, Below.refl _ _⟩
  | some a =>
    have HS : Hid (Sl (w.alloc (.cells #[] 5)) B (some a) (l.map u8v)) := Lib.hid (hA.keep fun q hq => World.cell?_alloc_lt w _ q (by omega))
    have HO : Hid ((w.alloc (.cells #[] 5)).ownsRow w.heap.size 5 1 (.slice (some ⟨w.heap.size, 0, none⟩) 0 0) 0 []) := Lib.hid (World.ownsRow_made w #[] 0 (Nat.le_refl _) (by decide) rfl)
    clear hA
    have hnil : ∀ w : World, (binOp .eql 43 (.slice (some a) l.length c) (.slice none 0 0)).run Tryz.prog w = .ok (.bool false) w := fun w => Lib.run_eql_slice_nil (P := Tryz.prog) w 43 5 (some a) l.length c 0 0 (by kernel_rfl)
    go_enter Tryz.func54, Tryz.ntmps54
    go_wp2_with (at_builtin; go_loud (refine wl_append rfl (.tmp 5) (.tmp 6) 43 rfl w.heap.size 5 1 elem8 (.slice (some ⟨w.heap.size, 0, none⟩) 0 0) 0 [] rfl HO.out B (some a) l.length c (l.map u8v) rfl (by simp) HS.out (one_u8 l) (by omega) (by unfold maxLen; omega) (by simp) ?_); intro v' w2 h1 h2 h3)
    rw [List.nil_append, Nat.zero_add] at h1
    have HO1 := Lib.hid (Own.of_row h1)
    have HB := Lib.hid (((Below.refl w.heap.size w).alloc (Nat.le_refl _) (.cells #[] 5)).grown h2 (by simp) (fun k hk => by simp [Value.ownBlock] at hk; omega))
    clear h1 h2 h3
    go_ret
    exact ⟨_, rfl, HO1.out, HB.out⟩
/-- do bytes begin with the mark? -/
def marked (l : List UInt8) : Bool := decide (4 ≤ l.length) && (getX l 0 4 == 1213813321)
def escL (l : List UInt8) : List UInt8 := if marked l = true then [0, 0, 0, 0] ++ l.drop 4 else l
theorem escL_len (l : List UInt8) : (escL l).length = l.length := by
  unfold escL
  split
  · rename_i h
    simp only [marked, Bool.and_eq_true] at h
    have := of_decide_eq_true h.1
    simp
    omega
  · rfl
theorem getE_0 (l : List UInt8) : getE l 0 4 = if 4 ≤ l.length then 0 else 22 := by
  unfold getE
  by_cases h : 4 ≤ l.length
  · rw [if_pos h, if_pos ⟨by omega, by omega, by omega, by omega⟩]
  · rw [if_neg h, if_neg (fun h' => h (by have := h'.2.2.2; omega))]
set_option maxHeartbeats 2000000 in
theorem Escape_no (l : List UInt8) (hm : marked l = false) (B : Nat) (A : Option Addr) (c : Nat) (w : World) (hB : B ≤ w.heap.size) (hl : l.length ≤ 140737488351232) (hA : Sl w B A (l.map u8v)) :
    Calls Tryz.prog 187 #[.slice A l.length c] w fun e w' => ∃ v, e = .returned (.tuple #[v, .bool false]) ∧ WAny.Own w' w.heap.size v l ∧ Below w.heap.size w w' := by
  have HC := Lib.hid (Clone_any l B A c w hB hl hA)
  have HA := Lib.hid hA
  clear hA
  by_cases h4 : 4 ≤ l.length
  · have hx : ((getX l 0 4 : Nat) : Int) ≠ 1213813321 := by
      simp only [marked, h4, decide_true, Bool.true_and, beq_eq_false_iff_ne] at hm
      omega
    have d1 : (((getX l 0 4 : Nat) : Int) != 1213813321) = true := by rw [bne_iff_ne]; exact hx
    have HE : Hid (getE l 0 4 = 0) := Lib.hid (by rw [getE_0, if_pos h4])
    generalize hX : getX l 0 4 = X at *
    have HXX := Lib.hid hX
    clear hX hx hm
    go_enter Tryz.func187, Tryz.ntmps187
    go_wp2_with fail
    refine HC.out.mono ?_
    rintro e w1 ⟨v, rfl, hO, hb⟩
    have HO := Lib.hid hO
    have HB := Lib.hid hb
    have hs := hb.size
    clear hO hb
    go_wp2_with fail
    refine (Get_any l B A c 0 4 w1 (by omega) (HA.out.below_le HB.out hB) (by omega)).mono ?_
    rintro e w2 ⟨rfl, hb2⟩
    rw [HXX.out, HE.out]
    have HO2 := Lib.hid (HO.out.keep hb2)
    have HB2 := Lib.hid (below_up HB.out hb2 hs)
    clear hb2
    go_wp2
    go_ret2
    exact ⟨v, rfl, HO2.out, HB2.out⟩
  · have HE : Hid (getE l 0 4 = 22) := Lib.hid (by rw [getE_0, if_neg h4])
    clear hm h4
    go_enter Tryz.func187, Tryz.ntmps187
    go_wp2_with fail
    refine HC.out.mono ?_
    rintro e w1 ⟨v, rfl, hO, hb⟩
    have HO := Lib.hid hO
    have HB := Lib.hid hb
    have hs := hb.size
    clear hO hb
    go_wp2_with fail
    refine (Get_any l B A c 0 4 w1 (by omega) (HA.out.below_le HB.out hB) (by omega)).mono ?_
    rintro e w2 ⟨rfl, hb2⟩
    rw [HE.out]
    have HO2 := Lib.hid (HO.out.keep hb2)
    have HB2 := Lib.hid (below_up HB.out hb2 hs)
    clear hb2
    go_wp2
    go_ret2
    exact ⟨v, rfl, HO2.out, HB2.out⟩
theorem zero8 (w : World) : (zeroValue 5).run Tryz.prog w = .ok (.int .u8 0) w := by kernel_rfl
theorem sets4 : ∀ (l : List UInt8), 4 ≤ l.length → (((l.set 0 0).set 1 0).set 2 0).set 3 0 = [0, 0, 0, 0] ++ l.drop 4
  | a :: b :: c :: d :: r, _ => rfl
  | [], h => absurd h (by decide)
  | [_], h => absurd h (by simp)
  | [_, _], h => absurd h (by simp)
  | [_, _, _], h => absurd h (by simp)
theorem Row.zero {w : World} {g : Nat} {l : List UInt8} {rest : List Value} (h : Row w g l rest) {i : Nat} (hi : i < l.length) : Row (w.setCell ⟨g, i, none⟩ (.int .u8 0)) g (l.set i 0) rest := by
  have h1 := h.set hi 0
  exact h1
theorem cells4 (w : World) (g : Nat) (v : Value) : w.setCells g 0 [v, v, v, v] = (((w.setCell ⟨g, 0, none⟩ v).setCell ⟨g, 1, none⟩ v).setCell ⟨g, 2, none⟩ v).setCell ⟨g, 3, none⟩ v := by
  simp only [World.setCells]
theorem four_zeros {w : World} {g : Nat} {l : List UInt8} {rest : List Value} (h : Row w g l rest) (h4 : 4 ≤ l.length) : Row (w.setCells g 0 [.int .u8 0, .int .u8 0, .int .u8 0, .int .u8 0]) g ([0, 0, 0, 0] ++ l.drop 4) rest ∧ w.grownBy (w.setCells g 0 [.int .u8 0, .int .u8 0, .int .u8 0, .int .u8 0]) (some g) := by
  rw [cells4, ← sets4 l h4]
  refine ⟨?_, grown_set (grown_set (grown_set (grown_set (grown_refl _ _) 0 _) 1 _) 2 _) 3 _⟩
  have h1 := Row.zero h (i := 0) (by omega)
  have h2 := Row.zero h1 (i := 1) (by rw [List.length_set]; omega)
  have h3 := Row.zero h2 (i := 2) (by rw [List.length_set, List.length_set]; omega)
  exact Row.zero h3 (i := 3) (by rw [List.length_set, List.length_set, List.length_set]; omega)
theorem clear4 {w : World} {g cap : Nat} {l : List UInt8} {rest : List Value} (h : Row w g l rest) (h4 : 4 ≤ l.length) (ty : TypeId) : (Builtin.clear_ #[43] ty #[.slice (some ⟨g, 0, none⟩) 4 cap]).run Tryz.prog w = .ok (.tuple #[]) (w.setCells g 0 [.int .u8 0, .int .u8 0, .int .u8 0, .int .u8 0]) :=
  Lib.run_clear_slice w 43 5 ty (.int .u8 0) (by kernel_rfl) zero8 rfl rfl g 0 4 cap (by decide) (fun j hj => by rw [Nat.zero_add, h.cell (i := j) (by omega)]; rfl) (fun j hj => by rw [Nat.zero_add]; exact h.free j)
theorem under8 : Tryz.prog.underlying 43 = some (.slice 5) := by kernel_rfl
set_option maxRecDepth 100000 in
set_option maxHeartbeats 2000000 in
theorem Escape_yes (l : List UInt8) (hm : marked l = true) (B : Nat) (A : Option Addr) (c : Nat) (w : World) (hB : B ≤ w.heap.size) (hl : l.length ≤ 140737488351232) (hA : Sl w B A (l.map u8v)) :
    Calls Tryz.prog 187 #[.slice A l.length c] w fun e w' => ∃ v, e = .returned (.tuple #[v, .bool true]) ∧ WAny.Own w' w.heap.size v (escL l) ∧ Below w.heap.size w w' := by
  have HC := Lib.hid (Clone_any l B A c w hB hl hA)
  have HA := Lib.hid hA
  have HEL : Hid (escL l = [0, 0, 0, 0] ++ l.drop 4) := Lib.hid (by simp [escL, hm])
  simp only [marked, Bool.and_eq_true, beq_iff_eq] at hm
  have h4 := of_decide_eq_true hm.1
  have HX := Lib.hid hm.2
  have HE : Hid (getE l 0 4 = 0) := Lib.hid (by rw [getE_0, if_pos h4])
  clear hA hm
  go_enter Tryz.func187, Tryz.ntmps187
  go_wp2_with fail
  refine HC.out.mono ?_
  rintro e w1 ⟨v, rfl, hO, hb⟩
  have HB := Lib.hid hb
  have hs := hb.size
  clear hb
  obtain ⟨g, cap, rest, rfl, hg, hcap, hR⟩ : ∃ g cap rest, v = .slice (some ⟨g, 0, none⟩) l.length cap ∧ w.heap.size ≤ g ∧ l.length ≤ cap ∧ Row w1 g l rest := by
    rcases hO with ⟨_, rfl⟩ | h
    · simp at h4
    · exact h
  have HR := Lib.hid hR
  have hgl := hR.lt
  clear hO hR
  go_wp2_with fail
  refine (Get_any l B A c 0 4 w1 (by omega) (HA.out.below_le HB.out hB) (by omega)).mono ?_
  rintro e w2 ⟨rfl, hb2⟩
  rw [HX.out, HE.out]
  have HR2 := Lib.hid (HR.out.keep hb2 hgl)
  have HB2 := Lib.hid (below_up HB.out hb2 hs)
  have i4 : (4 : Int) ≤ (cap : Int) := by omega
  have i5 : 4 ≤ cap := by omega
  have hcl := fun ty => clear4 (cap := cap) HR2.out h4 ty
  have h4z := four_zeros HR2.out h4
  have HZ := Lib.hid h4z.1
  have HG := Lib.hid (HB2.out.grown h4z.2 HB2.out.size (fun q hq => by injection hq with hq; omega))
  have HOW : Hid (WAny.Own (w2.setCells g 0 [.int .u8 0, .int .u8 0, .int .u8 0, .int .u8 0]) w.heap.size (.slice (some ⟨g, 0, none⟩) l.length cap) (escL l)) := Lib.hid (by
    have hlen := escL_len l
    rw [HEL.out] at hlen ⊢
    refine .inr ⟨g, cap, rest, ?_, hg, ?_, HZ.out⟩
    · rw [hlen]
    · rw [hlen]; exact hcap)
  clear hb2 h4z HZ
  go_wp2
  generalize w2.setCells g 0 [.int .u8 0, .int .u8 0, .int .u8 0, .int .u8 0] = w3 at *
  go_ret2
  exact ⟨.slice (some ⟨g, 0, none⟩) l.length cap, rfl, HOW.out, HG.out⟩
theorem Escape_any (l : List UInt8) (B : Nat) (A : Option Addr) (c : Nat) (w : World) (hB : B ≤ w.heap.size) (hl : l.length ≤ 140737488351232) (hA : Sl w B A (l.map u8v)) :
    Calls Tryz.prog 187 #[.slice A l.length c] w fun e w' => ∃ v, e = .returned (.tuple #[v, .bool (marked l)]) ∧ WAny.Own w' w.heap.size v (escL l) ∧ Below w.heap.size w w' := by
  cases hm : marked l with
  | false =>
    have e : escL l = l := by simp [escL, hm]
    rw [e]
    exact Escape_no l hm B A c w hB hl hA
  | true => exact Escape_yes l hm B A c w hB hl hA
end Go.Proofs.YtmlgchmladkfpaaGreatDoor.JEscape
/- Need: how many blocks a transaction takes. -/
namespace Go.Proofs.YtmlgchmladkfpaaGreatDoor.JNeed
open Go.RowKit WMem JMem

def rowsN (n size : Nat) : Nat := n / size + (if n % size = 0 then 0 else 1)
def needN (a b : Nat) : Nat := a + rowsN a 48 + rowsN b 60 + 1
theorem ret_i {q q' : Nat} (h : q = q') : Ending.returned (.int .i64 (q : Int)) = Ending.returned (.int .i64 (q' : Int)) := by rw [h]
set_option maxHeartbeats 1000000 in
theorem rows_any (n size : Nat) (hs1 : 1 ≤ size) (hs2 : size ≤ 1000) (hn : n ≤ 140737488355328) (w : World) : Calls Tryz.prog 109 #[.int .i64 (n : Int), .int .i64 (size : Int)] w fun e w' => e = .returned (.int .i64 (rowsN n size : Nat)) ∧ Below w.heap.size w w' := by
  have hd : n / size ≤ n := Nat.div_le_self _ _
  have hr : n % size < size := Nat.mod_lt _ (by omega)
  have HQ : Hid (rowsN n size = n / size + (if n % size = 0 then 0 else 1)) := rfl
  obtain ⟨q, hq⟩ : ∃ q, n / size = q := ⟨_, rfl⟩
  obtain ⟨r, hrr⟩ : ∃ r, n % size = r := ⟨_, rfl⟩
  have e1 : (n : Int).tdiv (size : Int) = (q : Int) := by rw [← hq]; rfl
  have e2 : (n : Int).tmod (size : Int) = (r : Int) := by rw [← hrr]; rfl
  have e1' : (n : Int) / (size : Int) = (q : Int) := by rw [← hq]; simp
  have e2' : (n : Int) % (size : Int) = (r : Int) := by rw [← hrr]; simp
  have hz : ((size : Int) == 0) = false := by rw [beq_eq_false_iff_ne]; omega
  have hz2 : ¬ ((size : Int) = 0) := by omega
  have hz3 : ¬ (size = 0) := by omega
  rw [hq, hrr] at HQ
  rw [hq] at hd
  rw [hrr] at hr
  generalize rowsN n size = T at *
  by_cases h0 : r = 0
  · subst h0
    have HT : Hid (T = q) := Lib.hid (by rw [HQ.out]; simp)
    clear HQ hq hrr
    go_enter Tryz.func109, Tryz.ntmps109
    go_wp2
    go_region
    all_goals
      go_wp2
      go_ret
      exact ⟨ret_i HT.out.symm, (Below.refl _ _).drew⟩
  · have HT : Hid (T = q + 1) := Lib.hid (by rw [HQ.out, if_neg h0])
    have s1 : IntKind.i64.wrap ((q : Int) + 1) = ((q + 1 : Nat) : Int) := by rw [IntWalk.i64_in _ (by omega)]; simp
    have HW : Hid (r ≠ 0) := Lib.hid h0
    clear HQ hq hrr h0
    by_cases h1 : (1 : Int) < (r : Int)
    · go_enter Tryz.func109, Tryz.ntmps109
      go_wp2
      go_region
      all_goals
        go_wp2
        go_ret
        exact ⟨ret_i HT.out.symm, (Below.refl _ _).drew⟩
    · obtain rfl : r = 1 := by have := HW.out; omega
      go_enter Tryz.func109, Tryz.ntmps109
      go_wp2
      go_region
      all_goals
        go_wp2
        go_ret
        exact ⟨ret_i HT.out.symm, (Below.refl _ _).drew⟩
theorem need_up (a b : Nat) : needN a b = a + rowsN a 48 + rowsN b 60 + 1 := rfl
theorem rowsN_le (n size : Nat) : rowsN n size ≤ n + 1 := by
  unfold rowsN
  have := Nat.div_le_self n size
  split <;> omega
set_option maxHeartbeats 1000000 in
theorem Need_any (a b : Nat) (ha : a ≤ 1000000000) (hb : b ≤ 1000000000) (w : World) : Calls Tryz.prog 84 #[.int .i64 (a : Int), .int .i64 (b : Int)] w fun e w' => e = .returned (.int .i64 (needN a b : Nat)) ∧ Below w.heap.size w w' := by
  have h1 := rowsN_le a 48
  have h2 := rowsN_le b 60
  have HN := Lib.hid (need_up a b)
  have HA := Lib.hid (fun w => rows_any a 48 (by decide) (by decide) (by omega) w)
  have HB := Lib.hid (fun w => rows_any b 60 (by decide) (by decide) (by omega) w)
  generalize rowsN a 48 = x at *
  generalize rowsN b 60 = y at *
  generalize needN a b = N at *
  have m1 : ¬ ((a : Int) < 0) := by omega
  have m2 : ¬ ((b : Int) < 0) := by omega
  have m3 : max (a : Int) 0 = (a : Int) := by omega
  have m4 : max (b : Int) 0 = (b : Int) := by omega
  have s1 : IntKind.i64.wrap ((a : Int) + (x : Int)) = ((a + x : Nat) : Int) := by rw [IntWalk.i64_in _ (by omega)]; simp
  have s2 : IntKind.i64.wrap (((a + x : Nat) : Int) + (y : Int)) = ((a + x + y : Nat) : Int) := by rw [IntWalk.i64_in _ (by omega)]; simp
  have s3 : IntKind.i64.wrap (((a + x + y : Nat) : Int) + 1) = ((a + x + y + 1 : Nat) : Int) := by rw [IntWalk.i64_in _ (by omega)]; simp
  go_enter Tryz.func84, Tryz.ntmps84
  go_wp2_with fail
  refine (HA.out _).mono ?_
  rintro e w1 ⟨rfl, hb1⟩
  go_wp2_with fail
  refine (HB.out _).mono ?_
  rintro e w2 ⟨rfl, hb2⟩
  have HBB := Lib.hid (below_up hb1 hb2 hb1.size)
  clear hb1 hb2
  go_wp2
  go_ret
  exact ⟨ret_i HN.out.symm, HBB.out⟩
end Go.Proofs.YtmlgchmladkfpaaGreatDoor.JNeed
