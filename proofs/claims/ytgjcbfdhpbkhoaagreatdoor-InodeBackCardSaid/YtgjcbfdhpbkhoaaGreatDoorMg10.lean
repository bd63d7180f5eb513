/- Lists of numbers, each in its width: the program's inner call pack. -/
import Derived.Test.YtgjcbfdhpbkhoaaGreatDoorMg9
import Derived.Deep.LoopGhost
import Derived.Test.YtgjcbfdhpbkhoaaGreatDoorMg7
import Derived.Test.YtgjcbfdhpbkhoaaGreatDoorMg11
import Derived.Deep.QuietTactic
import Derived.BigQuiet
import Derived.Test.YtgjcbfdhpbkhoaaGreatDoorMg2
namespace Go.Proofs.YtgjcbfdhpbkhoaaGreatDoor.WPack
open Go.RowKit WMem WPlain WGive WGet WPut WAppend WHelp WList
def zrow (n : Nat) : Array Value := ((List.replicate n (0 : UInt8)).map u8v ++ []).toArray
theorem made_one (z : Value) (n : Nat) : madeCells #[z] n = (List.replicate n z).toArray := by
  apply Array.ext
  · simp [madeCells]
  · intro i h1 h2
    simp [madeCells, Nat.mod_one]
theorem zrow_eq (n : Nat) : zrow n = (List.replicate n (Value.int .u8 0)).toArray := by simp [zrow, u8v]
theorem make_bytes (n : Nat) (hn : n ≤ 281474976710656) (w : World) : (Instr.makeSlice 22 (.int .i64 (n : Int)) (.int .i64 (n : Int))).run Tryz.prog w = .ok (.slice (some ⟨w.heap.size, 0, none⟩) n n) (w.alloc (.cells (zrow n) 5)) := by
  obtain ⟨i, h1, h2, h3, h4⟩ := info_parts (P := Tryz.prog) (e := 5) (z := .int .u8 0) (size := 1) (bytes := 1) (by kernel_rfl)
  have h := run_make (P := Tryz.prog) w 22 5 i (.int .u8 0) (by kernel_rfl) h1 h2 .i64 .i64 n n (by omega) (by omega) (by rw [h4]; omega) (by omega)
  rw [h]
  simp only [Int.toNat_natCast, h3, Nat.mul_one]
  rw [zrow_eq, ← made_one]
  rfl
theorem zrow_row (w : World) (n : Nat) : Row (w.alloc (.cells (zrow n) 5)) w.heap.size (List.replicate n 0) [] := row_new _ _
theorem put_at (len : Nat) (l : List UInt8) (hlen : l.length = len) (rest : List Value) (g c p n x : Nat) (w : World) (h1 : 1 ≤ n) (h2 : n ≤ 8) (h4 : p + n ≤ len) (hl : len ≤ 140737488355328) (hx : x < 2 ^ (8 * n)) (hA : Row w g l rest) :
    Calls Tryz.prog 77 #[.slice (some ⟨g, 0, none⟩) len c, .int .i64 p, .int .i64 n, .int .u64 x] w fun e w' => e = .returned (.tuple #[]) ∧ Row w' g (patch l p (dig n x)) rest ∧ w.grownBy w' (some g) := by
  subst hlen
  exact put_ok l rest g c p n x w h1 h2 h4 hl hx hA
def part (size : Nat) (ns : List Nat) (xs : List UInt64) (k : Nat) : List UInt8 := packed (ns.take k) (xs.take k) ++ List.replicate (size - tot (ns.take k)) 0
theorem part_len (size : Nat) (ns : List Nat) (xs : List UInt64) (k : Nat) (h : ns.length = xs.length) (ht : tot ns ≤ size) : (part size ns xs k).length = size := by
  have := tot_take_le ns k
  rw [part, List.length_append, packed_length _ _ (by simp [h]), List.length_replicate]; omega
theorem part_zero (size : Nat) (ns : List Nat) (xs : List UInt64) : part size ns xs 0 = List.replicate size 0 := by simp [part, packed, tot]
theorem part_next (size : Nat) (ns : List Nat) (xs : List UInt64) (k : Nat) (h : ns.length = xs.length) (hk : k < ns.length) :
    patch (part size ns xs k) (tot (ns.take k)) (dig ns[k] (xs[k]'(by omega)).toNat) = part size ns xs (k + 1) := by
  have e : tot (ns.take k) = (packed (ns.take k) (xs.take k)).length := (packed_length _ _ (by simp [h])).symm
  unfold part
  rw [packed_take_succ ns xs h k hk, tot_take_succ ns k hk]
  conv => lhs; rw [e]
  rw [patch_zeros, dig_length]
  rw [← e, Nat.sub_sub]
set_option maxHeartbeats 1000000 in
theorem pack_ok (ns : List Nat) (xs : List UInt64) (size B : Nat) (A A' : Option Addr) (c c' : Nat) (w : World) (hB : B ≤ w.heap.size) (h : ns.length = xs.length) (hf : fine ns) (hx : fit ns xs) (ht : tot ns ≤ size) (hs : size ≤ 4096)
    (hA : Sl w B A (xs.map u64v)) (hA' : Sl w B A' (ns.map natv)) :
    Calls Tryz.prog 75 #[.slice A xs.length c, .slice A' ns.length c', .int .i64 size] w fun e w' =>
      e = .returned (.slice (some ⟨w.heap.size, 0, none⟩) size size) ∧ Row w' w.heap.size (part size ns xs ns.length) [] ∧ Below w.heap.size w w' ∧ w.heap.size < w'.heap.size := by
  have hn4 : ns.length ≤ 4096 := by have := (tot_le ns hf).1; omega
  have hmk := make_bytes size (by omega)
  have HF := Lib.hid hf
  have HX := Lib.hid hx
  have HA := Lib.hid hA
  have HA' := Lib.hid hA'
  have HE := Lib.hid h
  have hxl : xs.length ≤ 4096 := by omega
  clear hf hx hA hA' h
  go_enter Tryz.func75, Tryz.ntmps75
  go_wp2
  clear hmk
  go_loopw [8, 15] (fun v i wr => ∃ k : Nat, k ≤ ns.length ∧ i = .int .i64 k ∧ v = .int .i64 (tot (ns.take k) : Nat) ∧ Row wr w.heap.size (part size ns xs k) [] ∧ Below w.heap.size w wr) (fun _ i _ => ns.length - (intOf i).toNat)
  case atStart => exact ⟨0, Nat.zero_le _, rfl, by simp [tot], by rw [part_zero]; exact zrow_row w size, (Below.refl _ _).alloc (Nat.le_refl _) _⟩
  case round =>
    obtain ⟨k, hk, rfl, rfl, hR, hb⟩ := hrel
    have HR := Lib.hid hR
    have HB := Lib.hid hb
    clear hR hb
    by_cases hlt : k < ns.length
    · have hkx : k < xs.length := by have := HE.out; omega
      obtain ⟨a', rfl, hab', hc'⟩ := (HA'.out.below_le HB.out hB).nat hlt
      obtain ⟨a, rfl, hab, hc⟩ := (HA.out.below_le HB.out hB).u64 hkx
      obtain ⟨f1, f2⟩ := fine_get HF.out hlt
      have t1 := tot_take_le ns k
      have t3 := tot_take_le ns (k + 1)
      rw [tot_take_succ ns k hlt] at t3
      have HS := Lib.hid (tot_take_succ ns k hlt)
      have HP := Lib.hid (part_next size ns xs k HE.out hlt)
      have HL := Lib.hid (part_len size ns xs k HE.out ht)
      have HG := Lib.hid (fit_get HE.out HX.out hlt)
      generalize tot (ns.take k) = d at *
      generalize ns[k] = n at *
      generalize xs[k] = x at *
      generalize part size ns xs k = pt at *
      go_wp2_with (go_at_call 77; refine (put_at size pt HL.out [] w.heap.size size d n x.toNat _ f1 f2 (by omega) (by omega) HG.out HR.out).mono ?_; rintro e w1 ⟨rfl, hR1, hG1⟩)
      go_roundw
      case rel =>
        refine ⟨k + 1, by omega, by go_num, by rw [HS.out]; go_num, by rw [← HP.out]; exact hR1, ?_⟩
        exact HB.out.trans (grown_below hG1 (Nat.le_refl _) HR.out.lt)
      case measure => simp [intOf]; omega
    · obtain rfl : k = ns.length := by omega
      go_wp2
      go_ret
      exact ⟨rfl, HR.out, HB.out, HR.out.lt⟩
end Go.Proofs.YtgjcbfdhpbkhoaaGreatDoor.WPack
/- Lists of numbers, each in its width: the program's inner call unpack. -/
namespace Go.Proofs.YtgjcbfdhpbkhoaaGreatDoor.WUnpack
open Go.RowKit WMem WPlain WGive WGet WPut WAppend WHelp WList WPack
def znums (n : Nat) : Array Value := (List.replicate n (Value.int .u64 0)).toArray
theorem make_nums (n : Nat) (hn : n ≤ 17592186044416) (w : World) : (Instr.makeSlice 48 (.int .i64 (n : Int)) (.int .i64 (n : Int))).run Tryz.prog w = .ok (.slice (some ⟨w.heap.size, 0, none⟩) n n) (w.alloc (.cells (znums n) 47)) := by
  obtain ⟨i, h1, h2, h3, h4⟩ := info_parts (P := Tryz.prog) (e := 47) (z := .int .u64 0) (size := 1) (bytes := 8) (by kernel_rfl)
  have h := run_make (P := Tryz.prog) w 48 47 i (.int .u64 0) (by kernel_rfl) h1 h2 .i64 .i64 n n (by omega) (by omega) (by rw [h4]; omega) (by omega)
  rw [h]
  simp only [Int.toNat_natCast, h3, Nat.mul_one]
  rw [znums, ← made_one]
  rfl
def some_ (ns : List Nat) (b : List UInt8) (k : Nat) : List Value := ((unp ns b).take k).map u64v ++ List.replicate (ns.length - k) (Value.int .u64 0)
theorem some_zero (ns : List Nat) (b : List UInt8) : some_ ns b 0 = List.replicate ns.length (Value.int .u64 0) := by simp [some_]
theorem some_all (ns : List Nat) (b : List UInt8) : some_ ns b ns.length = (unp ns b).map u64v := by
  rw [some_, List.take_of_length_le (by rw [unp_length]; exact Nat.le_refl _)]; simp
theorem some_len (ns : List Nat) (b : List UInt8) (k : Nat) (h : k ≤ ns.length) : (some_ ns b k).length = ns.length := by simp [some_, unp_length]; omega
theorem some_next (ns : List Nat) (b : List UInt8) (k : Nat) (h : k < ns.length) (hf : fine ns) : (some_ ns b k).set k (Value.int .u64 (num ((b.drop (tot (ns.take k))).take ns[k]) : Nat)) = some_ ns b (k + 1) := by
  have hn := fine_get hf h
  have e : u64v ((unp ns b)[k]'(by rw [unp_length]; exact h)) = Value.int .u64 (num ((b.drop (tot (ns.take k))).take ns[k]) : Nat) := by
    rw [unp_get ns b k h, u64v, num_u64 _ (by simp; omega)]
  rw [← e]
  unfold some_
  have hl : (((unp ns b).take k).map u64v).length = k := by simp [unp_length]; omega
  rw [List.set_append_right _ _ (by omega), hl, Nat.sub_self]
  rw [show ns.length - k = (ns.length - (k + 1)) + 1 by omega, List.replicate_succ, List.set_cons_zero]
  rw [List.take_succ_eq_append_getElem (by rw [unp_length]; exact h), List.map_append, List.append_assoc]
  rfl
set_option maxHeartbeats 1000000 in
theorem unpack_ok (ns : List Nat) (b : List UInt8) (B : Nat) (A A' : Option Addr) (c c' : Nat) (w : World) (hB : B ≤ w.heap.size) (hf : fine ns) (ht : tot ns = b.length) (hl : b.length ≤ 140737488355328) (hl' : ns.length ≤ 17592186044416)
    (hA : Sl w B A (b.map u8v)) (hA' : Sl w B A' (ns.map natv)) :
    Calls Tryz.prog 82 #[.slice A b.length c, .slice A' ns.length c'] w fun e w' =>
      e = .returned (.slice (some ⟨w.heap.size, 0, none⟩) ns.length ns.length) ∧ RowV w' w.heap.size 47 ((unp ns b).map u64v) ∧ Below w.heap.size w w' ∧ w.heap.size < w'.heap.size := by
  have hmk := make_nums ns.length hl'
  have HF := Lib.hid hf
  have HA := Lib.hid hA
  have HA' := Lib.hid hA'
  have HT := Lib.hid ht
  clear hf hA hA' ht
  go_enter Tryz.func82, Tryz.ntmps82
  go_wp2
  clear hmk
  go_loopw [6, 14] (fun v i wr => ∃ k : Nat, k ≤ ns.length ∧ i = .int .i64 k ∧ v = .int .i64 (tot (ns.take k) : Nat) ∧ RowV wr w.heap.size 47 (some_ ns b k) ∧ Below w.heap.size w wr) (fun _ i _ => ns.length - (intOf i).toNat)
  case atStart => exact ⟨0, Nat.zero_le _, rfl, by simp [tot], by rw [some_zero]; exact row_new _ _, (Below.refl _ _).alloc (Nat.le_refl _) _⟩
  case round =>
    obtain ⟨k, hk, rfl, rfl, hR, hb⟩ := hrel
    have HR := Lib.hid hR
    have HB := Lib.hid hb
    clear hR hb
    by_cases hlt : k < ns.length
    · obtain ⟨a', rfl, hab', hc'⟩ := (HA'.out.below_le HB.out hB).nat hlt
      obtain ⟨f1, f2⟩ := fine_get HF.out hlt
      have t3 := tot_take_le ns (k + 1)
      rw [tot_take_succ ns k hlt, HT.out] at t3
      have HS := Lib.hid (tot_take_succ ns k hlt)
      have HP := Lib.hid (some_next ns b k hlt HF.out)
      have hsl := some_len ns b k hk
      have hcx := HR.out.cell (i := k) (by omega)
      have hfx := HR.out.free k
      generalize (some_ ns b k)[k] = old at hcx
      have HL := Lib.hid hsl
      clear hsl
      generalize tot (ns.take k) = d at *
      generalize ns[k] = n at *
      generalize some_ ns b k = pt at *
      go_wp2_with (go_at_call 110; refine (get_ok b B A c d n _ f1 f2 t3 hl (HA.out.below_le HB.out hB)).mono ?_; rintro e w1 ⟨rfl, rfl⟩)
      go_roundw
      case rel =>
        refine ⟨k + 1, by omega, by go_num, by rw [HS.out]; go_num, by rw [← HP.out]; exact HR.out.set k _, HB.out.setCell (Nat.le_refl _) _⟩
      case measure => simp [intOf]; omega
    · obtain rfl : k = ns.length := by omega
      go_wp2
      go_ret
      exact ⟨rfl, by rw [← some_all]; exact HR.out, HB.out, HR.out.lt⟩
end Go.Proofs.YtgjcbfdhpbkhoaaGreatDoor.WUnpack
/- The faces Pack and Unpack: what is given up within is caught and answered. -/
namespace Go.Proofs.YtgjcbfdhpbkhoaaGreatDoor.WFace2
open Go.RowKit WMem WPlain WGive WGet WPut WAppend WHelp WList WPack WUnpack WFace
theorem alloc_sl {w : World} {B : Nat} {A : Option Addr} {xs : List Value} (h : Sl w B A xs) (hB : B ≤ w.heap.size) (o : Obj) : Sl (w.alloc o) B A xs := h.keep fun q hq => World.cell?_alloc_lt w o q (by omega)
theorem face_end {w w1 w' : World} {T : TypeId} {xs : List Value} {o : Obj} {v : Value} (hR : RowV w1 (w.alloc o).heap.size T xs) (hb : Below (w.alloc o).heap.size (w.alloc o) w1) (hs : (w.alloc o).heap.size < w1.heap.size)
    (hg : (w1.setCell ⟨w.heap.size, 0, none⟩ v).grownBy w' (some w.heap.size)) : RowV w' (w.heap.size + 1) T xs ∧ Below w.heap.size w w' := by
  have e : (w.alloc o).heap.size = w.heap.size + 1 := by simp
  rw [e] at hR hb hs
  have g1 : w1.grownBy w' (some w.heap.size) := grown_trans (grown_setp (p := ⟨w.heap.size, 0, none⟩) (grown_refl w1 _) v) hg
  refine ⟨hR.grown g1 (by simp), ?_⟩
  exact ((Below.refl _ _).alloc (Nat.le_refl _) o).trans ((hb.mono (by omega)).trans (grown_below g1 (Nat.le_refl _) (by omega)))
set_option maxHeartbeats 400000 in
theorem Unpack_ok (ns : List Nat) (b : List UInt8) (B : Nat) (A A' : Option Addr) (c c' : Nat) (w : World) (hB : B ≤ w.heap.size) (hf : fine ns) (ht : tot ns = b.length) (hl : b.length ≤ 140737488355328) (hl' : ns.length ≤ 17592186044416)
    (hA : Sl w B A (b.map u8v)) (hA' : Sl w B A' (ns.map natv)) :
    Calls Tryz.prog 49 #[.slice A b.length c, .slice A' ns.length c'] w fun e w' =>
      ∃ g, e = .returned (.tuple #[.slice (some ⟨g, 0, none⟩) ns.length ns.length, .int .i64 0]) ∧ w.heap.size ≤ g ∧ RowV w' g 47 ((unp ns b).map u64v) ∧ Below w.heap.size w w' := by
  have hmf := mf
  have HF := Lib.hid hf
  have HA := Lib.hid (alloc_sl hA hB (.cells #[.int .i64 0] 26))
  have HA' := Lib.hid (alloc_sl hA' hB (.cells #[.int .i64 0] 26))
  have HT := Lib.hid ht
  have hb : ((b.length : Int) == (tot ns : Int)) = true := by rw [beq_iff_eq]; omega
  have ht' : tot ns ≤ 140737488355328 := by omega
  clear hf hA hA' ht
  go_enter_defers Tryz.func49, Tryz.ntmps49
  go_wp2_with fail
  refine (total_ok ns B A' c' _ HF.out hl' HA'.out).mono ?_
  rintro e w1 ⟨rfl, rfl⟩
  go_wp2_with (go_at_call 73; refine (must_ok _ _).mono ?_; rintro e w' ⟨rfl, rfl⟩)
  refine (unpack_ok ns b B A A' c c' _ (by simp; omega) HF.out HT.out hl hl' HA.out HA'.out).mono ?_
  rintro e w1 ⟨rfl, hR, hb1, hsz⟩
  have hc1 : w1.cell? ⟨w.heap.size, 0, none⟩ = some (.int .i64 0) := (hb1.cell (by simp)).trans (by simp [go_sem])
  have hz1 : w1.frozen? ⟨w.heap.size, 0, none⟩ = false := (hb1.frozen (by simp)).trans (by simp [go_sem])
  have HR := Lib.hid hR
  have HB := Lib.hid hb1
  have HZ := Lib.hid hsz
  clear hR hb1 hsz hb
  go_wp2
  refine leaves_cons (f := 81) (args := #[.pointer (some ⟨w.heap.size, 0, none⟩)]) (by simp) (by simp [go_sem]) ?_
  refine (unpack_idle _ 0 _ (by simp [go_sem, hc1]) (by simp [go_sem, hz1])).mono ?_
  rintro e u' w' ⟨rfl, rfl, hc, hg⟩
  simp only [Leaves, settle]
  refine ⟨_, ?_, w.heap.size + 1, rfl, by omega, ?_⟩
  · simp [results, Tryz.results49, go_sem, hc]
  · exact face_end HR.out HB.out HZ.out hg
theorem gave_up {w w' : World} {o : Obj} (hg : (w.alloc o).grownBy w' (some w.heap.size)) : Below w.heap.size w w' :=
  ((Below.refl _ _).alloc (Nat.le_refl _) _).trans (grown_below hg (Nat.le_refl _) (by simp))
set_option maxHeartbeats 400000 in
theorem Pack_ok (ns : List Nat) (xs : List UInt64) (size B : Nat) (A A' : Option Addr) (c c' : Nat) (w : World) (hB : B ≤ w.heap.size) (h : ns.length = xs.length) (hf : fine ns) (hx : fit ns xs) (ht : tot ns ≤ size) (hs : size ≤ 4096)
    (hA : Sl w B A (xs.map u64v)) (hA' : Sl w B A' (ns.map natv)) :
    Calls Tryz.prog 42 #[.slice A xs.length c, .slice A' ns.length c', .int .i64 size] w fun e w' =>
      ∃ g, e = .returned (.tuple #[.slice (some ⟨g, 0, none⟩) size size, .int .i64 0]) ∧ w.heap.size ≤ g ∧ Row w' g (WPack.part size ns xs ns.length) [] ∧ Below w.heap.size w w' := by
  have hmf := mf
  have HF := Lib.hid hf
  have HX := Lib.hid hx
  have HH := Lib.hid h
  have HA := Lib.hid (alloc_sl hA hB (.cells #[.int .i64 0] 26))
  have HA' := Lib.hid (alloc_sl hA' hB (.cells #[.int .i64 0] 26))
  have hb : ((xs.length : Int) == (ns.length : Int)) = true := by rw [beq_iff_eq]; omega
  have hb2 : (xs.length == ns.length) = true := by rw [beq_iff_eq]; omega
  have hn4 := (tot_le ns hf).1
  have hxl : xs.length ≤ 4096 := by omega
  have d1 : decide ((tot ns : Int) ≤ (size : Int)) = true := by simpa using ht
  have d2 : decide ((size : Int) ≤ 4096) = true := by simp; omega
  have d3 : decide (tot ns ≤ size) = true := by simpa using ht
  clear hf hx hA hA' h
  go_enter_defers Tryz.func42, Tryz.ntmps42
  go_wp2_with fail
  refine (must_ok _ _).mono ?_
  rintro e w' ⟨rfl, rfl⟩
  go_wp2_with fail
  refine (total_ok ns B A' c' _ HF.out (by omega) HA'.out).mono ?_
  rintro e w1 ⟨rfl, rfl⟩
  go_wp2_with fail
  refine (must_ok _ _).mono ?_
  rintro e w' ⟨rfl, rfl⟩
  go_wp2_with fail
  refine (pack_ok ns xs size B A A' c c' _ (by simp; omega) HH.out HF.out HX.out ht hs HA.out HA'.out).mono ?_
  rintro e w1 ⟨rfl, hR, hb1, hsz⟩
  have hc1 : w1.cell? ⟨w.heap.size, 0, none⟩ = some (.int .i64 0) := (hb1.cell (by simp)).trans (by simp [go_sem])
  have hz1 : w1.frozen? ⟨w.heap.size, 0, none⟩ = false := (hb1.frozen (by simp)).trans (by simp [go_sem])
  have HR := Lib.hid hR
  have HB := Lib.hid hb1
  have HZ := Lib.hid hsz
  clear hR hb1 hsz hb hb2 d1 d2 d3
  go_wp2
  refine leaves_cons (f := 71) (args := #[.pointer (some ⟨w.heap.size, 0, none⟩)]) (by simp) (by simp [go_sem]) ?_
  refine (pack_idle _ 0 _ (by simp [go_sem, hc1]) (by simp [go_sem, hz1])).mono ?_
  rintro e u' w' ⟨rfl, rfl, hc, hg⟩
  simp only [Leaves, settle]
  refine ⟨_, ?_, w.heap.size + 1, rfl, by omega, ?_⟩
  · simp [results, Tryz.results42, go_sem, hc]
  · exact face_end (T := 5) (xs := (WPack.part size ns xs ns.length).map u8v ++ []) HR.out HB.out HZ.out hg
end Go.Proofs.YtgjcbfdhpbkhoaaGreatDoor.WFace2
/- Seals: the faces Seal and Sealed. -/
namespace Go.Proofs.YtgjcbfdhpbkhoaaGreatDoor.WSeal
open Go.RowKit WMem WPlain WGive WGet WPut WAppend WHelp WFace WFace2 WCrc WPack
theorem Tab.keep {w w' : World} (h : Tab w) (hk : ∀ p : Addr, p.block = 0 → w'.cell? p = w.cell? p) : Tab w' := fun r hr => (hk _ rfl).trans (h r hr)
theorem Tab.lt {w : World} (h : Tab w) : 0 < w.heap.size := World.block_lt_of_cell? w _ (h 0 (by decide))
theorem Tab.alloc {w : World} (h : Tab w) (o : Obj) : Tab (w.alloc o) := Tab.keep h fun p hp => World.cell?_alloc_lt w o p (by rw [hp]; exact Tab.lt h)
theorem Tab.drewN {w : World} (h : Tab w) (n : Nat) : Tab (w.drewN n) := h
theorem Tab.below {w w' : World} {B : Nat} (h : Tab w) (hb : Below B w w') (hB : 0 < B) : Tab w' := Tab.keep h fun p hp => hb.cell (by rw [hp]; exact hB)
theorem Tab.grown {w w' : World} {row : Option Nat} (h : Tab w) (hg : w.grownBy w' row) (hr : some 0 ≠ row) : Tab w' :=
  Tab.keep h fun p hp => World.cell?_of_block (hg.block p.block (by rw [hp]; exact Tab.lt h) (by rw [hp]; exact hr))
set_option maxHeartbeats 400000 in
theorem Seal_ok (l : List UInt8) (rest : List Value) (g c seed : Nat) (w : World) (hs : seed < 4294967296) (h4 : 4 ≤ l.length) (hl : l.length ≤ 140737488355328) (hc : l.length ≤ c) (hR : Row w g l rest) (hT : Tab w) :
    Calls Tryz.prog 45 #[.slice (some ⟨g, 0, none⟩) l.length c, .int .u32 seed] w fun e w' =>
      e = .returned (.int .i64 0) ∧ Row w' g (patch l (l.length - 4) (dig 4 (crc seed (l.take (l.length - 4))))) rest ∧ w.grownBy w' (some g) := by
  have hmf := mf
  have HT := Lib.hid (Tab.alloc hT (.cells #[.int .i64 0] 26))
  have HR0 := Lib.hid (hR.alloc (.cells #[.int .i64 0] 26))
  have hlt := hR.lt
  clear hT hR
  obtain ⟨p, hp⟩ : ∃ p, l.length = p + 4 := ⟨l.length - 4, by omega⟩
  have hpl : (l.take p).length = p := by simp; omega
  have hcl := crc_lt seed (l.take p)
  have HC := Lib.hid (wire_crc seed (l.take p) _ (some ⟨g, 0, none⟩) c _ hs (by omega) (by rw [List.map_take]; exact (HR0.out.sl (B := w.heap.size) hlt).take p) HT.out)
  rw [hpl] at HC
  have hpe : l.length - 4 = p := by omega
  rw [hpe]
  have hd4 : decide ((4 : Int) ≤ (p : Int) + 4) = true := by simp; omega
  have HP := Lib.hid hp
  clear hpe hpl
  rw [hp] at h4 hl hc ⊢
  clear hp
  go_enter_defers Tryz.func45, Tryz.ntmps45
  go_wp2_with fail
  refine (must_ok _ _).mono ?_
  rintro e w' ⟨rfl, rfl⟩
  go_wp2_with fail
  refine HC.out.mono ?_
  rintro e w' ⟨rfl, rfl⟩
  go_wp2_with fail
  refine (put_at (p + 4) l HP.out rest g c p 4 (crc seed (l.take p)) _ (by omega) (by omega) (by omega) hl (by omega) HR0.out).mono ?_
  rintro e w1 ⟨rfl, hR, hG⟩
  have hc1 : w1.cell? ⟨w.heap.size, 0, none⟩ = some (.int .i64 0) := hG.cell (by simp [go_sem]) (by simp; omega)
  have hz1 : w1.frozen? ⟨w.heap.size, 0, none⟩ = false := (World.frozen?_of_block (w := w.alloc _) (hG.block w.heap.size (by simp) (by simp; omega))).trans (by simp [go_sem])
  have HR := Lib.hid hR
  have HG := Lib.hid hG
  clear hR hG
  go_wp2
  refine leaves_cons (f := 76) (args := #[.pointer (some ⟨w.heap.size, 0, none⟩)]) (by simp) (by simp [go_sem]) ?_
  refine (seal_idle _ 0 _ (by simp [go_sem, hc1]) (by simp [go_sem, hz1])).mono ?_
  rintro e u' w' ⟨rfl, rfl, hc, hg⟩
  have hb := grown_below hg (Nat.le_refl _) (by have := HG.out.size; simp at this ⊢; omega)
  simp only [Leaves, settle]
  refine ⟨_, ?_, rfl, ?_⟩
  · simp [results, Tryz.results45, go_sem, hc]
  · exact face_row HR.out HG.out hlt (((Below.refl _ _).setCell (Nat.le_refl _) _).trans hb)
set_option maxHeartbeats 400000 in
theorem Seal_no (A : Option Addr) (len c seed : Nat) (w : World) (h4 : len < 4) :
    Calls Tryz.prog 45 #[.slice A len c, .int .u32 seed] w fun e w' => e = .returned (.int .i64 22) ∧ Below w.heap.size w w' := by
  have hmf := mf
  have hd4 : decide ((4 : Int) ≤ (len : Int)) = false := by simp; omega
  have hd5 : decide (4 ≤ len) = false := by simp; omega
  go_enter_defers Tryz.func45, Tryz.ntmps45
  go_wp2_with fail
  refine (must_no _ _).mono ?_
  rintro e w' ⟨rfl, rfl⟩
  refine leaves_cons (f := 76) (args := #[.pointer (some ⟨w.heap.size, 0, none⟩)]) (by simp) (by simp [go_sem]) ?_
  refine (seal_caught _ 0 22 _ _ (by simp [go_sem]) (by simp [go_sem])).mono ?_
  rintro e u' w' ⟨rfl, rfl, hc, hg⟩
  simp only [Leaves, settle, List.dropWhile]
  refine ⟨_, ?_, rfl, gave_up hg⟩
  simp [results, Tryz.results45, go_sem, hc]
def sealB (l : List UInt8) (seed : Nat) : Bool := decide (4 ≤ l.length) && (num (l.drop (l.length - 4)) == crc seed (l.take (l.length - 4)))
theorem quiet_left {P : Program} {f : FuncId} {args : Array Value} {w : World} {n : Nat} {v : Value}
    (h : Calls P f args (w.drewN n) fun e w' => e = .returned v ∧ w.drewN n = w') : Calls P f args (w.drewN n) fun e w'' => e = .returned v ∧ ∃ m, w'' = w.drewN m :=
  h.mono fun _ _ ⟨he, hm⟩ => ⟨he, n, hm.symm⟩
set_option maxHeartbeats 400000 in
theorem Sealed_any (l : List UInt8) (B : Nat) (A : Option Addr) (c seed : Nat) (w : World) (hs : seed < 4294967296) (hl : l.length ≤ 140737488355328) (hc : l.length ≤ c) (hA : Sl w B A (l.map u8v)) (hT : Tab w) :
    Calls Tryz.prog 154 #[.slice A l.length c, .int .u32 seed] w fun e w' => e = .returned (.bool (sealB l seed)) ∧ ∃ n, w' = w.drewN n := by
  by_cases h4 : 4 ≤ l.length
  · obtain ⟨p, hp⟩ : ∃ p, l.length = p + 4 := ⟨l.length - 4, by omega⟩
    have hpl : (l.take p).length = p := by simp; omega
    have hdl : (l.drop p).take 4 = l.drop p := List.take_of_length_le (by simp; omega)
    have HG := Lib.hid (fun W (h : Sl W B A (l.map u8v)) => get_ok l B A c p 4 W (by omega) (by omega) (by omega) hl h)
    rw [hdl] at HG
    have HC := Lib.hid (fun W (h : Sl W B A ((l.take p).map u8v)) (ht : Tab W) => wire_crc seed (l.take p) B A c W hs (by omega) h ht)
    rw [hpl] at HC
    have HT := Lib.hid hT
    have HA := Lib.hid hA
    have HA' := Lib.hid (show Sl w B A ((l.take p).map u8v) by rw [List.map_take]; exact hA.take p)
    have hB : sealB l seed = (num (l.drop p) == crc seed (l.take p)) := by simp [sealB, hp]
    have hcl := crc_lt seed (l.take p)
    have hnl := num_lt_u64 (l.drop p) (by simp; omega)
    rw [hB]
    have d0 : decide ((0 : Int) ≤ (p : Int)) = true := by simp
    clear hpl hdl hT hA hB h4
    rw [hp] at HG hl hc ⊢
    clear hp
    generalize num (l.drop p) = x at *
    generalize crc seed (l.take p) = y at *
    have hxy : ((x : Int) == (y : Int)) = (x == y) := by rw [Bool.eq_iff_iff, beq_iff_eq, beq_iff_eq]; omega
    generalize (x == y) = r at *
    go_enter Tryz.func154, Tryz.ntmps154
    go_wp2
    go_quiet ((first | (go_at_call 110; exact quiet_left (HG.out _ (HA.out.drewN _))) | (go_at_call 78; exact quiet_left (HC.out _ (HA'.out.drewN _) (Tab.drewN HT.out _)))))
    go_wp2
    go_ret
    exact ⟨rfl, _, rfl⟩
  · have hB : sealB l seed = false := by simp [sealB, h4]
    rw [hB]
    have hl4 : l.length < 4 := by omega
    have d0 : decide ((0 : Int) ≤ (l.length : Int) - 4) = false := by simp; omega
    have d1 : decide ((4 : Int) ≤ (l.length : Int)) = false := by simp; omega
    have d2 : decide (4 ≤ l.length) = false := by simp; omega
    clear hB h4 hA hT
    go_enter Tryz.func154, Tryz.ntmps154
    go_wp2
    go_quiet (fail)
    go_wp2
    go_ret
    exact ⟨rfl, _, rfl⟩
end Go.Proofs.YtgjcbfdhpbkhoaaGreatDoor.WSeal
/- The faces and the document's answers for places, numbers and seals, each by one contract for whatever it is called with. -/
namespace Go.Proofs.YtgjcbfdhpbkhoaaGreatDoor.WAny
open Go.RowKit WMem WPlain WGive WGet WPut WAppend WHelp WFace WFace2 WCrc WPack WSeal WRef
abbrev okPlace (len : Nat) (p n : Int) : Prop := 1 ≤ n ∧ n ≤ 8 ∧ 0 ≤ p ∧ p ≤ len - n
def getX (l : List UInt8) (p n : Int) : Nat := if okPlace l.length p n then num ((l.drop p.toNat).take n.toNat) else 0
def putE (l : List UInt8) (p n : Int) (x : Nat) : Int := if okPlace l.length p n then (if x < 2 ^ (8 * n.toNat) then 0 else 34) else 22
def sealE (l : List UInt8) : Int := if 4 ≤ l.length then 0 else 22
def sealL (l : List UInt8) (seed : Nat) : List UInt8 := if 4 ≤ l.length then patch l (l.length - 4) (dig 4 (crc seed (l.take (l.length - 4)))) else l
theorem sealL_len (l : List UInt8) (seed : Nat) : (sealL l seed).length = l.length := by
  unfold sealL
  split
  · exact patch_length _ _ _ (by rw [dig_length]; omega)
  · rfl
def Own (w : World) (base : Nat) (v : Value) (l : List UInt8) : Prop :=
  (v = .slice none 0 0 ∧ l = []) ∨ ∃ g c rest, v = .slice (some ⟨g, 0, none⟩) l.length c ∧ base ≤ g ∧ l.length ≤ c ∧ Row w g l rest
theorem Own.of_row {w : World} {base : Nat} {v : Value} {l : List UInt8} (h : w.ownsRow base 5 1 v l.length (l.map u8v)) : Own w base v l := by
  obtain ⟨hl, h | ⟨g, cap, cur, rfl, hb, hg, hnc, hcm, hcs, ht⟩⟩ := h
  · exact .inl ⟨h.1, List.eq_nil_of_length_eq_zero h.2⟩
  · refine .inr ⟨g, cap, cur.toList.drop l.length, rfl, hb, hnc, ?_⟩
    rw [Nat.mul_one] at ht
    unfold Row
    rw [← ht, List.take_append_drop]
    exact hg
theorem Own.sl {w : World} {base : Nat} {v : Value} {l : List UInt8} (h : Own w base v l) : ∃ A c, v = .slice A l.length c ∧ Sl w w.heap.size A (l.map u8v) ∧ l.length ≤ c := by
  rcases h with ⟨rfl, rfl⟩ | ⟨g, c, rest, rfl, _, hc, hR⟩
  · exact ⟨none, 0, rfl, Sl.nil _ _ _, Nat.le_refl _⟩
  · exact ⟨_, c, rfl, hR.sl hR.lt, hc⟩
theorem Own.at_ {w : World} {base : Nat} {A : Option Addr} {n c : Nat} {l : List UInt8} (h : Own w base (.slice A n c) l) : l.length = n ∧ Sl w w.heap.size A (l.map u8v) ∧ n ≤ c := by
  obtain ⟨A', c', e, h1, h2⟩ := h.sl
  injection e with e1 e2 e3
  subst e1
  subst e2
  subst e3
  exact ⟨rfl, h1, h2⟩
theorem Own.keep {w w' : World} {base : Nat} {v : Value} {l : List UInt8} (h : Own w base v l) (hb : Below w.heap.size w w') : Own w' base v l := by
  rcases h with h | ⟨g, c, rest, rfl, h1, hc, hR⟩
  · exact .inl h
  · exact .inr ⟨g, c, rest, rfl, h1, hc, hR.keep hb hR.lt⟩
theorem Own.grown {w w' : World} {base : Nat} {v : Value} {l : List UInt8} {row : Option Nat} (h : Own w base v l) (hb : w.grownBy w' row) (hr : ∀ k, row = some k → k < base) : Own w' base v l := by
  rcases h with h | ⟨g, c, rest, rfl, h1, hc, hR⟩
  · exact .inl h
  · exact .inr ⟨g, c, rest, rfl, h1, hc, hR.grown hb (fun e => by have := hr g e.symm; omega)⟩
theorem Own.block {w : World} {base : Nat} {v : Value} {l : List UInt8} (h : Own w base v l) : ∀ k, v.ownBlock = some k → base ≤ k ∧ k < w.heap.size := by
  intro k hk
  rcases h with ⟨rfl, _⟩ | ⟨g, c, rest, rfl, h1, _, hR⟩
  · simp [Value.ownBlock] at hk
  · simp [Value.ownBlock] at hk
    subst hk
    exact ⟨h1, hR.lt⟩
theorem Own.drewN {w : World} {base : Nat} {v : Value} {l : List UInt8} (h : Own w base v l) (n : Nat) : Own (w.drewN n) base v l := h
section
variable (l : List UInt8) (B : Nat) (A : Option Addr) (c : Nat) (p n : Int) (w : World)
theorem Seal_any (rest : List Value) (g seed : Nat) (hs : seed < 4294967296) (hl : l.length ≤ 140737488355328) (hc : l.length ≤ c) (hR : Row w g l rest) (hT : Tab w) :
    Calls Tryz.prog 45 #[.slice (some ⟨g, 0, none⟩) l.length c, .int .u32 seed] w fun e w' => e = .returned (.int .i64 (sealE l)) ∧ Row w' g (sealL l seed) rest ∧ w.grownBy w' (some g) := by
  unfold sealE sealL
  by_cases h : 4 ≤ l.length
  · rw [if_pos h, if_pos h]
    exact Seal_ok l rest g c seed w hs h hl hc hR hT
  · rw [if_neg h, if_neg h]
    exact (Seal_no _ l.length c seed w (by omega)).mono fun e w' ⟨he, hb⟩ => ⟨he, hR.keep hb hR.lt, below_grown hb _⟩
end
end Go.Proofs.YtgjcbfdhpbkhoaaGreatDoor.WAny
/- The faces Pack and Unpack, each by one contract for whatever it is called with. -/
namespace Go.Proofs.YtgjcbfdhpbkhoaaGreatDoor.WWide
open Go.RowKit WMem WPlain WGive WGet WPut WAppend WHelp WList WPack WUnpack WFace WFace2
def fineI (ws : List Int) : Prop := ∀ n ∈ ws, 1 ≤ n ∧ n ≤ 8
def nats (ws : List Int) : List Nat := ws.map Int.toNat
theorem nats_len (ws : List Int) : (nats ws).length = ws.length := by simp [nats]
theorem nats_vals (ws : List Int) (h : fineI ws) : ws.map i64v = (nats ws).map natv := by
  rw [nats, List.map_map]
  apply List.map_congr_left
  intro n hn
  have := h n hn
  simp only [Function.comp, i64v, natv]
  congr 1
  omega
theorem nats_fine (ws : List Int) (h : fineI ws) : fine (nats ws) := by
  intro n hn
  obtain ⟨m, hm, rfl⟩ := List.mem_map.1 hn
  have := h m hm
  omega
section
variable (b : List UInt8) (ws : List Int) (B : Nat) (A A' : Option Addr) (c c' : Nat) (w : World)
theorem UnpackW_ok (hB : B ≤ w.heap.size) (hf : fineI ws) (ht : tot (nats ws) = b.length) (hl : b.length ≤ 140737488355328) (hl' : ws.length ≤ 17592186044416) (hA : Sl w B A (b.map u8v)) (hA' : Sl w B A' (ws.map i64v)) :
    Calls Tryz.prog 49 #[.slice A b.length c, .slice A' ws.length c'] w fun e w' =>
      ∃ g, e = .returned (.tuple #[.slice (some ⟨g, 0, none⟩) ws.length ws.length, .int .i64 0]) ∧ w.heap.size ≤ g ∧ RowV w' g 47 ((unp (nats ws) b).map u64v) ∧ Below w.heap.size w w' := by
  have h := Unpack_ok (nats ws) b B A A' c c' w hB (nats_fine ws hf) ht hl (by rw [nats_len]; exact hl') hA (by rw [← nats_vals ws hf]; exact hA')
  rw [nats_len] at h
  exact h
variable (xs : List UInt64)
def packs (xs : List UInt64) (ws : List Int) (size : Int) : Prop := xs.length = ws.length ∧ fineI ws ∧ (tot (nats ws) : Int) ≤ size ∧ size ≤ 4096
def bytesOf_ (xs : List UInt64) (ws : List Int) (size : Int) : List UInt8 := WPack.part size.toNat (nats ws) xs (nats ws).length
theorem bytesOf_len (size : Int) (h : packs xs ws size) : (bytesOf_ xs ws size).length = size.toNat := by
  obtain ⟨h1, h2, h3, h4⟩ := h
  exact part_len _ _ _ _ (by rw [nats_len, h1]) (by omega)
theorem PackW_ok (size : Int) (hB : B ≤ w.heap.size) (h : packs xs ws size) (hx : fit (nats ws) xs) (hA : Sl w B A (xs.map u64v)) (hA' : Sl w B A' (ws.map i64v)) :
    Calls Tryz.prog 42 #[.slice A xs.length c, .slice A' ws.length c', .int .i64 size] w fun e w' =>
      ∃ g, e = .returned (.tuple #[.slice (some ⟨g, 0, none⟩) size.toNat size.toNat, .int .i64 0]) ∧ w.heap.size ≤ g ∧ Row w' g (bytesOf_ xs ws size) [] ∧ Below w.heap.size w w' := by
  obtain ⟨h1, h2, h3, h4⟩ := h
  obtain ⟨size, rfl⟩ := Int.eq_ofNat_of_zero_le (show 0 ≤ size by omega)
  have h5 := Pack_ok (nats ws) xs size B A A' c c' w hB (by rw [nats_len, h1]) (nats_fine ws h2) hx (by omega) (by omega) hA (by rw [← nats_vals ws h2]; exact hA')
  rw [nats_len] at h5
  simp only [bytesOf_, Int.toNat_natCast, nats_len]
  exact h5
end
theorem UnpackW_at (len : Nat) (b : List UInt8) (hlen : b.length = len) (ws : List Int) (B : Nat) (A A' : Option Addr) (c c' : Nat) (w : World) (hB : B ≤ w.heap.size) (hf : fineI ws) (ht : tot (nats ws) = b.length) (hl : len ≤ 140737488355328) (hl' : ws.length ≤ 17592186044416) (hA : Sl w B A (b.map u8v)) (hA' : Sl w B A' (ws.map i64v)) :
    Calls Tryz.prog 49 #[.slice A len c, .slice A' ws.length c'] w fun e w' =>
      ∃ g, e = .returned (.tuple #[.slice (some ⟨g, 0, none⟩) ws.length ws.length, .int .i64 0]) ∧ w.heap.size ≤ g ∧ RowV w' g 47 ((unp (nats ws) b).map u64v) ∧ Below w.heap.size w w' := by
  subst hlen
  exact UnpackW_ok b ws B A A' c c' w hB hf ht hl hl' hA hA'
theorem PackW_at (len : Nat) (xs : List UInt64) (hlen : xs.length = len) (ws : List Int) (B : Nat) (A A' : Option Addr) (c c' : Nat) (w : World) (size : Nat) (hB : B ≤ w.heap.size) (h : packs xs ws (size : Int)) (hx : fit (nats ws) xs) (hA : Sl w B A (xs.map u64v)) (hA' : Sl w B A' (ws.map i64v)) :
    Calls Tryz.prog 42 #[.slice A len c, .slice A' ws.length c', .int .i64 (size : Int)] w fun e w' =>
      ∃ g, e = .returned (.tuple #[.slice (some ⟨g, 0, none⟩) size size, .int .i64 0]) ∧ w.heap.size ≤ g ∧ Row w' g (bytesOf_ xs ws (size : Int)) [] ∧ Below w.heap.size w w' := by
  subst hlen
  exact PackW_ok ws B A A' c c' w xs (size : Int) hB h hx hA hA'
end Go.Proofs.YtgjcbfdhpbkhoaaGreatDoor.WWide
/- Fields as numbers; the program's block of numbers, sealed. -/
namespace Go.Proofs.YtgjcbfdhpbkhoaaGreatDoor.SNums
open Go.RowKit WMem WPlain WGive WGet WPut WAppend WHelp WList WPack WUnpack WFace WFace2 WSeal WAny WWide WCrc
def nums (l : List Nat) : List UInt64 := l.map UInt64.ofNat
theorem nums_len (l : List Nat) : (nums l).length = l.length := by simp [nums]
def filled (l : List Nat) (k : Nat) : List Value := ((nums l).take k).map u64v ++ List.replicate (l.length - k) (Value.int .u64 0)
theorem filled_zero (l : List Nat) : filled l 0 = List.replicate l.length (Value.int .u64 0) := by simp [filled]
theorem filled_all (l : List Nat) : filled l l.length = (nums l).map u64v := by
  rw [filled, List.take_of_length_le (by rw [nums_len]; exact Nat.le_refl _)]; simp
theorem filled_len (l : List Nat) (k : Nat) (h : k ≤ l.length) : (filled l k).length = l.length := by simp [filled, nums_len]; omega
theorem filled_next (l : List Nat) (k : Nat) (h : k < l.length) (hx : l[k] < 18446744073709551616) : (filled l k).set k (Value.int .u64 (l[k] : Nat)) = filled l (k + 1) := by
  have e : u64v ((nums l)[k]'(by rw [nums_len]; exact h)) = Value.int .u64 (l[k] : Nat) := by
    simp only [nums, List.getElem_map, u64v, UInt64.toNat_ofNat']
    rw [Nat.mod_eq_of_lt hx]
  rw [← e]
  unfold filled
  have hl : (((nums l).take k).map u64v).length = k := by simp [nums_len]; omega
  rw [List.set_append_right _ _ (by omega), hl, Nat.sub_self]
  rw [show l.length - k = (l.length - (k + 1)) + 1 by omega, List.replicate_succ, List.set_cons_zero]
  rw [List.take_succ_eq_append_getElem (by rw [nums_len]; exact h), List.map_append, List.append_assoc]
  rfl
set_option maxHeartbeats 1000000 in
theorem numbers_any (l : List Nat) (B : Nat) (A : Option Addr) (c : Nat) (w : World) (hB : B ≤ w.heap.size) (hl : l.length ≤ 1000000) (hx : ∀ x ∈ l, x < 9223372036854775808) (hA : Sl w B A (l.map natv)) :
    Calls Tryz.prog 143 #[.slice A l.length c] w fun e w' =>
      e = .returned (.slice (some ⟨w.heap.size, 0, none⟩) l.length l.length) ∧ RowV w' w.heap.size 47 ((nums l).map u64v) ∧ Below w.heap.size w w' ∧ w.heap.size < w'.heap.size := by
  have hmk := make_nums l.length (by omega)
  have HA := Lib.hid hA
  have HX := Lib.hid hx
  clear hA hx
  go_enter Tryz.func143, Tryz.ntmps143
  go_wp2
  clear hmk
  go_loopw [11] (fun i wr => ∃ k : Nat, k ≤ l.length ∧ i = .int .i64 k ∧ RowV wr w.heap.size 47 (filled l k) ∧ Below w.heap.size w wr) (fun i _ => l.length - (intOf i).toNat)
  case atStart => exact ⟨0, Nat.zero_le _, rfl, by rw [filled_zero]; exact row_new _ _, (Below.refl _ _).alloc (Nat.le_refl _) _⟩
  case round =>
    obtain ⟨k, hk, rfl, hR, hb⟩ := hrel
    have HR := Lib.hid hR
    have HB := Lib.hid hb
    clear hR hb
    by_cases hlt : k < l.length
    · obtain ⟨a', rfl, hab', hc'⟩ := (HA.out.below_le HB.out hB).nat hlt
      have hx := HX.out l[k] (List.getElem_mem hlt)
      have HP := Lib.hid (filled_next l k hlt (by omega))
      have hcx := HR.out.cell (i := k) (by rw [filled_len l k hk]; exact hlt)
      have hfx := HR.out.free k
      generalize (filled l k)[k]'(by rw [filled_len l k hk]; exact hlt) = old at hcx
      generalize l[k] = n at *
      generalize filled l k = pt at *
      go_wp2
      go_roundw
      case rel =>
        refine ⟨k + 1, by omega, by go_num, by rw [← HP.out]; exact HR.out.set k _, HB.out.setCell (Nat.le_refl _) _⟩
      case measure => simp [intOf]; omega
    · obtain rfl : k = l.length := by omega
      go_wp2
      go_ret
      exact ⟨rfl, by rw [← filled_all]; exact HR.out, HB.out, HR.out.lt⟩
def blockOf (xs : List UInt64) (ws : List Int) (seed : Nat) : List UInt8 := sealL (bytesOf_ xs ws 256) seed
theorem blockOf_len (xs : List UInt64) (ws : List Int) (seed : Nat) (h : packs xs ws 256) : (blockOf xs ws seed).length = 256 := by
  unfold blockOf
  rw [sealL_len, bytesOf_len ws xs 256 h]; rfl
set_option maxHeartbeats 1000000 in
theorem block_ok (len len' : Nat) (xs : List UInt64) (hlen : xs.length = len) (ws : List Int) (hlen' : ws.length = len') (seed : Nat) (hs : seed < 4294967296) (B : Nat) (A A' : Option Addr) (c c' : Nat) (w : World) (hB : B ≤ w.heap.size) (h : packs xs ws 256) (hx : fit (nats ws) xs)
    (hA : Sl w B A (xs.map u64v)) (hA' : Sl w B A' (ws.map i64v)) (hT : Tab w) :
    Calls Tryz.prog 144 #[.slice A len c, .slice A' len' c', .int .u32 seed] w fun e w' =>
      ∃ g, e = .returned (.tuple #[.slice (some ⟨g, 0, none⟩) 256 256, .int .i64 0]) ∧ w.heap.size ≤ g ∧ Row w' g (blockOf xs ws seed) [] ∧ Below w.heap.size w w' := by
  subst hlen
  subst hlen'
  have HP := Lib.hid (PackW_ok ws B A A' c c' w xs 256 hB h hx hA hA')
  have hbl := bytesOf_len ws xs 256 h
  have hbl' : (bytesOf_ xs ws 256).length = 256 := hbl
  have HBL := Lib.hid hbl'
  have HT := Lib.hid hT
  have hTl := Tab.lt hT
  clear hA hA' hT h hx hbl hbl'
  go_enter Tryz.func144, Tryz.ntmps144
  go_wp2_with fail
  refine HP.out.mono ?_
  rintro e w1 ⟨g, rfl, hg, hR, hb⟩
  have HS := Lib.hid (Seal_ok (bytesOf_ xs ws 256) [] g 256 seed w1 hs (by rw [HBL.out]; omega) (by rw [HBL.out]; omega) (by rw [HBL.out]; exact Nat.le_refl _) hR (Tab.below HT.out hb hTl))
  rw [HBL.out] at HS
  have HB := Lib.hid hb
  have HG := Lib.hid hg
  clear hb hR hg
  go_wp2_with fail
  refine HS.out.mono ?_
  rintro e w2 ⟨rfl, hR2, hg2⟩
  have HR2 := Lib.hid hR2
  have HG2 := Lib.hid hg2
  clear hR2 hg2
  go_wp2
  go_ret2
  refine ⟨g, rfl, HG.out, ?_, ?_⟩
  · have := HR2.out
    unfold blockOf sealL
    rw [if_pos (by rw [HBL.out]; omega), HBL.out]
    exact this
  · exact HB.out.grown HG2.out HB.out.size (by intro k hk; injection hk with hk; subst hk; exact HG.out)
end Go.Proofs.YtgjcbfdhpbkhoaaGreatDoor.SNums
/- The super block, in plain mathematics. -/
namespace Go.Proofs.YtgjcbfdhpbkhoaaGreatDoor.SPlain
open Go.RowKit WMem WPlain WPack WWide WAny SNums GPlain
def supN (b p n j fb fi oo mo : Int) (cl : Bool) : List Nat := [1213813321, 1, b.toNat, p.toNat, n.toNat, j.toNat, fb.toNat, fi.toNat, oo.toNat, mo.toNat, if cl = true then 1 else 0]
def supW : List Int := [4, 2, 4, 4, 4, 4, 4, 4, 4, 4, 1]
def supMay (b p n j fb fi oo mo : Int) : Bool := mayB b p n j && inB 0 (b - fixedI b p n j) fb && allIn 0 (groupsI b p n j * n) [fi, oo] && inB 0 2147483647 mo
def supBytes (b p n j fb fi oo mo : Int) (cl : Bool) : List UInt8 := blockOf (nums (supN b p n j fb fi oo mo cl)) supW 0
theorem sup_ns : nats supW = [4, 2, 4, 4, 4, 4, 4, 4, 4, 4, 1] := rfl
theorem sup_fine : fineI supW := by unfold fineI supW; decide
theorem sup_packs (l : List Nat) (h : l.length = 11) : packs (nums l) supW 256 := ⟨by rw [nums_len, h]; rfl, sup_fine, by rw [sup_ns]; decide, by decide⟩
structure SMay (b p n j fb fi oo mo : Int) : Prop where
  may : mayB b p n j = true
  b0 : 0 ≤ b
  b1 : b ≤ 4096
  p0 : 0 ≤ p
  p1 : p ≤ 2016
  n0 : 0 ≤ n
  n1 : n ≤ 512
  j0 : 0 ≤ j
  j1 : j ≤ 512
  fb0 : 0 ≤ fb
  fb1 : fb ≤ 4096
  fi0 : 0 ≤ fi
  fi1 : fi ≤ 7168
  oo0 : 0 ≤ oo
  oo1 : oo ≤ 7168
  mo0 : 0 ≤ mo
  mo1 : mo ≤ 2147483647
theorem supMay_of {b p n j fb fi oo mo : Int} (h : supMay b p n j fb fi oo mo = true) : SMay b p n j fb fi oo mo := by
  simp only [supMay, Bool.and_eq_true, inB_true, allIn, List.all_cons, List.all_nil, Bool.and_true] at h
  obtain ⟨⟨⟨h1, h2⟩, h3, h4⟩, h5⟩ := h
  obtain ⟨hb0, hb1, hp0, hp1, hn0, hn1, hev, hj0, hj1, hg0, hg1, hlo, hhi, hf, hl⟩ := may_iff.1 h1
  have hi := inos_bd b p n j
  have hx := fixedI_yes h1
  have hp := prod2_bd (g := gN b p) (by omega) hg1 hn0 hn1
  exact ⟨h1, by omega, by omega, by omega, by omega, by omega, by omega, by omega, by omega, by omega, by omega, by omega, by omega, by omega, by omega, by omega, by omega⟩
theorem ofNat_small {x : Nat} (h : x < 18446744073709551616) : (UInt64.ofNat x).toNat = x := by
  rw [UInt64.toNat_ofNat']; exact Nat.mod_eq_of_lt h
theorem sup_small {b p n j fb fi oo mo : Int} (cl : Bool) (h : SMay b p n j fb fi oo mo) : ∀ x ∈ supN b p n j fb fi oo mo cl, x < 4294967296 := by
  obtain ⟨_, _, _, _, _, _, _, _, _, _, _, _, _, _, _, _, _⟩ := h
  intro x hx
  simp only [supN, List.mem_cons, List.not_mem_nil, or_false] at hx
  rcases hx with hx | hx | hx | hx | hx | hx | hx | hx | hx | hx | hx <;> (subst hx; first | omega | (split <;> omega))
theorem sup_fit {b p n j fb fi oo mo : Int} (cl : Bool) (h : SMay b p n j fb fi oo mo) : fit (nats supW) (nums (supN b p n j fb fi oo mo cl)) := by
  have hs := sup_small cl h
  rw [sup_ns]
  refine fit_of_get _ _ (by rw [nums_len]; rfl) fun k hk => ?_
  have hk' : k < 11 := hk
  have hc : (if cl = true then 1 else 0) < 256 := by split <;> omega
  have e : ∀ (x : Nat), x < 4294967296 → (UInt64.ofNat x).toNat = x := fun x hx => ofNat_small (by omega)
  have hg : ∀ i (hi : i < 11), ((nums (supN b p n j fb fi oo mo cl))[i]'(by rw [nums_len]; exact hi)).toNat = (supN b p n j fb fi oo mo cl)[i]'hi := by
    intro i hi
    simp only [nums, List.getElem_map]
    exact e _ (hs _ (List.getElem_mem _))
  rw [hg k hk']
  have hsm := hs _ (List.getElem_mem (l := supN b p n j fb fi oo mo cl) (n := k) hk')
  match k, hk' with
  | 0, _ => exact hsm
  | 1, _ => exact (show (1 : Nat) < 2 ^ (8 * 2) by decide)
  | 2, _ => exact hsm
  | 3, _ => exact hsm
  | 4, _ => exact hsm
  | 5, _ => exact hsm
  | 6, _ => exact hsm
  | 7, _ => exact hsm
  | 8, _ => exact hsm
  | 9, _ => exact hsm
  | 10, _ => exact hc
theorem supBytes_len (b p n j fb fi oo mo : Int) (cl : Bool) : (supBytes b p n j fb fi oo mo cl).length = 256 := blockOf_len _ _ _ (sup_packs _ rfl)
def f4 (l : List UInt8) (at_ : Nat) : Int := ((num ((l.drop at_).take 4) : Nat) : Int)
def f1 (l : List UInt8) (at_ : Nat) : Int := ((num ((l.drop at_).take 1) : Nat) : Int)
def supSays (l : List UInt8) : List UInt8 := supBytes (f4 l 6) (f4 l 10) (f4 l 14) (f4 l 18) (f4 l 22) (f4 l 26) (f4 l 30) (f4 l 34) (f1 l 38 == 1)
def supIs (l : List UInt8) : Bool := supMay (f4 l 6) (f4 l 10) (f4 l 14) (f4 l 18) (f4 l 22) (f4 l 26) (f4 l 30) (f4 l 34)
def supGood (l : List UInt8) : Bool := supIs l && (supSays l == l)
end Go.Proofs.YtgjcbfdhpbkhoaaGreatDoor.SPlain
/- read: the numbers with which a block begins. -/
namespace Go.Proofs.YtgjcbfdhpbkhoaaGreatDoor.SRead
open Go.RowKit WMem WPlain WGive WGet WPut WAppend WHelp WList WPack WUnpack WFace WFace2 WWide
theorem tot_next (ws : List Int) (k : Nat) (hk : k < ws.length) (hf : fineI ws) : ((tot ((nats ws).take (k + 1)) : Nat) : Int) = (tot ((nats ws).take k) : Nat) + ws[k] := by
  rw [tot_take_succ (nats ws) k (by rw [nats_len]; exact hk)]
  have h1 := hf ws[k] (List.getElem_mem hk)
  simp only [nats, List.getElem_map]
  omega
set_option maxHeartbeats 1000000 in
theorem read_no (len : Nat) (h : len ≠ 256) (A A' : Option Addr) (c len' c' : Nat) (w : World) :
    Calls Tryz.prog 149 #[.slice A len c, .slice A' len' c'] w fun e w' => e = .returned (.tuple #[.slice none 0 0, .bool false]) ∧ w = w' := by
  have h1 : ((len : Int) != 256) = true := by rw [bne_iff_ne]; omega
  have h2 : (len != 256) = true := by rw [bne_iff_ne]; omega
  clear h
  go_enter Tryz.func149, Tryz.ntmps149
  go_wp2
  go_ret2
  exact ⟨rfl, rfl⟩
set_option maxHeartbeats 1000000 in
theorem read_yes (l : List UInt8) (hl : l.length = 256) (ws : List Int) (hf : fineI ws) (ht : tot (nats ws) ≤ 256) (B : Nat) (A A' : Option Addr) (c c' : Nat) (hc : 256 ≤ c) (w : World) (hB : B ≤ w.heap.size) (hws : ws.length ≤ 1000)
    (hA : Sl w B A (l.map u8v)) (hA' : Sl w B A' (ws.map i64v)) :
    Calls Tryz.prog 149 #[.slice A 256 c, .slice A' ws.length c'] w fun e w' =>
      ∃ g, e = .returned (.tuple #[.slice (some ⟨g, 0, none⟩) ws.length ws.length, .bool true]) ∧ w.heap.size ≤ g ∧ RowV w' g 47 ((unp (nats ws) (l.take (tot (nats ws)))).map u64v) ∧ Below w.heap.size w w' := by
  have HA := Lib.hid hA
  have HA' := Lib.hid hA'
  have HF := Lib.hid hf
  have HL := Lib.hid hl
  have HN := Lib.hid (nats_len ws)
  clear hA hA' hf hl
  go_enter Tryz.func149, Tryz.ntmps149
  go_wp2
  go_loop [6, 16] (fun s i => ∃ k : Nat, k ≤ ws.length ∧ i = .int .i64 k ∧ s = .int .i64 (tot ((nats ws).take k) : Nat)) (fun _ i => ws.length - (intOf i).toNat)
  case atStart => exact ⟨0, Nat.zero_le _, rfl, by simp [tot]⟩
  case round =>
    obtain ⟨k, hk, rfl, rfl⟩ := hrel
    by_cases hlt : k < ws.length
    · obtain ⟨a', rfl, _, hc'⟩ := HA'.out.i64 hlt
      have HT := Lib.hid (tot_next ws k hlt HF.out)
      have t1 := tot_take_le (nats ws) k
      have hx := HF.out ws[k] (List.getElem_mem hlt)
      obtain ⟨x0, x1⟩ := hx
      generalize ws[k] = x at *
      generalize tot ((nats ws).take k) = d at *
      go_wp2
      go_round
      case rel => exact ⟨k + 1, by omega, by go_num, by rw [HT.out]⟩
      case measure => simp [intOf]; omega
    · obtain rfl : k = ws.length := by omega
      rw [List.take_of_length_le (by rw [HN.out]; exact Nat.le_refl _)]
      have HU := Lib.hid (UnpackW_at (tot (nats ws)) (l.take (tot (nats ws))) (by rw [List.length_take, HL.out]; omega) ws B A A' c c' w hB HF.out (by rw [List.length_take, HL.out]; omega) (by omega) (by omega) (by rw [List.map_take]; exact HA.out.take _) HA'.out)
      generalize hd : tot (nats ws) = d at *
      have HD := Lib.hid hd
      clear hd
      go_wp2_with fail
      refine HU.out.mono ?_
      rintro e w1 ⟨g, rfl, hg, hR, hb⟩
      have HR := Lib.hid hR
      have HB := Lib.hid hb
      clear hR hb
      go_wp2
      go_ret2
      exact ⟨g, rfl, hg, by rw [HD.out]; exact HR.out, HB.out⟩
end Go.Proofs.YtgjcbfdhpbkhoaaGreatDoor.SRead
/- What Seal wrote is a seal, and no seal stands when one byte is turned. -/
namespace Go.Proofs.YtgjcbfdhpbkhoaaGreatDoor.WTurn
open WPlain WSeal WAny
theorem sealed_sealL (l : List UInt8) (seed : Nat) (h : 4 ≤ l.length) : sealB (sealL l seed) seed = true := by
  have hl := sealL_len l seed
  have hd : (dig 4 (crc seed (l.take (l.length - 4)))).length = 4 := dig_length _ _
  unfold sealB
  rw [hl]
  unfold sealL
  rw [if_pos h]
  have h1 := patch_part l (l.length - 4) (dig 4 (crc seed (l.take (l.length - 4)))) (by omega)
  rw [hd, List.take_of_length_le (by simp only [List.length_drop]; rw [patch_length _ _ _ (by omega)]; omega)] at h1
  have h2 := patch_apart l (l.length - 4) (dig 4 (crc seed (l.take (l.length - 4)))) (by omega) 0 (l.length - 4) (.inl (by omega))
  simp only [List.drop_zero] at h2
  rw [h1, h2, num_dig]
  have h3 := crc_lt seed (l.take (l.length - 4))
  rw [Nat.mod_eq_of_lt (by omega)]
  simp [h]
theorem num_inj (l r : List UInt8) (hl : l.length = r.length) (h : num l = num r) : l = r := by
  rw [← dig_num l, ← dig_num r, hl, h]
theorem turned (s : List UInt8) (seed i : Nat) (y : UInt8) (hs : sealB s seed = true) (hi : i < s.length) (hy : y ≠ s[i]) : sealB (s.set i y) seed = false := by
  unfold sealB at hs ⊢
  simp only [Bool.and_eq_true, decide_eq_true_eq, beq_iff_eq] at hs
  obtain ⟨h4, he⟩ := hs
  rw [List.length_set]
  simp only [Bool.and_eq_false_iff, decide_eq_false_iff_not, beq_eq_false_iff_ne]
  right
  by_cases hp : i < s.length - 4
  · rw [List.drop_set_of_lt hp, List.take_set]
    intro e
    rw [he] at e
    have hit : i < (s.take (s.length - 4)).length := by simp; omega
    have e3 : (s.take (s.length - 4))[i] = s[i] := by simp
    generalize s.take (s.length - 4) = t at *
    have e1 : t = t.take i ++ s[i] :: t.drop (i + 1) := by
      rw [← e3, ← List.drop_eq_getElem_cons hit, List.take_append_drop]
    have e2 : t.set i y = t.take i ++ y :: t.drop (i + 1) := by
      rw [List.set_eq_take_append_cons_drop, if_pos hit]
    refine crc_turned seed (t.take i) (t.drop (i + 1)) s[i] y (Ne.symm hy) ?_
    rw [← e1, ← e2]
    exact e
  · have e0 : (s.take (s.length - 4)).set i y = s.take (s.length - 4) := List.set_eq_of_length_le (by simp; omega)
    rw [List.take_set, e0, ← he]
    intro e
    have e1 := num_inj _ _ (by simp) e
    have e2 := congrArg (fun l => l[i - (s.length - 4)]?) e1
    simp only [List.getElem?_drop, List.getElem?_set] at e2
    rw [show s.length - 4 + (i - (s.length - 4)) = i by omega] at e2
    simp [hi] at e2
    exact hy e2
end Go.Proofs.YtgjcbfdhpbkhoaaGreatDoor.WTurn
/- The document's answers for seals. -/
namespace Go.Proofs.YtgjcbfdhpbkhoaaGreatDoor.WRefSeal
open Go.RowKit WMem WPlain WGive WGet WPut WAppend WHelp WFace WFace2 WCrc WPack WSeal WRef WAny
set_option maxHeartbeats 400000 in
theorem refSeal_any (l : List UInt8) (base : Nat) (v : Value) (seed : Nat) (w : World) (hs : seed < 4294967296) (hl : l.length ≤ 140737488355328) (hO : Own w base v l) :
    Calls Tryz.prog 24 #[v, .int .u32 seed] w fun e w' => e = .returned (.int .i64 (sealE l)) ∧ Own w' base v (sealL l seed) ∧ w.grownBy w' v.ownBlock := by
  have hll := sealL_len l seed
  revert hll
  unfold sealE sealL
  by_cases h : 4 ≤ l.length
  · rw [if_pos h, if_pos h]
    intro hll
    rcases hO with ⟨_, rfl⟩ | ⟨g, c, rest, rfl, hg, hc, hR⟩
    · simp at h
    obtain ⟨p, hp⟩ : ∃ p, l.length = p + 4 := ⟨l.length - 4, by omega⟩
    have hpl : (l.take p).length = p := by simp; omega
    have hpe : l.length - 4 = p := by omega
    have hcl := crc_lt seed (l.take p)
    have HC := Lib.hid (ref_crc seed (l.take p) _ (some ⟨g, 0, none⟩) c w hs (by omega) (by rw [List.map_take]; exact (hR.sl (B := w.heap.size) hR.lt).take p))
    rw [hpl] at HC
    have HP := Lib.hid hp
    have HR := Lib.hid hR
    have HLL := Lib.hid hll
    have d4 : decide ((p : Int) + 4 < 4) = false := by simp; omega
    rw [hpe] at HLL ⊢
    clear hpl hpe hR hll h
    rw [hp] at hc hl ⊢
    clear hp
    go_enter Tryz.func24, Tryz.ntmps24
    go_wp2_with fail
    refine HC.out.mono ?_
    rintro e w' ⟨rfl, rfl⟩
    go_wp2_with fail
    refine (refPut_ok (p + 4) l HP.out rest g c p 4 (crc seed (l.take p)) w (by omega) (by omega) (by omega) hl (by omega) HR.out).mono ?_
    rintro e w1 ⟨rfl, hR1, hG1⟩
    go_wp2
    go_ret
    exact ⟨rfl, .inr ⟨g, c, rest, by rw [HLL.out, HP.out], hg, by rw [HLL.out, HP.out]; exact hc, hR1⟩, hG1⟩
  · rw [if_neg h, if_neg h]
    intro _
    have hO' := Lib.hid hO
    obtain ⟨A, c, rfl, _, _⟩ := hO.sl
    have d4 : decide ((l.length : Int) < 4) = true := by simp; omega
    have d5 : decide (l.length < 4) = true := by simp; omega
    clear hO h
    go_enter Tryz.func24, Tryz.ntmps24
    go_wp2
    go_ret
    exact ⟨rfl, hO'.out, grown_refl _ _⟩
set_option maxHeartbeats 400000 in
theorem refSealed_any (l : List UInt8) (B : Nat) (A : Option Addr) (c seed : Nat) (w : World) (hs : seed < 4294967296) (hl : l.length ≤ 140737488355328) (hc : l.length ≤ c) (hA : Sl w B A (l.map u8v)) :
    Calls Tryz.prog 148 #[.slice A l.length c, .int .u32 seed] w fun e w' => e = .returned (.bool (sealB l seed)) ∧ w = w' := by
  by_cases h4 : 4 ≤ l.length
  · obtain ⟨p, hp⟩ : ∃ p, l.length = p + 4 := ⟨l.length - 4, by omega⟩
    have hpl : (l.take p).length = p := by simp; omega
    have hdl : (l.drop p).take 4 = l.drop p := List.take_of_length_le (by simp; omega)
    have HG := Lib.hid (refGet_ok l B A c p 4 w (by omega) (by omega) (by omega) hl hA)
    rw [hdl] at HG
    have HC := Lib.hid (ref_crc seed (l.take p) B A c w hs (by omega) (by rw [List.map_take]; exact hA.take p))
    rw [hpl] at HC
    have hB : sealB l seed = (num (l.drop p) == crc seed (l.take p)) := by simp [sealB, hp]
    have hcl := crc_lt seed (l.take p)
    have hnl := num_lt_u64 (l.drop p) (by simp; omega)
    rw [hB]
    have d4 : decide ((p : Int) + 4 < 4) = false := by simp; omega
    clear hpl hdl hA hB h4
    rw [hp] at HG hl hc ⊢
    clear hp
    generalize num (l.drop p) = x at *
    generalize crc seed (l.take p) = y at *
    have hxy : ((x : Int) == (y : Int)) = (x == y) := by rw [Bool.eq_iff_iff, beq_iff_eq, beq_iff_eq]; omega
    generalize (x == y) = r at *
    go_enter Tryz.func148, Tryz.ntmps148
    go_wp2_with fail
    refine HG.out.mono ?_
    rintro e w' ⟨rfl, rfl⟩
    go_wp2_with fail
    refine HC.out.mono ?_
    rintro e w' ⟨rfl, rfl⟩
    go_wp2
    go_ret
    exact ⟨rfl, rfl⟩
  · have hB : sealB l seed = false := by simp [sealB, h4]
    rw [hB]
    have d4 : decide ((l.length : Int) < 4) = true := by simp; omega
    have d5 : decide (l.length < 4) = true := by simp; omega
    clear hB h4 hA
    go_enter Tryz.func148, Tryz.ntmps148
    go_wp2
    go_ret
    exact ⟨rfl, rfl⟩
end Go.Proofs.YtgjcbfdhpbkhoaaGreatDoor.WRefSeal
/- The document's answers for lists of numbers: sum, Unpack, Pack; and two lists of numbers that are the same. -/
namespace Go.Proofs.YtgjcbfdhpbkhoaaGreatDoor.WRefList
open Go.RowKit WMem WPlain WGive WGet WPut WAppend WHelp WList WPack WUnpack WFace WFace2 WSeal WRef WAny WWide
theorem nat_get (ws : List Int) (hf : fineI ws) (k : Nat) (h : k < ws.length) : ws[k] = (((nats ws)[k]'(by rw [nats_len]; exact h) : Nat) : Int) := by
  have := hf ws[k] (List.getElem_mem h)
  simp only [nats, List.getElem_map]
  omega
set_option maxHeartbeats 400000 in
theorem refsum_ok (ws : List Int) (B : Nat) (A : Option Addr) (c : Nat) (w : World) (hf : fineI ws) (hl : ws.length ≤ 17592186044416) (hA : Sl w B A (ws.map i64v)) :
    Calls Tryz.prog 46 #[.slice A ws.length c] w fun e w' => e = .returned (.tuple #[.int .i64 (tot (nats ws) : Nat), .bool true]) ∧ w = w' := by
  have HF := Lib.hid hf
  have HA := Lib.hid hA
  clear hf hA
  go_enter Tryz.func46, Tryz.ntmps46
  go_wp2
  go_loop [4, 5] (fun v i => ∃ k : Nat, k ≤ ws.length ∧ i = .int .i64 k ∧ v = .int .i64 (tot ((nats ws).take k) : Nat)) (fun _ i => ws.length - (intOf i).toNat)
  case atStart => exact ⟨0, Nat.zero_le _, rfl, by simp [tot]⟩
  case round =>
    obtain ⟨k, hk, rfl, rfl⟩ := hrel
    by_cases hlt : k < ws.length
    · have hkn : k < (nats ws).length := by rw [nats_len]; exact hlt
      obtain ⟨a, rfl, hab, hc⟩ := HA.out.i64 hlt
      rw [nat_get ws HF.out k hlt] at hc
      obtain ⟨f1, f2⟩ := fine_get (nats_fine ws HF.out) hkn
      have t1 := tot_take_le (nats ws) k
      have t2 := (tot_le (nats ws) (nats_fine ws HF.out)).2
      rw [nats_len] at t2
      have HS := Lib.hid (tot_take_succ (nats ws) k hkn)
      generalize tot ((nats ws).take k) = d at *
      generalize tot (nats ws) = t at *
      generalize (nats ws)[k] = n at *
      clear hkn
      have e1 : decide ((n : Int) < 1) = false := by simp; omega
      have e2 : decide ((8 : Int) < (n : Int)) = false := by simp; omega
      go_wp2
      go_round
      case rel => exact ⟨k + 1, by omega, by go_num, by rw [HS.out]; go_num⟩
      case measure => simp [intOf]; omega
    · obtain rfl : k = ws.length := by omega
      have he : (nats ws).take ws.length = nats ws := List.take_of_length_le (by rw [nats_len]; exact Nat.le_refl _)
      rw [he]
      clear he
      go_wp2
      go_ret2
      exact ⟨rfl, rfl⟩
end Go.Proofs.YtgjcbfdhpbkhoaaGreatDoor.WRefList
