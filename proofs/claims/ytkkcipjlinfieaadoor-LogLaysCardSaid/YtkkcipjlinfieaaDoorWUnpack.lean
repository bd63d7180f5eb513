/- Lists of numbers, each in its width: the program's inner call unpack. -/
import Derived.Test.YtkkcipjlinfieaaDoorWPack
namespace Go.Proofs.YtkkcipjlinfieaaDoor.WUnpack
open Go.RowKit WMem WPlain WGive WGet WPut WAppend WHelp WList WPack

/-- numbers of nought -/
def znums (n : Nat) : Array Value := (List.replicate n (Value.int .u64 0)).toArray
theorem make_nums (n : Nat) (hn : n ≤ 17592186044416) (w : World) : (Instr.makeSlice 72 (.int .i64 (n : Int)) (.int .i64 (n : Int))).run Tryd.prog w = .ok (.slice (some ⟨w.heap.size, 0, none⟩) n n) (w.alloc (.cells (znums n) 66)) := by
  obtain ⟨i, h1, h2, h3, h4⟩ := info_parts (P := Tryd.prog) (e := 66) (z := .int .u64 0) (size := 1) (bytes := 8) (by kernel_rfl)
  have h := run_make (P := Tryd.prog) w 72 66 i (.int .u64 0) (by kernel_rfl) h1 h2 .i64 .i64 n n (by omega) (by omega) (by rw [h4]; omega) (by omega)
  rw [h]
  simp only [Int.toNat_natCast, h3, Nat.mul_one]
  rw [znums, ← made_one]
  rfl
/-- what lies in the row when k numbers are read -/
def some_ (ns : List Nat) (b : List UInt8) (k : Nat) : List Value := ((unp ns b).take k).map u64v ++ List.replicate (ns.length - k) (Value.int .u64 0)
theorem some_zero (ns : List Nat) (b : List UInt8) : some_ ns b 0 = List.replicate ns.length (Value.int .u64 0) := by simp [some_]
theorem some_all (ns : List Nat) (b : List UInt8) : some_ ns b ns.length = (unp ns b).map u64v := by
  rw [some_, List.take_of_length_le (by rw [unp_length]; exact Nat.le_refl _)]; simp
theorem some_len (ns : List Nat) (b : List UInt8) (k : Nat) (h : k ≤ ns.length) : (some_ ns b k).length = ns.length := by simp [some_, unp_length]; omega
theorem some_next (ns : List Nat) (b : List UInt8) (k : Nat) (h : k < ns.length) (hf : fine ns) : (some_ ns b k).set k (Value.int .u64 (num ((b.drop (tot (ns.take k))).take ns[k]) : Nat)) = some_ ns b (k + 1) := by
  have hn := fine_get hf h
  have e : u64v ((unp ns b)[k]'(by rw [unp_length]; exact h)) = Value.int .u64 (num ((b.drop (tot (ns.take k))).take ns[k]) : Nat) := by
    rw [unp_get ns b k h, u64v, num_u64 _ (by simp; omega)]
  rw [← e]
  unfold some_
  have hl : (((unp ns b).take k).map u64v).length = k := by simp [unp_length]; omega
  rw [List.set_append_right _ _ (by omega), hl, Nat.sub_self]
  rw [show ns.length - k = (ns.length - (k + 1)) + 1 by omega, List.replicate_succ, List.set_cons_zero]
  rw [List.take_succ_eq_append_getElem (by rw [unp_length]; exact h), List.map_append, List.append_assoc]
  rfl

set_option maxHeartbeats 1000000 in
theorem unpack_ok (ns : List Nat) (b : List UInt8) (B : Nat) (A A' : Option Addr) (c c' : Nat) (w : World) (hB : B ≤ w.heap.size) (hf : fine ns) (ht : tot ns = b.length) (hl : b.length ≤ 140737488355328) (hl' : ns.length ≤ 17592186044416)
    (hA : Sl w B A (b.map u8v)) (hA' : Sl w B A' (ns.map natv)) :
    Calls Tryd.prog 67 #[.slice A b.length c, .slice A' ns.length c'] w fun e w' =>
      e = .returned (.slice (some ⟨w.heap.size, 0, none⟩) ns.length ns.length) ∧ RowV w' w.heap.size 66 ((unp ns b).map u64v) ∧ Below w.heap.size w w' ∧ w.heap.size < w'.heap.size := by
  have hmk := make_nums ns.length hl'
  have HF := Lib.hid hf
  have HA := Lib.hid hA
  have HA' := Lib.hid hA'
  have HT := Lib.hid ht
  clear hf hA hA' ht
  go_enter Tryd.func67, Tryd.ntmps67
  go_wp2
  clear hmk
  go_loopw [6, 14] (fun v i wr => ∃ k : Nat, k ≤ ns.length ∧ i = .int .i64 k ∧ v = .int .i64 (tot (ns.take k) : Nat) ∧ RowV wr w.heap.size 66 (some_ ns b k) ∧ Below w.heap.size w wr) (fun _ i _ => ns.length - (intOf i).toNat)
  case atStart => exact ⟨0, Nat.zero_le _, rfl, by simp [tot], by rw [some_zero]; exact row_new _ _, (Below.refl _ _).alloc (Nat.le_refl _) _⟩
  case round =>
    obtain ⟨k, hk, rfl, rfl, hR, hb⟩ := hrel
    have HR := Lib.hid hR
    have HB := Lib.hid hb
    clear hR hb
    by_cases hlt : k < ns.length
    · obtain ⟨a', rfl, hab', hc'⟩ := (HA'.out.below_le HB.out hB).nat hlt
      obtain ⟨f1, f2⟩ := fine_get HF.out hlt
      have t3 := tot_take_le ns (k + 1)
      rw [tot_take_succ ns k hlt, HT.out] at t3
      have HS := Lib.hid (tot_take_succ ns k hlt)
      have HP := Lib.hid (some_next ns b k hlt HF.out)
      have hsl := some_len ns b k hk
      have hcx := HR.out.cell (i := k) (by omega)
      have hfx := HR.out.free k
      generalize (some_ ns b k)[k] = old at hcx
      have HL := Lib.hid hsl
      clear hsl
      generalize tot (ns.take k) = d at *
      generalize ns[k] = n at *
      generalize some_ ns b k = pt at *
      go_wp2_with (go_at_call 46; refine (get_ok b B A c d n _ f1 f2 t3 hl (HA.out.below_le HB.out hB)).mono ?_; rintro e w1 ⟨rfl, rfl⟩)
      go_roundw
      case rel =>
        refine ⟨k + 1, by omega, by go_num, by rw [HS.out]; go_num, by rw [← HP.out]; exact HR.out.set k _, HB.out.setCell (Nat.le_refl _) _⟩
      case measure => simp [intOf]; omega
    · obtain rfl : k = ns.length := by omega
      go_wp2
      go_ret
      exact ⟨rfl, by rw [← some_all]; exact HR.out, HB.out, HR.out.lt⟩
end Go.Proofs.YtkkcipjlinfieaaDoor.WUnpack
