/- The law BitsFinds. -/
import Derived.Test.YtlpipnpcgancmaaDoorTAwake
import Derived.Test.YtlpipnpcgancmaaDoorTRefFind
import Derived.ChangeKeysEq
import Derived.Laws.StructEq
namespace Go.Proofs.YtlpipnpcgancmaaDoor.TFinds
open Go.RowKit WMem WPlain WAppend WCrc WSeal WAny TPlain TBits TSet TWalk TOrd TCut TBud TTurn TFace TTurnF TSame TFind TRefSum TRefFind TAwake

theorem arrC_at (f : Nat → Nat) {i : Nat} (hi : i < 11) : (arrC f)[i]? = some (.int .i64 (f i : Nat)) := by
  show (vals f 11).toArray[i]? = _
  rw [List.getElem?_toArray]
  exact vals_at f hi
theorem items_same (f : Nat → Nat) (w : World) : ∀ is : List Nat, (∀ i ∈ is, i < 11) → (Op.eqItems 9999 3 1 (arrC f) (arrC f) is).run Tryd.prog w = .ok true w
  | [], _ => by simp [Op.eqItems]
  | i :: is, h => by
    have h1 : (part 3 (arrC f) (i * 1)).run Tryd.prog w = .ok (.int .i64 (f i : Nat)) w := run_part_plain (P := Tryd.prog) w (by kernel_rfl) (by rw [Nat.mul_one]; exact arrC_at f (h i (by simp)))
    have h2 : (Op.equalIn 9999 3 (.int .i64 (f i : Nat)) (.int .i64 (f i : Nat))).run Tryd.prog w = .ok true w := by
      rw [run_equalIn_int w 9998 3 .i64 .i64 _ _ (by kernel_rfl)]
      simp
    simp only [Op.eqItems, Sem.run_bind, h1, h2, Result.andThen_ok, Bool.not_true, Bool.false_eq_true, if_false]
    exact items_same f w is fun j hj => h j (by simp [hj])
theorem eql_arr (f : Nat → Nat) (w : World) : (binOp .eql 38 (arr f) (arr f)).run Tryd.prog w = .ok (.bool true) w := by
  obtain ⟨i, h1, h2, h3, h4⟩ := info_parts (P := Tryd.prog) (e := 3) (z := .int .i64 0) (size := 1) (bytes := 8) (by kernel_rfl)
  have hc : Tryd.prog.cellsOf 3 = 1 := by kernel_rfl
  show (binOp .eql 38 (.agg (arrC f)) (.agg (arrC f))).run Tryd.prog w = _
  rw [run_eql_struct, run_equalIn_array (w := w) 9999 _ _ underA h1, hc, items_same f w _ (fun i hi => by simpa using hi)]
  rfl
theorem guard_arr (f : Nat → Nat) (x y : Operand) (w : World) : (eqGuard .eql 38 x y (arr f) (arr f)).run Tryd.prog w = .ok () w :=
  run_eqGuard_agg w .eql 38 x y _ _ (by kernel_rfl)
section
variable (l : List UInt8) (B : Nat) (A : Option Addr) (c : Nat) (goal want : Int) (w : World)
set_option maxHeartbeats 1000000 in
set_option maxRecDepth 100000 in
theorem finds_any (f : Nat → Nat) (hf : ordN l = f) (x y : Int) (q : Bool) (hv : findV l goal want = .tuple #[.int .i64 x, .int .i64 y, .bool q]) (z : Nat) (hz : zeros l = z) (hw : want ≤ 9223372036854775807) (hl : l.length ≤ 140737488355328) (hB : B ≤ w.heap.size) (hA : Sl w B A (l.map u8v)) (hT : Tab w) :
    Calls Tryd.prog 4 #[.slice A l.length c, .int .i64 goal, .int .i64 want] w fun e w' => e = .returned (.bool true) ∧ Below w.heap.size w w' := by
  obtain ⟨len, hlen⟩ : ∃ len, l.length = len := ⟨_, rfl⟩
  have ht := Tab.lt hT
  have HL := Lib.hid hlen
  have HA := Lib.hid hA
  have HB := Lib.hid hB
  have HT := Lib.hid hT
  have HV := Lib.hid hv
  have HF := Lib.hid hf
  have HZ := Lib.hid hz
  have heq := eql_arr f
  have hgd := guard_arr f
  rw [hlen] at hl ⊢
  clear hlen hA hB hT hv hf hz
  go_enter Tryd.func4, Tryd.ntmps4
  go_wp2_with fail
  refine (awake_any w HT.out).mono ?_
  rintro e w1 ⟨rfl, hb1⟩
  have B1 := Lib.hid hb1
  have s1 := hb1.size
  have S1 := Lib.hid (HA.out.below_le hb1 HB.out)
  clear hb1
  go_wp2_with fail
  refine (Find_any l len HL.out B A c goal want w1 (by have := HB.out; omega) hl S1.out).mono ?_
  rintro e w2 ⟨rfl, hb2⟩
  rw [HV.out]
  have B2 := Lib.hid (B1.out.trans (hb2.mono s1))
  have s2 := B2.out.size
  have S2 := Lib.hid (HA.out.below_le B2.out HB.out)
  clear hb2
  go_wp2_with fail
  refine (refFind_any l len HL.out B A c goal want w2 hw hl S2.out).mono ?_
  rintro e w3 ⟨rfl, hb3⟩
  rw [HV.out]
  have B3 := Lib.hid (B2.out.trans (hb3.mono s2))
  have s3 := B3.out.size
  have S3 := Lib.hid (HA.out.below_le B3.out HB.out)
  have Z1 := Lib.hid (Zeros_any l len HL.out B A c w3 hl S3.out)
  have Z2 := Lib.hid (refZeros_any l len HL.out B A c w3 hl S3.out)
  rw [HZ.out] at Z1 Z2
  have O1 := Lib.hid (Orders_any l len HL.out B A c w3 (by have := HB.out; omega) hl S3.out)
  rw [HF.out] at O1
  clear hb3
  go_wp2_with (first
    | (go_at_call 23; refine Z1.out.mono ?_; rintro e w' ⟨rfl, rfl⟩)
    | (go_at_call 24; refine Z2.out.mono ?_; rintro e w' ⟨rfl, rfl⟩)
    | (go_at_call 25; refine O1.out.mono ?_; rintro e w4 ⟨rfl, hb4⟩
       have B4 := Lib.hid (B3.out.trans (hb4.mono s3))
       have s4 := B4.out.size
       have S4 := Lib.hid (HA.out.below_le B4.out HB.out)
       have O2 := Lib.hid (refOrders_any l len HL.out B A c w4 (by have := HB.out; omega) hl S4.out)
       rw [HF.out] at O2
       clear hb4)
    | (go_at_call 26; refine O2.out.mono ?_; rintro e w5 ⟨rfl, hb5⟩
       have B5 := Lib.hid (B4.out.trans (hb5.mono s4))
       clear hb5))
  go_ret
  exact ⟨rfl, B5.out⟩
theorem finds (hw : want ≤ 9223372036854775807) (hl : l.length ≤ 140737488355328) (hB : B ≤ w.heap.size) (hA : Sl w B A (l.map u8v)) (hT : Tab w) :
    Calls Tryd.prog 4 #[.slice A l.length c, .int .i64 goal, .int .i64 want] w fun e w' => e = .returned (.bool true) ∧ Below w.heap.size w w' :=
  finds_any l B A c goal want w _ rfl _ _ _ rfl _ rfl hw hl hB hA hT
end
end Go.Proofs.YtlpipnpcgancmaaDoor.TFinds
