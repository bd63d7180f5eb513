/- The document's Same, of two records that are alike. -/
import Derived.Test.YtgegmoejhnjhjaaDoorJMem
import Derived.Laws.StructEq
import Derived.WalkKit
import Derived.WalkSpells
import Derived.WalkLawsBesides
import Derived.Handy
import Derived.Outline
import Derived.BigQuiet
namespace Go.Proofs.YtgegmoejhnjhjaaDoor.JRSame
open Go.RowKit WMem WPlain JPlain JMem

theorem ent_neq (b : Int) (q : Bool) (w : World) : (binOp .neq 69 (.agg #[.int .i64 b, .bool q]) (.agg #[.int .i64 b, .bool q])).run Tryd.prog w = .ok (.bool false) w := by
  have hf : (Tryd.prog.fieldsOf 69).toList.map (fun f => (f.name, f.type, f.offset)) = [("Block", 3, 0), ("Escaped", 4, 1)] := by kernel_rfl
  have h0 : (part 3 #[.int .i64 b, .bool q] 0).run Tryd.prog w = .ok (.int .i64 b) w := run_part_plain (P := Tryd.prog) w (by kernel_rfl) rfl
  have h1 : (part 4 #[.int .i64 b, .bool q] 1).run Tryd.prog w = .ok (.bool q) w := run_part_plain (P := Tryd.prog) w (by kernel_rfl) rfl
  have e0 : (Op.equalIn 9999 3 (.int .i64 b) (.int .i64 b)).run Tryd.prog w = .ok true w := by
    rw [run_equalIn_int w 9998 3 .i64 .i64 _ _ (by kernel_rfl)]; simp
  have e1 : (Op.equalIn 9999 4 (.bool q) (.bool q)).run Tryd.prog w = .ok true w := by
    rw [run_equalIn_bool' w 9998 4 _ _ (by kernel_rfl)]; simp
  rw [run_neq_struct, run_equalIn_agg w 9999 _ _ _ (by kernel_rfl) (by kernel_rfl)]
  generalize (Tryd.prog.fieldsOf 69).toList = L at *
  obtain ⟨f0, f1, rfl⟩ : ∃ f0 f1, L = [f0, f1] := by
    have hl := congrArg List.length hf
    simp only [List.length_map, List.length_cons, List.length_nil, Nat.zero_add, Nat.reduceAdd] at hl
    obtain ⟨f0, L1, rfl⟩ := List.exists_cons_of_length_eq_add_one hl
    obtain ⟨f1, L2, rfl⟩ := List.exists_cons_of_length_eq_add_one (Nat.succ.inj hl)
    exact ⟨f0, f1, by rw [List.eq_nil_of_length_eq_zero (Nat.succ.inj (Nat.succ.inj hl))]⟩
  · simp only [List.map_cons, List.map_nil, List.cons.injEq, Prod.mk.injEq, and_true] at hf
    obtain ⟨⟨g0, g1, g2⟩, g3, g4, g5⟩ := hf
    simp only [Op.eqFields, g0, g1, g2, g3, g4, g5, h0, h1, e0, e1, Sem.run_bind, Result.andThen_ok, Bool.not_true, Bool.false_eq_true, if_false, Sem.run_pure, if_true, ne_eq, String.reduceEq, not_false_eq_true]
def two (r : Rec) (A A' : Option Addr) (n c c' : Nat) (w : World) : World := (w.alloc (.cells #[.int .i64 r.kind, .int .i64 r.seq, .slice A n c, .int .u32 (r.sum : Int), .int .i64 r.start] 25)).alloc (.cells #[.int .i64 r.kind, .int .i64 r.seq, .slice A' n c', .int .u32 (r.sum : Int), .int .i64 r.start] 25)
set_option maxRecDepth 100000 in
set_option maxHeartbeats 4000000 in
theorem refSame_yes (r : Rec) (B B' : Nat) (A A' : Option Addr) (c c' : Nat) (w : World) (hB : B ≤ w.heap.size) (hB' : B' ≤ w.heap.size) (hA : Ents w B A r.ents) (hA' : Ents w B' A' r.ents) (hl : r.ents.length ≤ 140737488355328) :
    Calls Tryd.prog 17 #[recV r A c, recV r A' c'] w fun e w' => e = .returned (.bool true) ∧ Below w.heap.size w w' := by
  unfold recV
  generalize hn : r.ents.length = n at *
  have HN := Lib.hid hn
  have HA := Lib.hid ((hA.alloc hB (.cells #[.int .i64 r.kind, .int .i64 r.seq, .slice A n c, .int .u32 (r.sum : Int), .int .i64 r.start] 25)).alloc (by simp; omega) (.cells #[.int .i64 r.kind, .int .i64 r.seq, .slice A' n c', .int .u32 (r.sum : Int), .int .i64 r.start] 25))
  have HA' := Lib.hid ((hA'.alloc hB' (.cells #[.int .i64 r.kind, .int .i64 r.seq, .slice A n c, .int .u32 (r.sum : Int), .int .i64 r.start] 25)).alloc (by simp; omega) (.cells #[.int .i64 r.kind, .int .i64 r.seq, .slice A' n c', .int .u32 (r.sum : Int), .int .i64 r.start] 25))
  have HB := Lib.hid (((below_box (w := w) (.cells #[.int .i64 r.kind, .int .i64 r.seq, .slice A n c, .int .u32 (r.sum : Int), .int .i64 r.start] 25)).alloc (by simp) (.cells #[.int .i64 r.kind, .int .i64 r.seq, .slice A' n c', .int .u32 (r.sum : Int), .int .i64 r.start] 25)))
  clear hA hA' hn
  have hq := ent_neq
  go_enter Tryd.func17, Tryd.ntmps17
  go_wp2
  go_loopw [5] (fun i wr => ∃ k m : Nat, k ≤ n ∧ i = .int .i64 k ∧ wr = (two r A A' n c c' w).drewN m) (fun i _ => n - (intOf i).toNat)
  case atStart => exact ⟨0, 0, Nat.zero_le _, rfl, rfl⟩
  case round =>
    obtain ⟨k, m, hk, rfl, rfl⟩ := hrel
    unfold two
    by_cases hlt : k < n
    · have hlt' : k < r.ents.length := by rw [HN.out]; exact hlt
      obtain ⟨a, rfl, _, c0, c1⟩ := HA.out.at_ hlt'
      obtain ⟨a', rfl, _, c0', c1'⟩ := HA'.out.at_ hlt'
      generalize hx : r.ents[k] = x at *
      obtain ⟨b, q⟩ := x
      clear hx hlt'
      go_wp2
      go_quiet (fail)
      go_wp2
      go_roundw
      case rel => exact ⟨k + 1, m + nq, by omega, by go_num, rfl⟩
      case measure => simp [intOf]; omega
    · go_wp2
      go_ret
      exact ⟨rfl, below_drewN HB.out m⟩
end Go.Proofs.YtgegmoejhnjhjaaDoor.JRSame
