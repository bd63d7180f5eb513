/- The numbers and the widths of a record, laid by the program. -/
import Derived.Test.YtmlgchmladkfpaaGreatDoorMg27
import Derived.Test.YtmlgchmladkfpaaGreatDoorMg26
import Derived.Test.YtmlgchmladkfpaaGreatDoorMg24
import Derived.Test.YtmlgchmladkfpaaGreatDoorMg23
import Derived.Test.YtmlgchmladkfpaaGreatDoorMg6
import Derived.Deep.AppendLies
import Derived.Deep.RegionHeld3
import Derived.Deep.RegionLaw
namespace Go.Proofs.YtmlgchmladkfpaaGreatDoor.JBody
open Go.RowKit WMem WPlain WList WPack WHelp WAppend WWide SNums JPlain JMem JMay JMul JWide

theorem sl_new {w : World} {g : Nat} (hg : w.heap.size = g) (cs : List Value) (T : TypeId) : Sl (w.alloc (.cells cs.toArray T)) (g + 1) (some ⟨g, 0, none⟩) cs := by
  subst hg
  exact Sl.of_row (n := cs.length) (row_new _ _) (by omega) (by simp)
theorem headWidths_any (w : World) : Calls Tryz.prog 130 #[] w fun e w' => e = .returned (.slice (some ⟨w.heap.size, 0, none⟩) 4 4) ∧ RowV w' w.heap.size 3 (headW.map i64v) ∧ Below w.heap.size w w' := by
  go_enter Tryz.func130, Tryz.ntmps130
  go_wp2
  go_ret
  exact ⟨rfl, row_new _ _, below_box _⟩
theorem alt_next (i : Nat) : alt (2 + i) = alt i := by unfold alt; rw [show (2 + i) % 2 = i % 2 by omega]
theorem pre_alt (n : Nat) : pre alt (2 * n) = (bodyW 1 n).map i64v := by
  unfold pre bodyW
  rw [if_pos rfl, List.map_map]
  rfl
theorem pre_four (n : Nat) : pre (fun _ => 4) n = (bodyW 3 n).map i64v := by
  unfold pre bodyW
  rw [if_neg (by decide), if_pos rfl]
  apply List.ext_getElem
  · simp
  · intro i h1 h2
    simp [i64v]
/-- the widths of what stands behind the head -/
theorem bodyWidths_any (kind : Int) (n : Nat) (h : hasOk kind n = true) (w : World) : Calls Tryz.prog 131 #[.int .i64 kind, .int .i64 (n : Int)] w fun e w' =>
    ∃ g, e = .returned (.slice (some ⟨g, 0, none⟩) (bodyW kind n).length (bodyW kind n).length) ∧ w.heap.size ≤ g ∧ RowV w' g 3 ((bodyW kind n).map i64v) ∧ Below w.heap.size w w' := by
  rcases hasOk_cases h with ⟨rfl, h1, h2⟩ | ⟨rfl, h1, h2⟩ | ⟨rfl, rfl⟩ | ⟨rfl, rfl⟩
  · have hl : (bodyW 1 n).length = 2 * n := by simp [bodyW]
    rw [hl, ← pre_alt]
    clear h
    go_enter Tryz.func131, Tryz.ntmps131
    go_wp2_with fail
    refine (Repeat_any alt 2 n (by omega) (by omega) alt_next h1 (by omega) w.heap.size 2 _ (row_new w _)).mono ?_
    rintro e w1 ⟨rfl, hR, hb⟩
    rw [show (w.alloc (.cells (pre alt 2).toArray 3)).heap.size = w.heap.size + 1 by simp] at hR
    have HR := Lib.hid hR
    have HB := Lib.hid (below_box_to hb)
    clear hR hb
    go_wp2
    go_ret
    exact ⟨_, rfl, by simp, HR.out, HB.out⟩
  · have hl : (bodyW 3 n).length = n := by simp [bodyW]
    rw [hl, ← pre_four]
    clear h
    go_enter Tryz.func131, Tryz.ntmps131
    go_wp2_with fail
    refine (Repeat_any (fun _ => 4) 1 n (by omega) (by omega) (fun _ => rfl) h1 (by omega) w.heap.size 1 _ (row_new w _)).mono ?_
    rintro e w1 ⟨rfl, hR, hb⟩
    rw [Nat.one_mul] at hR ⊢
    rw [show (w.alloc (.cells (pre (fun _ => 4) 1).toArray 3)).heap.size = w.heap.size + 1 by simp] at hR
    have HR := Lib.hid hR
    have HB := Lib.hid (below_box_to hb)
    clear hR hb
    go_wp2
    go_ret
    exact ⟨_, rfl, by simp, HR.out, HB.out⟩
  · go_enter Tryz.func131, Tryz.ntmps131
    go_wp2
    go_ret
    exact ⟨w.heap.size, rfl, Nat.le_refl _, row_new _ _, below_box _⟩
  · go_enter Tryz.func131, Tryz.ntmps131
    go_wp2
    go_ret
    exact ⟨w.heap.size, rfl, Nat.le_refl _, row_new _ _, below_box _⟩
theorem oneIf_any (q : Bool) (w : World) : Calls Tryz.prog 173 #[.bool q] w fun e w' => e = .returned (.int .u64 (((if q then 1 else 0 : Nat) : Nat) : Int)) ∧ w = w' := by
  cases q with
  | false =>
    go_enter Tryz.func173, Tryz.ntmps173
    go_wp2
    go_ret
    exact ⟨rfl, rfl⟩
  | true =>
    go_enter Tryz.func173, Tryz.ntmps173
    go_wp2
    go_ret
    exact ⟨rfl, rfl⟩
theorem info64 : (Tryz.prog.info? 183).map (fun i => (i.zero, i.size, i.bytes)) = some (some (.int .u64 0), 1, 8) := by kernel_rfl
theorem under64 : Tryz.prog.underlying 182 = some (.slice 183) := by kernel_rfl
theorem u64_of {x : Nat} (h : x < 18446744073709551616) : u64v (UInt64.ofNat x) = .int .u64 (x : Int) := by
  unfold u64v
  rw [ofNat_of h]
def esc01 (q : Bool) : Nat := if q then 1 else 0
/-- one entry more -/
theorem ent2s_more (l : List Ent) (k : Nat) (h : k < l.length) (b : Nat) (q : Bool) (hx : l[k] = ⟨b, q⟩) (hb : b < 65536) :
    (nums ((l.take (k + 1)).flatMap ent2)).map u64v = (nums ((l.take k).flatMap ent2)).map u64v ++ [.int .u64 (b : Int), .int .u64 (esc01 q : Int)] := by
  rw [List.take_succ_eq_append_getElem h, hx]
  simp only [List.flatMap_append, List.flatMap_cons, List.flatMap_nil, List.append_nil, nums, List.map_append, ent2, List.map_cons, List.map_nil, Int.toNat_natCast]
  rw [u64_of (by omega)]
  have : (if q = true then 1 else 0) = esc01 q := rfl
  rw [this, u64_of (by unfold esc01; split <;> omega)]
theorem ent1s_more (l : List Ent) (k : Nat) (h : k < l.length) (b : Nat) (q : Bool) (hx : l[k] = ⟨b, q⟩) (hb : b < 65536) :
    (nums ((l.take (k + 1)).map (·.blk.toNat))).map u64v = (nums ((l.take k).map (·.blk.toNat))).map u64v ++ [.int .u64 (b : Int)] := by
  rw [List.take_succ_eq_append_getElem h, hx]
  simp only [nums, List.map_append, List.map_cons, List.map_nil, Int.toNat_natCast]
  rw [u64_of (by omega)]
set_option maxRecDepth 100000 in
set_option maxHeartbeats 4000000 in
theorem body_1 (seq : Int) (l : List Ent) (sum : Nat) (start : Int) (h2 : l.length ≤ 48) (hall : ∀ x ∈ l, blkOk x = true) (B : Nat) (A : Option Addr) (c : Nat) (w : World) (hB : B ≤ w.heap.size) (hA : Ents w B A l) :
    Calls Tryz.prog 128 #[.agg #[.int .i64 1, .int .i64 seq, .slice A l.length c, .int .u32 (sum : Int), .int .i64 start]] w fun e w' =>
      ∃ v, e = .returned v ∧ w'.ownsRow w.heap.size 183 1 v (2 * l.length) ((nums (l.flatMap ent2)).map u64v) ∧ Below w.heap.size w w' := by
  have HA := Lib.hid hA
  have HALL := Lib.hid hall
  obtain ⟨i0, hi0, hz0, hz1, hz2⟩ := info_parts info64
  clear hA hall
  go_enter Tryz.func128, Tryz.ntmps128
  go_wp2
  go_loopw [3, 15] (fun v i wr => ∃ k : Nat, k ≤ l.length ∧ i = .int .i64 k ∧ wr.ownsRow w.heap.size 183 1 v (2 * k) ((nums ((l.take k).flatMap ent2)).map u64v) ∧ Below w.heap.size w wr) (fun _ i _ => l.length - (intOf i).toNat)
  case atStart => exact ⟨0, Nat.zero_le _, rfl, by simpa [nums] using World.ownsRow_nil _ w.heap.size 183 1, below_box _⟩
  case round =>
    obtain ⟨k, hk, rfl, ho, hb⟩ := hrel
    have HO := Lib.hid ho
    have HB := Lib.hid hb
    have sB := hb.size
    clear ho hb
    by_cases hlt : k < l.length
    · obtain ⟨a, rfl, hab, c0, c1⟩ := (HA.out.below HB.out hB).at_ hlt
      have hbk := blkOk_iff.1 (HALL.out l[k] (List.getElem_mem hlt))
      have HX := Lib.hid (ent2s_more l k hlt)
      generalize hx : l[k] = x at *
      obtain ⟨b, q⟩ := x
      simp only at hbk c0 c1
      obtain ⟨b, rfl⟩ := Int.eq_ofNat_of_zero_le hbk.1
      have hb2 : b < 65536 := by omega
      have HXX := Lib.hid (HX.out b q rfl hb2)
      have s0 : IntKind.u64.wrap (b : Int) = (b : Int) := by rw [IntKind.wrap_u64]; omega
      clear hbk
      have HO1 := Lib.hid (HO.out.alloc (.cells #[.int .i64 (b : Int), .bool q] 223))
      have HB1 := Lib.hid (HB.out.alloc sB (.cells #[.int .i64 (b : Int), .bool q] 223))
      have e0 : (wr.alloc (.cells #[.int .i64 (b : Int), .bool q] 223)).cell? ⟨wr.heap.size, 0, none⟩ = some (.int .i64 (b : Int)) := (row_cell (row_new _ _) 0).trans rfl
      have e1 : (wr.alloc (.cells #[.int .i64 (b : Int), .bool q] 223)).cell? ⟨wr.heap.size, 1, none⟩ = some (.bool q) := (row_cell (row_new _ _) 1).trans rfl
      have hs1 : w.heap.size ≤ (wr.alloc (.cells #[.int .i64 (b : Int), .bool q] 223)).heap.size := by simp; omega
      go_wp2_with fail
      generalize (wr.alloc (.cells #[.int .i64 (b : Int), .bool q] 223)) = W1 at *
      have HNEW : Hid ((W1.alloc (.cells #[.int .u64 (b : Int), .int .u64 (esc01 q : Int)] 183)).drew.heap[W1.heap.size]? = some (.cells #[.int .u64 (b : Int), .int .u64 (esc01 q : Int)] 183 (0, 0))) := Lib.hid (row_new W1 _)
      have HS0 : Hid (W1.drew.cell? ⟨wr.heap.size, 0, none⟩ = some (.int .i64 (b : Int)) ∧ W1.drew.cell? ⟨wr.heap.size, 1, none⟩ = some (.bool q)) := Lib.hid ⟨e0, e1⟩
      go_region_law
        ((first
          | (refine step_append_lies _ (by rfl) _ _ _ (by rfl) w.heap.size 183 i0 _ 1 8 under64 hi0 hz0 hz1 hz2 rfl (by omega) u3 (2 * k) _ (by rfl) ((HO1.out.alloc _).drew) ⟨W1.heap.size, 0, none⟩ 2 2 [.int .u64 (b : Int), .int .u64 (esc01 q : Int)] (by rfl) (by rfl) (World.news_of_block (cs := #[.int .u64 (b : Int), .int .u64 (esc01 q : Int)]) (t := 183) (fr := (0, 0)) HNEW.out) (by simp [Value.oneCell']) (by omega) (by unfold maxLen; omega) (by omega) (by simp; omega) (W1.heap.size + 1) (by simp) ?_; intro gg cap w1 hown1 hgrow hat hlt2)
          | (go_simp; go_at_call 173; refine (oneIf_any q _).mono ?_; rintro e w' ⟨rfl, rfl⟩)))
      all_goals
        have HOF := Lib.hid hown1
        have HBF : Hid (Below w.heap.size w w1) := Lib.hid ((HB1.out.alloc hs1 _).drew.grown hgrow (by simp; omega) (fun q hq => (HO1.out.lt q hq).1))
        clear hown1 hgrow hat hlt2 HNEW HS0
        go_wp2
        go_roundw
        case rel =>
          refine ⟨k + 1, by omega, by go_num, ?_, HBF.out⟩
          rw [HXX.out, show 2 * (k + 1) = 2 * k + 2 by omega]
          exact HOF.out
        case measure => simp [intOf]; omega
    · obtain rfl : k = l.length := by omega
      have HF : Hid (wr.ownsRow w.heap.size 183 1 u3 (2 * l.length) ((nums (l.flatMap ent2)).map u64v)) := Lib.hid (by
        have h := HO.out
        rwa [List.take_length] at h)
      go_wp2
      go_ret
      exact ⟨_, rfl, HF.out, HB.out⟩
theorem one_of (x : Int) : ∀ u ∈ ([.int .u64 x] : List Value), u.oneCell' = true := by simp [Value.oneCell']
set_option maxHeartbeats 4000000 in
theorem body_3 (seq : Int) (l : List Ent) (sum : Nat) (start : Int) (h2 : l.length ≤ 60) (hall : ∀ x ∈ l, blkOk x = true) (B : Nat) (A : Option Addr) (c : Nat) (w : World) (hB : B ≤ w.heap.size) (hA : Ents w B A l) :
    Calls Tryz.prog 128 #[.agg #[.int .i64 3, .int .i64 seq, .slice A l.length c, .int .u32 (sum : Int), .int .i64 start]] w fun e w' =>
      ∃ v, e = .returned v ∧ w'.ownsRow w.heap.size 183 1 v l.length ((nums (l.map (·.blk.toNat))).map u64v) ∧ Below w.heap.size w w' := by
  have HA := Lib.hid hA
  have HALL := Lib.hid hall
  clear hA hall
  go_enter Tryz.func128, Tryz.ntmps128
  go_wp2
  go_loopw [3, 34] (fun v i wr => ∃ k : Nat, k ≤ l.length ∧ i = .int .i64 k ∧ wr.ownsRow w.heap.size 183 1 v k ((nums ((l.take k).map (·.blk.toNat))).map u64v) ∧ Below w.heap.size w wr) (fun _ i _ => l.length - (intOf i).toNat)
  case atStart => exact ⟨0, Nat.zero_le _, rfl, by simpa [nums] using World.ownsRow_nil _ w.heap.size 183 1, below_box _⟩
  case round =>
    obtain ⟨k, hk, rfl, ho, hb⟩ := hrel
    have HO := Lib.hid ho
    have HB := Lib.hid hb
    have sB := hb.size
    clear ho hb
    by_cases hlt : k < l.length
    · obtain ⟨a, rfl, hab, c0, c1⟩ := (HA.out.below HB.out hB).at_ hlt
      have hbk := blkOk_iff.1 (HALL.out l[k] (List.getElem_mem hlt))
      have HX := Lib.hid (ent1s_more l k hlt)
      generalize hx : l[k] = x at *
      obtain ⟨b, q⟩ := x
      simp only at hbk c0 c1
      obtain ⟨b, rfl⟩ := Int.eq_ofNat_of_zero_le hbk.1
      have hb2 : b < 65536 := by omega
      have HXX := Lib.hid (HX.out b q rfl hb2)
      have s0 : IntKind.u64.wrap (b : Int) = (b : Int) := by rw [IntKind.wrap_u64]; omega
      clear hbk
      have HO1 := Lib.hid ((HO.out.alloc (.cells #[.int .i64 (b : Int), .bool q] 223)).alloc (.cells #[.int .u64 (b : Int)] 183))
      have HB1 := Lib.hid ((HB.out.alloc sB (.cells #[.int .i64 (b : Int), .bool q] 223)).alloc (by simp; omega) (.cells #[.int .u64 (b : Int)] 183))
      have hs1 := HB1.out.size
      go_wp2_with (at_builtin; go_loud (refine wl_append rfl (.tmp 38) (.tmp 42) 182 rfl w.heap.size 183 8 elem64 _ k _ rfl HO1.out (wr.heap.size + 2) (some ⟨wr.heap.size + 1, 0, none⟩) 1 1 [.int .u64 (b : Int)] rfl rfl (sl_new (by simp) [.int .u64 (b : Int)] _) (one_of _) (by omega) (by unfold maxLen; omega) (by simp; omega) ?_); intro v' w3 h1 h2 h3
                   have b3 : Below w.heap.size w w3 := HB1.out.grown h2 hs1 (fun q hq => (HO1.out.lt q hq).1)
                   have H1 := Lib.hid h1
                   have HB3 := Lib.hid b3
                   clear h1 h2 h3 b3)
      go_roundw
      case rel =>
        refine ⟨k + 1, by omega, by go_num, ?_, HB3.out⟩
        rw [HXX.out]
        exact H1.out
      case measure => simp [intOf]; omega
    · obtain rfl : k = l.length := by omega
      have HF : Hid (wr.ownsRow w.heap.size 183 1 u3 l.length ((nums (l.map (·.blk.toNat))).map u64v)) := Lib.hid (by
        have h := HO.out
        rwa [List.take_length] at h)
      go_wp2
      go_ret
      exact ⟨_, rfl, HF.out, HB.out⟩
set_option maxHeartbeats 4000000 in
theorem body_2 (seq : Int) (n : Nat) (sum : Nat) (start : Int) (hs : sum < 4294967296) (A : Option Addr) (c : Nat) (w : World) :
    Calls Tryz.prog 128 #[.agg #[.int .i64 2, .int .i64 seq, .slice A n c, .int .u32 (sum : Int), .int .i64 start]] w fun e w' =>
      ∃ v, e = .returned v ∧ w'.ownsRow w.heap.size 183 1 v 1 ((nums [sum]).map u64v) ∧ Below w.heap.size w w' := by
  have hx : (nums [sum]).map u64v = [.int .u64 (sum : Int)] := by simp only [nums, List.map_cons, List.map_nil]; rw [u64_of (by omega)]
  rw [hx]
  have s0 : IntKind.u64.wrap (sum : Int) = (sum : Int) := by rw [IntKind.wrap_u64]; omega
  have HO1 := Lib.hid (World.ownsRow_nil ((w.alloc (.cells #[.int .i64 2, .int .i64 seq, .slice A n c, .int .u32 (sum : Int), .int .i64 start] 154)).alloc (.cells #[.int .u64 (sum : Int)] 183)) w.heap.size 183 1)
  have HB1 := Lib.hid ((below_box (w := w) (.cells #[.int .i64 2, .int .i64 seq, .slice A n c, .int .u32 (sum : Int), .int .i64 start] 154)).alloc (by simp) (.cells #[.int .u64 (sum : Int)] 183))
  clear hx
  go_enter Tryz.func128, Tryz.ntmps128
  go_wp2_with (at_builtin; go_loud (refine wl_append rfl (.tmp 47) (.tmp 51) 182 rfl w.heap.size 183 8 elem64 _ 0 _ rfl HO1.out (w.heap.size + 2) (some ⟨w.heap.size + 1, 0, none⟩) 1 1 [.int .u64 (sum : Int)] rfl rfl (sl_new (by simp) [.int .u64 (sum : Int)] _) (one_of _) (by omega) (by unfold maxLen; omega) (by simp; omega) ?_); intro v' w3 h1 h2 h3
               have b3 : Below w.heap.size w w3 := HB1.out.grown h2 HB1.out.size (fun q hq => (HO1.out.lt q hq).1)
               have H1 := Lib.hid h1
               have HB3 := Lib.hid b3
               clear h1 h2 h3 b3)
  go_ret
  exact ⟨_, rfl, H1.out, HB3.out⟩
set_option maxHeartbeats 4000000 in
theorem body_4 (seq : Int) (n : Nat) (sum : Int) (start : Nat) (hs : start < 512) (A : Option Addr) (c : Nat) (w : World) :
    Calls Tryz.prog 128 #[.agg #[.int .i64 4, .int .i64 seq, .slice A n c, .int .u32 sum, .int .i64 (start : Int)]] w fun e w' =>
      ∃ v, e = .returned v ∧ w'.ownsRow w.heap.size 183 1 v 1 ((nums [start]).map u64v) ∧ Below w.heap.size w w' := by
  have hx : (nums [start]).map u64v = [.int .u64 (start : Int)] := by simp only [nums, List.map_cons, List.map_nil]; rw [u64_of (by omega)]
  rw [hx]
  have s0 : IntKind.u64.wrap (start : Int) = (start : Int) := by rw [IntKind.wrap_u64]; omega
  have HO1 := Lib.hid (World.ownsRow_nil ((w.alloc (.cells #[.int .i64 4, .int .i64 seq, .slice A n c, .int .u32 sum, .int .i64 (start : Int)] 154)).alloc (.cells #[.int .u64 (start : Int)] 183)) w.heap.size 183 1)
  have HB1 := Lib.hid ((below_box (w := w) (.cells #[.int .i64 4, .int .i64 seq, .slice A n c, .int .u32 sum, .int .i64 (start : Int)] 154)).alloc (by simp) (.cells #[.int .u64 (start : Int)] 183))
  clear hx
  go_enter Tryz.func128, Tryz.ntmps128
  go_wp2_with (at_builtin; go_loud (refine wl_append rfl (.tmp 55) (.tmp 59) 182 rfl w.heap.size 183 8 elem64 _ 0 _ rfl HO1.out (w.heap.size + 2) (some ⟨w.heap.size + 1, 0, none⟩) 1 1 [.int .u64 (start : Int)] rfl rfl (sl_new (by simp) [.int .u64 (start : Int)] _) (one_of _) (by omega) (by unfold maxLen; omega) (by simp; omega) ?_); intro v' w3 h1 h2 h3
               have b3 : Below w.heap.size w w3 := HB1.out.grown h2 HB1.out.size (fun q hq => (HO1.out.lt q hq).1)
               have H1 := Lib.hid h1
               have HB3 := Lib.hid b3
               clear h1 h2 h3 b3)
  go_ret
  exact ⟨_, rfl, H1.out, HB3.out⟩
/-- what stands behind the head of a record that may be -/
theorem body_any (r : Rec) (h : recMay r = true) (hs : r.sum < 4294967296) (B : Nat) (A : Option Addr) (c : Nat) (w : World) (hB : B ≤ w.heap.size) (hA : Ents w B A r.ents) :
    Calls Tryz.prog 128 #[recV r A c] w fun e w' =>
      ∃ v, e = .returned v ∧ w'.ownsRow w.heap.size 183 1 v (bodyN r).length ((nums (bodyN r)).map u64v) ∧ Below w.heap.size w w' := by
  obtain ⟨h1, h2, h3, h4⟩ := recMay_iff.1 h
  obtain ⟨kind, seq, l, sum, start⟩ := r
  unfold recV
  simp only at h2 h3 hs hA ⊢
  rcases hasOk_cases h2 with ⟨rfl, g1, g2⟩ | ⟨rfl, g1, g2⟩ | ⟨rfl, g1⟩ | ⟨rfl, g1⟩
  · have e : bodyN ⟨1, seq, l, sum, start⟩ = l.flatMap ent2 := rfl
    rw [e, ent2s_len]
    exact body_1 seq l sum start g2 h3 B A c w hB hA
  · have e : bodyN ⟨3, seq, l, sum, start⟩ = l.map (·.blk.toNat) := rfl
    rw [e, List.length_map]
    exact body_3 seq l sum start g2 h3 B A c w hB hA
  · exact body_2 seq l.length sum start hs A c w
  · have h5 : 0 ≤ start ∧ start ≤ 511 := by
      have : restOk ⟨4, seq, l, sum, start⟩ = decide (sum = 0 ∧ 0 ≤ start ∧ start ≤ 511) := rfl
      rw [this] at h4
      exact (of_decide_eq_true h4).2
    obtain ⟨start, rfl⟩ := Int.eq_ofNat_of_zero_le h5.1
    have e : bodyN ⟨4, seq, l, sum, (start : Int)⟩ = [start] := by simp [bodyN]
    rw [e]
    exact body_4 seq l.length sum start (by omega) A c w
end Go.Proofs.YtmlgchmladkfpaaGreatDoor.JBody
