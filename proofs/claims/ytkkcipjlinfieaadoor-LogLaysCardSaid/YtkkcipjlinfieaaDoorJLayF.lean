/- What Lay calls: which writes are no blocks, their entries and copies, revoked blocks' entries, the sum. -/
import Derived.Test.YtkkcipjlinfieaaDoorJLayM
import Derived.Test.YtkkcipjlinfieaaDoorWHelp
import Derived.Deep.AppendLies
namespace Go.Proofs.YtkkcipjlinfieaaDoor.JLayF
open Go.RowKit WMem WPlain WList WPack WHelp WAppend WWide WAny WCrc WSeal SNums JPlain JMem JMay JBody JPack JTold JEscape JNeed JLayM

theorem isNoBlock_any (b : Int) (K : Option Addr) (n c : Nat) (w : World) : Calls Tryd.prog 14 #[.agg #[.int .i64 b, .slice K n c]] w fun e w' => e = .returned (.bool ((n : Int) != 256)) ∧ Below w.heap.size w w' := by
  go_enter Tryd.func14, Tryd.ntmps14
  go_wp2
  go_ret
  exact ⟨rfl, below_box _⟩
theorem ne_no {n : Nat} {q : Bool} (h : (n == 256) = q) : ((n : Int) != 256) = !q := by
  subst h
  rw [Bool.eq_iff_iff]
  simp
  omega
set_option maxHeartbeats 1000000 in
theorem indexW_any (l : List Wr) (B : Nat) (A : Option Addr) (c : Nat) (w : World) (hB : B ≤ w.heap.size) (hA : Wrs w B A l) (hl : l.length ≤ 4096) :
    Calls Tryd.prog 35 #[.slice A l.length c, .func (.func 14) #[] #[]] w fun e w' => ∃ n : Int, e = .returned (.int .i64 n) ∧ foundAt (!all256 l) n ∧ Below w.heap.size w w' := by
  have HA := Lib.hid hA
  clear hA
  go_enter Tryd.func35, Tryd.ntmps35
  go_wp2
  go_loopw [8] (fun i wr => ∃ k : Nat, k ≤ l.length ∧ i = .int .i64 k ∧ Below w.heap.size w wr ∧ Hid (∀ x ∈ l.take k, (x.data.length == 256) = true)) (fun i _ => l.length - (intOf i).toNat)
  case atStart => exact ⟨0, Nat.zero_le _, rfl, Below.refl _ _, Lib.hid (by simp)⟩
  case round =>
    obtain ⟨k, hk, rfl, hb, HK⟩ := hrel
    have HB := Lib.hid hb
    have sB := hb.size
    clear hb
    by_cases hlt : k < l.length
    · obtain ⟨a, K, c', rfl, _, c0, c1, _⟩ := (HA.out.below HB.out hB).at_ hlt
      have HT := Lib.hid (fun (h : (l[k].data.length == 256) = true) => show ∀ x ∈ l.take (k + 1), (x.data.length == 256) = true from fun y hy => by
        rw [List.take_succ_eq_append_getElem hlt] at hy
        rcases List.mem_append.1 hy with hy | hy
        · exact HK.out y hy
        · rw [List.mem_singleton.1 hy]; exact h)
      have HF := Lib.hid (fun (h : (l[k].data.length == 256) = false) => show all256 l = false from by
        rw [Bool.eq_false_iff]
        intro ha
        have := List.all_eq_true.1 ha l[k] (List.getElem_mem hlt)
        rw [h] at this
        cases this)
      generalize l[k].data.length = m at *
      generalize l[k].blk = b at *
      cases hq : (m == 256) with
      | true =>
        have HNN := Lib.hid (HT.out hq)
        have HQ := Lib.hid (ne_no hq)
        clear hq
        go_wp2_with fail
        refine (isNoBlock_any b K m c' _).mono ?_
        rintro e w1 ⟨rfl, hb1⟩
        rw [HQ.out]
        have HB1 := Lib.hid (below_up HB.out hb1 sB)
        clear hb1
        go_wp2
        go_roundw
        case rel => exact ⟨k + 1, by omega, by go_num, HB1.out, HNN⟩
        case measure => simp [intOf]; omega
      | false =>
        have HYY := Lib.hid (HF.out hq)
        have HQ := Lib.hid (ne_no hq)
        clear hq
        go_wp2_with fail
        refine (isNoBlock_any b K m c' _).mono ?_
        rintro e w1 ⟨rfl, hb1⟩
        rw [HQ.out]
        have HB1 := Lib.hid (below_up HB.out hb1 sB)
        clear hb1
        go_wp2
        go_ret
        exact ⟨_, rfl, by unfold foundAt; rw [HYY.out]; simp, HB1.out⟩
    · obtain rfl : k = l.length := by omega
      have HF : Hid (all256 l = true) := Lib.hid (by
        unfold all256
        rw [List.all_eq_true]
        have := HK.out
        rw [List.take_length] at this
        exact this)
      go_wp2
      go_ret
      exact ⟨_, rfl, by unfold foundAt; rw [HF.out]; rfl, HB.out⟩
theorem containsW_any (n : Nat) (l : List Wr) (hn : l.length = n) (q : Bool) (hq : (!all256 l) = q) (B : Nat) (A : Option Addr) (c : Nat) (w : World) (hB : B ≤ w.heap.size) (hA : Wrs w B A l) (hl : n ≤ 4096) :
    Calls Tryd.prog 13 #[.slice A n c, .func (.func 14) #[] #[]] w fun e w' => e = .returned (.bool q) ∧ Below w.heap.size w w' := by
  subst hq
  subst hn
  have HI := Lib.hid (indexW_any l B A c w hB hA hl)
  clear hA
  go_enter Tryd.func13, Tryd.ntmps13
  go_wp2_with fail
  refine HI.out.mono ?_
  rintro e w1 ⟨n, rfl, hn, hb⟩
  have HN := Lib.hid hn
  clear hn
  go_wp2
  go_ret
  exact ⟨ret_b HN.out, hb⟩

theorem own_ge {w : World} {base : Nat} {e : TypeId} {size n : Nat} {v : Value} {zs : List Value} (h : w.ownsRow base e size v n zs) : ∀ g, v.ownBlock = some g → base ≤ g := by
  rcases h.2 with ⟨rfl, _⟩ | ⟨k, cap, cur, rfl, hb, _⟩
  · intro g hg; simp [Value.ownBlock] at hg
  · intro g hg
    simp only [Value.ownBlock, Option.some.injEq] at hg
    omega
theorem Escape_at (n : Nat) (l : List UInt8) (hn : l.length = n) (B : Nat) (A : Option Addr) (c : Nat) (w : World) (hB : B ≤ w.heap.size) (hl : n ≤ 140737488351232) (hA : Sl w B A (l.map u8v)) :
    Calls Tryd.prog 10 #[.slice A n c] w fun e w' => ∃ v, e = .returned (.tuple #[v, .bool (marked l)]) ∧ WAny.Own w' w.heap.size v (escL l) ∧ Below w.heap.size w w' := by
  subst hn
  exact Escape_any l B A c w hB hl hA
theorem own_up {w : World} {B B' : Nat} {v : Value} {l : List UInt8} (h : WAny.Own w B v l) (hB : B' ≤ B) : WAny.Own w B' v l := by
  rcases h with h | ⟨g, c, rest, h1, h2, h3⟩
  · exact .inl h
  · exact .inr ⟨g, c, rest, h1, Nat.le_trans hB h2, h3⟩
theorem own_turn {w w' : World} {base : Nat} {v : Value} {l : List UInt8} {row : Option Nat} (h : WAny.Own w base v l) (hg : w.grownBy w' row) (hne : ∀ k cs, row = some k → w.heap[k]? ≠ some (.cells cs 5 (0, 0))) : WAny.Own w' base v l := by
  rcases h with hO | ⟨g, c, rest, e1, e2, e3, e4⟩
  · exact .inl hO
  · exact .inr ⟨g, c, rest, e1, e2, e3, e4.grown hg (fun e => hne g _ e.symm e4)⟩
theorem take_map {α β : Type} (f : α → β) (l : List α) (k : Nat) (h : k < l.length) : (l.take (k + 1)).map f = (l.take k).map f ++ [f l[k]] := by rw [List.take_succ_eq_append_getElem h, List.map_append]; rfl
set_option maxRecDepth 100000 in
set_option maxHeartbeats 4000000 in
theorem escaped_any (n : Nat) (l : List Wr) (hn : l.length = n) (B : Nat) (A : Option Addr) (c : Nat) (w : World) (hB : B ≤ w.heap.size) (hA : Wrs w B A l) (hl : n ≤ 4096) (h256 : ∀ x ∈ l, x.data.length = 256) :
    Calls Tryd.prog 16 #[.slice A n c] w fun e w' => ∃ v1 v2, e = .returned (.tuple #[v1, v2]) ∧ w'.ownsRow w.heap.size 44 2 v1 n (ecells (l.map entW)) ∧ Blks w' w.heap.size v2 n (l.map escW) ∧ Below w.heap.size w w' := by
  have HN := Lib.hid hn
  have HA := Lib.hid hA
  have H256 := Lib.hid h256
  obtain ⟨i0, hi0, hz0, hz1, hz2⟩ := info_parts infoE
  clear hA hn h256
  go_enter Tryd.func16, Tryd.ntmps16
  go_wp2
  go_loopw [4, 5, 12] (fun v u i wr => ∃ k : Nat, k ≤ n ∧ i = .int .i64 k ∧ wr.ownsRow w.heap.size 44 2 v k (ecells ((l.take k).map entW)) ∧ Blks wr w.heap.size u k ((l.take k).map escW) ∧ Below w.heap.size w wr) (fun _ _ i _ => n - (intOf i).toNat)
  case atStart => exact ⟨0, Nat.zero_le _, rfl, World.ownsRow_nil _ _ _ _, Blks.nil _ _, Below.refl _ _⟩
  case round =>
    obtain ⟨k, hk, rfl, ho, hu, hb⟩ := hrel
    have HO := Lib.hid ho
    have HU := Lib.hid hu
    have HB := Lib.hid hb
    have sB := hb.size
    clear ho hu hb
    by_cases hlt : k < n
    · have hlt' : k < l.length := by rw [HN.out]; exact hlt
      obtain ⟨a, K, c', rfl, hab, c0, c1, hS⟩ := (HA.out.below HB.out hB).at_ hlt'
      have hd := H256.out l[k] (List.getElem_mem hlt')
      have HTE := Lib.hid (take_map entW l k hlt')
      have HTC := Lib.hid (take_map escW l k hlt')
      rw [hd] at c1
      have HS := Lib.hid hS
      generalize hx : l[k] = x at *
      obtain ⟨b, dd⟩ := x
      simp only at hd c0 HS
      have HD := Lib.hid hd
      clear hx hS hd
      have HBA := Lib.hid (HB.out.alloc sB (.cells #[.int .i64 b, .slice K 256 c'] 47))
      go_wp2_with fail
      refine (Escape_at 256 dd HD.out B K c' _ (by simp; omega) (by decide) (HS.out.below_le (below_box (w := wr) _) (by omega))).mono ?_
      rintro e w1 ⟨v3, rfl, hO3, hb1⟩
      obtain ⟨A3, c3, e3, _, _⟩ := hO3.sl
      rw [escL_len, HD.out] at e3
      subst e3
      have hbx : w1.heap[wr.heap.size]? = some (.cells #[.int .i64 b, .slice K 256 c'] 47 (0, 0)) := row_below (row_new wr _) hb1 (by simp)
      have x0 : w1.cell? ⟨wr.heap.size, 0, none⟩ = some (.int .i64 b) := (row_cell hbx 0).trans rfl
      have HO1 := Lib.hid (owns_below (owns_below HO.out (below_box _)) hb1)
      have HU1 := Lib.hid (((HU.out.alloc _).below hb1))
      have HB1 := Lib.hid (below_up HBA.out hb1 HBA.out.size)
      have HO3 := Lib.hid (own_up hO3 (show w.heap.size ≤ (wr.alloc (.cells #[.int .i64 b, .slice K 256 c'] 47)).heap.size by simp; omega))
      have hs1 := HB1.out.size
      clear hbx hO3 hb1
      generalize hq : marked dd = q at *
      have HQ := Lib.hid hq
      clear hq
      have HOA := Lib.hid (HO1.out.alloc (.cells #[.int .i64 b, .bool q] 44))
      have HUA := Lib.hid (HU1.out.alloc (.cells #[.int .i64 b, .bool q] 44))
      have HO3A := Lib.hid (HO3.out.keep (below_box (w := w1) (.cells #[.int .i64 b, .bool q] 44)))
      have HBB := Lib.hid (HB1.out.alloc hs1 (.cells #[.int .i64 b, .bool q] 44))
      have hsa := HBB.out.size
      go_wp2_with (first
        | (at_builtin; (refine wpList_append_lies _ rfl (.tmp 22) (.tmp 27) 35 rfl w.heap.size 44 i0 _ 2 16 underE hi0 hz0 hz1 hz2 rfl (by decide) u4 k (ecells ((l.take k).map entW)) rfl HOA.out ⟨w1.heap.size, 0, none⟩ 1 1 (ecell ⟨b, q⟩) rfl rfl (World.news_of_block (cs := #[.int .i64 b, .bool q]) (t := 44) (fr := (0, 0)) (row_new w1 _)) (by simp [ecell, Value.oneCell']) (by omega) (by unfold maxLen; omega) (by omega) (by omega) _ rfl ?_); intro gg cap w2 h1 h2 hat hlt2
           have hnt : ∀ (j : Nat) (cs : Array Value), u4.ownBlock = some j → (w1.alloc (.cells #[.int .i64 b, .bool q] 44)).heap[j]? ≠ some (.cells cs 5 (0, 0)) := fun j cs e hk => own_ne HOA.out hk (by decide) e
           have HO2 := Lib.hid h1
           have hU2 : Blks w2 w.heap.size u5 k ((l.take k).map escW) := by
             obtain ⟨vs, a1, a2⟩ := HUA.out
             exact HUA.out.kept h2 (owns_apart a1 HOA.out (by decide)) hnt
           have HU2 := Lib.hid (hU2.alloc (.cells #[.slice A3 256 c3] 31))
           have HO32 := Lib.hid ((own_turn HO3A.out h2 hnt).keep (below_box (.cells #[.slice A3 256 c3] 31)))
           have HB2 := Lib.hid ((HBB.out.grown h2 hsa (fun j hj => own_ge HOA.out j hj)).alloc (HBB.out.grown h2 hsa (fun j hj => own_ge HOA.out j hj)).size (.cells #[.slice A3 256 c3] 31))
           have hs2 : w.heap.size ≤ w2.heap.size := (HBB.out.grown h2 hsa (fun j hj => own_ge HOA.out j hj)).size
           obtain ⟨vs, ha1, ha2, ha3, ha4, ha5⟩ := HU2.out
           have HA1 := Lib.hid ha1
           have HA5 := Lib.hid ha5
           clear h1 h2 hat hnt hU2 ha1 ha5)
        | (at_builtin; (refine wl_append rfl (.tmp 29) (.tmp 31) 25 rfl w.heap.size 31 24 elemS u5 k vs rfl HA1.out (w2.heap.size + 1) (some ⟨w2.heap.size, 0, none⟩) 1 1 [.slice A3 256 c3] rfl rfl (sl_new rfl [.slice A3 256 c3] _) (by simp [Value.oneCell']) (by omega) (by unfold maxLen; omega) (by simp; omega) ?_); intro v4 w3 h1 h2 h3
           have HU3 := Lib.hid (Blks.snoc HU2.out HO32.out (own_one HO32.out) HA1.out h1 h2 HA5.out ha3 ha4)
           have HO33 := Lib.hid ((HO2.out.alloc (.cells #[.slice A3 256 c3] 31)).kept h2 (owns_apart (HO2.out.alloc (.cells #[.slice A3 256 c3] 31)) HA1.out (by decide)))
           have HB3 := Lib.hid (HB2.out.grown h2 HB2.out.size (fun j hj => own_ge HA1.out j hj))
           clear h1 h2 h3))
      go_roundw
      case rel =>
        refine ⟨k + 1, by omega, by go_num, ?_, ?_, HB3.out⟩
        · rw [HTE.out, ecells_snoc, show entW ⟨b, dd⟩ = ⟨b, q⟩ from by unfold entW; rw [HQ.out]]; exact HO33.out
        · rw [HTC.out]; exact HU3.out
      case measure => simp [intOf]; omega
    · obtain rfl : k = n := by omega
      have HF1 : Hid (wr.ownsRow w.heap.size 44 2 u4 k (ecells (l.map entW))) := Lib.hid (by
        have h := HO.out
        rwa [← HN.out, List.take_length, HN.out] at h)
      have HF2 : Hid (Blks wr w.heap.size u5 k (l.map escW)) := Lib.hid (by
        have h := HU.out
        rwa [← HN.out, List.take_length, HN.out] at h)
      go_wp2
      go_ret2
      exact ⟨u4, u5, rfl, HF1.out, HF2.out, HB.out⟩
set_option maxRecDepth 100000 in
set_option maxHeartbeats 4000000 in
theorem named_any (n : Nat) (l : List Int) (hn : l.length = n) (B : Nat) (A : Option Addr) (c : Nat) (w : World) (hB : B ≤ w.heap.size) (hA : Sl w B A (l.map i64v)) (hl : n ≤ 4096) :
    Calls Tryd.prog 18 #[.slice A n c] w fun e w' => ∃ v1, e = .returned v1 ∧ w'.ownsRow w.heap.size 44 2 v1 n (ecells (l.map entR)) ∧ Below w.heap.size w w' := by
  have HN := Lib.hid hn
  have HA := Lib.hid hA
  obtain ⟨i0, hi0, hz0, hz1, hz2⟩ := info_parts infoE
  clear hA hn
  go_enter Tryd.func18, Tryd.ntmps18
  go_wp2
  go_loopw [3, 8] (fun v i wr => ∃ k : Nat, k ≤ n ∧ i = .int .i64 k ∧ wr.ownsRow w.heap.size 44 2 v k (ecells ((l.take k).map entR)) ∧ Below w.heap.size w wr) (fun _ i _ => n - (intOf i).toNat)
  case atStart => exact ⟨0, Nat.zero_le _, rfl, World.ownsRow_nil _ _ _ _, Below.refl _ _⟩
  case round =>
    obtain ⟨k, hk, rfl, ho, hb⟩ := hrel
    have HO := Lib.hid ho
    have HB := Lib.hid hb
    have sB := hb.size
    clear ho hb
    by_cases hlt : k < n
    · have hlt' : k < l.length := by rw [HN.out]; exact hlt
      obtain ⟨a, rfl, hab, c0⟩ := (HA.out.below_le HB.out hB).i64 hlt'
      have HTE := Lib.hid (take_map entR l k hlt')
      generalize l[k] = x at *
      have HOA := Lib.hid (HO.out.alloc (.cells #[.int .i64 x, .bool false] 44))
      have HBA := Lib.hid (HB.out.alloc sB (.cells #[.int .i64 x, .bool false] 44))
      have hsa := HBA.out.size
      go_wp2_with (at_builtin; go_loud (refine wpList_append_lies _ rfl _ _ 35 rfl w.heap.size 44 i0 _ 2 16 underE hi0 hz0 hz1 hz2 rfl (by decide) u3 k (ecells ((l.take k).map entR)) rfl HOA.out ⟨wr.heap.size, 0, none⟩ 1 1 (ecell ⟨x, false⟩) rfl rfl (World.news_of_block (cs := #[.int .i64 x, .bool false]) (t := 44) (fr := (0, 0)) (row_new wr _)) (by simp [ecell, Value.oneCell']) (by omega) (by unfold maxLen; omega) (by omega) (by omega) _ rfl ?_); intro gg cap w2 h1 h2 hat hlt2
                   have HO2 := Lib.hid h1
                   have HB2 := Lib.hid (HBA.out.grown h2 hsa (fun j hj => own_ge HOA.out j hj))
                   clear h1 h2 hat)
      go_roundw
      case rel =>
        refine ⟨k + 1, by omega, by go_num, ?_, HB2.out⟩
        rw [HTE.out, ecells_snoc]
        exact HO2.out
      case measure => simp [intOf]; omega
    · obtain rfl : k = n := by omega
      have HF1 : Hid (wr.ownsRow w.heap.size 44 2 u3 k (ecells (l.map entR))) := Lib.hid (by
        have h := HO.out
        rwa [← HN.out, List.take_length, HN.out] at h)
      go_wp2
      go_ret
      exact ⟨u3, rfl, HF1.out, HB.out⟩
theorem sumB_lt (s : Nat) (hs : s < 4294967296) (L : List (List UInt8)) : sumB s L < 4294967296 := by
  induction L generalizing s with
  | nil => exact hs
  | cons b L ih => exact ih _ (crc_lt s b)
theorem sumB_take (s : Nat) (L : List (List UInt8)) (k : Nat) (h : k < L.length) : sumB s (L.take (k + 1)) = crc (sumB s (L.take k)) L[k] := by
  rw [List.take_succ_eq_append_getElem h, sumB_snoc]
set_option maxRecDepth 100000 in
set_option maxHeartbeats 4000000 in
theorem sumOf_in (q : Int) (s : Nat) (sw : IntKind.u32.wrap q = (s : Int)) (hs : s < 4294967296) (n : Nat) (L : List (List UInt8)) (base : Nat) (v : Value) (w : World) (hU : Blks w base v n L) (hl : n ≤ 20000) (hsz : ∀ b ∈ L, b.length ≤ 140737488355328) (hT : Tab w) :
    Calls Tryd.prog 19 #[.int .i64 q, v] w fun e w' => e = .returned (.int .u32 (sumB s L : Nat)) ∧ w = w' := by
  have hL := hU.len
  obtain ⟨vs, a1, a2, a3, a4, a5⟩ := hU
  have HT := Lib.hid hT
  have HL := Lib.hid hL
  have HSZ := Lib.hid hsz
  have H5 := Lib.hid a5
  have H3 := Lib.hid a3
  obtain ⟨A, c, rfl, hcell⟩ : ∃ A c, v = .slice A n c ∧ ∀ (k : Nat) u, vs[k]? = some u → ∃ a, A = some a ∧ w.cell? (a.add k) = some u := by
    rcases a1.2 with ⟨rfl, hn⟩ | ⟨g, cap, cur, rfl, _, _⟩
    · exact ⟨none, 0, by rw [hn], fun k u hu => by
        rw [hn] at a3
        rw [List.eq_nil_of_length_eq_zero a3] at hu
        simp at hu⟩
    · have hc := a1.cells (g := g) rfl
      exact ⟨_, cap, rfl, fun k u hu => ⟨_, rfl, hc k u hu⟩⟩
  have HC := Lib.hid hcell
  clear a1 a2 a3 a4 a5 hT hsz hcell
  go_enter Tryd.func19, Tryd.ntmps19
  go_wp2
  go_loopw [5, 12] (fun x i wr => ∃ k : Nat, k ≤ n ∧ i = .int .i64 k ∧ x = .int .u32 (sumB s (L.take k) : Nat) ∧ wr = w) (fun _ i _ => n - (intOf i).toNat)
  case atStart => exact ⟨0, Nat.zero_le _, rfl, rfl, rfl⟩
  case round =>
    obtain ⟨k, hk, rfl, rfl, rfl⟩ := hrel
    by_cases hlt : k < n
    · have hlt' : k < L.length := by omega
      obtain ⟨u, hu, hO⟩ := H5.out k hlt'
      obtain ⟨a, rfl, c0⟩ := HC.out k u hu
      obtain ⟨Au, cu, rfl, hS, _⟩ := hO.sl
      have HS := Lib.hid hS
      have hb := HSZ.out L[k] (List.getElem_mem hlt')
      have HTK := Lib.hid (sumB_take s L k hlt')
      have hlt3 := sumB_lt s hs (L.take k)
      generalize sumB s (L.take k) = y at *
      generalize L[k] = b at *
      obtain ⟨m, hm⟩ : ∃ m, b.length = m := ⟨_, rfl⟩
      rw [hm] at c0 hb
      have HM := Lib.hid hm
      clear hm hS hO hu
      go_wp2_with fail
      refine (wire_crc_len m y b HM.out wr.heap.size Au cu wr hlt3 hb HS.out HT.out).mono ?_
      rintro e w' ⟨rfl, rfl⟩
      go_wp2
      go_roundw
      case rel => exact ⟨k + 1, by omega, by go_num, by rw [HTK.out], by first | trivial | rfl⟩
      case measure => simp [intOf]; omega
    · obtain rfl : k = n := by omega
      have HF : Hid (sumB s (L.take k) = sumB s L) := Lib.hid (by rw [← HL.out, List.take_length])
      go_wp2
      go_ret
      exact ⟨by rw [← HF.out]; rfl, by first | trivial | rfl⟩
end Go.Proofs.YtkkcipjlinfieaaDoor.JLayF
