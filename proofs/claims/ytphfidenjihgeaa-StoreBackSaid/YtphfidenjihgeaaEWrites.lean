/- The store: the numbers of what is changed, and a map's blocks in new memory (writes). -/
import Derived.Test.YtphfidenjihgeaaEFace
import Derived.Maps.AppendAt
import Derived.Deep.DeepMust
namespace Go.Proofs.Ytphfidenjihgeaa.EWrites
open Go.RowKit WMem WPlain WAppend Ext Map DPlain DMem Mk DBase DRead DPend DWrite EPlain EMem ECache EFace EKeys

section
variable {w : World} {ρ : Ro} {r : Role} {b N : Nat} {f : Nat → Option Bk}
/-- slices.Sorted over a map of bytes -/
theorem Sorted_b (g : Nat) (hg : w.heap[g]? = some (.cells #[.map (some b)] 25 (0, 0))) (h : MapB w ρ r b N f) (hN : N ≤ 4096) :
    Calls Try.prog 40 #[.func (.func 61) #[] #[.pointer (some ⟨g, 0, none⟩)]] w fun e w' => ∃ v, e = .returned v ∧
      w'.ownsRow w.heap.size 3 1 v (numsOf f N).length ((numsOf f N).map natv) ∧ Below w.heap.size w w' := by
  obtain ⟨_, gg, h2, h3, h4⟩ := h
  have hs : ∀ n : Nat, (gg (n : Int)).isSome = (f n).isSome := fun n => by
    cases hg : gg n with
    | none => rw [h4 n hg]; rfl
    | some v =>
      obtain ⟨j, l, e1, e2, e3, e4⟩ := h3 n v hg
      have : n = j := by omega
      subst this
      rw [e3]; rfl
  have e1 : nums gg N = (numsOf f N).map fun n : Nat => (n : Int) := by
    unfold nums numsOf
    congr 1
    exact List.filter_congr fun n _ => hs n
  have e2 : (nums gg N).map encZ = (numsOf f N).map natv := by
    rw [e1, List.map_map]
    rfl
  have e3 : (nums gg N).length = (numsOf f N).length := by rw [e1, List.length_map]
  have h := Sorted_any g b N N gg w hg h2 (fun k v hv => by obtain ⟨n, l, a1, a2, _⟩ := h3 k v hv; omega) hN
  rw [e2, e3] at h
  refine h.mono ?_
  rintro e w' ⟨v, rfl, q1, _, q3⟩
  exact ⟨v, rfl, q1, q3⟩
end
theorem nums_len (f : Nat → Option Bk) (N : Nat) : (numsOf f N).length ≤ N := by
  have := List.length_filter_le (fun n => (f n).isSome) (List.range N)
  simpa [numsOf] using this
theorem nums_mem {f : Nat → Option Bk} {N n : Nat} : n ∈ numsOf f N ↔ n < N ∧ (f n).isSome = true := by simp [numsOf]

set_option maxRecDepth 100000 in
set_option maxHeartbeats 400000 in
theorem Changed_own {w : World} {ρ : Ro} {D : Nat → Prop} {b db : Nat} {s : Sto} (h : Own w ρ D b db s) : Calls Try.prog 19 #[.pointer (some ⟨b, 0, none⟩)] w fun e w' =>
    ∃ v, e = .returned v ∧ w'.ownsRow w.heap.size 3 1 v (numsOf s.now.chg s.N).length ((numsOf s.now.chg s.N).map natv) ∧ Below w.heap.size w w' := by
  have hN := h.len.2
  obtain ⟨m1, m2, m3, g, Uv, us, hx, -⟩ := h.ss
  have c1 := hx.c1
  have HC := Lib.hid (hx.chg.keep (w' := w.alloc (.cells #[.map (some m1)] 25)) (ρ' := ρ) (fun k hk => Below.heap_alloc _ _ _ (hx.there k (mine_still k hk))) (fun _ h => h) (Below.heap_alloc _ _ _ hx.chg.lt) rfl)
  clear hx h
  go_enter Try.func19, Try.ntmps19
  go_wp2_with fail
  refine (Keys_any (some m1) w).mono ?_
  rintro e w1 ⟨rfl, rfl⟩
  go_wp2_with fail
  refine (Sorted_b w.heap.size (row_new _ _) HC.out hN).mono ?_
  rintro e w2 ⟨v, rfl, ho, hb⟩
  have HO := Lib.hid (own_base (base' := w.heap.size) ho (fun q hq => by have := own_ge ho q hq; simp at this; omega))
  have HB : Hid (Below w.heap.size w w2) := ((Below.refl _ _).alloc (Nat.le_refl _) _).trans (hb.mono (by simp))
  obtain ⟨A, cap, rfl, _, _⟩ := own_cell1 (S := fun _ => True) ⟨own_base ho (fun _ _ => Nat.zero_le _), fun _ _ => trivial⟩
  clear ho hb
  go_wp2
  go_ret
  exact ⟨_, rfl, HO.out, HB.out⟩
theorem Changed_nil (w : World) : Calls Try.prog 19 #[.pointer none] w fun e w' => e = .returned (.slice none 0 0) ∧ w = w' := by
  go_enter Try.func19, Try.ntmps19
  go_wp2
  go_ret
  exact ⟨rfl, rfl⟩

theorem wrs_len (f : Nat → Option Bk) (N : Nat) : (wrs f N).length = (numsOf f N).length := by simp [wrs]
theorem wrs_at (f : Nat → Option Bk) (N k : Nat) (h : k < (numsOf f N).length) : ∃ h' : k < (wrs f N).length, (wrs f N)[k] = ((numsOf f N)[k], (f (numsOf f N)[k]).getD []) := by
  refine ⟨by rw [wrs_len]; exact h, ?_⟩
  simp [wrs]
/-- rows of writes that were made since -/
structure WrIn (w wr : World) (P : List (Nat × Bk)) (v : Value) (ys : List Value) : Prop where
  own : wr.ownsRow w.heap.size 64 2 v P.length ys
  each : POf wr (Made w wr) ys P
  below : Below w.heap.size w wr
theorem WrIn.snoc {w wr W2 w3 : World} {P : List (Nat × Bk)} {v v' u : Value} {ys : List Value} {n : Nat} {l : Bk} {o : Obj} (h : WrIn w wr P v ys) (hb : Below wr.heap.size wr W2) (hu : IsBlk W2 (fun g => wr.heap.size ≤ g ∧ g < W2.heap.size) u l)
    (ho : w3.ownsRow w.heap.size 64 2 v' (P.length + 1) (ys ++ [.int .i64 (n : Int), u])) (hg : (W2.alloc o).grownBy w3 v.ownBlock) : WrIn w w3 (P ++ [(n, l)]) v' (ys ++ [.int .i64 (n : Int), u]) := by
  have s1 := h.below.size
  have s2 := hb.size
  have s3 := hg.size
  simp only [World.size_alloc] at s3
  have hov : ∀ q, v.ownBlock = some q → w.heap.size ≤ q ∧ q < wr.heap.size := fun q hq => ⟨own_ge h.own q hq, own_lt h.own q hq⟩
  have ht : ∀ q o', wr.heap[q]? = some (.cells o' 5 (0, 0)) → v.ownBlock ≠ some q := fun q o' hq e => own_ne h.own hq (by decide) e
  have keep3 : ∀ q, q < W2.heap.size → v.ownBlock ≠ some q → w3.heap[q]? = W2.heap[q]? := fun q q1 q2 => (hg.block q (by simp; omega) (fun e => q2 e.symm)).trans (Below.heap_alloc _ _ _ q1)
  refine ⟨by rw [List.length_append]; exact ho, P_snoc ((h.each.keep (fun q o' hq hq' => ?_)).more fun q hq => ⟨hq.1, by omega⟩) ((IsBlk.keep hu fun q o' hq hq' => ?_).more fun q hq => ⟨by omega, by omega⟩), ?_⟩
  · exact (keep3 q (by have := row_lt hq'; omega) (ht q o' hq')).trans (hb.block q (row_lt hq'))
  · exact keep3 q hq.2 (fun e => by have := hov q e; omega)
  · have hb3 : Below w.heap.size (W2.alloc o) w3 := Below.grown (Below.refl _ _) hg (by simp; omega) (fun q hq => (hov q hq).1)
    exact (h.below.trans (hb.mono s1)).trans (((Below.refl w.heap.size W2).alloc (by omega) o).trans hb3)

set_option maxRecDepth 100000 in
set_option maxHeartbeats 1600000 in
theorem writes_any {w : World} {ρ : Ro} {r : Role} {b N : Nat} {f : Nat → Option Bk} (h : MapB w ρ r b N f) (hN : N ≤ 4096) (there : There (Mine ρ) w) :
    Calls Try.prog 42 #[.map (some b)] w fun e w' => ∃ v ys, e = .returned v ∧ WrIn w w' (wrs f N) v ys := by
  obtain ⟨i0, hi0, hz0, hz1, hz2⟩ := info_parts infoW
  have HC := Lib.hid (h.keep (w' := w.alloc (.cells #[.map (some b)] 25)) (ρ' := ρ) (fun k hk => Below.heap_alloc _ _ _ (there k (mine_still k hk))) (fun _ h => h) (Below.heap_alloc _ _ _ h.lt) rfl)
  have HH := Lib.hid h
  have HT := Lib.hid there
  have lb := h.lt
  have hnl := nums_len f N
  clear h there
  go_enter Try.func42, Try.ntmps42
  go_wp2_with fail
  refine (Keys_any (some b) w).mono ?_
  rintro e w1 ⟨rfl, rfl⟩
  go_wp2_with fail
  refine (Sorted_b w.heap.size (row_new _ _) HC.out hN).mono ?_
  rintro e w2 ⟨v, rfl, ho, hb⟩
  have hB : Below w.heap.size w w2 := ((Below.refl _ _).alloc (Nat.le_refl _) _).trans (hb.mono (by simp))
  have hge := own_ge ho
  obtain ⟨A, cap, rfl, _, _⟩ := own_cell1 (S := fun _ => True) ⟨own_base ho (fun _ _ => Nat.zero_le _), fun _ _ => trivial⟩
  obtain ⟨m, hm⟩ : ∃ m, m = (numsOf f N).length := ⟨_, rfl⟩
  have hsl : Sl w2 w2.heap.size A ((numsOf f N).map natv) := own_sl ho
  rw [← hm] at ho hnl ⊢
  have HB := Lib.hid hB
  have HM := Lib.hid hm
  have HS := Lib.hid hsl
  clear ho hb hB hm hsl hge
  have HW0 : Hid (WrIn w2 w2 ((wrs f N).take 0) (.slice none 0 0) []) := ⟨World.ownsRow_nil _ _ _ _, ⟨rfl, fun i hi => (by simp at hi)⟩, Below.refl _ _⟩
  go_wp2
  go_loopw [3, 10] (fun v i wr => ∃ (k : Nat) (ys : List Value), k ≤ m ∧ i = .int .i64 k ∧ WrIn w2 wr ((wrs f N).take k) v ys) (fun _ i _ => m - (RowKit.intOf i).toNat)
  case atStart => exact ⟨0, [], Nat.zero_le _, rfl, HW0.out⟩
  case round =>
    obtain ⟨k, ys, hk, rfl, hw⟩ := hrel
    have HW := Lib.hid hw
    clear hw
    by_cases hlt : k < m
    · have hlt' : k < (numsOf f N).length := by rw [← HM.out]; exact hlt
      obtain ⟨a, rfl, hab, hc⟩ := (HS.out.below HW.out.below).nat hlt'
      obtain ⟨hw', hat⟩ := wrs_at f N k hlt'
      have htk := List.take_succ_eq_append_getElem hw'
      rw [hat] at htk
      have hmem := nums_mem.1 (List.getElem_mem hlt')
      obtain ⟨n, hn⟩ : ∃ n, (numsOf f N)[k] = n := ⟨_, rfl⟩
      rw [hn] at hc htk hmem
      obtain ⟨l, hl⟩ := Option.isSome_iff_exists.1 hmem.2
      rw [hl] at htk
      have hBw : Below w.heap.size w wr := HB.out.trans (HW.out.below.mono HB.out.size)
      obtain ⟨vb, hlook, hvb, _⟩ := HH.out.look (n := n) (by omega)
      have hlk := (hlook wr (hBw.block b lb)).2
      have hblk : IsBlk wr (At ρ .still) vb l := IsBlk.keep (hvb l hl) (fun q o hq _ => hBw.block q (HT.out q (mine_still q hq)))
      have HTK : Hid ((wrs f N).take (k + 1) = (wrs f N).take k ++ [(n, l)]) := htk
      have hlen : ((wrs f N).take k).length = k := by rw [List.length_take]; omega
      have HBK := Lib.hid hblk
      have hown := HW.out.own
      rw [hlen] at hown
      have HLN := Lib.hid hlen
      have HO := Lib.hid hown
      obtain ⟨g0, c0, rest, rfl, _⟩ := id hblk
      clear hblk hlook hvb htk hat hmem hBw hl hlen hown hn
      go_wp2_with fail
      refine (Clone_blk l _ _ wr HBK.out).mono ?_
      rintro e W2 ⟨u, rfl, hu, hb2⟩
      have ho2 := own_same HO.out (w' := W2) (fun q hq => hb2.block q (own_lt HO.out q hq))
      have HO2 := Lib.hid (ho2.alloc (.cells #[.int .i64 n, u] 64))
      have hone : u.oneCell' = true := by obtain ⟨gu, cu, ru, rfl, _⟩ := hu; rfl
      obtain ⟨gu, cu, ru, rfl, _⟩ := id hu
      have HU := Lib.hid hu
      have HB2 := Lib.hid hb2
      have s1 := HW.out.below.size
      have s2 := hb2.size
      clear ho2 hu hb2
      go_wp2_with (at_builtin; go_must (refine wpList_append_own _ rfl _ _ 47 rfl w2.heap.size 64 i0 _ 2 32 underW hi0 hz0 hz1 hz2 rfl (by decide) _ k ys rfl HO2.out ⟨W2.heap.size, 0, none⟩ 1 1 [.int .i64 n, .slice (some ⟨gu, 0, none⟩) 256 cu] rfl rfl (World.news_of_block (cs := #[.int .i64 n, .slice (some ⟨gu, 0, none⟩) 256 cu]) (t := 64) (fr := (0, 0)) (row_new _ _)) (by simp [Value.oneCell']) (by unfold maxLen; omega) (by omega) (by simp; omega) ?_); intro v' w4 h3 h4 _
                   have HW4 := Lib.hid (WrIn.snoc HW.out HB2.out HU.out (by rw [HLN.out]; exact h3) h4)
                   clear h3 h4)
      go_roundw
      case rel => exact ⟨k + 1, _, by omega, by go_num, by rw [HTK.out]; exact HW4.out⟩
      case measure => simp [RowKit.intOf]; omega
    · obtain rfl : k = m := by omega
      go_wp2
      go_ret
      have e1 : (wrs f N).take k = wrs f N := List.take_of_length_le (by rw [wrs_len]; exact Nat.le_of_eq HM.out.symm)
      have hw := HW.out
      rw [e1] at hw
      exact ⟨_, ys, rfl, own_base hw.own (fun q hq => by have := own_ge hw.own q hq; have := HB.out.size; omega), hw.each.more (fun q hq => ⟨by have := HB.out.size; have := hq.1; omega, hq.2⟩), HB.out.trans (hw.below.mono HB.out.size)⟩
end Go.Proofs.Ytphfidenjihgeaa.EWrites
