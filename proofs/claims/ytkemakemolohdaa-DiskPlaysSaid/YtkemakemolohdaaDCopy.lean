/- The program's disk: copyMap, Copy. -/
import Derived.Test.YtkemakemolohdaaDPending
import Derived.Deep.RegionHeld3
import Derived.Deep.DeepCutAuto
import Derived.Outline
namespace Go.Proofs.Ytkemakemolohdaa.DCopy
open Go.RowKit WMem WPlain WAppend Ext Map DPlain DMem Mk DBase DRead DPend DWrite DPending

theorem run_makeMap_hint {P : Program} (t k e : TypeId) (kd : IntKind) (n : Int) (ht : P.underlying t = some (.map k e)) (w : World) :
    (Instr.makeMap t (some (.int kd n))).run P w = .ok (.map (some w.heap.size)) (w.alloc (.map #[] 0)) := by
  simp [Instr.makeMap, run_underlying ht]; rfl

set_option maxHeartbeats 1600000 in
set_option maxRecDepth 100000 in
theorem copyMap_any (S : Nat → Prop) (m n : Nat) (f : Int → Option Value) (L : List (List UInt8)) (w : World) (hm : MapIs w m n f) (hd : DoneOf w S f L) (hS : There S w) (hn : n ≤ 1073741824) (hL : L.length ≤ 4096) :
    Calls Try.prog 27 #[.map (some m), .func (.func 28) #[] #[]] w fun e w' =>
      ∃ n' f', e = .returned (.map (some w.heap.size)) ∧ MapIs w' w.heap.size n' f' ∧ n' ≤ n ∧ DoneOf w' (Made w w') f' L ∧ Below w.heap.size w w' := by
  have hmm := fun (k : Int) (w : World) => run_makeMap_hint (P := Try.prog) 42 3 35 .i64 k (by kernel_rfl) w
  have lm := hm.lt
  have HM := Lib.hid hm
  have HD := Lib.hid hd
  have HS := Lib.hid hS
  have HM1 := Lib.hid (hm.alloc (.map #[] 0))
  have e1 : (w.alloc (.map #[] 0)).heap.size = w.heap.size + 1 := by simp
  clear hm hd hS
  go_enter Try.func27, Try.ntmps27
  go_wp2_with (first
    | (at_len; refine wl_len _ rfl _ rfl m n f rfl HM.out ?_; intro kl hkl)
    | (at_range; refine wl_range _ rfl _ rfl m n f rfl HM1.out ?_; intro w0 left0 cnt0 hrg0 hl0 hc0 hg0 hs0))
  go_frame
  rw [e1] at hrg0 hs0 ⊢
  have hm0 := (MapIs.made w).keep (hg0.block w.heap.size (by simp) (by simp))
  have hb0 : Below w.heap.size w w0 := ((Below.refl _ _).alloc (Nat.le_refl _) _).grown hg0 (by simp) (fun j hj => by cases hj)
  have HL0 := Lib.hid hl0
  have HR0 := Lib.hid hrg0
  have HM0 := Lib.hid hm0
  have HB0 := Lib.hid hb0
  clear hl0 hrg0 hm0 hb0 hg0 hs0 e1 hmm
  go_loopw [6] (fun _ wr => ∃ (left : Lit → Bool) (cnt n' : Nat) (f' : Int → Option Value), RangeIs wr m (w.heap.size + 1) n f left cnt ∧ MapIs wr w.heap.size n' f' ∧ n' + cnt ≤ n ∧
      (∀ k v, f' k = some v → ∃ (j : Nat) (h : j < L.length), k = (j : Int) ∧ IsBlk wr (Made w wr) v L[j]) ∧
      (∀ k, Fits k → left (.int .i64 k) = false → (f k).isSome = true → (f' k).isSome = true) ∧ Below w.heap.size w wr)
    (fun _ wr => wr.rangeLeft m (w.heap.size + 1))
  case atStart => exact ⟨left0, cnt0, 0, _, HR0.out, HM0.out, by omega, (fun k v hv => (by cases hv)), (fun k hk h1 h2 => by rw [HL0.out k hk, h2] at h1; cases h1), HB0.out⟩
  case round =>
    obtain ⟨left, cnt, n', f', hrg, hmo, hcn, hall, hleft, hB⟩ := hrel
    have HRG := Lib.hid hrg
    have HMO := Lib.hid hmo
    have HALL := Lib.hid hall
    have HLEFT := Lib.hid hleft
    have HB := Lib.hid hB
    clear hrg hmo hall hleft hB
    go_wp2_with (at_next; refine wl_next _ rfl _ rfl m (w.heap.size + 1) n f left cnt rfl HRG.out ?_ ?_)
    · intro hl
      have HLL := Lib.hid hl
      clear hl
      go_wp2
      go_ret
      refine ⟨n', f', rfl, HMO.out, by omega, ⟨HALL.out, fun k hk hf => ?_⟩, HB.out⟩
      refine HD.out.2 k hk ?_
      cases hfk : f k with
      | none => rfl
      | some v =>
        exfalso
        have h1 := HLEFT.out k (fits_nat (by omega)) (HLL.out k) (by rw [hfk]; rfl)
        rw [hf] at h1
        cases h1
    · intro x v w1 cnt1 hfx hfv hrg1 hlt hg1 hs1 hen
      obtain ⟨j, hj, hxj, hv⟩ := HD.out.1 _ _ hfv
      have hsr := HB.out.size
      have hb1 : Below w.heap.size w w1 := HB.out.grown hg1 hsr (fun k hk => by cases hk; omega)
      have hv1 : IsBlk w1 S v L[j] := hv.keep (fun k o hk _ => hb1.block k (HS.out k hk))
      have hmo1 := HMO.out.keep (hg1.block w.heap.size HMO.out.lt (by simp))
      have hrlt := HRG.out.lt
      have krows : ∀ (k : Nat) (o : Array Value), wr.heap[k]? = some (Obj.cells o 5 (0, 0)) → w1.heap[k]? = wr.heap[k]? := fun k o ho => hg1.block k (row_lt ho) (fun e => by
        injection e with e
        subst e
        obtain ⟨D, ⟨es, clock, since, seen, c0, _, _, _, _, h5, _⟩, _⟩ := HRG.out
        rw [h5] at ho
        cases ho)
      have hall1 : ∀ k u, f' k = some u → ∃ (i : Nat) (h : i < L.length), k = (i : Int) ∧ IsBlk w1 (Made w w1) u L[i] := fun k u hu => by
        obtain ⟨i, hi, h1, h2⟩ := HALL.out k u hu
        exact ⟨i, hi, h1, (h2.keep (fun k o _ ho => krows k o ho)).more (fun q hq => ⟨hq.1, by rw [hs1]; exact hq.2⟩)⟩
      obtain ⟨g0, c0, rest, rfl, _⟩ := id hv
      have HV1 := Lib.hid hv1
      have HX := Lib.hid hxj
      have HFV := Lib.hid hfv
      have HR1 := Lib.hid hrg1
      have HMO1 := Lib.hid hmo1
      have HALL1 := Lib.hid hall1
      have HB1 := Lib.hid hb1
      have HS1 := Lib.hid hs1
      clear hv hv1 hxj hfv hrg1 hmo1 hall1 hb1 hg1 krows hs1
      go_wp2_with fail
      refine (Clone_blk L[j] S _ w1 HV1.out).mono ?_
      rintro e w2 ⟨u, rfl, hu, hb2⟩
      have hmo2 := HMO1.out.keep (hb2.block _ HMO1.out.lt)
      obtain ⟨w3, hrun, hmo3, hturn⟩ := hmo2.store hfx (by unfold maxLen; omega) u
      obtain ⟨gu, cu, ru, rfl, _⟩ := id hu
      have HU := Lib.hid hu
      have HB2 := Lib.hid hb2
      have HMO3 := Lib.hid hmo3
      have HT := Lib.hid hturn
      have HMO2 := Lib.hid hmo2
      clear hu hb2 hmo3 hturn hmo2 hen
      go_wp2
      go_roundw
      case rel =>
        have ksz : w3.heap.size = w2.heap.size := by
          obtain ⟨es, clock, es', clock', _, rfl⟩ := HT.out
          simp [ChangeMaps.setBlock]
        have k3 : ∀ k, k ≠ w.heap.size → k < w2.heap.size → w3.heap[k]? = w2.heap[k]? := fun k hk hl => HT.out.grown.block k hl (fun e => hk (by injection e))
        have k2 : ∀ k, k ≠ w.heap.size → k < w1.heap.size → w3.heap[k]? = w1.heap[k]? := fun k hk hl => (k3 k hk (Nat.lt_of_lt_of_le hl HB2.out.size)).trans (HB2.out.block k hl)
        have krow : ∀ (k : Nat) (o : Array Value), w2.heap[k]? = some (Obj.cells o 5 (0, 0)) → w3.heap[k]? = w2.heap[k]? := fun k o ho => k3 k (HMO2.out.ne ho) (row_lt ho)
        have krow1 : ∀ (k : Nat) (o : Array Value), w1.heap[k]? = some (Obj.cells o 5 (0, 0)) → w3.heap[k]? = w1.heap[k]? := fun k o ho => k2 k (HMO1.out.ne ho) (row_lt ho)
        have s2 := HB2.out.size
        have s1 := HB1.out.size
        refine ⟨_, cnt1, n' + 1, _, HR1.out.keep (k2 m (by omega) (Nat.lt_of_lt_of_le lm s1)) (k2 _ (by omega) HR1.out.lt), HMO3.out, by omega, fun k u hu => ?_, fun k hk h1 h2 => ?_, ?_⟩
        · unfold upd at hu
          by_cases e : k = x
          · rw [if_pos e] at hu
            injection hu with hu
            subst hu
            exact ⟨j, hj, e.trans HX.out, (HU.out.keep (fun k o _ ho => krow k o ho)).more (fun q hq => ⟨by have := hq.1; omega, by rw [ksz]; exact hq.2⟩)⟩
          · rw [if_neg e] at hu
            obtain ⟨i, hi, h1, h2⟩ := HALL1.out k u hu
            exact ⟨i, hi, h1, (h2.keep (fun k o _ ho => krow1 k o ho)).more (fun q hq => ⟨hq.1, by have := hq.2; rw [ksz]; omega⟩)⟩
        · unfold upd
          by_cases e : k = x
          · rw [if_pos e]; rfl
          · rw [if_neg e]
            refine HLEFT.out k hk ?_ h2
            have h3 : (left (.int .i64 k) && !(Lit.int .i64 k).sameKey (.int .i64 x)) = false := h1
            rw [Maps.sameKey_ne (key_ne e)] at h3
            simpa using h3
        · exact (HB1.out.trans (HB2.out.mono s1)).grown HT.out.grown (by omega) (fun k hk => by cases hk; exact Nat.le_refl _)
      case measure =>
        have ksz : w3.rangeLeft m (w.heap.size + 1) = cnt1 := by
          have s1 := HB1.out.size
          have k3 : ∀ k, k ≠ w.heap.size → k < w2.heap.size → w3.heap[k]? = w2.heap[k]? := fun k hk hl => HT.out.grown.block k hl (fun e => hk (by injection e))
          have k2 : ∀ k, k ≠ w.heap.size → k < w1.heap.size → w3.heap[k]? = w1.heap[k]? := fun k hk hl => (k3 k hk (Nat.lt_of_lt_of_le hl HB2.out.size)).trans (HB2.out.block k hl)
          exact (HR1.out.keep (k2 m (by omega) (Nat.lt_of_lt_of_le lm s1)) (k2 _ (by omega) HR1.out.lt)).left_eq
        rw [ksz, HRG.out.left_eq]
        exact hlt

/-- what the copy's structure is when nothing is pending in it yet -/
theorem copy_start {w w1 : World} {s : St} {n' m g0 m2 : Nat} {f' : Int → Option Value} (hm : MapIs w1 m n' f') (hd : DoneOf w1 (Made w w1) f' s.L) (hg : w1.heap[g0]? = some (.cells #[.int .i64 (s.L.length : Int), .int .i64 (s.N : Int), .map (some m), .slice none 0 0, .map (some m2)] 45 (0, 0)))
    (h2 : MapIs w1 m2 0 (fun _ => none)) (hmm : m ≠ m2) (i1 : w.heap.size ≤ m) (i2 : w.heap.size ≤ m2) (i3 : w.heap.size ≤ g0) (hwf : s.Wf) (hp : 128 ≤ s.L.length) (hq : s.L.length ≤ 4096) :
    DDx w1 (Made w w1) g0 ⟨s.L, [], s.N⟩ m m2 n' 0 f' (fun _ => none) (.slice none 0 0) [] :=
  ⟨⟨i3, row_lt hg⟩, hg, ⟨i1, hm.lt⟩, ⟨i2, h2.lt⟩, hmm, hm, h2, ⟨World.ownsRow_nil _ _ _ _, fun g hg => (by cases hg)⟩, ⟨rfl, fun i hi => (by cases hi)⟩, hd, ⟨fun k v hv => (by cases hv), fun _ _ => rfl⟩, ⟨hwf.each, fun x hx => (by cases hx)⟩, hp, hq, fun k hk => hk.2⟩

theorem below_drew {B : Nat} {w w1 : World} (h : Below B w.drew w1) : Below B w w1 := ⟨h.os, h.tape, h.output, h.size, h.block⟩
theorem way1 {w w1 : World} {s : St} {n' : Nat} {f' : Int → Option Value} (h1 : MapIs w1 w.heap.size n' f') (h3 : DoneOf w1 (Made w w1) f' s.L) (h4 : Below w.heap.size w.drew w1) (hwf : s.Wf) (hp : 128 ≤ s.L.length) (hq : s.L.length ≤ 4096) :
    DDx ((w1.alloc (.map #[] 0)).alloc (.cells #[.int .i64 (s.L.length : Int), .int .i64 (s.N : Int), .map (some w.heap.size), .slice none 0 0, .map (some w1.heap.size)] 45))
      (Made w ((w1.alloc (.map #[] 0)).alloc (.cells #[.int .i64 (s.L.length : Int), .int .i64 (s.N : Int), .map (some w.heap.size), .slice none 0 0, .map (some w1.heap.size)] 45))) (w1.heap.size + 1) ⟨s.L, [], s.N⟩ w.heap.size w1.heap.size n' 0 f' (fun _ => none) (.slice none 0 0) [] ∧
    Below w.heap.size w ((w1.alloc (.map #[] 0)).alloc (.cells #[.int .i64 (s.L.length : Int), .int .i64 (s.N : Int), .map (some w.heap.size), .slice none 0 0, .map (some w1.heap.size)] 45)) := by
  have hs : w.heap.size ≤ w1.heap.size := h4.size
  have lm := h1.lt
  have hrow := row_new (w1.alloc (.map #[] 0)) (.cells #[.int .i64 (s.L.length : Int), .int .i64 (s.N : Int), .map (some w.heap.size), .slice none 0 0, .map (some w1.heap.size)] 45)
  rw [World.size_alloc] at hrow
  refine ⟨copy_start ((h1.alloc _).alloc _) ((h3.keep (fun k o _ ho => ?_)).more (fun q hq => ⟨hq.1, by have := hq.2; simp; omega⟩)) hrow ((MapIs.made w1).alloc _) (by omega) (Nat.le_refl _) hs (by omega) hwf hp hq, ((below_drew h4).alloc hs _).alloc (by simp; omega) _⟩
  exact (Below.heap_alloc _ _ _ (by have := row_lt ho; simp; omega)).trans (Below.heap_alloc _ _ _ (row_lt ho))
theorem way2 {w w1 : World} {s : St} {n' : Nat} {f' : Int → Option Value} (h1' : MapIs w1 (w.alloc (.map #[] 0)).drew.heap.size n' f') (h3 : DoneOf w1 (Made w w1) f' s.L) (h4' : Below (w.alloc (.map #[] 0)).drew.heap.size (w.alloc (.map #[] 0)).drew w1) (hwf : s.Wf) (hp : 128 ≤ s.L.length) (hq : s.L.length ≤ 4096) :
    DDx (w1.alloc (.cells #[.int .i64 (s.L.length : Int), .int .i64 (s.N : Int), .map (some (w.heap.size + 1)), .slice none 0 0, .map (some w.heap.size)] 45))
      (Made w (w1.alloc (.cells #[.int .i64 (s.L.length : Int), .int .i64 (s.N : Int), .map (some (w.heap.size + 1)), .slice none 0 0, .map (some w.heap.size)] 45))) w1.heap.size ⟨s.L, [], s.N⟩ (w.heap.size + 1) w.heap.size n' 0 f' (fun _ => none) (.slice none 0 0) [] ∧
    Below w.heap.size w (w1.alloc (.cells #[.int .i64 (s.L.length : Int), .int .i64 (s.N : Int), .map (some (w.heap.size + 1)), .slice none 0 0, .map (some w.heap.size)] 45)) := by
  have sz : (w.alloc (.map #[] 0)).drew.heap.size = w.heap.size + 1 := by show (w.alloc (.map #[] 0)).heap.size = _; simp
  have h1 := h1'
  have h4 := h4'
  rw [sz] at h1 h4
  have hs : w.heap.size + 1 ≤ w1.heap.size := by have h5 : (w.alloc (.map #[] 0)).heap.size ≤ w1.heap.size := h4.size; simpa using h5
  have hm2 : MapIs w1 w.heap.size 0 (fun _ => none) := (MapIs.made w).keep (h4.block w.heap.size (by omega))
  refine ⟨copy_start (h1.alloc _) ((h3.keep (fun k o _ ho => Below.heap_alloc _ _ _ (row_lt ho))).more (fun q hq => ⟨hq.1, by have := hq.2; simp; omega⟩)) (row_new _ _) (hm2.alloc _) (by omega) (by omega) (Nat.le_refl _) (by omega) hwf hp hq,
    (((Below.refl _ _).alloc (Nat.le_refl _) _).trans ((below_drew h4).mono (by omega))).alloc (by omega) _⟩
/-- copyMap called from a world in which all that was there is as it was -/
theorem copyMap_from (S : Nat → Prop) (b : Nat) (s : St) (m1 m2 n1 n2 : Nat) (f h : Int → Option Value) (Pv : Value) (ys : List Value) (w W : World) (hd : DDx w S b s m1 m2 n1 n2 f h Pv ys) (hn : n1 ≤ 1073741824)
    (hW : ∀ k, k < w.heap.size → W.heap[k]? = w.heap[k]?) (hs : w.heap.size ≤ W.heap.size) :
    Calls Try.prog 27 #[.map (some m1), .func (.func 28) #[] #[]] W fun e w' =>
      ∃ n' f', e = .returned (.map (some W.heap.size)) ∧ MapIs w' W.heap.size n' f' ∧ n' ≤ n1 ∧ DoneOf w' (Made w w') f' s.L ∧ Below W.heap.size W w' ∧
        w'.cell? ⟨b, 0, none⟩ = some (.int .i64 s.L.length) ∧ w'.cell? ⟨b, 1, none⟩ = some (.int .i64 s.N) ∧ w'.cell? ⟨b, 2, none⟩ = some (.map (some m1)) := by
  have hk : ∀ k, S k → W.heap[k]? = w.heap[k]? := fun k hk => hW k (hd.there k hk)
  have hx := hd.keep hk hs
  refine (copyMap_any S m1 n1 f s.L W hx.done hx.doneOf hx.there hn hx.most).mono ?_
  rintro e w' ⟨n', f', rfl, h1, h2, h3, h4⟩
  have hb := hx.there b hx.here
  exact ⟨n', f', rfl, h1, h2, h3.more (fun q hq => ⟨by have := hq.1; omega, hq.2⟩), h4, (h4.cell (p := ⟨b, 0, none⟩) hb).trans hx.c0, (h4.cell (p := ⟨b, 1, none⟩) hb).trans hx.c1, (h4.cell (p := ⟨b, 2, none⟩) hb).trans hx.c2⟩

set_option maxHeartbeats 3200000 in
set_option maxRecDepth 100000 in
theorem Copy_walk (S : Nat → Prop) (b : Nat) (s : St) (m1 m2 n1 n2 : Nat) (f h : Int → Option Value) (Pv : Value) (ys : List Value) (w : World) (hd : DDx w S b s m1 m2 n1 n2 f h Pv ys) (q1 : n1 + s.P.length ≤ s.N) (q2 : n2 ≤ s.P.length) (hN : s.N ≤ 1073741824) :
    Calls Try.prog 12 #[.pointer (some ⟨b, 0, none⟩)] w fun e w' =>
      ∃ g S', e = .returned (.pointer (some ⟨g, 0, none⟩)) ∧ DD w' S' g s ∧ (∀ q, S' q → w.heap.size ≤ q) ∧ Below w.heap.size w w' := by
  have hmm := @run_makeMap Try.prog
  have HD := Lib.hid hd
  have Q1 := Lib.hid q1
  have Q2 := Lib.hid q2
  have c0 := hd.c0
  have c1 := hd.c1
  have c2 := hd.c2
  have lb := row_lt hd.block
  have HN1 : Hid (n1 ≤ 1073741824) := (by omega : n1 ≤ 1073741824)
  clear hd q1 q2
  go_enter Try.func12, Try.ntmps12
  go_upto_region 3 with fail
  go_cut [3] (fun s3 wx => ∃ g0 m m' n' f', s3 = .pointer (some ⟨g0, 0, none⟩) ∧ DDx wx (Made w wx) g0 ⟨s.L, [], s.N⟩ m m' n' 0 f' (fun _ => none) (.slice none 0 0) [] ∧ n' ≤ n1 ∧ Below w.heap.size w wx)
  case first =>
    go_region_held3 (fun w' => w'.cell? ⟨b, 0, none⟩ = some (.int .i64 s.L.length) ∧ w'.cell? ⟨b, 1, none⟩ = some (.int .i64 s.N) ∧ w'.cell? ⟨b, 2, none⟩ = some (.map (some m1))) (go_keep)
      ((go_at_call 27; refine (copyMap_from S b s m1 m2 n1 n2 f h Pv ys w _ HD.out HN1.out (by intro k hk; first | rfl | exact Below.heap_alloc w _ k hk) (by simp)).mono ?_; rintro e w1 ⟨n', f', rfl, h1, h2, h3, h4, k0, k1, k2⟩
        have H1 := Lib.hid h1
        have H3 := Lib.hid h3
        have H4 := Lib.hid h4
        clear h1 h3 h4))
    all_goals
      go_wp2_with fail
      go_meet
      first
        | (have hw := way1 (w := w) H1.out H3.out H4.out HD.out.wf HD.out.pos HD.out.most; exact ⟨_, _, _, n', f', rfl, hw.1, h2, hw.2⟩)
        | (have hw := way2 (w := w) H1.out H3.out H4.out HD.out.wf HD.out.pos HD.out.most; exact ⟨_, _, _, n', f', rfl, hw.1, h2, hw.2⟩)
  case rest =>
    obtain ⟨g0, m, m', n', f', rfl, hx, hn', hb⟩ := hcut
    have hdd : DD wc S b s := (DD.below ⟨m1, m2, n1, n2, f, h, Pv, ys, HD.out, Q1.out, Q2.out⟩ (hb.mono (Nat.le_refl _)))
    have HX := Lib.hid hx
    have HB := Lib.hid hb
    have HDD := Lib.hid hdd
    clear hx hb hdd c0 c1 c2 hmm
    go_wp2_with fail
    refine (Pending_ok S b s wc HDD.out hN).mono ?_
    rintro e w2 ⟨gl, xs, rfl, hgl, hR, hP, hb2⟩
    have hs2 := hb2.size
    have hsc := HB.out.size
    -- the copy's own blocks: all that the call has made, but the list's row
    have hx2 : DDx w2 (fun q => Made w w2 q ∧ q ≠ gl) g0 ⟨s.L, [], s.N⟩ m m' n' 0 f' (fun _ => none) (.slice none 0 0) [] :=
      dd_more (HX.out.keep (fun k hk => hb2.block k (HX.out.there k hk)) hs2) (fun k hk => ⟨⟨hk.1, Nat.lt_of_lt_of_le hk.2 hs2⟩, by have := hk.2; omega⟩) (fun k hk => hk.1.2)
    have hp2 : POf w2 (fun q => Made w w2 q ∧ q ≠ gl) xs s.P := ⟨hP.1, fun i hi => by
      obtain ⟨v, h1, h2, h3⟩ := hP.2 i hi
      refine ⟨v, h1, h2, ?_⟩
      obtain ⟨q, c, rest, rfl, hq, hl, hc, hr⟩ := h3
      refine ⟨q, c, rest, rfl, ⟨⟨by have := hq.1; omega, hq.2⟩, fun e => ?_⟩, hl, hc, hr⟩
      have h0 : w2.heap[gl]? = _ := hR
      have h5 : w2.heap[q]? = _ := hr
      rw [e, h0] at h5
      injection h5 with h5
      injection h5 with _ h5
      exact absurd h5 (by decide)⟩
    have HX2 := Lib.hid hx2
    have HP2 := Lib.hid hp2
    have HR := Lib.hid hR
    have HB2 : Hid (Below w.heap.size w w2) := HB.out.trans (hb2.mono hsc)
    clear hx2 hp2 hR hP hb2
    have hpl : s.P.length ≤ 1073741824 := by have := Q1.out; omega
    go_wp2_with fail
    go_loopw [27] (fun i wr => ∃ (k : Nat) (S' : Nat → Prop) (h' : Int → Option Value) (Pv' : Value) (ys' : List Value), k ≤ s.P.length ∧ i = .int .i64 k ∧ DDx wr S' g0 ⟨s.L, s.P.take k, s.N⟩ m m' n' k f' h' Pv' ys' ∧
        Ext (fun q => Made w w2 q ∧ q ≠ gl) w2 wr ∧ In S' (fun q => Made w w2 q ∧ q ≠ gl) w2 ∧ RowsStay w2 wr) (fun i _ => s.P.length - (intOf i).toNat)
    case atStart => exact ⟨0, _, _, _, _, Nat.zero_le _, rfl, by rw [List.take_zero]; exact HX2.out, Ext.refl _ _, In.refl _ _, fun k o ho => rfl⟩
    case round =>
      obtain ⟨k, S', h', Pv', ys', hk, rfl, hxr, her, hir, hrr⟩ := hrel
      have HXR := Lib.hid hxr
      have HER := Lib.hid her
      have HIR := Lib.hid hir
      have HRR := Lib.hid hrr
      have hsr := her.size
      clear hxr her hir hrr
      by_cases hlt : k < s.P.length
      · obtain ⟨v, p0, p1, hv⟩ := HP2.out.2 k hlt
        have hrow : wr.heap[gl]? = some (.cells xs.toArray 56 (0, 0)) := (HER.out.block gl HR.out.lt (fun hq => hq.2 rfl)).trans HR.out
        have r0 : wr.cell? ⟨gl, k * 2, none⟩ = some (.int .i64 (s.P[k].1 : Int)) := (row_cell hrow _).trans (by simpa using p0)
        have r1 : wr.cell? ⟨gl, k * 2 + 1, none⟩ = some v := (row_cell hrow _).trans (by simpa using p1)
        have hpn := (HD.out.wf.pend _ (List.getElem_mem hlt)).1
        have HPN := Lib.hid hpn
        have HTK : Hid (s.P.take (k + 1) = s.P.take k ++ [(s.P[k].1, s.P[k].2)]) := List.take_succ_eq_append_getElem hlt
        obtain ⟨gv, cv, rv, rfl, hgv, hl, hc, hr⟩ := id hv
        have hvr : IsBlk wr (fun q => S' q ∨ (Made w w2 q ∧ q ≠ gl)) (.slice (some ⟨gv, 0, none⟩) 256 cv) s.P[k].2 := (hv.keep (fun q o _ ho => HRR.out q o ho)).more (fun q hq => .inr hq)
        have hk0 : (0 : Int) ≤ (k : Int) := Int.natCast_nonneg _
        have hk1 : (k : Int) < (s.P.length : Int) := by omega
        have HVR := Lib.hid hvr
        clear hv hvr p0 p1 hrow hgv hl hr hpn
        generalize s.P[k].1 = n at *
        generalize s.P[k].2 = lk at *
        go_wp2_with fail
        have hsub : There (fun q => S' q ∨ (Made w w2 q ∧ q ≠ gl)) wr := fun q hq => by
          rcases hq with hq | hq
          · exact HXR.out.there q hq
          · exact Nat.lt_of_lt_of_le hq.1.2 hsr
        have hxa : DDx (wr.alloc (.cells #[.int .i64 n, .slice (some ⟨gv, 0, none⟩) 256 cv] 56)) (fun q => S' q ∨ (Made w w2 q ∧ q ≠ gl)) g0 ⟨s.L, s.P.take k, s.N⟩ m m' n' k f' h' Pv' ys' :=
          (dd_more HXR.out (fun q hq => .inl hq) hsub).keep (fun q hq => Below.heap_alloc _ _ _ (hsub q hq)) (by simp)
        refine (pend_any _ g0 n _ m m' n' k f' h' Pv' ys' _ lk _ hxa (HVR.out.keep (fun q o _ ho => Below.heap_alloc _ _ _ (row_lt ho))) HPN.out (by simp; have := Q1.out; omega) (by have := Q1.out; omega)).mono ?_
        rintro e w3 ⟨rfl, S3, Pv3, ys3, hx3, he3, hi3, hr3⟩
        have HX3 := Lib.hid hx3
        have HE3 := Lib.hid he3
        have HI3 := Lib.hid hi3
        have HR3 := Lib.hid hr3
        clear hx3 he3 hi3 hr3 hxa
        go_wp2
        go_roundw
        case rel =>
          have hsa : In (fun q => S' q ∨ (Made w w2 q ∧ q ≠ gl)) (fun q => Made w w2 q ∧ q ≠ gl) w2 := fun q hq => by
            rcases hq with hq | hq
            · exact HIR.out q hq
            · exact .inl hq
          refine ⟨k + 1, S3, upd h' n (.slice (some ⟨gv, 0, none⟩) 256 cv), Pv3, ys3, by omega, by go_num, ?_, (HER.out.alloc _).trans HE3.out hsa, hsa.trans HI3.out (by simp; omega), (HRR.out.alloc _).trans HR3.out⟩
          rw [HTK.out]
          exact HX3.out
        case measure => simp [intOf]; omega
      · obtain rfl : k = s.P.length := by omega
        go_wp2
        go_ret
        have hfin := HXR.out
        rw [List.take_length] at hfin
        refine ⟨g0, S', rfl, ⟨m, m', n', s.P.length, f', h', Pv', ys', hfin, by have := Q1.out; omega, Nat.le_refl _⟩, fun q hq => ?_, ?_⟩
        · rcases HIR.out q hq with h1 | h1
          · exact h1.1.1
          · have := HB2.out.size; omega
        · exact HB2.out.trans (HER.out.below (by have := HB2.out.size; omega) (fun q hq => hq.1.1))
theorem Copy_ok (S : Nat → Prop) (b : Nat) (s : St) (w : World) (hd : DD w S b s) (hN : s.N ≤ 1073741824) :
    Calls Try.prog 12 #[.pointer (some ⟨b, 0, none⟩)] w fun e w' =>
      ∃ g S', e = .returned (.pointer (some ⟨g, 0, none⟩)) ∧ DD w' S' g s ∧ (∀ q, S' q → w.heap.size ≤ q) ∧ Below w.heap.size w w' := by
  obtain ⟨m1, m2, n1, n2, f, h, Pv, ys, hx, q1, q2⟩ := hd
  exact Copy_walk S b s m1 m2 n1 n2 f h Pv ys w hx q1 q2 hN
end Go.Proofs.Ytkemakemolohdaa.DCopy
