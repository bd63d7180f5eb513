/- read: the record that a block tells, be it whole or not. -/
import Derived.Test.YtkkcipjlinfieaaDoorJSays
import Derived.Test.YtkkcipjlinfieaaDoorJTold2
import Derived.Test.YtkkcipjlinfieaaDoorJPackFace
namespace Go.Proofs.YtkkcipjlinfieaaDoor.JRead
open Go.RowKit WMem WPlain WFace2 WWide WAny WCrc SNums JPlain JMem JMay JBody JPack JTold JTold2 JSays

theorem getX_small (b : List UInt8) (p : Int) (n : Nat) : getX b p (n : Int) < 2 ^ (8 * n) := by
  unfold getX
  split
  · have h := num_lt ((b.drop p.toNat).take ((n : Int)).toNat)
    refine Nat.lt_of_lt_of_le h (Nat.pow_le_pow_right (by decide) ?_)
    have := List.length_take_le ((n : Int)).toNat (b.drop p.toNat)
    simp only [Int.toNat_natCast] at this ⊢
    omega
  · exact Nat.two_pow_pos _
/-- the contract of told at a descriptor -/
def Told1 : Prop := ∀ (seq : Int) (xs : List UInt64) (N : Nat), 1 ≤ N → N ≤ 1000 → xs.length = 2 * N → (∀ x ∈ xs, x.toNat < 4294967296) → ∀ (g : Nat) (w : World), RowV w g 66 (xs.map u64v) →
    Calls Tryd.prog 50 #[.int .i64 1, .int .i64 seq, .slice (some ⟨g, 0, none⟩) (2 * N) (2 * N)] w fun e w' => ∃ A' c', e = .returned (recV ⟨1, seq, (List.range N).map (pairE xs), 0, 0⟩ A' c') ∧ Ents w' w'.heap.size A' ((List.range N).map (pairE xs)) ∧ (∀ a, A' = some a → w.heap.size ≤ a.block) ∧ Below w.heap.size w w'
theorem sl_drop {w : World} {B : Nat} {a : Addr} {xs : List Value} (h : Sl w B (some a) xs) (k : Nat) : Sl w B (some (a.add k)) (xs.drop k) := fun j u hu => by
  rw [List.getElem?_drop] at hu
  obtain ⟨a', e, hb, hc⟩ := h (k + j) u hu
  injection e with e
  subst e
  exact ⟨_, rfl, by rw [addr_add_block]; exact hb, by rw [addr_add_add]; exact hc⟩
/-- told, of the numbers of a block -/
theorem told_says (b : List UInt8) (hb : b.length = 256) (hok : hasOk (saysK b) (saysL b) = true) (H1 : saysK b = 1 → Told1) (m : Nat) (hm : (bodyW (saysK b) (saysL b)).length = m) (g : Nat) (w : World) (hR : RowV w g 66 ((bodyX b (saysK b) (saysL b)).map u64v)) :
    Calls Tryd.prog 50 #[.int .i64 (saysK b), .int .i64 (getX b 5 4 : Nat), .slice (some ⟨g, 0, none⟩) m m] w fun e w' => ∃ A' c', e = .returned (recV (says b) A' c') ∧ Ents w' w'.heap.size A' (says b).ents ∧ (∀ a, A' = some a → w.heap.size ≤ a.block) ∧ Below w.heap.size w w' := by
  have hmin := saysL_min hok
  have hlen := bodyX_len b (saysK b) (saysL b)
  have hsm := bodyX_small b (saysK b) (saysL b)
  unfold says
  rw [hmin]
  generalize hk : saysK b = K at *
  generalize hn : saysL b = n at *
  rcases hasOk_cases hok with ⟨rfl, g1, g2⟩ | ⟨rfl, g1, g2⟩ | ⟨rfl, rfl⟩ | ⟨rfl, rfl⟩
  · obtain rfl : m = 2 * n := by rw [← hm]; simp [bodyW]
    have e : (List.range n).map (pairE (bodyX b 1 n)) = (List.range n).map (saysEnt b 1) := List.map_congr_left fun i hi => pair_says b n i hb hok (List.mem_range.1 hi)
    have h := H1 rfl (getX b 5 4 : Nat) (bodyX b 1 n) n g1 (by omega) (by rw [hlen]; simp [bodyW]) hsm g w hR
    rw [e] at h
    exact h
  · obtain rfl : m = n := by rw [← hm]; simp [bodyW]
    have hl : (bodyX b 3 m).length = m := by rw [hlen]; simp [bodyW]
    have e : (List.range m).map (oneE (bodyX b 3 m)) = (List.range m).map (saysEnt b 3) := List.map_congr_left fun i hi => one_says b m i hb hok (List.mem_range.1 hi)
    have h := told_3 (getX b 5 4 : Nat) (bodyX b 3 m) (by omega) hsm (g + 1) (some ⟨g, 0, none⟩) m w (by have := hR.lt; omega) (hR.sl (by omega))
    rw [hl, e] at h
    exact h
  · obtain rfl : m = 1 := by rw [← hm]; rfl
    have hl : (bodyX b 2 0).length = 1 := by rw [hlen]; rfl
    have hlast := last_says b 2 hb (.inl rfl)
    obtain ⟨x, hx⟩ := List.length_eq_one_iff.1 hl
    rw [hx] at hR hsm hlast
    have h := told_2 (getX b 5 4 : Nat) x (hsm x (by simp)) (g + 1) (some ⟨g, 0, none⟩) 1 w (by have := hR.lt; omega) (hR.sl (by omega))
    have e : num_ [x] 0 = x.toNat := rfl
    rw [← e, hlast] at h
    exact h
  · obtain rfl : m = 1 := by rw [← hm]; rfl
    have hl : (bodyX b 4 0).length = 1 := by rw [hlen]; rfl
    have hlast := last_says b 4 hb (.inr rfl)
    obtain ⟨x, hx⟩ := List.length_eq_one_iff.1 hl
    rw [hx] at hR hsm hlast
    have h := told_4 (getX b 5 4 : Nat) x (hsm x (by simp)) (g + 1) (some ⟨g, 0, none⟩) 1 w (by have := hR.lt; omega) (hR.sl (by omega))
    have e : num_ [x] 0 = x.toNat := rfl
    rw [← e, hlast] at h
    exact h
def nulV : Value := .agg #[.int .i64 0, .int .i64 0, .slice none 0 0, .int .u32 0, .int .i64 0]
set_option maxHeartbeats 1000000 in
theorem read_len (n : Nat) (h : n ≠ 256) (A : Option Addr) (c : Nat) (w : World) :
    Calls Tryd.prog 27 #[.slice A n c] w fun e w' => e = .returned (.tuple #[nulV, .bool false]) ∧ Below w.heap.size w w' := by
  have h1 : ((n : Int) != 256) = true := by rw [bne_iff_ne]; omega
  have h2 : (n != 256) = true := by rw [bne_iff_ne]; omega
  clear h
  go_enter Tryd.func27, Tryd.ntmps27
  go_wp2
  refine bodyPost_ret (v := .tuple #[nulV, .bool false]) ?_ rfl ⟨rfl, below_box _⟩
  simp [results, Tryd.results27, go_sem, nulV]
theorem total_any (ns : List Nat) (hf : ns.length ≤ 1000) (hs : ∀ n ∈ ns, n ≤ 8) (B : Nat) (A : Option Addr) (c : Nat) (w : World) (hA : Sl w B A (ns.map natv)) :
    Calls Tryd.prog 49 #[.slice A ns.length c] w fun e w' => e = .returned (.int .i64 (tot ns : Nat)) ∧ w = w' := by
  have HA := Lib.hid hA
  have HS := Lib.hid hs
  have ht : ∀ k, k ≤ ns.length → tot (ns.take k) ≤ 8 * k := fun k => by
    induction k with
    | zero => intro _; simp [tot]
    | succ k ih =>
      intro hk
      rw [tot_take_succ ns k (by omega)]
      have := ih (by omega)
      have := HS.out _ (List.getElem_mem (show k < ns.length by omega))
      omega
  have HT := Lib.hid ht
  clear hA hs ht
  go_enter Tryd.func49, Tryd.ntmps49
  go_wp2
  go_loop [3, 8] (fun s i => ∃ k : Nat, k ≤ ns.length ∧ i = .int .i64 k ∧ s = .int .i64 (tot (ns.take k) : Nat)) (fun _ i => ns.length - (intOf i).toNat)
  case atStart => exact ⟨0, Nat.zero_le _, rfl, by simp [tot]⟩
  case round =>
    obtain ⟨k, hk, rfl, rfl⟩ := hrel
    by_cases hlt : k < ns.length
    · obtain ⟨a', rfl, _, hc'⟩ := HA.out.nat hlt
      have HN := Lib.hid (tot_take_succ ns k hlt)
      have hx := HS.out ns[k] (List.getElem_mem hlt)
      have ht := HT.out k hk
      generalize ns[k] = x at *
      generalize tot (ns.take k) = d at *
      go_wp2
      go_round
      case rel => exact ⟨k + 1, by omega, by go_num, by rw [HN.out]; simp⟩
      case measure => simp [intOf]; omega
    · obtain rfl : k = ns.length := by omega
      rw [List.take_length]
      go_wp2
      go_ret
      exact ⟨rfl, rfl⟩
set_option maxRecDepth 100000 in
set_option maxHeartbeats 4000000 in
theorem read_256 (b : List UInt8) (hb : b.length = 256) (H1 : saysK b = 1 → Told1) (B : Nat) (A : Option Addr) (c : Nat) (hc : 256 ≤ c) (w : World) (hB : B ≤ w.heap.size) (hA : Sl w B A (b.map u8v)) :
    Calls Tryd.prog 27 #[.slice A 256 c] w fun e w' => (hasOk (saysK b) (saysL b) = false → e = .returned (.tuple #[nulV, .bool false])) ∧ (hasOk (saysK b) (saysL b) = true → ∃ A' c', e = .returned (.tuple #[recV (says b) A' c', .bool true]) ∧ Ents w' w'.heap.size A' (says b).ents ∧ (∀ a, A' = some a → w.heap.size ≤ a.block)) ∧ Below w.heap.size w w' := by
  obtain ⟨a, rfl, hab, hcz⟩ := hA.u8 (k := 0) (by omega)
  clear hcz
  have HA := Lib.hid hA
  have HBL := Lib.hid hb
  have HH1 := Lib.hid H1
  have HX := Lib.hid (JMem.Boxed.start w [.int .i64 0, .int .i64 0, .slice none 0 0, .int .u32 0, .int .i64 0] 38)
  have HZ := Lib.hid (row_new w (.cells #[.int .i64 0, .int .i64 0, .slice none 0 0, .int .u32 0, .int .i64 0] 38))
  have HHX := Lib.hid (headX_at b (by omega))
  have HHL := Lib.hid (headX_len b)
  have HH : Hid (∀ w1 A' c', w1.heap.size = w1.heap.size → Sl w1 w1.heap.size (some a) (b.map u8v) → Sl w1 w1.heap.size A' (headW.map i64v) → Calls Tryd.prog 47 #[.slice (some a) 11 c, .slice A' 4 c'] w1 fun e w' =>
      ∃ g, e = .returned (.tuple #[.slice (some ⟨g, 0, none⟩) 4 4, .int .i64 0]) ∧ w1.heap.size ≤ g ∧ RowV w' g 66 ((headX b).map u64v) ∧ Below w1.heap.size w1 w') := Lib.hid (fun w1 A' c' _ hs hw => by
    have h := UnpackW_at 11 (b.take 11) (by rw [List.length_take]; omega) headW w1.heap.size (some a) A' c c' w1 (Nat.le_refl _) headW_fine (by rw [List.length_take]; rw [hb]; rfl) (by decide) (by decide) (by rw [List.map_take]; exact hs.take _) hw
    exact h)
  clear hA hb H1
  go_enter Tryd.func27, Tryd.ntmps27
  have hc11 : 11 ≤ c := by omega
  have hc12 : (11 : Int) ≤ (c : Int) := by omega
  go_upto_region 3 with fail
  go_region_law
    ((first
      | (go_simp; go_at_call 47; refine (HH.out w1 _ _ rfl ((HA.out.below_le HY1.out.below hB).up (by omega)) (HR1.out.sl HR1.out.lt)).mono ?_; rintro e w2 ⟨g2, rfl, hg2, hR2, hb2⟩
         have HY2 : Hid (JMem.Boxed w w2 [.int .i64 0, .int .i64 0, .slice none 0 0, .int .u32 0, .int .i64 0]) := Lib.hid (HY1.out.go hb2)
         have HZ2 : Hid (w2.heap[w.heap.size]? = some (.cells #[.int .i64 0, .int .i64 0, .slice none 0 0, .int .u32 0, .int .i64 0] 38 (0, 0))) := Lib.hid ((hb2.block w.heap.size hs1).trans HZ1.out)
         have HR2 := Lib.hid hR2
         clear hR2 hb2)
      | (go_simp; go_at_call 32; refine (headWidths_ex _).mono ?_; rintro e w1 ⟨gh, rfl, hgh, hR1, hb1⟩
         have HY1 : Hid (JMem.Boxed w w1 [.int .i64 0, .int .i64 0, .slice none 0 0, .int .u32 0, .int .i64 0]) := Lib.hid ((HX.out.drewN 1).go hb1)
         have HZ1 : Hid (w1.heap[w.heap.size]? = some (.cells #[.int .i64 0, .int .i64 0, .slice none 0 0, .int .u32 0, .int .i64 0] 38 (0, 0))) := Lib.hid ((hb1.block w.heap.size (by simp)).trans HZ.out)
         have HR1 := Lib.hid hR1
         have hs1 := HY1.out.lt
         clear hR1 hb1)))
  all_goals
    have hs2 := HY2.out.lt
    have d1 : w2.cell? ⟨g2, 1, none⟩ = some (.int .u64 (saysK b)) := by
      have h := HR2.out.cell (i := 1) (by rw [List.length_map, HHL.out]; decide)
      rw [h]; simp only [List.getElem_map, u64v]; rw [HHX.out.1]; rfl
    have d2 : w2.cell? ⟨g2, 2, none⟩ = some (.int .u64 (getX b 5 4 : Nat)) := by
      have h := HR2.out.cell (i := 2) (by rw [List.length_map, HHL.out]; decide)
      rw [h]; simp only [List.getElem_map, u64v]; rw [HHX.out.2.1]
    have d3 : w2.cell? ⟨g2, 3, none⟩ = some (.int .u64 (saysL b : Nat)) := by
      have h := HR2.out.cell (i := 3) (by rw [List.length_map, HHL.out]; decide)
      rw [h]; simp only [List.getElem_map, u64v]; rw [HHX.out.2.2]; rfl
    have hk0 : 0 ≤ saysK b := by unfold saysK; omega
    have hk1 : saysK b < 256 := by
      have : getX b 4 1 < 256 := getX_small b 4 1
      unfold saysK
      omega
    have hn1 : saysL b < 65536 := getX_small b 9 2
    have hq1 : getX b 5 4 < 4294967296 := getX_small b 5 4
    have HTS : Hid (hasOk (saysK b) (saysL b) = true → ∀ (m : Nat), (bodyW (saysK b) (saysL b)).length = m → ∀ (g : Nat) (w : World), RowV w g 66 ((bodyX b (saysK b) (saysL b)).map u64v) →
        Calls Tryd.prog 50 #[.int .i64 (saysK b), .int .i64 (getX b 5 4 : Nat), .slice (some ⟨g, 0, none⟩) m m] w fun e w' => ∃ A' c', e = .returned (recV (says b) A' c') ∧ Ents w' w'.heap.size A' (says b).ents ∧ (∀ a, A' = some a → w.heap.size ≤ a.block) ∧ Below w.heap.size w w') := Lib.hid (fun hok m hm g w hR => told_says b HBL.out hok HH1.out m hm g w hR)
    have HBX : Hid (bodyX b (saysK b) (saysL b) = unp (nats (bodyW (saysK b) (saysL b))) ((b.drop 11).take (bodyT (saysK b) (saysL b)))) := rfl
    clear HH HHX HHL HX HY1 HZ HZ1 HR1 HR2 HH1
    generalize hR : says b = R at *
    generalize hbx : bodyX b (saysK b) (saysL b) = bx at *
    generalize hKK : saysK b = K at *
    generalize hNN : saysL b = n at *
    generalize getX b 5 4 = sq at *
    have s1 : IntKind.i64.wrap K = K := IntWalk.i64_in _ (by omega)
    have s2 : IntKind.i64.wrap (n : Int) = (n : Int) := IntWalk.i64_in _ (by omega)
    have s3 : IntKind.i64.wrap (sq : Int) = (sq : Int) := IntWalk.i64_in _ (by omega)
    have HRS := Lib.hid hR
    have HKK := Lib.hid hKK
    have HNN := Lib.hid hNN
    clear hR hbx hKK hNN
    go_wp2_with fail
    go_quiet (fail)
    cases hok : hasOk K n with
    | false =>
      go_wp2_with fail
      refine (mayHave_any K n _).mono ?_
      rintro e w' ⟨rfl, rfl⟩
      rw [hok]
      have HOK := Lib.hid hok
      clear hok
      have z : ∀ i, w2.frozen? ⟨w.heap.size, i, none⟩ = false := fun i => row_free HZ2.out i
      obtain ⟨e0, e1, e2, e3, e4⟩ := HY2.out.five
      go_wp2_with fail
      refine bodyPost_ret (v := .tuple #[nulV, .bool false]) ?_ rfl ⟨fun _ => rfl, fun h => (by rw [HKK.out, HNN.out, HOK.out] at h; cases h), ?_⟩
      · simp [results, Tryd.results27, go_sem, nulV, e0, e1, e2, e3, e4]
      · exact set5_below _ _ _ _ _ (below_drewN HY2.out.below _) (Nat.le_refl _)
    | true =>
      have HTS2 := Lib.hid (HTS.out hok)
      have HBW := Lib.hid (bodyWidths_any K n hok)
      have hT := bodyT_le hok
      have HTT := Lib.hid (bodyW_tot K n)
      have HFI := Lib.hid (bodyW_fine K n)
      have hbwl : (bodyW K n).length ≤ 1000 := by
        have h := bodyW_tot K n
        have h2 := (tot_le (nats (bodyW K n)) (nats_fine _ (bodyW_fine K n))).1
        rw [nats_len] at h2
        omega
      have HOK := Lib.hid hok
      obtain ⟨m, hm⟩ : ∃ m, (bodyW K n).length = m := ⟨_, rfl⟩
      have HM := Lib.hid hm
      rw [hm] at hbwl HBW
      obtain ⟨T, hTT⟩ : ∃ T, bodyT K n = T := ⟨_, rfl⟩
      rw [hTT] at hT HTT HBX
      clear hm hTT HTS
      go_wp2_with fail
      refine (mayHave_any K n _).mono ?_
      rintro e w' ⟨rfl, rfl⟩
      rw [HOK.out]
      clear hok
      go_wp2_with fail
      refine (HBW.out _).mono ?_
      rintro e w3 ⟨g3, rfl, hg3, hR3, hb3⟩
      have HY3 := Lib.hid ((HY2.out.drewN _).go hb3)
      have HZ3 : Hid (w3.heap[w.heap.size]? = some (.cells #[.int .i64 0, .int .i64 0, .slice none 0 0, .int .u32 0, .int .i64 0] 38 (0, 0))) := Lib.hid ((hb3.block w.heap.size hs2).trans HZ2.out)
      have HR3 := Lib.hid hR3
      clear hR3 hb3
      have w1 : IntKind.i64.wrap (11 + (T : Int)) = ((11 + T : Nat) : Int) := by rw [IntWalk.i64_in _ (by omega)]; simp
      have i1 : (11 : Int) ≤ ((11 + T : Nat) : Int) := by omega
      have i2 : ((11 + T : Nat) : Int) ≤ (c : Int) := by omega
      have i3 : 11 ≤ 11 + T := by omega
      have i4 : 11 + T ≤ c := by omega
      have HTOT : Hid (Calls Tryd.prog 49 #[.slice (some ⟨g3, 0, none⟩) m m] w3 fun e w' => e = .returned (.int .i64 (T : Int)) ∧ w3 = w') := Lib.hid (by
        have h := total_any (nats (bodyW K n)) (by rw [nats_len, HM.out]; exact hbwl) (fun x hx => (nats_fine _ HFI.out x hx).2) w3.heap.size (some ⟨g3, 0, none⟩) m w3 (by rw [← nats_vals _ HFI.out]; exact HR3.out.sl HR3.out.lt)
        rw [nats_len, HM.out, HTT.out] at h
        exact h)
      go_wp2_with fail
      refine HTOT.out.mono ?_
      rintro e w' ⟨rfl, rfl⟩
      have HAB : Hid (Sl w3 w3.heap.size (some (⟨a.block, a.off + 11, none⟩ : Addr)) (((b.drop 11).take T).map u8v)) := Lib.hid (by
        have e : (⟨a.block, a.off + 11, none⟩ : Addr) = a.add 11 := by unfold Addr.add; rfl
        rw [e, List.map_take, List.map_drop]
        exact ((sl_drop (HA.out.below_le HY3.out.below hB) 11).take T).up (Nat.le_trans hB HY3.out.below.size))
      have HU : Hid (Calls Tryd.prog 47 #[.slice (some ⟨a.block, a.off + 11, none⟩) T (c - 11), .slice (some ⟨g3, 0, none⟩) m m] w3 fun e w' =>
          ∃ g, e = .returned (.tuple #[.slice (some ⟨g, 0, none⟩) m m, .int .i64 0]) ∧ w3.heap.size ≤ g ∧ RowV w' g 66 (bx.map u64v) ∧ Below w3.heap.size w3 w') := Lib.hid (by
        have hlT : ((b.drop 11).take T).length = T := by rw [List.length_take, List.length_drop, HBL.out]; omega
        have h := UnpackW_at T ((b.drop 11).take T) hlT (bodyW K n) w3.heap.size (some ⟨a.block, a.off + 11, none⟩) (some ⟨g3, 0, none⟩) (c - 11) m w3 (Nat.le_refl _) HFI.out (by rw [hlT]; exact HTT.out) (by omega) (by rw [HM.out]; omega) HAB.out (HR3.out.sl HR3.out.lt)
        rw [HM.out] at h
        rw [HBX.out]
        exact h)
      clear HAB HTOT
      go_wp2_with fail
      refine HU.out.mono ?_
      rintro e w4 ⟨g4, rfl, hg4, hR4, hb4⟩
      have HY4 := Lib.hid (HY3.out.go hb4)
      have HZ4 : Hid (w4.heap[w.heap.size]? = some (.cells #[.int .i64 0, .int .i64 0, .slice none 0 0, .int .u32 0, .int .i64 0] 38 (0, 0))) := Lib.hid ((hb4.block w.heap.size HY3.out.lt).trans HZ3.out)
      have HR4 := Lib.hid hR4
      have HLT4 := Lib.hid HY4.out.lt
      clear hR4 hb4
      go_wp2_with fail
      refine (HTS2.out m HM.out g4 w4 HR4.out).mono ?_
      rintro e w5 ⟨A', c', rfl, hE, hfar, hb5⟩
      have HY5 := Lib.hid (HY4.out.go hb5)
      have HZ5 : Hid (w5.heap[w.heap.size]? = some (.cells #[.int .i64 0, .int .i64 0, .slice none 0 0, .int .u32 0, .int .i64 0] 38 (0, 0))) := Lib.hid ((hb5.block w.heap.size HLT4.out).trans HZ4.out)
      have HE := Lib.hid hE
      clear hE hb5
      obtain ⟨e0, e1, e2, e3, e4⟩ := HY5.out.five
      have z : ∀ i, w5.frozen? ⟨w.heap.size, i, none⟩ = false := fun i => row_free HZ5.out i
      unfold recV
      have HFAR : Hid (∀ a, A' = some a → w.heap.size < a.block) := Lib.hid (fun a ha => Nat.lt_of_lt_of_le HLT4.out (hfar a ha))
      clear hfar
      go_wp2_with fail
      refine bodyPost_ret (v := .tuple #[.agg #[.int .i64 R.kind, .int .i64 R.seq, .slice A' R.ents.length c', .int .u32 (R.sum : Int), .int .i64 R.start], .bool true]) ?_ rfl ?_
      · simp [results, Tryd.results27, go_sem, e0, e1, e2, e3, e4]
      · rw [HKK.out, HNN.out, HRS.out, HOK.out]
        exact ⟨fun h => (by cases h), fun _ => ⟨A', c', rfl, Ents.set5_up HE.out (fun a ha => Nat.ne_of_lt (HFAR.out a ha)) _ _ _ _ _, fun a ha => Nat.le_of_lt (HFAR.out a ha)⟩, set5_below _ _ _ _ _ HY5.out.below (Nat.le_refl _)⟩
end Go.Proofs.YtkkcipjlinfieaaDoor.JRead
