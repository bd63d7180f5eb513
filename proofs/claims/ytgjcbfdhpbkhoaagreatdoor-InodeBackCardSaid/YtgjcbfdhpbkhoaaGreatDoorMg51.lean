/- The second block, packed by the document. -/
import Derived.Test.YtgjcbfdhpbkhoaaGreatDoorMg17
import Derived.Test.YtgjcbfdhpbkhoaaGreatDoorMg14
import Derived.Test.YtgjcbfdhpbkhoaaGreatDoorMg13
import Derived.Test.YtgjcbfdhpbkhoaaGreatDoorMg10
import Derived.Deep.AppendLies
import Derived.Deep.RegionHeld3
import Derived.Deep.RegionLaw
namespace Go.Proofs.YtgjcbfdhpbkhoaaGreatDoor.QRPack
open Go.RowKit WMem WPlain WAppend WHelp WFace2 WWide WAny WCrc WSeal WRefPack WRefSeal GPlain GGeo GRef SNums SPlain QPlain QMem
theorem owns_below {w w' : World} {B : Nat} {e : TypeId} {k : Nat} {v : Value} {n : Nat} {xs : List Value} (h : w.ownsRow B e k v n xs) (hb : Below w.heap.size w w') : w'.ownsRow B e k v n xs :=
  h.kept (below_grown hb none) (by cases v.ownBlock <;> simp)
theorem owns_apart {w : World} {B B' : Nat} {e e' : TypeId} {k k' : Nat} {v v' : Value} {n n' : Nat} {xs xs' : List Value} (h : w.ownsRow B e k v n xs) (h' : w.ownsRow B' e' k' v' n' xs') (hne : e ≠ e') : v.ownBlock = none ∨ v.ownBlock ≠ v'.ownBlock := by
  rcases h.2 with ⟨rfl, _⟩ | ⟨g, cap, cur, rfl, _, hg, _⟩
  · exact .inl rfl
  · refine .inr fun e0 => ?_
    rcases h'.2 with ⟨rfl, _⟩ | ⟨g', cap', cur', rfl, _, hg', _⟩
    · simp [Value.ownBlock] at e0
    · simp [Value.ownBlock] at e0
      subst e0
      rw [hg] at hg'
      injection hg' with hg'
      injection hg' with _ h2
      exact hne h2
theorem sl_new {w : World} {g : Nat} (hg : w.heap.size = g) (cs : List Value) (T : TypeId) : Sl (w.alloc (.cells cs.toArray T)) (g + 1) (some ⟨g, 0, none⟩) cs := by
  subst hg
  exact Sl.of_row (n := cs.length) (row_new _ _) (by omega) (by simp)
theorem elemInt : Elem Tryz.prog 50 3 8 := ⟨by kernel_rfl, by
  obtain ⟨i, h1, h2, h3, h4⟩ := info_parts (P := Tryz.prog) (e := 3) (z := .int .i64 0) (size := 1) (bytes := 8) (by kernel_rfl)
  exact ⟨i, _, h1, h2, h3, h4, rfl⟩⟩
theorem info64 : (Tryz.prog.info? 47).map (fun i => (i.zero, i.size, i.bytes)) = some (some (.int .u64 0), 1, 8) := by kernel_rfl
theorem under64 : Tryz.prog.underlying 48 = some (.slice 47) := by kernel_rfl
theorem u64_small {x : Nat} (h : x < 65536) : u64v (UInt64.ofNat x) = .int .u64 (x : Int) := by
  unfold u64v
  rw [ofNat_small (by omega)]
theorem nums_more (l : List Grp) (k : Nat) (h : k < l.length) (fb fi dd : Nat) (hx : l[k] = ⟨fb, fi, dd⟩) (h1 : fb < 65536) (h2 : fi < 65536) (h3 : dd < 65536) :
    (nums (grpN (l.take (k + 1)))).map u64v = (nums (grpN (l.take k))).map u64v ++ [.int .u64 (fb : Int), .int .u64 (fi : Int), .int .u64 (dd : Int)] := by
  rw [grpN_take_succ l k h, hx]
  simp only [nums, List.map_append, three, List.map_cons, List.map_nil, Int.toNat_natCast]
  rw [u64_small h1, u64_small h2, u64_small h3]
theorem all_take (l : List Grp) (k : Nat) (h : k < l.length) (x : Grp) (hx : l[k] = x) (h1 : ∀ y ∈ l.take k, oneMay y = true) (h2 : oneMay x = true) : ∀ y ∈ l.take (k + 1), oneMay y = true := by
  subst hx
  intro y hy
  rw [List.take_succ_eq_append_getElem h] at hy
  rcases List.mem_append.1 hy with hy | hy
  · exact h1 y hy
  · rw [List.mem_singleton.1 hy]; exact h2
theorem may_no (l : List Grp) (k : Nat) (h : k < l.length) (x : Grp) (hx : l[k] = x) (h2 : oneMay x = false) : grpMay l = false := by
  rw [Bool.eq_false_iff]
  intro hm
  have := (grpMay_iff.1 hm).2 l[k] (List.getElem_mem h)
  rw [hx, h2] at this
  cases this
theorem may_len {l : List Grp} (h : ¬ (1 ≤ l.length ∧ l.length ≤ 14)) : grpMay l = false := by
  rw [Bool.eq_false_iff]
  intro hm
  exact h (grpMay_iff.1 hm).1
theorem oneMay_eq (fb fi dd : Int) : oneMay ⟨fb, fi, dd⟩ = (inB 0 65535 fb && (inB 0 65535 fi && (inB 0 65535 dd && true))) := rfl
theorem refPack_at (len : Nat) (xs : List UInt64) (hlen : xs.length = len) (len' : Nat) (ws : List Int) (hlen' : ws.length = len') (B : Nat) (A A' : Option Addr) (c c' : Nat) (w : World) (size : Nat) (hB : B ≤ w.heap.size) (h : packs xs ws (size : Int)) (hx : fit (nats ws) xs) (hA : Sl w B A (xs.map u64v)) (hA' : Sl w B A' (ws.map i64v)) :
    Calls Tryz.prog 23 #[.slice A len c, .slice A' len' c', .int .i64 (size : Int)] w fun e w' =>
      ∃ g, e = .returned (.tuple #[.slice (some ⟨g, 0, none⟩) size size, .int .i64 0]) ∧ w.heap.size ≤ g ∧ Row w' g (bytesOf_ xs ws (size : Int)) [] ∧ Below w.heap.size w w' := by
  subst hlen
  subst hlen'
  exact refPack_ok xs ws size B A A' c c' w hB h hx hA hA'
theorem own_of_row {w : World} {base g : Nat} {l : List UInt8} (hg : base ≤ g) (hR : Row w g l []) (hl : l.length = (256 : Int).toNat) : Own w base (.slice (some ⟨g, 0, none⟩) 256 256) l := by
  have hl' : l.length = 256 := hl
  exact .inr ⟨g, 256, [], by rw [hl'], hg, by omega, hR⟩
def RefG (l : List Grp) (w : World) (e : Ending) (w' : World) : Prop :=
  (grpMay l = true → ∃ v, e = .returned (.tuple #[v, .int .i64 0]) ∧ Own w' w.heap.size v (grpBytes l)) ∧
    (grpMay l = false → e = .returned (.tuple #[.slice none 0 0, .int .i64 22])) ∧ Below w.heap.size w w'
theorem RefG.no {l : List Grp} {w w' : World} (h : grpMay l = false) (hb : Below w.heap.size w w') : RefG l w (.returned (.tuple #[.slice none 0 0, .int .i64 22])) w' :=
  ⟨fun h' => (by rw [h] at h'; cases h'), fun _ => rfl, hb⟩
set_option maxHeartbeats 1000000 in
theorem refPackGroups_len (l : List Grp) (h : ¬ (1 ≤ l.length ∧ l.length ≤ 14)) (A : Option Addr) (c : Nat) (w : World) :
    Calls Tryz.prog 64 #[.slice A l.length c] w (RefG l w) := by
  have HN := Lib.hid (may_len h)
  by_cases h0 : l.length < 1
  · have d0 : decide ((l.length : Int) < 1) = true := by simp; omega
    have d0' : decide (l.length < 1) = true := by simpa using h0
    go_enter Tryz.func64, Tryz.ntmps64
    go_wp2
    go_ret2
    exact RefG.no HN.out (Below.refl _ _)
  · have d0 : decide ((l.length : Int) < 1) = false := by simp; omega
    have d1 : decide ((14 : Int) < (l.length : Int)) = true := by simp; omega
    go_enter Tryz.func64, Tryz.ntmps64
    go_wp2
    go_ret2
    exact RefG.no HN.out (Below.refl _ _)
set_option maxRecDepth 100000 in
set_option maxHeartbeats 4000000 in
theorem refPackGroups_in (l : List Grp) (h1 : 1 ≤ l.length) (h2 : l.length ≤ 14) (B : Nat) (A : Option Addr) (c : Nat) (w : World) (hB : B ≤ w.heap.size) (hA : Grps w B A l) :
    Calls Tryz.prog 64 #[.slice A l.length c] w (RefG l w) := by
  have HA := Lib.hid hA
  obtain ⟨i0, hi0, hz0, hz1, hz2⟩ := info_parts info64
  clear hA
  have d0 : decide ((l.length : Int) < 1) = false := by simp; omega
  have d1 : decide ((14 : Int) < (l.length : Int)) = false := by simp; omega
  go_enter Tryz.func64, Tryz.ntmps64
  go_wp2_with fail
  clear d0 d1
  go_loopw [4, 5, 6] (fun v u i wr => ∃ k : Nat, k ≤ l.length ∧ i = .int .i64 k ∧ wr.ownsRow w.heap.size 47 1 v (3 * k) ((nums (grpN (l.take k))).map u64v) ∧ wr.ownsRow w.heap.size 3 1 u (3 * k) (List.replicate (3 * k) (.int .i64 4)) ∧ Below w.heap.size w wr ∧ Hid (∀ x ∈ l.take k, oneMay x = true)) (fun _ _ i _ => l.length - (intOf i).toNat)
  case atStart => exact ⟨0, Nat.zero_le _, rfl, by simpa [nums, grpN] using World.ownsRow_nil _ w.heap.size 47 1, by simpa using World.ownsRow_nil _ w.heap.size 3 1, Below.refl _ _, Lib.hid (by simp)⟩
  case round =>
    obtain ⟨k, hk, rfl, ho, hu, hb, HK⟩ := hrel
    have HO := Lib.hid ho
    have HU := Lib.hid hu
    have HB := Lib.hid hb
    have sB := hb.size
    clear ho hu hb
    by_cases hlt : k < l.length
    · have hG := (HA.out.below HB.out hB).at_ hlt
      have HX := Lib.hid (nums_more l k hlt)
      have HM := Lib.hid (all_take l k hlt)
      have HN := Lib.hid (may_no l k hlt)
      generalize hx : l[k] = x at *
      obtain ⟨fb, fi, dd⟩ := x
      obtain ⟨a, rfl, hab, c0, c1, c2⟩ := hG
      simp only at c0 c1 c2
      cases q1 : inB 0 65535 fb with
      | false =>
        have HQ := Lib.hid (HN.out _ rfl (by rw [oneMay_eq, q1]; rfl))
        go_wp2_with (go_at_call 93; refine (refwithin_any _ _ _ _).mono ?_; rintro e w' ⟨rfl, rfl⟩)
        go_ret2
        exact RefG.no HQ.out HB.out
      | true =>
        cases q2 : inB 0 65535 fi with
        | false =>
          have HQ := Lib.hid (HN.out _ rfl (by rw [oneMay_eq, q1, q2]; rfl))
          go_wp2_with (go_at_call 93; refine (refwithin_any _ _ _ _).mono ?_; rintro e w' ⟨rfl, rfl⟩)
          go_ret2
          exact RefG.no HQ.out HB.out
        | true =>
          cases q3 : inB 0 65535 dd with
          | false =>
            have HQ := Lib.hid (HN.out _ rfl (by rw [oneMay_eq, q1, q2, q3]; rfl))
            go_wp2_with (go_at_call 93; refine (refwithin_any _ _ _ _).mono ?_; rintro e w' ⟨rfl, rfl⟩)
            go_ret2
            exact RefG.no HQ.out HB.out
          | true =>
            have HMM := Lib.hid (HM.out _ rfl HK.out (by rw [oneMay_eq, q1, q2, q3]; rfl))
            have b1 := inB_true.1 q1
            have b2 := inB_true.1 q2
            have b3 := inB_true.1 q3
            obtain ⟨fb, rfl⟩ := Int.eq_ofNat_of_zero_le b1.1
            obtain ⟨fi, rfl⟩ := Int.eq_ofNat_of_zero_le b2.1
            obtain ⟨dd, rfl⟩ := Int.eq_ofNat_of_zero_le b3.1
            have b1' : fb < 65536 := by omega
            have b2' : fi < 65536 := by omega
            have b3' : dd < 65536 := by omega
            have HXX := Lib.hid (HX.out fb fi dd rfl b1' b2' b3')
            clear b1 b2 b3
            have s0 : IntKind.u64.wrap (fb : Int) = (fb : Int) := by rw [IntKind.wrap_u64]; omega
            have s1 : IntKind.u64.wrap (fi : Int) = (fi : Int) := by rw [IntKind.wrap_u64]; omega
            have s2 : IntKind.u64.wrap (dd : Int) = (dd : Int) := by rw [IntKind.wrap_u64]; omega
            go_wp2_with (go_at_call 93; refine (refwithin_any _ _ _ _).mono ?_; rintro e w' ⟨rfl, rfl⟩)
            have HNEW : Hid ((wr.alloc (.cells #[.int .u64 (fb : Int), .int .u64 (fi : Int), .int .u64 (dd : Int)] 47)).drew.heap[wr.heap.size]? = some (.cells #[.int .u64 (fb : Int), .int .u64 (fi : Int), .int .u64 (dd : Int)] 47 (0, 0))) := Lib.hid (row_new wr _)
            have HS0 : Hid (wr.drew.cell? (a.add (k * 3)) = some (.int .i64 (fb : Int)) ∧ wr.drew.cell? ⟨(a.add (k * 3)).block, (a.add (k * 3)).off + 1, none⟩ = some (.int .i64 (fi : Int)) ∧ wr.drew.cell? ⟨(a.add (k * 3)).block, (a.add (k * 3)).off + 2, none⟩ = some (.int .i64 (dd : Int))) := Lib.hid ⟨c0, c1, c2⟩
            go_region_law (refine step_append_lies _ (by rfl) _ _ _ (by rfl) w.heap.size 47 i0 _ 1 8 under64 hi0 hz0 hz1 hz2 rfl (by omega) u4 (3 * k) _ (by rfl) ((HO.out.alloc _).drew) ⟨wr.heap.size, 0, none⟩ 3 3 [.int .u64 (fb : Int), .int .u64 (fi : Int), .int .u64 (dd : Int)] (by rfl) (by rfl) (World.news_of_block (cs := #[.int .u64 (fb : Int), .int .u64 (fi : Int), .int .u64 (dd : Int)]) (t := 47) (fr := (0, 0)) HNEW.out) (by simp [Value.oneCell']) (by omega) (by unfold maxLen; omega) (by omega) (by simp; omega) (wr.heap.size + 1) (by simp) ?_; intro gg cap w1 hown1 hgrow hat hlt2)
            all_goals
              have HU1 := Lib.hid ((HU.out.alloc (.cells #[.int .u64 (fb : Int), .int .u64 (fi : Int), .int .u64 (dd : Int)] 47)).drew.kept hgrow (owns_apart HU.out HO.out (by decide)))
              have HO1 := Lib.hid hown1
              have b1 : Below w.heap.size w w1 := (HB.out.alloc sB _).drew.grown hgrow (by simp; omega) (fun q hq => (HO.out.lt q hq).1)
              have HB1 := Lib.hid b1
              have sB1 := b1.size
              clear hown1 hgrow hat hlt2 b1 HNEW HS0
              go_wp2_with (at_builtin; go_loud (refine wl_append rfl (.tmp 69) (.tmp 70) 50 rfl w.heap.size 3 8 elemInt _ (3 * k) _ rfl (HU1.out.alloc _) (w1.heap.size + 1) (some ⟨w1.heap.size, 0, none⟩) 3 3 [.int .i64 4, .int .i64 4, .int .i64 4] rfl rfl (sl_new rfl [.int .i64 4, .int .i64 4, .int .i64 4] _) (by simp [Value.oneCell']) (by omega) (by unfold maxLen; omega) (by simp; omega) ?_); intro v' w3 h1 h2 h3
                           have HO3 := Lib.hid ((HO1.out.alloc _).kept h2 (owns_apart HO1.out HU1.out (by decide)))
                           have b3 : Below w.heap.size w w3 := (HB1.out.alloc sB1 _).grown h2 (by simp; omega) (fun q hq => (HU1.out.lt q hq).1)
                           have H1 := Lib.hid h1
                           have HB3 := Lib.hid b3
                           clear h1 h2 h3 b3)
              go_roundw
              case rel =>
                refine ⟨k + 1, by omega, by go_num, ?_, ?_, HB3.out, HMM⟩
                · rw [HXX.out, show 3 * (k + 1) = 3 * k + 3 by omega]
                  exact HO3.out
                · rw [show 3 * (k + 1) = 3 * k + 3 by omega, ← List.replicate_append_replicate]
                  exact H1.out
              case measure => simp [intOf]; omega
    · obtain rfl : k = l.length := by omega
      have hal : ∀ x ∈ l, oneMay x = true := by
        have := HK.out
        rwa [List.take_length] at this
      have HF := Lib.hid (grp_fit l hal)
      have HP := Lib.hid (grp_packs l h2)
      have HY := Lib.hid (grpMay_iff.2 ⟨⟨h1, h2⟩, hal⟩)
      obtain ⟨A', c', rfl, hs⟩ := own_sl HO.out
      obtain ⟨A2, c2, rfl, hs2⟩ := own_sl HU.out
      rw [List.take_length] at hs
      have HS := Lib.hid hs.1
      have HS2 : Hid (Sl wr wr.heap.size A2 ((grpW l.length).map i64v)) := Lib.hid (by
        have := hs2.1
        simpa [grpW, i64v] using this)
      clear hs hs2 hal
      go_wp2_with fail
      refine (refPack_at (3 * l.length) (nums (grpN l)) (by rw [nums_len, grpN_len]) (3 * l.length) (grpW l.length) (by simp [grpW]) wr.heap.size A' A2 c' c2 wr 256 (Nat.le_refl _) HP.out HF.out HS.out HS2.out).mono ?_
      rintro e w2 ⟨g2, rfl, hg2, hR2, hb2⟩
      have HB2 := Lib.hid (below_up HB.out hb2 sB)
      have hwg : w.heap.size ≤ g2 := Nat.le_trans sB hg2
      have hR2' : Row w2 g2 (bytesOf_ (nums (grpN l)) (grpW l.length) 256) [] := hR2
      have HO2 := Lib.hid (own_of_row hwg hR2' (bytesOf_len (grpW l.length) _ 256 HP.out))
      clear hR2 hR2' hb2 hg2
      go_wp2_with fail
      refine (refSeal_any _ w.heap.size _ 1 w2 (by decide) (by rw [bytesOf_len (grpW l.length) _ 256 HP.out]; decide) HO2.out).mono ?_
      rintro e w3 ⟨rfl, hO3, hg3⟩
      have HO3 := Lib.hid hO3
      have HG3 := Lib.hid hg3
      clear hO3 hg3
      go_wp2
      go_ret2
      exact ⟨fun _ => ⟨_, rfl, HO3.out⟩, fun h => (by rw [HY.out] at h; cases h), HB2.out.grown HG3.out HB2.out.size (by intro k hk; simp [Value.ownBlock] at hk; subst hk; exact hwg)⟩
theorem refPackGroups_any (l : List Grp) (B : Nat) (A : Option Addr) (c : Nat) (w : World) (hB : B ≤ w.heap.size) (hA : Grps w B A l) :
    Calls Tryz.prog 64 #[.slice A l.length c] w (RefG l w) := by
  by_cases h : 1 ≤ l.length ∧ l.length ≤ 14
  · exact refPackGroups_in l h.1 h.2 B A c w hB hA
  · exact refPackGroups_len l h A c w
end Go.Proofs.YtgjcbfdhpbkhoaaGreatDoor.QRPack
