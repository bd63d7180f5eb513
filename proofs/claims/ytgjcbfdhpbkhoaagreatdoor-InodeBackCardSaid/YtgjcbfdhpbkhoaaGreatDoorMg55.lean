/- What bytes say of an inode: Unpack and Pack, one contract each for whatever input. -/
import Derived.Test.YtgjcbfdhpbkhoaaGreatDoorMg28
import Derived.Test.YtgjcbfdhpbkhoaaGreatDoorMg44
import Derived.Test.YtgjcbfdhpbkhoaaGreatDoorMg14
import Derived.Laws.CopyOwn
import Derived.Test.YtgjcbfdhpbkhoaaGreatDoorMg46
import Derived.Test.YtgjcbfdhpbkhoaaGreatDoorMg47
import Derived.Test.YtgjcbfdhpbkhoaaGreatDoorMg56
namespace Go.Proofs.YtgjcbfdhpbkhoaaGreatDoor.IUn3
open Go.RowKit WMem WPlain WPack WWide WAny WAppend WCrc WSeal WFace2 GPlain GWithin GGeo GGeo2 SNums SPlain SEqual IPlain ICheck IPack ITold IUnp IUn2
theorem num_iff {ino : Int} : inB 1 65535 ino = true ↔ 1 ≤ ino ∧ ino ≤ 65535 := inB_true
theorem un_nul {ino : Int} {b : List UInt8} (h : ¬ (1 ≤ ino ∧ ino ≤ 65535 ∧ (b == zeros128) = false ∧ inoGood ino.toNat b = true)) : unI ino b = Ino.nul := if_neg h
def UnR (ino : Int) (b : List UInt8) (w : World) (e : Ending) (w' : World) : Prop :=
  ∃ A c, e = .returned (.tuple #[.agg #[.int .i64 (unI ino b).kind, .int .i64 (unI ino b).perm, .int .i64 (unI ino b).uid, .int .i64 (unI ino b).gid, .int .i64 (unI ino b).links, .int .i64 (unI ino b).size, .int .i64 (unI ino b).blocks, .int .i64 (unI ino b).at_, .int .i64 (unI ino b).mt, .int .i64 (unI ino b).ct, .int .i64 (unI ino b).next, .int .i64 (unI ino b).parent, .int .i64 (unI ino b).xattr, .bool (unI ino b).idx, .slice A (unI ino b).root.length c], .int .i64 (unE ino b)]) ∧ WAny.Own w' w.heap.size (.slice A (unI ino b).root.length c) (unI ino b).root ∧ Below w.heap.size w w'
theorem UnR.nul {ino : Int} {b : List UInt8} {w w' : World} {e : Ending} {er : Int} (h1 : unI ino b = Ino.nul) (h2 : unE ino b = er) (h : e = .returned (.tuple #[.agg #[.int .i64 0, .int .i64 0, .int .i64 0, .int .i64 0, .int .i64 0, .int .i64 0, .int .i64 0, .int .i64 0, .int .i64 0, .int .i64 0, .int .i64 0, .int .i64 0, .int .i64 0, .bool false, .slice none 0 0], .int .i64 er]) ∧ Below w.heap.size w w') : UnR ino b w e w' := by
  unfold UnR
  rw [h1, h2]
  exact ⟨none, 0, h.1, .inl ⟨rfl, rfl⟩, h.2⟩
theorem Unpack_any (ino : Int) (b : List UInt8) (n : Nat) (hl : b.length = n) (B : Nat) (A : Option Addr) (c : Nat) (hc : n ≤ c) (w : World) (hB : B ≤ w.heap.size) (hA : Sl w B A (b.map u8v)) (hT : Tab w) :
    Calls Tryz.prog 10 #[.int .i64 ino, .slice A n c] w (UnR ino b w) := by
  cases hn : inB 1 65535 ino with
  | false =>
    have hn' : ¬ (1 ≤ ino ∧ ino ≤ 65535) := fun h => by rw [num_iff.2 h] at hn; cases hn
    exact (un_num b n hl B A c w hA hT ino hn).mono fun e w' h => UnR.nul (un_nul fun h => hn' ⟨h.1, h.2.1⟩) (if_neg hn') h
  | true =>
    have hn' := num_iff.1 hn
    cases hz : (b == zeros128) with
    | true =>
      exact (un_free b n hl B A c w hB hA hT ino hn hz).mono fun e w' h => UnR.nul (un_nul fun h => by rw [hz] at h; exact absurd h.2.2.1 (by decide)) (by unfold unE; rw [if_pos hn', if_pos hz]) h
    | false =>
      have hz' : ¬ ((b == zeros128) = true) := by rw [hz]; decide
      have hE : inoGood ino.toNat b = false → unE ino b = 117 := fun h => by unfold unE; rw [if_pos hn', if_neg hz', if_neg (by rw [h]; decide)]
      have hI : inoGood ino.toNat b = false → unI ino b = Ino.nul := fun h => un_nul fun h2 => by rw [h] at h2; exact absurd h2.2.2.2 (by decide)
      by_cases h128 : n = 128
      · cases hm : inoMay (inoSays b) with
        | false =>
          have hg : inoGood ino.toNat b = false := by unfold inoGood; rw [hm]; simp
          exact (un_may b n hl B A c hc w hB hA hT ino hn hz h128 hm).mono fun e w' h => UnR.nul (hI hg) (hE hg) h
        | true =>
          cases hq : (inoBytes ino.toNat (inoSays b) == b) with
          | false =>
            have hg : inoGood ino.toNat b = false := by unfold inoGood; rw [hq]; simp
            exact (un_no b n hl B A c hc w hB hA hT ino hn hz h128 hm hq).mono fun e w' h => UnR.nul (hI hg) (hE hg) h
          | true =>
            have hg : inoGood ino.toNat b = true := by unfold inoGood; rw [hm, hq, hl, h128]; rfl
            have e1 : unI ino b = inoSays b := if_pos ⟨hn'.1, hn'.2, hz, hg⟩
            have e2 : unE ino b = 0 := by unfold unE; rw [if_pos hn', if_neg hz', if_pos hg]
            refine (un_yes b n hl B A c hc w hB hA hT ino hn hz h128 hm hq).mono ?_
            rintro e w' ⟨g, cap, rest, rfl, h1, h2, h3, h4⟩
            have hr := (may_of hm).root
            unfold UnR
            rw [e1, e2, hr]
            exact ⟨_, cap, rfl, .inr ⟨g, cap, rest, by rw [hr], h1, by rw [hr]; exact h2, h3⟩, h4⟩
      · have hg : inoGood ino.toNat b = false := by unfold inoGood; rw [hl]; simp [h128]
        exact (un_len b n hl B A c w hB hA hT ino hn hz h128).mono fun e w' h => UnR.nul (hI hg) (hE hg) h
def paE (ino : Int) (r : Ino) : Int := if inB 1 65535 ino = true ∧ inoMay r = true then 0 else 22
def paL (ino : Int) (r : Ino) : List UInt8 := if inB 1 65535 ino = true ∧ inoMay r = true then inoBytes ino.toNat r else []
def PaR (ino : Int) (r : Ino) (w : World) (e : Ending) (w' : World) : Prop :=
  ∃ A c, e = .returned (.tuple #[.slice A (paL ino r).length c, .int .i64 (paE ino r)]) ∧ WAny.Own w' w.heap.size (.slice A (paL ino r).length c) (paL ino r) ∧ Below w.heap.size w w'
theorem Pack_any (ino : Int) (r : Ino) (B : Nat) (A : Option Addr) (c : Nat) (w : World) (hB : B ≤ w.heap.size) (hA : Sl w B A (r.root.map u8v)) (hT : Tab w) (n : Nat) (hn : r.root.length = n) :
    Calls Tryz.prog 8 #[.int .i64 ino, .agg #[.int .i64 r.kind, .int .i64 r.perm, .int .i64 r.uid, .int .i64 r.gid, .int .i64 r.links, .int .i64 r.size, .int .i64 r.blocks, .int .i64 r.at_, .int .i64 r.mt, .int .i64 r.ct, .int .i64 r.next, .int .i64 r.parent, .int .i64 r.xattr, .bool r.idx, .slice A n c]] w (PaR ino r w) := by
  cases hi : inB 1 65535 ino with
  | false =>
    have e : ¬ (inB 1 65535 ino = true ∧ inoMay r = true) := fun h => by rw [hi] at h; exact absurd h.1 (by decide)
    refine (Pack_num r A c w n ino hi).mono fun e' w' h => ?_
    unfold PaR paE paL
    rw [if_neg e, if_neg e]
    exact ⟨none, 0, h.1, .inl ⟨rfl, rfl⟩, h.2⟩
  | true =>
    cases hm : inoMay r with
    | false =>
      have e : ¬ (inB 1 65535 ino = true ∧ inoMay r = true) := fun h => by rw [hm] at h; exact absurd h.2 (by decide)
      refine (Pack_may r A c w n hn ino hi hm).mono fun e' w' h => ?_
      unfold PaR paE paL
      rw [if_neg e, if_neg e]
      exact ⟨none, 0, h.1, .inl ⟨rfl, rfl⟩, h.2⟩
    | true =>
      have e : inB 1 65535 ino = true ∧ inoMay r = true := ⟨hi, hm⟩
      have h1 := num_iff.1 hi
      obtain ⟨m, rfl⟩ := Int.eq_ofNat_of_zero_le (show 0 ≤ ino by omega)
      have hr := (may_of hm).root
      subst hn
      rw [hr]
      refine (Pack_yes r A c w m (by omega) (by omega) hm B hB hA hT).mono ?_
      rintro e' w' ⟨g, rfl, h2, h3, h4⟩
      have hbl := inoBytes_len hr m
      have hbe : paL (m : Int) r = inoBytes m r := if_pos e
      have hee : paE (m : Int) r = 0 := if_pos e
      unfold PaR
      rw [hbe, hee, hbl]
      exact ⟨_, 128, rfl, .inr ⟨g, 128, [], by rw [hbl], h2, by rw [hbl]; decide, h3⟩, h4⟩
end Go.Proofs.YtgjcbfdhpbkhoaaGreatDoor.IUn3
/- Where an inode stands: alloc.Place, seek, bytes. -/
namespace Go.Proofs.YtgjcbfdhpbkhoaaGreatDoor.IPlace
open Go.RowKit WMem WPlain WPack WWide WAny WAppend WCrc WSeal WFace2 GPlain GWithin GGeo GGeo2 GFace SNums SPlain QPlain QMem Ext Map DPlain DMem EPlain EMem EFace EAny APlain AMem AGeo AOpen IPlain ICheck IPack IUnp IUn3
section
variable {a w : World} {B : Nat} {S : Nat → Prop} {b db : Nat} {s : Sto} {A : Al}
set_option maxRecDepth 100000 in
set_option maxHeartbeats 1000000 in
theorem place_own (h : AS a B S w b db s) (hs : Says s A) (hT : Tab a) (hload : s.load + 20 ≤ 1073741824) (ino : Int) :
    Calls Tryz.prog 69 #[.pointer (some ⟨b, 0, none⟩), .int .i64 ino] w fun e w' => ∃ s', e = .returned (.tuple #[.int .i64 (in0 A.b A.p A.n A.j ino), .int .i64 (in1 A.b A.p A.n A.j ino), .int .i64 (ie A.b A.p A.n A.j ino)]) ∧ Rd s s' 2 ∧ AS a B S w' b db s' ∧ Kp S w w' := by
  have HO := Lib.hid (open_own h hs hT (by omega))
  have HI := Lib.hid (fun W => InodeAt_any A.b A.p A.n A.j W ino)
  clear h hs hT
  go_enter Tryz.func69, Tryz.ntmps69
  go_wp2_with fail
  refine HO.out.mono ?_
  rintro e w1 ⟨lb, gb, c, s1, rfl, hl1, hl2, hL, hA, hk, hr⟩
  obtain ⟨-, c1, c2, c3, c4, -, -, -, -, -, -⟩ := hL.cs
  have HA := Lib.hid hA
  have HK := Lib.hid hk
  have HR := Lib.hid hr
  clear hL hA hk hr
  go_wp2_with fail
  refine (HI.out _).mono ?_
  rintro e w2 ⟨rfl, hb2⟩
  have HA2 := Lib.hid (HA.out.go hb2)
  have HK2 := Lib.hid (HA.out.kp hb2)
  clear hb2 c1 c2 c3 c4
  go_wp2
  go_ret3
  exact ⟨s1, rfl, HR.out, HA2.out.less fun q hq => .inl hq, HK.out.trans (HK2.out.less fun q hq => .inl hq)⟩
set_option maxRecDepth 100000 in
set_option maxHeartbeats 1000000 in
theorem seek_no (h : AS a B S w b db s) (hs : Says s A) (hT : Tab a) (hload : s.load + 20 ≤ 1073741824) (ino : Int) (hi : inoB A.b A.p A.n A.j ino = false) :
    Calls Tryz.prog 38 #[.pointer (some ⟨b, 0, none⟩), .int .i64 ino] w fun e w' => ∃ s', e = .returned (.tuple #[.agg #[.int .i64 0, .int .i64 0, .slice none 0 0], .int .i64 22]) ∧ Rd s s' 2 ∧ AS a B S w' b db s' ∧ Kp S w w' := by
  have hb0 := below_box (w := w) (.cells #[.int .i64 0, .int .i64 0, .slice none 0 0] 75)
  have r0 := rowV_new w [.int .i64 0, .int .i64 0, .slice none 0 0] 75
  have hsz : (w.alloc (.cells #[.int .i64 0, .int .i64 0, .slice none 0 0] 75)).heap.size = w.heap.size + 1 := by simp
  have hpl := place_own (h.also hb0) hs hT hload ino
  have e0 : in0 A.b A.p A.n A.j ino = 0 := if_neg (by rw [hi]; decide)
  have e1 : in1 A.b A.p A.n A.j ino = 0 := if_neg (by rw [hi]; decide)
  have e2 : ie A.b A.p A.n A.j ino = 22 := if_neg (by rw [hi]; decide)
  rw [e0, e1, e2] at hpl
  have HPL := Lib.hid hpl
  have H := Lib.hid h
  have R0 := Lib.hid r0
  have HB0 := Lib.hid hb0
  have HSZ := Lib.hid hsz
  clear h hs hT hpl r0 hb0 hsz e0 e1 e2
  go_enter Tryz.func38, Tryz.ntmps38
  go_wp2_with fail
  refine HPL.out.mono ?_
  rintro e w1 ⟨s1, rfl, hr, hA, hk⟩
  have hin : (fun q => S q ∨ (w.heap.size ≤ q ∧ q < (w.alloc (.cells #[.int .i64 0, .int .i64 0, .slice none 0 0] 75)).heap.size)) w.heap.size := .inr ⟨Nat.le_refl _, by rw [HSZ.out]; omega⟩
  have r1 : RowV w1 w.heap.size 75 _ := (hk _ hin).trans R0.out
  have gf := r1.free
  have y0 := AMem.rowc r1 0 rfl
  have y1 := AMem.rowc r1 1 rfl
  have y2 := AMem.rowc r1 2 rfl
  have HA := Lib.hid hA
  have HK := Lib.hid hk
  have HR := Lib.hid hr
  have R1 := Lib.hid r1
  have HIN := Lib.hid hin
  clear hA hk hr r1 hin
  go_wp2
  have F := Lib.hid (((R1.out.set 0 (.int .i64 0)).set 1 (.int .i64 0)).set 2 (.slice none 0 0))
  have f0 := AMem.rowc F.out 0 rfl
  have f1 := AMem.rowc F.out 1 rfl
  have f2 := AMem.rowc F.out 2 rfl
  refine bodyPost_ret_by (v := .tuple #[.agg #[.int .i64 0, .int .i64 0, .slice none 0 0], .int .i64 22]) (by simp [results, Tryz.results38, go_sem, f0, f1, f2]; try rfl) rfl ?_
  have ha : a.heap.size ≤ w.heap.size := H.out.below.size
  have hnS : ¬ S w.heap.size := fun hq => Nat.lt_irrefl _ (H.out.there _ hq)
  have HKW : Kp S w w1 := (H.out.kp HB0.out).trans (HK.out.less fun q hq => .inl hq)
  exact ⟨s1, rfl, HR.out, (((HA.out.cell ⟨w.heap.size, 0, none⟩ (.int .i64 0) HIN.out ha).cell ⟨w.heap.size, 1, none⟩ (.int .i64 0) HIN.out ha).cell ⟨w.heap.size, 2, none⟩ (.slice none 0 0) HIN.out ha).less fun q hq => .inl hq,
    ((HKW.trans (Kp.cell w1 ⟨w.heap.size, 0, none⟩ _ hnS)).trans (Kp.cell _ ⟨w.heap.size, 1, none⟩ _ hnS)).trans (Kp.cell _ ⟨w.heap.size, 2, none⟩ _ hnS)⟩
set_option maxRecDepth 100000 in
set_option maxHeartbeats 1000000 in
theorem seek_yes (h : AS a B S w b db s) (hs : Says s A) (hT : Tab a) (hload : s.load + 20 ≤ 1073741824) (ino : Int) (k d : Nat) (hi : inoB A.b A.p A.n A.j ino = true) (hk : in0 A.b A.p A.n A.j ino = (k : Int)) (hd : in1 A.b A.p A.n A.j ino = (d : Int)) (hkN : k < s.N) (l : Bk) (hv : s.val k = l) :
    Calls Tryz.prog 38 #[.pointer (some ⟨b, 0, none⟩), .int .i64 ino] w fun e w' => ∃ g c rest s', e = .returned (.tuple #[.agg #[.int .i64 (k : Int), .int .i64 (d : Int), .slice (some ⟨g, 0, none⟩) 256 c], .int .i64 0]) ∧ w.heap.size ≤ g ∧ 256 ≤ c ∧ l.length = 256 ∧ Row w' g l rest ∧ Rd s s' 3 ∧ AS a B (fun q => S q ∨ q = g) w' b db s' ∧ Kp S w w' := by
  have hb0 := below_box (w := w) (.cells #[.int .i64 0, .int .i64 0, .slice none 0 0] 75)
  have r0 := rowV_new w [.int .i64 0, .int .i64 0, .slice none 0 0] 75
  have hsz : (w.alloc (.cells #[.int .i64 0, .int .i64 0, .slice none 0 0] 75)).heap.size = w.heap.size + 1 := by simp
  have hpl := place_own (h.also hb0) hs hT hload ino
  have e2 : ie A.b A.p A.n A.j ino = 0 := if_pos hi
  rw [hk, hd, e2] at hpl
  have HPL := Lib.hid hpl
  have H := Lib.hid h
  have HS := Lib.hid hs
  have R0 := Lib.hid r0
  have HB0 := Lib.hid hb0
  have HSZ := Lib.hid hsz
  have HV := Lib.hid hv
  clear h hs hT hpl r0 hb0 hsz e2 hk hd hi hv
  go_enter Tryz.func38, Tryz.ntmps38
  go_wp2_with fail
  refine HPL.out.mono ?_
  rintro e w1 ⟨s1, rfl, hr, hA, hk1⟩
  have HIN : Hid ((fun q => S q ∨ (w.heap.size ≤ q ∧ q < (w.alloc (.cells #[.int .i64 0, .int .i64 0, .slice none 0 0] 75)).heap.size)) w.heap.size) := Lib.hid (.inr ⟨Nat.le_refl _, by rw [HSZ.out]; omega⟩)
  have R1 : Hid (RowV w1 w.heap.size 75 [.int .i64 0, .int .i64 0, .slice none 0 0]) := Lib.hid ((hk1 _ HIN.out).trans R0.out)
  have hsz1 : w.heap.size + 1 ≤ w1.heap.size := R1.out.lt
  have HA := Lib.hid hA
  have HK := Lib.hid hk1
  have HR := Lib.hid hr
  clear hA hk1 hr
  go_wp2_with fail
  have hrd := a_read HA.out (k : Int) k rfl (by rw [HR.out.N]; exact hkN) HR.out.coh (by have := HR.out.load; omega) l (by rw [HR.out.val]; exact HV.out)
  refine hrd.mono ?_
  clear hrd
  rintro e w2 ⟨g, c, rest, rfl, hg, hc, hl, hR2, hA2, hk2, hr2⟩
  have r2 : RowV w2 w.heap.size 75 _ := (hk2 _ HIN.out).trans R1.out
  have gf := r2.free
  have y0 := AMem.rowc r2 0 rfl
  have y1 := AMem.rowc r2 1 rfl
  have y2 := AMem.rowc r2 2 rfl
  have R2 := Lib.hid r2
  have HA2 := Lib.hid hA2
  have HK2 := Lib.hid hk2
  have HR2 := Lib.hid hr2
  have HRW := Lib.hid hR2
  clear hA2 hk2 hr2 hR2 r2
  go_wp2
  have F := Lib.hid (((R2.out.set 0 (.int .i64 (k : Int))).set 1 (.int .i64 (d : Int))).set 2 (.slice (some ⟨g, 0, none⟩) 256 c))
  have f0 := AMem.rowc F.out 0 rfl
  have f1 := AMem.rowc F.out 1 rfl
  have f2 := AMem.rowc F.out 2 rfl
  refine bodyPost_ret_by (v := .tuple #[.agg #[.int .i64 (k : Int), .int .i64 (d : Int), .slice (some ⟨g, 0, none⟩) 256 c], .int .i64 0]) (by simp [results, Tryz.results38, go_sem, f0, f1, f2]; try rfl) rfl ?_
  have ha : a.heap.size ≤ w.heap.size := H.out.below.size
  have hnS : ¬ S w.heap.size := fun hq => Nat.lt_irrefl _ (H.out.there _ hq)
  have hne : g ≠ w.heap.size := by omega
  have HKW : Kp S w w2 := ((H.out.kp HB0.out).trans (HK.out.less fun q hq => .inl hq)).trans (HK2.out.less fun q hq => .inl hq)
  have hin2 : (fun q => (S q ∨ (w.heap.size ≤ q ∧ q < (w.alloc (.cells #[.int .i64 0, .int .i64 0, .slice none 0 0] 75)).heap.size)) ∨ q = g) w.heap.size := .inl HIN.out
  refine ⟨g, c, rest, _, rfl, by omega, hc, hl, rowFar (rowFar (rowFar HRW.out _ _ hne) _ _ hne) _ _ hne, HR.out.trans HR2.out, (((HA2.out.cell ⟨w.heap.size, 0, none⟩ (.int .i64 (k : Int)) hin2 ha).cell ⟨w.heap.size, 1, none⟩ (.int .i64 (d : Int)) hin2 ha).cell ⟨w.heap.size, 2, none⟩ (.slice (some ⟨g, 0, none⟩) 256 c) hin2 ha).less fun q hq => ?_,
    ((HKW.trans (Kp.cell w2 ⟨w.heap.size, 0, none⟩ _ hnS)).trans (Kp.cell _ ⟨w.heap.size, 1, none⟩ _ hnS)).trans (Kp.cell _ ⟨w.heap.size, 2, none⟩ _ hnS)⟩
  rcases hq with hq | hq
  · exact .inl (.inl hq)
  · exact .inr hq
end
set_option maxHeartbeats 400000 in
theorem bytes_is (k d g c : Nat) (hd : d + 128 ≤ 256) (hc : 256 ≤ c) (w : World) : Calls Tryz.prog 39 #[.agg #[.int .i64 (k : Int), .int .i64 (d : Int), .slice (some ⟨g, 0, none⟩) 256 c]] w fun e w' => e = .returned (.slice (some ⟨g, d, none⟩) 128 (c - d)) ∧ Below w.heap.size w w' := by
  have k0 : (d : Int) ≤ (d : Int) + 128 := by omega
  have k1 : (d : Int) + 128 ≤ (c : Int) := by omega
  have k2 : (d : Int) + 128 ≤ 256 := by omega
  have k3 : wrap64 ((d : Int) + 128) = (d : Int) + 128 := IntWalk.wrap64_in _ ⟨by omega, by omega⟩
  go_enter Tryz.func39, Tryz.ntmps39
  go_wp2
  go_ret
  exact ⟨congrArg (fun n => Ending.returned (.slice (some ⟨g, d, none⟩) n (c - d))) (show d + 128 - d = 128 by omega), below_box _⟩
end Go.Proofs.YtgjcbfdhpbkhoaaGreatDoor.IPlace
/- Get, on a store that says what an allocator is. -/
namespace Go.Proofs.YtgjcbfdhpbkhoaaGreatDoor.IGet
open Go.RowKit WMem WPlain WPack WWide WAny WAppend WCrc WSeal WFace2 GPlain GWithin GGeo GGeo2 GFace SNums SPlain QPlain QMem Ext Map DPlain DMem EPlain EMem EFace EAny APlain AMem AGeo AOpen IPlain ICheck IPack IUnp IUn3 IPlace
section
variable {a w : World} {B : Nat} {S : Nat → Prop} {b db : Nat} {s : Sto} {A : Al}
set_option maxRecDepth 100000 in
set_option maxHeartbeats 2000000 in
theorem get_no (h : AS a B S w b db s) (hs : Says s A) (hT : Tab a) (hload : s.load + 20 ≤ 1073741824) (ino : Int) (hi : inoB A.b A.p A.n A.j ino = false) :
    Calls Tryz.prog 18 #[.pointer (some ⟨b, 0, none⟩), .int .i64 ino] w fun e w' => ∃ s', e = .returned (.tuple #[.agg #[.int .i64 0, .int .i64 0, .int .i64 0, .int .i64 0, .int .i64 0, .int .i64 0, .int .i64 0, .int .i64 0, .int .i64 0, .int .i64 0, .int .i64 0, .int .i64 0, .int .i64 0, .bool false, .slice none 0 0], .int .i64 22]) ∧ Rd s s' 2 ∧ AS a B S w' b db s' ∧ Kp S w w' := by
  have hb0 := below_box (w := w) (.cells #[.int .i64 0, .int .i64 0, .int .i64 0, .int .i64 0, .int .i64 0, .int .i64 0, .int .i64 0, .int .i64 0, .int .i64 0, .int .i64 0, .int .i64 0, .int .i64 0, .int .i64 0, .bool false, .slice none 0 0] 24)
  have r0 := AMem.rowV_new w [.int .i64 0, .int .i64 0, .int .i64 0, .int .i64 0, .int .i64 0, .int .i64 0, .int .i64 0, .int .i64 0, .int .i64 0, .int .i64 0, .int .i64 0, .int .i64 0, .int .i64 0, .bool false, .slice none 0 0] 24
  have hsz : (w.alloc (.cells #[.int .i64 0, .int .i64 0, .int .i64 0, .int .i64 0, .int .i64 0, .int .i64 0, .int .i64 0, .int .i64 0, .int .i64 0, .int .i64 0, .int .i64 0, .int .i64 0, .int .i64 0, .bool false, .slice none 0 0] 24)).heap.size = w.heap.size + 1 := by simp
  have HPL := Lib.hid (seek_no (h.also hb0) hs hT hload ino hi)
  have H := Lib.hid h
  have R0 := Lib.hid r0
  have HB0 := Lib.hid hb0
  have HSZ := Lib.hid hsz
  clear h hs hT r0 hb0 hsz hi
  go_enter Tryz.func18, Tryz.ntmps18
  go_upto_region 1 with fail
  go_cut [6, 7] (fun _ v7 wx => v7 = .int .i64 22 ∧ ∃ s1, Hid (Rd s s1 2 ∧ AS a B (fun q => S q ∨ (w.heap.size ≤ q ∧ q < (w.alloc (.cells #[.int .i64 0, .int .i64 0, .int .i64 0, .int .i64 0, .int .i64 0, .int .i64 0, .int .i64 0, .int .i64 0, .int .i64 0, .int .i64 0, .int .i64 0, .int .i64 0, .int .i64 0, .bool false, .slice none 0 0] 24)).heap.size)) wx b db s1 ∧ Kp (fun q => S q ∨ (w.heap.size ≤ q ∧ q < (w.alloc (.cells #[.int .i64 0, .int .i64 0, .int .i64 0, .int .i64 0, .int .i64 0, .int .i64 0, .int .i64 0, .int .i64 0, .int .i64 0, .int .i64 0, .int .i64 0, .int .i64 0, .int .i64 0, .bool false, .slice none 0 0] 24)).heap.size)) (w.alloc (.cells #[.int .i64 0, .int .i64 0, .int .i64 0, .int .i64 0, .int .i64 0, .int .i64 0, .int .i64 0, .int .i64 0, .int .i64 0, .int .i64 0, .int .i64 0, .int .i64 0, .int .i64 0, .bool false, .slice none 0 0] 24)) wx))
  case first =>
    go_wp2_with fail
    refine HPL.out.mono ?_
    rintro e w1 ⟨s1, rfl, hr, hA, hk⟩
    have hb1 := below_box (w := w1) (.cells #[.int .i64 0, .int .i64 0, .slice none 0 0] 75)
    have HF := Lib.hid (And.intro hr (And.intro (hA.go hb1) (hk.trans (hA.kp hb1))))
    clear hr hA hk hb1
    go_wp2_with fail
    go_meet
    exact ⟨rfl, s1, HF⟩
  case rest =>
    obtain ⟨rfl, s1, HF⟩ := hcut
    have HA := Lib.hid HF.out.2.1
    have HK := Lib.hid HF.out.2.2
    have HR := Lib.hid HF.out.1
    have HIN : Hid ((fun q => S q ∨ (w.heap.size ≤ q ∧ q < (w.alloc (.cells #[.int .i64 0, .int .i64 0, .int .i64 0, .int .i64 0, .int .i64 0, .int .i64 0, .int .i64 0, .int .i64 0, .int .i64 0, .int .i64 0, .int .i64 0, .int .i64 0, .int .i64 0, .bool false, .slice none 0 0] 24)).heap.size)) w.heap.size) := Lib.hid (.inr ⟨Nat.le_refl _, by rw [HSZ.out]; omega⟩)
    have R1 : Hid (RowV wc w.heap.size 24 [.int .i64 0, .int .i64 0, .int .i64 0, .int .i64 0, .int .i64 0, .int .i64 0, .int .i64 0, .int .i64 0, .int .i64 0, .int .i64 0, .int .i64 0, .int .i64 0, .int .i64 0, .bool false, .slice none 0 0]) := Lib.hid ((HK.out _ HIN.out).trans R0.out)
    have gf := R1.out.free
    have d0 := AMem.rowc R1.out 0 rfl
    have d1 := AMem.rowc R1.out 1 rfl
    have d2 := AMem.rowc R1.out 2 rfl
    have d3 := AMem.rowc R1.out 3 rfl
    have d4 := AMem.rowc R1.out 4 rfl
    have d5 := AMem.rowc R1.out 5 rfl
    have d6 := AMem.rowc R1.out 6 rfl
    have d7 := AMem.rowc R1.out 7 rfl
    have d8 := AMem.rowc R1.out 8 rfl
    have d9 := AMem.rowc R1.out 9 rfl
    have d10 := AMem.rowc R1.out 10 rfl
    have d11 := AMem.rowc R1.out 11 rfl
    have d12 := AMem.rowc R1.out 12 rfl
    have d13 := AMem.rowc R1.out 13 rfl
    have d14 := AMem.rowc R1.out 14 rfl
    go_wp2
    have F := Lib.hid (((((((((((((((R1.out.set 0 (.int .i64 0)).set 1 (.int .i64 0)).set 2 (.int .i64 0)).set 3 (.int .i64 0)).set 4 (.int .i64 0)).set 5 (.int .i64 0)).set 6 (.int .i64 0)).set 7 (.int .i64 0)).set 8 (.int .i64 0)).set 9 (.int .i64 0)).set 10 (.int .i64 0)).set 11 (.int .i64 0)).set 12 (.int .i64 0)).set 13 (.bool false)).set 14 (.slice none 0 0))
    have f0 := AMem.rowc F.out 0 rfl
    have f1 := AMem.rowc F.out 1 rfl
    have f2 := AMem.rowc F.out 2 rfl
    have f3 := AMem.rowc F.out 3 rfl
    have f4 := AMem.rowc F.out 4 rfl
    have f5 := AMem.rowc F.out 5 rfl
    have f6 := AMem.rowc F.out 6 rfl
    have f7 := AMem.rowc F.out 7 rfl
    have f8 := AMem.rowc F.out 8 rfl
    have f9 := AMem.rowc F.out 9 rfl
    have f10 := AMem.rowc F.out 10 rfl
    have f11 := AMem.rowc F.out 11 rfl
    have f12 := AMem.rowc F.out 12 rfl
    have f13 := AMem.rowc F.out 13 rfl
    have f14 := AMem.rowc F.out 14 rfl
    refine bodyPost_ret_by (v := .tuple #[.agg #[.int .i64 0, .int .i64 0, .int .i64 0, .int .i64 0, .int .i64 0, .int .i64 0, .int .i64 0, .int .i64 0, .int .i64 0, .int .i64 0, .int .i64 0, .int .i64 0, .int .i64 0, .bool false, .slice none 0 0], .int .i64 22]) (by simp [results, Tryz.results18, go_sem, f0, f1, f2, f3, f4, f5, f6, f7, f8, f9, f10, f11, f12, f13, f14]; try rfl) rfl ?_
    have ha : a.heap.size ≤ w.heap.size := H.out.below.size
    have hnS : ¬ S w.heap.size := fun hq => Nat.lt_irrefl _ (H.out.there _ hq)
    have HKW := (H.out.kp HB0.out).trans (HK.out.less fun q hq => .inl hq)
    exact ⟨rfl, s1, HR.out, (((((((((((((((HA.out.cell ⟨w.heap.size, 0, none⟩ (.int .i64 0) HIN.out ha).cell ⟨w.heap.size, 1, none⟩ (.int .i64 0) HIN.out ha).cell ⟨w.heap.size, 2, none⟩ (.int .i64 0) HIN.out ha).cell ⟨w.heap.size, 3, none⟩ (.int .i64 0) HIN.out ha).cell ⟨w.heap.size, 4, none⟩ (.int .i64 0) HIN.out ha).cell ⟨w.heap.size, 5, none⟩ (.int .i64 0) HIN.out ha).cell ⟨w.heap.size, 6, none⟩ (.int .i64 0) HIN.out ha).cell ⟨w.heap.size, 7, none⟩ (.int .i64 0) HIN.out ha).cell ⟨w.heap.size, 8, none⟩ (.int .i64 0) HIN.out ha).cell ⟨w.heap.size, 9, none⟩ (.int .i64 0) HIN.out ha).cell ⟨w.heap.size, 10, none⟩ (.int .i64 0) HIN.out ha).cell ⟨w.heap.size, 11, none⟩ (.int .i64 0) HIN.out ha).cell ⟨w.heap.size, 12, none⟩ (.int .i64 0) HIN.out ha).cell ⟨w.heap.size, 13, none⟩ (.bool false) HIN.out ha).cell ⟨w.heap.size, 14, none⟩ (.slice none 0 0) HIN.out ha).less fun q hq => .inl hq, (((((((((((((((HKW.trans (Kp.cell _ ⟨w.heap.size, 0, none⟩ _ hnS)).trans (Kp.cell _ ⟨w.heap.size, 1, none⟩ _ hnS)).trans (Kp.cell _ ⟨w.heap.size, 2, none⟩ _ hnS)).trans (Kp.cell _ ⟨w.heap.size, 3, none⟩ _ hnS)).trans (Kp.cell _ ⟨w.heap.size, 4, none⟩ _ hnS)).trans (Kp.cell _ ⟨w.heap.size, 5, none⟩ _ hnS)).trans (Kp.cell _ ⟨w.heap.size, 6, none⟩ _ hnS)).trans (Kp.cell _ ⟨w.heap.size, 7, none⟩ _ hnS)).trans (Kp.cell _ ⟨w.heap.size, 8, none⟩ _ hnS)).trans (Kp.cell _ ⟨w.heap.size, 9, none⟩ _ hnS)).trans (Kp.cell _ ⟨w.heap.size, 10, none⟩ _ hnS)).trans (Kp.cell _ ⟨w.heap.size, 11, none⟩ _ hnS)).trans (Kp.cell _ ⟨w.heap.size, 12, none⟩ _ hnS)).trans (Kp.cell _ ⟨w.heap.size, 13, none⟩ _ hnS)).trans (Kp.cell _ ⟨w.heap.size, 14, none⟩ _ hnS))⟩
def part128 (l : Bk) (d : Nat) : List UInt8 := (l.drop d).take 128
theorem part_len {l : Bk} (hl : l.length = 256) {d : Nat} (hd : d + 128 ≤ 256) : (part128 l d).length = 128 := by
  unfold part128
  rw [List.length_take, List.length_drop, hl]
  omega
theorem sl_part {w : World} {g : Nat} {l : Bk} {rest : List Value} (h : Row w g l rest) (d : Nat) {B : Nat} (hB : g < B) : Sl w B (some ⟨g, d, none⟩) ((part128 l d).map u8v) := by
  have h0 := IUnp.Sl.drop (h.sl hB) d
  have h1 := h0.take 128
  rw [← List.map_drop, ← List.map_take] at h1
  have e : (⟨g, 0, none⟩ : Addr).add d = ⟨g, d, none⟩ := by unfold Addr.add; split <;> simp_all
  rw [e] at h1
  exact h1
set_option maxRecDepth 100000 in
set_option maxHeartbeats 2000000 in
theorem get_yes (h : AS a B S w b db s) (hs : Says s A) (hT : Tab a) (hload : s.load + 20 ≤ 1073741824) (ino : Int) (k d : Nat) (hi : inoB A.b A.p A.n A.j ino = true) (hk : in0 A.b A.p A.n A.j ino = (k : Int)) (hd : in1 A.b A.p A.n A.j ino = (d : Int)) (hd2 : d + 128 ≤ 256) (hkN : k < s.N) (l : Bk) (hv : s.val k = l) :
    Calls Tryz.prog 18 #[.pointer (some ⟨b, 0, none⟩), .int .i64 ino] w fun e w' => ∃ Ar c s', e = .returned (.tuple #[.agg #[.int .i64 (unI ino (part128 l d)).kind, .int .i64 (unI ino (part128 l d)).perm, .int .i64 (unI ino (part128 l d)).uid, .int .i64 (unI ino (part128 l d)).gid, .int .i64 (unI ino (part128 l d)).links, .int .i64 (unI ino (part128 l d)).size, .int .i64 (unI ino (part128 l d)).blocks, .int .i64 (unI ino (part128 l d)).at_, .int .i64 (unI ino (part128 l d)).mt, .int .i64 (unI ino (part128 l d)).ct, .int .i64 (unI ino (part128 l d)).next, .int .i64 (unI ino (part128 l d)).parent, .int .i64 (unI ino (part128 l d)).xattr, .bool (unI ino (part128 l d)).idx, .slice Ar (unI ino (part128 l d)).root.length c], .int .i64 (unE ino (part128 l d))]) ∧ WAny.Own w' w.heap.size (.slice Ar (unI ino (part128 l d)).root.length c) (unI ino (part128 l d)).root ∧ Rd s s' 3 ∧ AS a B S w' b db s' ∧ Kp S w w' := by
  have hb0 := below_box (w := w) (.cells #[.int .i64 0, .int .i64 0, .int .i64 0, .int .i64 0, .int .i64 0, .int .i64 0, .int .i64 0, .int .i64 0, .int .i64 0, .int .i64 0, .int .i64 0, .int .i64 0, .int .i64 0, .bool false, .slice none 0 0] 24)
  have r0 := AMem.rowV_new w [.int .i64 0, .int .i64 0, .int .i64 0, .int .i64 0, .int .i64 0, .int .i64 0, .int .i64 0, .int .i64 0, .int .i64 0, .int .i64 0, .int .i64 0, .int .i64 0, .int .i64 0, .bool false, .slice none 0 0] 24
  have hsz : (w.alloc (.cells #[.int .i64 0, .int .i64 0, .int .i64 0, .int .i64 0, .int .i64 0, .int .i64 0, .int .i64 0, .int .i64 0, .int .i64 0, .int .i64 0, .int .i64 0, .int .i64 0, .int .i64 0, .bool false, .slice none 0 0] 24)).heap.size = w.heap.size + 1 := by simp
  have HPL := Lib.hid (seek_yes (h.also hb0) hs hT hload ino k d hi hk hd hkN l hv)
  have H := Lib.hid h
  have HT := Lib.hid hT
  have R0 := Lib.hid r0
  have HB0 := Lib.hid hb0
  have HSZ := Lib.hid hsz
  clear h hs hT r0 hb0 hsz hi hk hd hv
  go_enter Tryz.func18, Tryz.ntmps18
  go_wp2_with fail
  refine HPL.out.mono ?_
  rintro e w1 ⟨g, c1, rest, s1, rfl, hg, hc1, hl, hRg, hr, hA, hk⟩
  have HIN : Hid ((fun q => S q ∨ (w.heap.size ≤ q ∧ q < (w.alloc (.cells #[.int .i64 0, .int .i64 0, .int .i64 0, .int .i64 0, .int .i64 0, .int .i64 0, .int .i64 0, .int .i64 0, .int .i64 0, .int .i64 0, .int .i64 0, .int .i64 0, .int .i64 0, .bool false, .slice none 0 0] 24)).heap.size)) w.heap.size) := Lib.hid (.inr ⟨Nat.le_refl _, by rw [HSZ.out]; omega⟩)
  have HBX := Lib.hid (below_box (w := w1) (.cells #[.int .i64 (k : Int), .int .i64 (d : Int), .slice (some ⟨g, 0, none⟩) 256 c1] 75))
  have R1' : Hid (RowV w1 w.heap.size 24 [.int .i64 0, .int .i64 0, .int .i64 0, .int .i64 0, .int .i64 0, .int .i64 0, .int .i64 0, .int .i64 0, .int .i64 0, .int .i64 0, .int .i64 0, .int .i64 0, .int .i64 0, .bool false, .slice none 0 0]) := Lib.hid ((hk _ HIN.out).trans R0.out)
  have HA := Lib.hid (hA.go HBX.out)
  have HK := Lib.hid (hk.trans ((hA.kp HBX.out).less fun q hq => .inl hq))
  have HR := Lib.hid hr
  have HRG := Lib.hid (hRg.alloc (.cells #[.int .i64 (k : Int), .int .i64 (d : Int), .slice (some ⟨g, 0, none⟩) 256 c1] 75))
  have HLE := Lib.hid hl
  have hlt : w.heap.size < w1.heap.size := R1'.out.lt
  have hg1 : g < w1.heap.size := hRg.lt
  clear hA hk hr hRg hl
  go_wp2_with fail
  refine (bytes_is k d g c1 hd2 hc1 _).mono ?_
  rintro e w2 ⟨rfl, hb2⟩
  have HA2 := Lib.hid (HA.out.go hb2)
  have HK2 := Lib.hid (HK.out.trans ((HA.out.kp hb2).less fun q hq => .inl hq))
  have HRG2 := Lib.hid (HRG.out.keep hb2 HRG.out.lt)
  clear hb2
  go_wp2_with fail
  refine (Unpack_any ino (part128 l d) 128 (part_len HLE.out hd2) w2.heap.size _ (c1 - d) (by omega) w2 (Nat.le_refl _) (sl_part HRG2.out d HRG2.out.lt) (HA2.out.tab HT.out)).mono ?_
  rintro e w3 ⟨Ar, c3, rfl, hO, hb3⟩
  have HA3 := Lib.hid (HA2.out.go hb3)
  have HK3 := Lib.hid (HK2.out.trans ((HA2.out.kp hb3).less fun q hq => .inl hq))
  have R1 : Hid (RowV w3 w.heap.size 24 [.int .i64 0, .int .i64 0, .int .i64 0, .int .i64 0, .int .i64 0, .int .i64 0, .int .i64 0, .int .i64 0, .int .i64 0, .int .i64 0, .int .i64 0, .int .i64 0, .int .i64 0, .bool false, .slice none 0 0]) := Lib.hid ((HK3.out _ HIN.out).trans R0.out)
  have HO := Lib.hid hO
  have rz2 : RowV w2 w.heap.size 24 [.int .i64 0, .int .i64 0, .int .i64 0, .int .i64 0, .int .i64 0, .int .i64 0, .int .i64 0, .int .i64 0, .int .i64 0, .int .i64 0, .int .i64 0, .int .i64 0, .int .i64 0, .bool false, .slice none 0 0] := (HK2.out _ HIN.out).trans R0.out
  have hs23 : w.heap.size + 1 ≤ w2.heap.size := rz2.lt
  clear rz2
  have hlt3 : w.heap.size < w3.heap.size := R1.out.lt
  clear hO hb3
  generalize hru : unI ino (part128 l d) = r at *
  generalize hre : unE ino (part128 l d) = er at *
  have HRU := Lib.hid hru
  have HRE := Lib.hid hre
  clear hru hre
  have gf := R1.out.free
  have d0 := AMem.rowc R1.out 0 rfl
  have d1 := AMem.rowc R1.out 1 rfl
  have d2 := AMem.rowc R1.out 2 rfl
  have d3 := AMem.rowc R1.out 3 rfl
  have d4 := AMem.rowc R1.out 4 rfl
  have d5 := AMem.rowc R1.out 5 rfl
  have d6 := AMem.rowc R1.out 6 rfl
  have d7 := AMem.rowc R1.out 7 rfl
  have d8 := AMem.rowc R1.out 8 rfl
  have d9 := AMem.rowc R1.out 9 rfl
  have d10 := AMem.rowc R1.out 10 rfl
  have d11 := AMem.rowc R1.out 11 rfl
  have d12 := AMem.rowc R1.out 12 rfl
  have d13 := AMem.rowc R1.out 13 rfl
  have d14 := AMem.rowc R1.out 14 rfl
  go_wp2
  have F := Lib.hid (((((((((((((((R1.out.set 0 (.int .i64 r.kind)).set 1 (.int .i64 r.perm)).set 2 (.int .i64 r.uid)).set 3 (.int .i64 r.gid)).set 4 (.int .i64 r.links)).set 5 (.int .i64 r.size)).set 6 (.int .i64 r.blocks)).set 7 (.int .i64 r.at_)).set 8 (.int .i64 r.mt)).set 9 (.int .i64 r.ct)).set 10 (.int .i64 r.next)).set 11 (.int .i64 r.parent)).set 12 (.int .i64 r.xattr)).set 13 (.bool r.idx)).set 14 (.slice Ar r.root.length c3))
  have f0 := AMem.rowc F.out 0 rfl
  have f1 := AMem.rowc F.out 1 rfl
  have f2 := AMem.rowc F.out 2 rfl
  have f3 := AMem.rowc F.out 3 rfl
  have f4 := AMem.rowc F.out 4 rfl
  have f5 := AMem.rowc F.out 5 rfl
  have f6 := AMem.rowc F.out 6 rfl
  have f7 := AMem.rowc F.out 7 rfl
  have f8 := AMem.rowc F.out 8 rfl
  have f9 := AMem.rowc F.out 9 rfl
  have f10 := AMem.rowc F.out 10 rfl
  have f11 := AMem.rowc F.out 11 rfl
  have f12 := AMem.rowc F.out 12 rfl
  have f13 := AMem.rowc F.out 13 rfl
  have f14 := AMem.rowc F.out 14 rfl
  refine bodyPost_ret_by (v := .tuple #[.agg #[.int .i64 r.kind, .int .i64 r.perm, .int .i64 r.uid, .int .i64 r.gid, .int .i64 r.links, .int .i64 r.size, .int .i64 r.blocks, .int .i64 r.at_, .int .i64 r.mt, .int .i64 r.ct, .int .i64 r.next, .int .i64 r.parent, .int .i64 r.xattr, .bool r.idx, .slice Ar r.root.length c3], .int .i64 er]) (by simp [results, Tryz.results18, go_sem, f0, f1, f2, f3, f4, f5, f6, f7, f8, f9, f10, f11, f12, f13, f14]; try rfl) rfl ?_
  have ha : a.heap.size ≤ w.heap.size := H.out.below.size
  have hnS : ¬ S w.heap.size := fun hq => Nat.lt_irrefl _ (H.out.there _ hq)
  have HKW := (H.out.kp HB0.out).trans (HK3.out.less fun q hq => .inl hq)
  have hin2 : (fun q => (S q ∨ (w.heap.size ≤ q ∧ q < (w.alloc (.cells #[.int .i64 0, .int .i64 0, .int .i64 0, .int .i64 0, .int .i64 0, .int .i64 0, .int .i64 0, .int .i64 0, .int .i64 0, .int .i64 0, .int .i64 0, .int .i64 0, .int .i64 0, .bool false, .slice none 0 0] 24)).heap.size)) ∨ q = g) w.heap.size := .inl HIN.out
  have q1 := HRU.out
  have q2 := HRE.out
  subst q1 q2
  refine ⟨Ar, c3, s1, rfl, ?_, HR.out, (((((((((((((((HA3.out.cell ⟨w.heap.size, 0, none⟩ (.int .i64 (unI ino (part128 l d)).kind) hin2 ha).cell ⟨w.heap.size, 1, none⟩ (.int .i64 (unI ino (part128 l d)).perm) hin2 ha).cell ⟨w.heap.size, 2, none⟩ (.int .i64 (unI ino (part128 l d)).uid) hin2 ha).cell ⟨w.heap.size, 3, none⟩ (.int .i64 (unI ino (part128 l d)).gid) hin2 ha).cell ⟨w.heap.size, 4, none⟩ (.int .i64 (unI ino (part128 l d)).links) hin2 ha).cell ⟨w.heap.size, 5, none⟩ (.int .i64 (unI ino (part128 l d)).size) hin2 ha).cell ⟨w.heap.size, 6, none⟩ (.int .i64 (unI ino (part128 l d)).blocks) hin2 ha).cell ⟨w.heap.size, 7, none⟩ (.int .i64 (unI ino (part128 l d)).at_) hin2 ha).cell ⟨w.heap.size, 8, none⟩ (.int .i64 (unI ino (part128 l d)).mt) hin2 ha).cell ⟨w.heap.size, 9, none⟩ (.int .i64 (unI ino (part128 l d)).ct) hin2 ha).cell ⟨w.heap.size, 10, none⟩ (.int .i64 (unI ino (part128 l d)).next) hin2 ha).cell ⟨w.heap.size, 11, none⟩ (.int .i64 (unI ino (part128 l d)).parent) hin2 ha).cell ⟨w.heap.size, 12, none⟩ (.int .i64 (unI ino (part128 l d)).xattr) hin2 ha).cell ⟨w.heap.size, 13, none⟩ (.bool (unI ino (part128 l d)).idx) hin2 ha).cell ⟨w.heap.size, 14, none⟩ (.slice Ar (unI ino (part128 l d)).root.length c3) hin2 ha).less fun q hq => .inl (.inl hq), (((((((((((((((HKW.trans (Kp.cell _ ⟨w.heap.size, 0, none⟩ _ hnS)).trans (Kp.cell _ ⟨w.heap.size, 1, none⟩ _ hnS)).trans (Kp.cell _ ⟨w.heap.size, 2, none⟩ _ hnS)).trans (Kp.cell _ ⟨w.heap.size, 3, none⟩ _ hnS)).trans (Kp.cell _ ⟨w.heap.size, 4, none⟩ _ hnS)).trans (Kp.cell _ ⟨w.heap.size, 5, none⟩ _ hnS)).trans (Kp.cell _ ⟨w.heap.size, 6, none⟩ _ hnS)).trans (Kp.cell _ ⟨w.heap.size, 7, none⟩ _ hnS)).trans (Kp.cell _ ⟨w.heap.size, 8, none⟩ _ hnS)).trans (Kp.cell _ ⟨w.heap.size, 9, none⟩ _ hnS)).trans (Kp.cell _ ⟨w.heap.size, 10, none⟩ _ hnS)).trans (Kp.cell _ ⟨w.heap.size, 11, none⟩ _ hnS)).trans (Kp.cell _ ⟨w.heap.size, 12, none⟩ _ hnS)).trans (Kp.cell _ ⟨w.heap.size, 13, none⟩ _ hnS)).trans (Kp.cell _ ⟨w.heap.size, 14, none⟩ _ hnS))⟩
  have hfin : ∀ {W : World} (p : Addr) (v : Value), p.block = w.heap.size → WAny.Own W w2.heap.size (.slice Ar (unI ino (part128 l d)).root.length c3) (unI ino (part128 l d)).root → WAny.Own (W.setCell p v) w2.heap.size (.slice Ar (unI ino (part128 l d)).root.length c3) (unI ino (part128 l d)).root := fun {W} p v hp h => by
    rcases h with h | ⟨gg, cap, rest, hv, h1, h2, h3⟩
    · exact .inl h
    · exact .inr ⟨gg, cap, rest, hv, h1, h2, rowFar h3 p v (by rw [hp]; omega)⟩
  have hback : ∀ {W : World}, WAny.Own W w2.heap.size (.slice Ar (unI ino (part128 l d)).root.length c3) (unI ino (part128 l d)).root → WAny.Own W w.heap.size (.slice Ar (unI ino (part128 l d)).root.length c3) (unI ino (part128 l d)).root := fun {W} h => by
    rcases h with h | ⟨gg, cap, rest, hv, h1, h2, h3⟩
    · exact .inl h
    · exact .inr ⟨gg, cap, rest, hv, by omega, h2, h3⟩
  exact hback (hfin _ _ rfl (hfin _ _ rfl (hfin _ _ rfl (hfin _ _ rfl (hfin _ _ rfl (hfin _ _ rfl (hfin _ _ rfl (hfin _ _ rfl (hfin _ _ rfl (hfin _ _ rfl (hfin _ _ rfl (hfin _ _ rfl (hfin _ _ rfl (hfin _ _ rfl (hfin _ _ rfl HO.out)))))))))))))))
end
end Go.Proofs.YtgjcbfdhpbkhoaaGreatDoor.IGet
/- Put and Clear, on a store that says what an allocator is. -/
namespace Go.Proofs.YtgjcbfdhpbkhoaaGreatDoor.ILay
open Go.RowKit WMem WPlain WPack WWide WAny WAppend WCrc WSeal WFace2 GPlain GWithin GGeo GGeo2 GFace SNums SPlain QPlain QMem Ext Map DPlain DMem EPlain EMem EFace EAny APlain AMem AGeo AOpen IPlain ICheck IPack IUnp IUn2 IUn3 IPlace
section
variable {a w : World} {B : Nat} {S : Nat → Prop} {b db : Nat} {s : Sto} {A : Al}
set_option maxRecDepth 100000 in
set_option maxHeartbeats 1000000 in
theorem lay_no (h : AS a B S w b db s) (hs : Says s A) (hT : Tab a) (hload : s.load + 20 ≤ 1073741824) (ino : Int) (hi : inoB A.b A.p A.n A.j ino = false) (Ab : Option Addr) (c : Nat) :
    Calls Tryz.prog 37 #[.pointer (some ⟨b, 0, none⟩), .int .i64 ino, .slice Ab 128 c] w fun e w' => e = .returned (.int .i64 22) ∧ ∃ s', Rd s s' 2 ∧ AS a B S w' b db s' ∧ Kp S w w' := by
  have HPL := Lib.hid (seek_no h hs hT hload ino hi)
  clear h hs hT hi
  go_enter Tryz.func37, Tryz.ntmps37
  go_wp2_with fail
  refine HPL.out.mono ?_
  rintro e w1 ⟨s1, rfl, hr, hA, hk⟩
  have hb1 := below_box (w := w1) (.cells #[.int .i64 0, .int .i64 0, .slice none 0 0] 75)
  have HF := Lib.hid (And.intro hr (And.intro (hA.go hb1) (hk.trans (hA.kp hb1))))
  clear hr hA hk hb1
  go_wp2
  go_ret
  exact ⟨rfl, s1, HF.out.1, HF.out.2.1, HF.out.2.2⟩
theorem splice_put (l x : List UInt8) (rest : List Value) (d : Nat) (h : d + x.length ≤ l.length) : splice (l.map u8v ++ rest) d (x.map u8v) = (patch l d x).map u8v ++ rest := by
  unfold splice patch
  rw [List.take_append_of_le_length (by rw [List.length_map]; omega), List.drop_append_of_le_length (by rw [List.length_map, List.length_map]; omega)]
  simp
def putRow (w : World) (g : Nat) (l : List UInt8) (rest : List Value) (d : Nat) (x : List UInt8) : World :=
  w.setRow g ((l.map u8v ++ rest).toArray.toList.take d ++ (x.map u8v ++ (l.map u8v ++ rest).toArray.toList.drop (d + (x.map u8v).length))).toArray
theorem putRow_is {w : World} {g : Nat} {l : List UInt8} {rest : List Value} (hR : Row w g l rest) {d : Nat} {x : List UInt8} (h : d + x.length ≤ l.length) : Row (putRow w g l rest d x) g (patch l d x) rest ∧ Ext (fun q => q = g) w (putRow w g l rest d x) := by
  constructor
  · have h1 := setRow_heap w g _ ((l.map u8v ++ rest).toArray.toList.take d ++ (x.map u8v ++ (l.map u8v ++ rest).toArray.toList.drop (d + (x.map u8v).length))).toArray _ _ hR
    have h2 := splice_put l x rest d h
    unfold splice at h2
    show (w.setRow g _).heap[g]? = some (.cells ((patch l d x).map u8v ++ rest).toArray _ _)
    rw [← h2]
    exact h1
  · have hb := below_setRow (B := 0) (Below.refl 0 w) (Nat.zero_le g) ((l.map u8v ++ rest).toArray.toList.take d ++ (x.map u8v ++ (l.map u8v ++ rest).toArray.toList.drop (d + (x.map u8v).length))).toArray
    exact ⟨hb.os, hb.tape, hb.output, hb.size, fun q _ hq => setRow_other w g q _ hq⟩
set_option maxRecDepth 100000 in
set_option maxHeartbeats 2000000 in
theorem lay_yes (h : AS a B S w b db s) (hs : Says s A) (hT : Tab a) (hload : s.load + 20 ≤ 1073741824) (ino : Int) (k d : Nat) (hi : inoB A.b A.p A.n A.j ino = true) (hk : in0 A.b A.p A.n A.j ino = (k : Int)) (hd : in1 A.b A.p A.n A.j ino = (d : Int)) (hd2 : d + 128 ≤ 256) (hkN : k < s.N) (l : Bk) (hv : s.val k = l)
    (x : List UInt8) (hx : x.length = 128) (Ab : Option Addr) (c : Nat) (hA : Sl w w.heap.size Ab (x.map u8v)) (hAS : ∀ ad, Ab = some ad → S ad.block) :
    Calls Tryz.prog 37 #[.pointer (some ⟨b, 0, none⟩), .int .i64 ino, .slice Ab 128 c] w fun e w' => e = .returned (.int .i64 0) ∧ ∃ s1, Rd s s1 3 ∧ AS a B S w' b db (s1.write k (patch l d x)) ∧ Kp S w w' := by
  have HPL := Lib.hid (seek_yes h hs hT hload ino k d hi hk hd hkN l hv)
  have H := Lib.hid h
  have HX := Lib.hid hx
  have HSA := Lib.hid hA
  have HSS := Lib.hid hAS
  clear h hs hT hi hk hd hv hx hA hAS
  go_enter Tryz.func37, Tryz.ntmps37
  go_wp2_with fail
  refine HPL.out.mono ?_
  rintro e w1 ⟨g, c1, rest, s1, rfl, hg, hc1, hl, hRg, hr, hA, hk1⟩
  obtain ⟨ad, rfl, hab, -⟩ := HSA.out.u8 (k := 0) (by rw [HX.out]; decide)
  have HBX := Lib.hid (below_box (w := w1) (.cells #[.int .i64 (k : Int), .int .i64 (d : Int), .slice (some ⟨g, 0, none⟩) 256 c1] 75))
  have R1 := Lib.hid (AMem.rowV_new w1 [.int .i64 (k : Int), .int .i64 (d : Int), .slice (some ⟨g, 0, none⟩) 256 c1] 75)
  have HA := Lib.hid (hA.go HBX.out)
  have HK := Lib.hid (hk1.trans ((hA.kp HBX.out).less fun q hq => .inl hq))
  have HR := Lib.hid hr
  have HRG := Lib.hid (hRg.alloc (.cells #[.int .i64 (k : Int), .int .i64 (d : Int), .slice (some ⟨g, 0, none⟩) 256 c1] 75))
  have HLE := Lib.hid hl
  have hg1 : g < w1.heap.size := hRg.lt
  have HGN : Hid (¬ S g) := Lib.hid fun hs => by have := H.out.there g hs; omega
  clear hA hk1 hr hRg hl
  go_wp2_with fail
  refine (bytes_is k d g c1 hd2 hc1 _).mono ?_
  rintro e w2 ⟨rfl, hb2⟩
  have HA2 := Lib.hid (HA.out.go hb2)
  have HK2 := Lib.hid (HK.out.trans ((HA.out.kp hb2).less fun q hq => .inl hq))
  have HRG2 := Lib.hid (HRG.out.keep hb2 HRG.out.lt)
  have R2 := Lib.hid (R1.out.keep hb2 R1.out.lt)
  have x0 := AMem.rowc R2.out 0 rfl
  have x2 := AMem.rowc R2.out 2 rfl
  have hlt2 : w1.heap.size < w2.heap.size := R2.out.lt
  clear hb2
  have HN : Hid ((x.map u8v).length = Nat.min 128 128) := Lib.hid (by rw [List.length_map, HX.out]; rfl)
  have HC : Hid (∀ (j : Nat) (v : Value), (x.map u8v)[j]? = some v → w2.cell? (ad.add j) = some v) := Lib.hid (fun j v hv => by
    obtain ⟨a', e, _, hc⟩ := HSA.out j v hv
    injection e with e
    subst e
    rw [← hc]
    exact World.cell?_of_block (HK2.out _ (by rw [addr_add_block]; exact HSS.out _ rfl)))
  have HFT : Hid (d + (x.map u8v).length ≤ (l.map u8v ++ rest).length) := Lib.hid (by rw [List.length_map, HX.out, List.length_append, List.length_map, HLE.out]; omega)
  have HONE : Hid (∀ v ∈ x.map u8v, v.oneCell' = true) := Lib.hid (fun v hv => by
    obtain ⟨y, _, rfl⟩ := List.mem_map.1 hv
    rfl)
  have HRV : Hid (w2.heap[g]? = some (.cells (l.map u8v ++ rest).toArray 5 (0, 0))) := Lib.hid HRG2.out
  have HGS : Hid (w.heap.size ≤ g) := Lib.hid hg
  have HPUT := Lib.hid (putRow_is HRG2.out (d := d) (x := x) (by rw [HX.out, HLE.out]; exact hd2))
  have HFA : Hid (d + (x.map u8v).length ≤ (l.map u8v ++ rest).toArray.size) := Lib.hid HFT.out
  have U1 : Tryz.prog.underlying 22 = some (.slice 5) := by kernel_rfl
  have U2 : (Tryz.prog.info? 5).map (·.size) = some 1 := by kernel_rfl
  go_wp2_with
    (with_reducible show wpList _ _ _ (Oper.mk (some 21) _ _ _ _ _ :: _) _ _
     go_must (refine wpList_copy_own rfl (.tmp 19) (.tmp 20) 22 22 rfl 5 U1 U2 g d 128 (c1 - d) ad 128 c (by rfl) (by rfl) (l.map u8v ++ rest).toArray 5 HRV.out (x.map u8v) HN.out HC.out HFA.out HONE.out ?_)
     change wpList _ _ _ _ _ (putRow w2 g l rest d x)
     generalize putRow w2 g l rest d x = w3 at *
     have x0' : w3.cell? ⟨w1.heap.size, 0, none⟩ = some (.int .i64 (k : Int)) := (World.cell?_of_block (HPUT.out.2.block w1.heap.size hlt2 (by omega))).trans x0
     have x2' : w3.cell? ⟨w1.heap.size, 2, none⟩ = some (.slice (some ⟨g, 0, none⟩) 256 c1) := (World.cell?_of_block (HPUT.out.2.block w1.heap.size hlt2 (by omega))).trans x2
     clear x0 x2)
  have HA3 := Lib.hid (HA2.out.turnP HPUT.out.2 (fun q hq => by
    subst hq
    exact ⟨.inr rfl, by have := H.out.below.size; have := HGS.out; omega⟩))
  have HPL3 : Hid ((patch l d x).length = 256) := Lib.hid (by rw [patch_length _ _ _ (by rw [HX.out, HLE.out]; exact hd2), HLE.out])
  have HKP : Hid (Kp S w2 w3) := Lib.hid (fun q hq => HPUT.out.2.block q (HA2.out.there q (.inl hq)) (fun e => HGN.out (e ▸ hq)))
  have hw := a_write HA3.out (k : Int) k rfl (by rw [HR.out.N]; exact hkN) ⟨g, c1, rest, rfl, .inr rfl, HPL3.out, hc1, HPUT.out.1⟩ (by have := HR.out.load; omega)
  refine hw.mono ?_
  clear hw
  rintro e w4 ⟨rfl, hA4, hk4⟩
  have HF := Lib.hid (And.intro hA4 hk4)
  clear hA4 hk4
  go_wp2
  go_ret
  exact ⟨rfl, s1, HR.out, HF.out.1.less fun q hq => .inl hq, (HK2.out.trans HKP.out).trans (HF.out.2.less fun q hq => .inl hq)⟩
end
section
variable {a w : World} {B : Nat} {S : Nat → Prop} {b db : Nat} {s : Sto} {A : Al}
def own_S (S : Nat → Prop) (w w1 : World) : Nat → Prop := fun q => S q ∨ (w.heap.size ≤ q ∧ q < w1.heap.size)
set_option maxRecDepth 100000 in
set_option maxHeartbeats 1000000 in
theorem clear_yes (h : AS a B S w b db s) (hs : Says s A) (hT : Tab a) (hload : s.load + 20 ≤ 1073741824) (ino : Int) (k d : Nat) (hi : inoB A.b A.p A.n A.j ino = true) (hk : in0 A.b A.p A.n A.j ino = (k : Int)) (hd : in1 A.b A.p A.n A.j ino = (d : Int)) (hd2 : d + 128 ≤ 256) (hkN : k < s.N) (l : Bk) (hv : s.val k = l) :
    Calls Tryz.prog 19 #[.pointer (some ⟨b, 0, none⟩), .int .i64 ino] w fun e w' => e = .returned (.int .i64 0) ∧ ∃ s1, Rd s s1 3 ∧ AS a B S w' b db (s1.write k (patch l d zeros128)) ∧ Kp S w w' := by
  have H := Lib.hid h
  have HLY := Lib.hid (fun (w1 : World) (hb : Below w.heap.size w w1) (Ab : Option Addr) (c : Nat) (hA : Sl w1 w1.heap.size Ab (zeros128.map u8v)) (hAS : ∀ ad, Ab = some ad → S ad.block ∨ (w.heap.size ≤ ad.block ∧ ad.block < w1.heap.size)) => lay_yes (h.also hb) hs hT hload ino k d hi hk hd hd2 hkN l hv zeros128 zeros_len Ab c hA hAS)
  clear h hs hT hi hk hd hv
  go_enter Tryz.func19, Tryz.ntmps19
  go_wp2_with fail
  refine (free_any w).mono ?_
  rintro e w1 ⟨rfl, hR, hb, hlt⟩
  have HL := Lib.hid (HLY.out w1 hb _ 128 (hR.sl hlt) (fun ad h => by injection h with h; subst h; exact .inr ⟨Nat.le_refl _, hlt⟩))
  have HKP := Lib.hid (H.out.kp hb)
  clear hR hb
  go_wp2_with fail
  refine HL.out.mono ?_
  rintro e w2 ⟨rfl, s1, h1, h2, h3⟩
  have HF := Lib.hid (And.intro h1 (And.intro h2 h3))
  clear h1 h2 h3
  go_wp2
  go_ret
  exact ⟨rfl, s1, HF.out.1, HF.out.2.1.less fun q hq => .inl hq, HKP.out.trans (HF.out.2.2.less fun q hq => .inl hq)⟩
set_option maxRecDepth 100000 in
set_option maxHeartbeats 1000000 in
theorem put_may (h : AS a B S w b db s) (hT : Tab a) (ino : Int) (r : Ino) (hn : ¬ (inB 1 65535 ino = true ∧ inoMay r = true)) (Ar : Option Addr) (c n : Nat) (hrn : r.root.length = n) (hA : Sl w w.heap.size Ar (r.root.map u8v)) :
    Calls Tryz.prog 17 #[.pointer (some ⟨b, 0, none⟩), .int .i64 ino, .agg #[.int .i64 r.kind, .int .i64 r.perm, .int .i64 r.uid, .int .i64 r.gid, .int .i64 r.links, .int .i64 r.size, .int .i64 r.blocks, .int .i64 r.at_, .int .i64 r.mt, .int .i64 r.ct, .int .i64 r.next, .int .i64 r.parent, .int .i64 r.xattr, .bool r.idx, .slice Ar n c]] w fun e w' => e = .returned (.int .i64 22) ∧ AS a B S w' b db s ∧ Kp S w w' := by
  have HX := Lib.hid (BoxR.start w [.int .i64 r.kind, .int .i64 r.perm, .int .i64 r.uid, .int .i64 r.gid, .int .i64 r.links, .int .i64 r.size, .int .i64 r.blocks, .int .i64 r.at_, .int .i64 r.mt, .int .i64 r.ct, .int .i64 r.next, .int .i64 r.parent, .int .i64 r.xattr, .bool r.idx, .slice Ar n c] 24)
  have hp := fun (W : World) (hb : Below w.heap.size w W) => Pack_any ino r w.heap.size Ar c W hb.size (hA.below hb) (Tab.below (h.tab hT) hb (Tab.lt (h.tab hT))) n hrn
  have HPK := Lib.hid hp
  have H := Lib.hid h
  have hE : paE ino r = 22 := if_neg hn
  have hL : paL ino r = [] := if_neg hn
  have HE := Lib.hid (And.intro hE hL)
  clear hp h hT hn hA hE hL
  obtain ⟨d0, d1, d2, d3, d4, d5, d6, d7, d8, d9, d10, d11, d12, d13, d14⟩ := (show _ ∧ _ ∧ _ ∧ _ ∧ _ ∧ _ ∧ _ ∧ _ ∧ _ ∧ _ ∧ _ ∧ _ ∧ _ ∧ _ ∧ _ from ⟨HX.out.cell 0 rfl, HX.out.cell 1 rfl, HX.out.cell 2 rfl, HX.out.cell 3 rfl, HX.out.cell 4 rfl, HX.out.cell 5 rfl, HX.out.cell 6 rfl, HX.out.cell 7 rfl, HX.out.cell 8 rfl, HX.out.cell 9 rfl, HX.out.cell 10 rfl, HX.out.cell 11 rfl, HX.out.cell 12 rfl, HX.out.cell 13 rfl, HX.out.cell 14 rfl⟩)
  go_enter Tryz.func17, Tryz.ntmps17
  go_wp2_with fail
  refine (HPK.out _ HX.out.below).mono ?_
  rintro e w1 ⟨Ap, cp, rfl, -, hb1⟩
  rw [HE.out.1, HE.out.2]
  have HY := Lib.hid (HX.out.go hb1)
  clear hb1 d0 d1 d2 d3 d4 d5 d6 d7 d8 d9 d10 d11 d12 d13 d14
  go_wp2
  go_ret
  exact ⟨rfl, H.out.go HY.out.below, H.out.kp HY.out.below⟩
set_option maxRecDepth 100000 in
set_option maxHeartbeats 1000000 in
theorem put_yes (h : AS a B S w b db s) (hs : Says s A) (hT : Tab a) (hload : s.load + 20 ≤ 1073741824) (ino : Int) (r : Ino) (hn : inB 1 65535 ino = true) (hm : inoMay r = true) (k d : Nat) (hi : inoB A.b A.p A.n A.j ino = true) (hk : in0 A.b A.p A.n A.j ino = (k : Int)) (hd : in1 A.b A.p A.n A.j ino = (d : Int)) (hd2 : d + 128 ≤ 256) (hkN : k < s.N) (l : Bk) (hv : s.val k = l)
    (Ar : Option Addr) (c n : Nat) (hrn : r.root.length = n) (hA : Sl w w.heap.size Ar (r.root.map u8v)) :
    Calls Tryz.prog 17 #[.pointer (some ⟨b, 0, none⟩), .int .i64 ino, .agg #[.int .i64 r.kind, .int .i64 r.perm, .int .i64 r.uid, .int .i64 r.gid, .int .i64 r.links, .int .i64 r.size, .int .i64 r.blocks, .int .i64 r.at_, .int .i64 r.mt, .int .i64 r.ct, .int .i64 r.next, .int .i64 r.parent, .int .i64 r.xattr, .bool r.idx, .slice Ar n c]] w fun e w' => e = .returned (.int .i64 0) ∧ ∃ s1, Rd s s1 3 ∧ AS a B S w' b db (s1.write k (patch l d (inoBytes ino.toNat r))) ∧ Kp S w w' := by
  have HX := Lib.hid (BoxR.start w [.int .i64 r.kind, .int .i64 r.perm, .int .i64 r.uid, .int .i64 r.gid, .int .i64 r.links, .int .i64 r.size, .int .i64 r.blocks, .int .i64 r.at_, .int .i64 r.mt, .int .i64 r.ct, .int .i64 r.next, .int .i64 r.parent, .int .i64 r.xattr, .bool r.idx, .slice Ar n c] 24)
  have hp := fun (W : World) (hb : Below w.heap.size w W) => Pack_any ino r w.heap.size Ar c W hb.size (hA.below hb) (Tab.below (h.tab hT) hb (Tab.lt (h.tab hT))) n hrn
  have HPK := Lib.hid hp
  have hlen := inoBytes_len (may_of hm).root ino.toNat
  have HLY := Lib.hid (fun (w1 : World) (hb : Below w.heap.size w w1) (Ab : Option Addr) (c : Nat) (hA : Sl w1 w1.heap.size Ab ((inoBytes ino.toNat r).map u8v)) (hAS : ∀ ad, Ab = some ad → S ad.block ∨ (w.heap.size ≤ ad.block ∧ ad.block < w1.heap.size)) => lay_yes (h.also hb) hs hT hload ino k d hi hk hd hd2 hkN l hv (inoBytes ino.toNat r) hlen Ab c hA hAS)
  have H := Lib.hid h
  have hE : paE ino r = 0 := if_pos ⟨hn, hm⟩
  have hL : paL ino r = inoBytes ino.toNat r := if_pos ⟨hn, hm⟩
  have HE := Lib.hid (And.intro hE (And.intro hL hlen))
  clear hp h hs hT hn hA hE hL hlen hm hi hk hd hv
  obtain ⟨d0, d1, d2, d3, d4, d5, d6, d7, d8, d9, d10, d11, d12, d13, d14⟩ := (show _ ∧ _ ∧ _ ∧ _ ∧ _ ∧ _ ∧ _ ∧ _ ∧ _ ∧ _ ∧ _ ∧ _ ∧ _ ∧ _ ∧ _ from ⟨HX.out.cell 0 rfl, HX.out.cell 1 rfl, HX.out.cell 2 rfl, HX.out.cell 3 rfl, HX.out.cell 4 rfl, HX.out.cell 5 rfl, HX.out.cell 6 rfl, HX.out.cell 7 rfl, HX.out.cell 8 rfl, HX.out.cell 9 rfl, HX.out.cell 10 rfl, HX.out.cell 11 rfl, HX.out.cell 12 rfl, HX.out.cell 13 rfl, HX.out.cell 14 rfl⟩)
  go_enter Tryz.func17, Tryz.ntmps17
  go_wp2_with fail
  refine (HPK.out _ HX.out.below).mono ?_
  rintro e w1 ⟨Ap, cp, rfl, hO, hb1⟩
  rw [HE.out.2.1, HE.out.2.2] at hO
  rw [HE.out.1, HE.out.2.1, HE.out.2.2]
  have HY := Lib.hid (HX.out.go hb1)
  obtain ⟨-, hsl, -⟩ := hO.at_
  have hblk := hO.block
  have HL := Lib.hid (HLY.out w1 HY.out.below Ap cp hsl (fun ad h => by
    subst h
    rcases hO with h2 | ⟨gg, cc, rr, hvv, h4, h5, h6⟩
    · have := HE.out.2.2; rw [h2.2] at this; simp at this
    · injection hvv with e1 e2 e3
      injection e1 with e1
      subst e1
      have := HX.out.below.size
      exact .inr ⟨by show w.heap.size ≤ gg; omega, h6.lt⟩))
  have HKP := Lib.hid (H.out.kp HY.out.below)
  clear hO hb1 hsl hblk d0 d1 d2 d3 d4 d5 d6 d7 d8 d9 d10 d11 d12 d13 d14
  go_wp2_with fail
  refine HL.out.mono ?_
  rintro e w2 ⟨rfl, s1, h1, h2, h3⟩
  have HF := Lib.hid (And.intro h1 (And.intro h2 h3))
  clear h1 h2 h3
  go_wp2
  go_ret
  exact ⟨rfl, s1, HF.out.1, HF.out.2.1.less fun q hq => .inl hq, HKP.out.trans (HF.out.2.2.less fun q hq => .inl hq)⟩
end
end Go.Proofs.YtgjcbfdhpbkhoaaGreatDoor.ILay
/- The allocator: what an empty disk says, in plain mathematics. -/
namespace Go.Proofs.YtgjcbfdhpbkhoaaGreatDoor.ASays
open WMem WPlain WCrc WSeal TPlain TBits TSet TTurn TFace TTurnF GPlain DPlain EPlain SPlain QPlain APlain AMem AMake1 AEmpty AMake2 AMake3 AMake4 AMake5
theorem last_some {P : List (Nat × Bk)} {k : Nat} {l : Bk} (h : (k, l) ∈ P) : lastOf P k ≠ none := by
  induction P with
  | nil => cases h
  | cons y r ih =>
    simp only [lastOf]
    cases hr : lastOf r k with
    | some x => simp
    | none =>
      rcases List.mem_cons.1 h with e | e
      · subst e; simp
      · exact absurd hr (ih e)
theorem last_is {P : List (Nat × Bk)} {k : Nat} {l : Bk} (h : (k, l) ∈ P) (hu : ∀ x ∈ P, x.1 = k → x.2 = l) : lastOf P k = some l := by
  cases hl : lastOf P k with
  | none => exact absurd hl (last_some h)
  | some x => exact congrArg some (hu _ (lastOf_mem hl) rfl)
section
variable {A : Al}
theorem gw_of (hM : May A.b A.p A.n A.j) {k : Nat} (hk : k < A.ng) {x : Nat × Bk} (hx : x ∈ gw A k) :
    A.bat k ≤ x.1 ∧ x.1 < A.at_ k + A.own k ∧ (x.1 = A.bat k → x.2 = A.bm k) ∧ (x.1 = A.bat k + 1 → x.2 = A.im k) := by
  have h5 := (geo hM hk).a5
  simp only [gw, AMake1.grpW, tabW, List.mem_cons, List.mem_map, List.mem_range] at hx
  rcases hx with rfl | rfl | ⟨i, hi, rfl⟩
  · exact ⟨Nat.le_refl _, by show A.bat k < _; omega, fun _ => rfl, fun h => absurd (show A.bat k = A.bat k + 1 from h) (by omega)⟩
  · exact ⟨Nat.le_succ _, by show A.bat k + 1 < _; omega, fun h => absurd (show A.bat k + 1 = A.bat k from h) (by omega), fun _ => rfl⟩
  · exact ⟨by show _ ≤ A.bat k + 2 + i; omega, by show A.bat k + 2 + i < _; omega, fun h => absurd (show A.bat k + 2 + i = A.bat k from h) (by omega), fun h => absurd (show A.bat k + 2 + i = A.bat k + 1 from h) (by omega)⟩
theorem mem_empty {x : Nat × Bk} (hx : x ∈ emptyW A) : (∃ k, k < A.ng ∧ x ∈ gw A k) ∨ x = (1, A.grps) ∨ x = (0, A.sup) := by
  unfold emptyW at hx
  rcases List.mem_append.1 hx with hx | hx
  · obtain ⟨k, hk, hx⟩ := List.mem_flatMap.1 hx
    exact .inl ⟨k, List.mem_range.1 hk, hx⟩
  · simp only [List.mem_cons, List.not_mem_nil, or_false] at hx
    exact .inr hx
theorem last_sup (hM : May A.b A.p A.n A.j) : lastOf (emptyW A) 0 = some A.sup := by
  refine last_is (by simp [emptyW]) fun x hx h0 => ?_
  rcases mem_empty hx with ⟨k, hk, hg⟩ | rfl | rfl
  · have := (gw_of hM hk hg).1
    have := (geo hM hk).a9
    omega
  · cases h0
  · rfl
theorem last_grps (hM : May A.b A.p A.n A.j) : lastOf (emptyW A) 1 = some A.grps := by
  refine last_is (by simp [emptyW]) fun x hx h0 => ?_
  rcases mem_empty hx with ⟨k, hk, hg⟩ | rfl | rfl
  · have := (gw_of hM hk hg).1
    have := (geo hM hk).a9
    omega
  · rfl
  · cases h0
theorem own_grp (hM : May A.b A.p A.n A.j) {k i : Nat} (hk : k < A.ng) (hi : i < A.ng) {x : Nat × Bk} (hx : x ∈ gw A k) (h : x.1 = A.bat i ∨ x.1 = A.bat i + 1) : k = i := by
  obtain ⟨h1, h2, -, -⟩ := gw_of hM hk hx
  have gk := geo hM hk
  have gi := geo hM hi
  have k4 := gk.a4
  have k6 := gk.a6
  have i4 := gi.a4
  have i5 := gi.a5
  have i6 := gi.a6
  rcases Nat.lt_trichotomy k i with e | e | e
  · have := apart hM e hi
    omega
  · exact e
  · have := apart hM e hk
    omega
theorem last_bm (hM : May A.b A.p A.n A.j) {i : Nat} (hi : i < A.ng) : lastOf (emptyW A) (A.bat i) = some (A.bm i) := by
  have h9 := (geo hM hi).a9
  refine last_is (List.mem_append.2 (.inl (List.mem_flatMap.2 ⟨i, List.mem_range.2 hi, by simp [gw, AMake1.grpW]⟩))) fun x hx h0 => ?_
  rcases mem_empty hx with ⟨k, hk, hg⟩ | rfl | rfl
  · obtain rfl := own_grp hM hk hi hg (.inl h0)
    exact (gw_of hM hk hg).2.2.1 h0
  · have h0 : 1 = A.bat i := h0
    omega
  · have h0 : 0 = A.bat i := h0
    omega
theorem last_im (hM : May A.b A.p A.n A.j) {i : Nat} (hi : i < A.ng) : lastOf (emptyW A) (A.bat i + 1) = some (A.im i) := by
  have h9 := (geo hM hi).a9
  refine last_is (List.mem_append.2 (.inl (List.mem_flatMap.2 ⟨i, List.mem_range.2 hi, by simp [gw, AMake1.grpW]⟩))) fun x hx h0 => ?_
  rcases mem_empty hx with ⟨k, hk, hg⟩ | rfl | rfl
  · obtain rfl := own_grp hM hk hi hg (.inr h0)
    exact (gw_of hM hk hg).2.2.2 h0
  · have h0 : 1 = A.bat i + 1 := h0
    omega
  · have h0 : 0 = A.bat i + 1 := h0
    omega
def madeD (A : Al) : St := (putW (St.new A.b.toNat) (emptyW A)).flush
theorem madeD_len : (madeD A).L.length = A.b.toNat := by
  unfold madeD St.flush putW St.new
  rw [doneTo_len, List.length_replicate]
theorem madeD_read {k : Nat} (hk : (k : Int) < A.b) {l : Bk} (h : lastOf (emptyW A) k = some l) : (madeD A).readAt k = l := by
  have e : (madeD A).readAt k = (doneTo (fun _ => true) (List.replicate A.b.toNat DPlain.zeros) (emptyW A) (emptyW A).length).getD k [] := by
    unfold madeD St.flush putW St.new St.readAt
    simp [lastOf]
  rw [e, doneTo_all _ _ k (by rw [List.length_replicate]; omega) _ (Nat.le_refl _), List.take_length, h]
  rfl
theorem fresh_val (d : St) (ns room k : Nat) : (fresh d ns room).val k = d.readAt k := rfl
theorem says_made (hE : A = empty A.b A.p A.n A.j) (hM : May A.b A.p A.n A.j) (ns room : Nat) : Says (fresh (madeD A) ns room) A := by
  have hb := hM.b0
  refine ⟨fine_of hE hM, ?_, ?_, ?_, fun i hi => ?_, fun i hi => ?_, Coh.fresh _ _ _⟩
  · show ((madeD A).L.length : Int) = A.b
    rw [madeD_len]
    omega
  · rw [fresh_val]
    exact madeD_read (by omega) (last_sup hM)
  · rw [fresh_val]
    exact madeD_read (by omega) (last_grps hM)
  · rw [fresh_val]
    have g := geo hM hi
    exact madeD_read (by have := g.a5; have := g.a6; have := g.a8; omega) (last_bm hM hi)
  · rw [fresh_val]
    have g := geo hM hi
    exact madeD_read (by have := g.a5; have := g.a6; have := g.a8; omega) (last_im hM hi)
end
end Go.Proofs.YtgjcbfdhpbkhoaaGreatDoor.ASays
/- The table of inodes of the example's disk, inode by inode; Get, Put, Clear over it. -/
namespace Go.Proofs.YtgjcbfdhpbkhoaaGreatDoor.ITab
open Go.RowKit WMem WPlain WPack WWide WAny WAppend WCrc WSeal WFace2 GPlain GPlain3 GWithin GGeo GGeo2 GFace SNums SPlain QPlain QMem Ext Map DPlain DMem EPlain EMem EFace EAny APlain AMem AGeo AOpen AMake1 AEmpty AMake2 AMake3 AMake4 AMake5 ASays IPlain ICheck IPack IUnp IUn2 IUn3 IPlace IGet ILay
def A0 : Al := empty 300 200 16 96
theorem A0_is : A0 = empty A0.b A0.p A0.n A0.j := rfl
theorem A0_geo : A0.b = 300 ∧ A0.p = 200 ∧ A0.n = 16 ∧ A0.j = 96 := by decide +kernel
theorem A0_may : May A0.b A0.p A0.n A0.j := may_iff.1 (by decide +kernel)
theorem A0_ng : A0.ng = 2 := by decide +kernel
theorem A0_at : A0.bat 0 = 98 ∧ A0.bat 1 = 200 ∧ A0.at_ 0 = 0 ∧ A0.at_ 1 = 200 ∧ A0.own 0 = 108 ∧ A0.own 1 = 10 := by decide +kernel
theorem AS_fit {a w : World} {B : Nat} {S : Nat → Prop} {b db : Nat} {s : Sto} (h : AS a B S w b db s) : AS a w.heap.size S w b db s := by
  obtain ⟨ρ, D, hO, hA, -⟩ := h.ex
  exact ⟨⟨ρ, D, hO, hA, fun q hq => hO.ss.there q (fun e => by rw [e] at hq; exact hq), fun q hq => hO.dd.there q hq⟩, h.below, h.there⟩
theorem made_load {A : Al} (hM : May A.b A.p A.n A.j) : (fresh (madeD A) 4 32).load ≤ 70001 := by
  have h := (emptyW_len hM).2
  have e : (fresh (madeD A) 4 32).load = 0 + (emptyW A).length + 1 := by
    show 0 + 0 + 0 + (0 + (emptyW A).length + 1) = _
    omega
  omega
def kk (m : Nat) : Nat := if m < 16 then 100 + m / 2 else 202 + (m - 16) / 2
def dd (m : Nat) : Nat := m % 2 * 128
theorem places : ∀ m : Nat, m < 32 → inoB 300 200 16 96 ((m + 1 : Nat) : Int) = true ∧ in0 300 200 16 96 ((m + 1 : Nat) : Int) = ((kk m : Nat) : Int) ∧ in1 300 200 16 96 ((m + 1 : Nat) : Int) = ((dd m : Nat) : Int) ∧ dd m + 128 ≤ 256 ∧ kk m < 300 ∧ 100 ≤ kk m ∧ kk m ≠ 200 ∧ kk m ≠ 201 ∧ (kk m < 108 ∨ (202 ≤ kk m ∧ kk m < 210)) := by decide +kernel
theorem no33 : inoB 300 200 16 96 33 = false := by decide +kernel
theorem apart_mm {m m' : Nat} (hne : m' ≠ m) (hm : m < 32) (hm' : m' < 32) (hk : kk m' = kk m) : dd m' + 128 ≤ dd m ∨ dd m + 128 ≤ dd m' := by
  unfold kk at hk
  unfold dd
  split at hk <;> split at hk <;> omega
theorem Says_put {s : Sto} {A : Al} (h : Says s A) (n : Nat) (l : Bk) (h0 : n ≠ 0) (h1 : n ≠ 1) (hb : ∀ i, i < A.ng → A.bat i ≠ n ∧ A.bat i + 1 ≠ n) : Says (s.write n l) A := by
  refine ⟨h.fine, h.N, ?_, ?_, fun k hk => ?_, fun k hk => ?_, h.coh.write _ _⟩
  · rw [write_val, if_neg (Ne.symm h0)]; exact h.sup
  · rw [write_val, if_neg (Ne.symm h1)]; exact h.grp
  · rw [write_val, if_neg (hb k hk).1]; exact h.bms k hk
  · rw [write_val, if_neg (hb k hk).2]; exact h.ims k hk
theorem last_tab {A : Al} (hM : May A.b A.p A.n A.j) {i j : Nat} (hi : i < A.ng) (hj : j < A.at_ i + A.own i - (A.bat i + 2)) : lastOf (emptyW A) (A.bat i + 2 + j) = some zblk := by
  have g := geo hM hi
  have h9 := g.a9
  refine last_is (List.mem_append.2 (.inl (List.mem_flatMap.2 ⟨i, List.mem_range.2 hi, by simp [gw, AMake1.grpW, tabW]; exact .inr (.inr hj)⟩))) fun x hx h0 => ?_
  rcases mem_empty hx with ⟨k, hk, hg⟩ | rfl | rfl
  · simp only [gw, AMake1.grpW, tabW, List.mem_cons, List.mem_map, List.mem_range] at hg
    have g' := geo hM hk
    have h4 := g'.a4
    have h5 := g'.a5
    have h4' := g.a4
    have h5' := g.a5
    have h6 := g.a6
    have h6' := g'.a6
    rcases hg with rfl | rfl | ⟨q, hq, rfl⟩
    · exfalso
      have h0 : A.bat k = A.bat i + 2 + j := h0
      rcases Nat.lt_trichotomy k i with e | e | e
      · have := apart hM e hi; omega
      · subst e; omega
      · have := apart hM e hk; omega
    · exfalso
      have h0 : A.bat k + 1 = A.bat i + 2 + j := h0
      rcases Nat.lt_trichotomy k i with e | e | e
      · have := apart hM e hi; omega
      · subst e; omega
      · have := apart hM e hk; omega
    · rfl
  · have h0 : 1 = A.bat i + 2 + j := h0
    omega
  · have h0 : 0 = A.bat i + 2 + j := h0
    omega
theorem tab_zero {m : Nat} (hm : m < 32) (ns room : Nat) : (fresh (madeD A0) ns room).val (kk m) = zblk := by
  rw [fresh_val]
  obtain ⟨a0, a1, a2, a3, a4, a5⟩ := A0_at
  have hp := places m hm
  have hng := A0_ng
  refine madeD_read (by rw [A0_geo.1]; omega) ?_
  rcases hp.2.2.2.2.2.2.2.2 with h | h
  · have := last_tab A0_may (i := 0) (j := kk m - 100) (by omega) (by omega)
    rw [a0, show 98 + 2 + (kk m - 100) = kk m by omega] at this
    exact this
  · have := last_tab A0_may (i := 1) (j := kk m - 202) (by omega) (by omega)
    rw [a1, show 200 + 2 + (kk m - 202) = kk m by omega] at this
    exact this
theorem part_zero (d : Nat) (hd : d + 128 ≤ 256) : part128 zblk d = zeros128 := by
  unfold part128 zblk zeros128
  rw [List.drop_replicate, List.take_replicate, Nat.min_eq_left (by omega)]
structure IS (a w : World) (S : Nat → Prop) (b db L : Nat) (s : Sto) (T : Nat → List UInt8) : Prop where
  st : AS a w.heap.size S w b db s
  says : Says s A0
  load : s.load ≤ L
  tab : ∀ m, m < 32 → part128 (s.val (kk m)) (dd m) = T m
  len : ∀ m, m < 32 → (s.val (kk m)).length = 256
section
variable {a w w' : World} {S S' : Nat → Prop} {b db L : Nat} {s s' : Sto} {T : Nat → List UInt8}
theorem IS.N (h : IS a w S b db L s T) : s.N = 300 := by
  have := h.says.N
  rw [A0_geo.1] at this
  omega
theorem IS.go (h : IS a w S b db L s T) (hb : Below w.heap.size w w') : IS a w' S b db L s T := ⟨AS_fit (h.st.go hb), h.says, h.load, h.tab, h.len⟩
theorem IS.also (h : IS a w S b db L s T) (hb : Below w.heap.size w w') : IS a w' (fun q => S q ∨ (w.heap.size ≤ q ∧ q < w'.heap.size)) b db L s T := ⟨AS_fit (h.st.also hb), h.says, h.load, h.tab, h.len⟩
theorem IS.less (h : IS a w S b db L s T) (hS : ∀ q, S' q → S q) : IS a w S' b db L s T := ⟨h.st.less hS, h.says, h.load, h.tab, h.len⟩
theorem IS.cell (h : IS a w S b db L s T) (p : Addr) (v : Value) (hp : S p.block) (ha : a.heap.size ≤ p.block) : IS a (w.setCell p v) S b db L s T := ⟨AS_fit (h.st.cell p v hp ha), h.says, h.load, h.tab, h.len⟩
theorem IS.kp (h : IS a w S b db L s T) (hb : Below w.heap.size w w') : Kp S w w' := h.st.kp hb
theorem IS.rd {k : Nat} (h : IS a w S b db L s T) (hr : Rd s s' k) (hA : AS a w.heap.size S w' b db s') : IS a w' S b db (L + k) s' T :=
  ⟨AS_fit hA, h.says.rd hr, by have := h.load; have := hr.load; omega, fun m hm => by rw [hr.val]; exact h.tab m hm, fun m hm => by rw [hr.val]; exact h.len m hm⟩
def setT (T : Nat → List UInt8) (m : Nat) (x : List UInt8) : Nat → List UInt8 := fun m' => if m' = m then x else T m'
theorem IS.put (h : IS a w S b db L s T) {k m : Nat} (hm : m < 32) (hr : Rd s s' k) (x : List UInt8) (hx : x.length = 128) (hA : AS a w.heap.size S w' b db (s'.write (kk m) (patch (s.val (kk m)) (dd m) x))) : IS a w' S b db (L + k + 20) (s'.write (kk m) (patch (s.val (kk m)) (dd m) x)) (setT T m x) := by
  obtain ⟨a0, a1, -⟩ := A0_at
  obtain ⟨-, -, -, q4, q5, q6, q7, q8, -⟩ := places m hm
  have hl := h.len m hm
  refine ⟨AS_fit hA, Says_put (h.says.rd hr) _ _ (by omega) (by omega) (fun i hi => ?_), ?_, fun m' hm' => ?_, fun m' hm' => ?_⟩
  · rw [A0_ng] at hi
    rcases (show i = 0 ∨ i = 1 by omega) with rfl | rfl
    · rw [a0]; omega
    · rw [a1]; omega
  · have := h.load
    have := hr.load
    have := Sto.load_write s' (kk m) (patch (s.val (kk m)) (dd m) x)
    omega
  · rw [write_val]
    unfold setT
    by_cases hk : kk m' = kk m
    · rw [if_pos hk]
      by_cases e : m' = m
      · subst e
        rw [if_pos rfl]
        unfold part128
        have := patch_part (s.val (kk m')) (dd m') x (by omega)
        rw [hx] at this
        exact this
      · rw [if_neg e]
        have := patch_apart (s.val (kk m)) (dd m) x (by omega) (dd m') 128 (by rw [hx]; exact apart_mm e hm hm' hk)
        have ht := h.tab m' hm'
        rw [hk] at ht
        exact this.trans ht
    · rw [if_neg hk, if_neg (fun e => hk (by rw [e])), hr.val]
      exact h.tab m' hm'
  · rw [write_val]
    split
    · rw [patch_length _ _ _ (by omega)]; exact hl
    · rw [hr.val]; exact h.len m' hm'
theorem is_get (h : IS a w S b db L s T) (hT : Tab a) (hL : L ≤ 1000000) (m : Nat) (hm : m < 32) :
    Calls Tryz.prog 18 #[.pointer (some ⟨b, 0, none⟩), .int .i64 ((m + 1 : Nat) : Int)] w fun e w' => ∃ Ar c s', e = .returned (.tuple #[.agg #[.int .i64 (unI ((m + 1 : Nat) : Int) (T m)).kind, .int .i64 (unI ((m + 1 : Nat) : Int) (T m)).perm, .int .i64 (unI ((m + 1 : Nat) : Int) (T m)).uid, .int .i64 (unI ((m + 1 : Nat) : Int) (T m)).gid, .int .i64 (unI ((m + 1 : Nat) : Int) (T m)).links, .int .i64 (unI ((m + 1 : Nat) : Int) (T m)).size, .int .i64 (unI ((m + 1 : Nat) : Int) (T m)).blocks, .int .i64 (unI ((m + 1 : Nat) : Int) (T m)).at_, .int .i64 (unI ((m + 1 : Nat) : Int) (T m)).mt, .int .i64 (unI ((m + 1 : Nat) : Int) (T m)).ct, .int .i64 (unI ((m + 1 : Nat) : Int) (T m)).next, .int .i64 (unI ((m + 1 : Nat) : Int) (T m)).parent, .int .i64 (unI ((m + 1 : Nat) : Int) (T m)).xattr, .bool (unI ((m + 1 : Nat) : Int) (T m)).idx, .slice Ar (unI ((m + 1 : Nat) : Int) (T m)).root.length c], .int .i64 (unE ((m + 1 : Nat) : Int) (T m))]) ∧
      WAny.Own w' w.heap.size (.slice Ar (unI ((m + 1 : Nat) : Int) (T m)).root.length c) (unI ((m + 1 : Nat) : Int) (T m)).root ∧ IS a w' S b db (L + 3) s' T ∧ Kp S w w' := by
  obtain ⟨p1, p2, p3, p4, p5, -⟩ := places m hm
  have hld := h.load
  obtain ⟨e0, e1, e2, e3⟩ := A0_geo
  refine (get_yes h.st h.says hT (by omega) ((m + 1 : Nat) : Int) (kk m) (dd m) (by rw [e0, e1, e2, e3]; exact p1) (by rw [e0, e1, e2, e3]; exact p2) (by rw [e0, e1, e2, e3]; exact p3) p4 (by rw [h.N]; exact p5) _ rfl).mono ?_
  rintro e w' ⟨Ar, c, s', rfl, hO, hr, hA, hk⟩
  rw [h.tab m hm] at hO ⊢
  exact ⟨Ar, c, s', rfl, hO, h.rd hr hA, hk⟩
theorem is_get33 (h : IS a w S b db L s T) (hT : Tab a) (hL : L ≤ 1000000) :
    Calls Tryz.prog 18 #[.pointer (some ⟨b, 0, none⟩), .int .i64 33] w fun e w' => e = .returned (.tuple #[.agg #[.int .i64 0, .int .i64 0, .int .i64 0, .int .i64 0, .int .i64 0, .int .i64 0, .int .i64 0, .int .i64 0, .int .i64 0, .int .i64 0, .int .i64 0, .int .i64 0, .int .i64 0, .bool false, .slice none 0 0], .int .i64 22]) ∧ ∃ s', IS a w' S b db (L + 2) s' T ∧ Kp S w w' := by
  have hld := h.load
  obtain ⟨e0, e1, e2, e3⟩ := A0_geo
  refine (get_no h.st h.says hT (by omega) 33 (by rw [e0, e1, e2, e3]; exact no33)).mono ?_
  rintro e w' ⟨s', rfl, hr, hA, hk⟩
  exact ⟨rfl, s', h.rd hr hA, hk⟩
theorem is_put (h : IS a w S b db L s T) (hT : Tab a) (hL : L ≤ 1000000) (m : Nat) (hm : m < 32) (r : Ino) (hr : inoMay r = true) (Ar : Option Addr) (c n : Nat) (hrn : r.root.length = n) (hA : Sl w w.heap.size Ar (r.root.map u8v)) :
    Calls Tryz.prog 17 #[.pointer (some ⟨b, 0, none⟩), .int .i64 ((m + 1 : Nat) : Int), .agg #[.int .i64 r.kind, .int .i64 r.perm, .int .i64 r.uid, .int .i64 r.gid, .int .i64 r.links, .int .i64 r.size, .int .i64 r.blocks, .int .i64 r.at_, .int .i64 r.mt, .int .i64 r.ct, .int .i64 r.next, .int .i64 r.parent, .int .i64 r.xattr, .bool r.idx, .slice Ar n c]] w fun e w' => e = .returned (.int .i64 0) ∧ ∃ s', IS a w' S b db (L + 23) s' (setT T m (inoBytes (m + 1) r)) ∧ Kp S w w' := by
  obtain ⟨p1, p2, p3, p4, p5, -⟩ := places m hm
  have hld := h.load
  obtain ⟨e0, e1, e2, e3⟩ := A0_geo
  refine (put_yes h.st h.says hT (by omega) ((m + 1 : Nat) : Int) r (inB_true.2 ⟨by omega, by omega⟩) hr (kk m) (dd m) (by rw [e0, e1, e2, e3]; exact p1) (by rw [e0, e1, e2, e3]; exact p2) (by rw [e0, e1, e2, e3]; exact p3) p4 (by rw [h.N]; exact p5) _ rfl Ar c n hrn hA).mono ?_
  rintro e w' ⟨rfl, s', hrd, hAS, hk⟩
  exact ⟨rfl, _, h.put hm hrd _ (inoBytes_len (may_of hr).root _) hAS, hk⟩
theorem is_put_no (h : IS a w S b db L s T) (hT : Tab a) (ino : Int) (r : Ino) (hr : inoMay r = false) (Ar : Option Addr) (c n : Nat) (hrn : r.root.length = n) (hA : Sl w w.heap.size Ar (r.root.map u8v)) :
    Calls Tryz.prog 17 #[.pointer (some ⟨b, 0, none⟩), .int .i64 ino, .agg #[.int .i64 r.kind, .int .i64 r.perm, .int .i64 r.uid, .int .i64 r.gid, .int .i64 r.links, .int .i64 r.size, .int .i64 r.blocks, .int .i64 r.at_, .int .i64 r.mt, .int .i64 r.ct, .int .i64 r.next, .int .i64 r.parent, .int .i64 r.xattr, .bool r.idx, .slice Ar n c]] w fun e w' => e = .returned (.int .i64 22) ∧ IS a w' S b db L s T ∧ Kp S w w' := by
  refine (put_may h.st hT ino r (fun hx => by rw [hr] at hx; exact absurd hx.2 (by decide)) Ar c n hrn hA).mono ?_
  rintro e w' ⟨rfl, hAS, hk⟩
  exact ⟨rfl, ⟨AS_fit hAS, h.says, h.load, h.tab, h.len⟩, hk⟩
theorem is_clear (h : IS a w S b db L s T) (hT : Tab a) (hL : L ≤ 1000000) (m : Nat) (hm : m < 32) :
    Calls Tryz.prog 19 #[.pointer (some ⟨b, 0, none⟩), .int .i64 ((m + 1 : Nat) : Int)] w fun e w' => e = .returned (.int .i64 0) ∧ ∃ s', IS a w' S b db (L + 23) s' (setT T m zeros128) ∧ Kp S w w' := by
  obtain ⟨p1, p2, p3, p4, p5, -⟩ := places m hm
  have hld := h.load
  obtain ⟨e0, e1, e2, e3⟩ := A0_geo
  refine (clear_yes h.st h.says hT (by omega) ((m + 1 : Nat) : Int) (kk m) (dd m) (by rw [e0, e1, e2, e3]; exact p1) (by rw [e0, e1, e2, e3]; exact p2) (by rw [e0, e1, e2, e3]; exact p3) p4 (by rw [h.N]; exact p5) _ rfl).mono ?_
  rintro e w' ⟨rfl, s', hrd, hAS, hk⟩
  exact ⟨rfl, _, h.put hm hrd _ zeros_len hAS, hk⟩
end
end Go.Proofs.YtgjcbfdhpbkhoaaGreatDoor.ITab
/- Both stores are made: the program's is the example's empty disk; the document's only lies in new memory. -/
namespace Go.Proofs.YtgjcbfdhpbkhoaaGreatDoor.IBoth
open Go.RowKit WMem WPlain WPack WWide WAny WAppend WCrc WSeal WFace2 GPlain GPlain3 GWithin GGeo GGeo2 GFace SNums SPlain QPlain QMem Ext Map DPlain DMem DRead DWrite EPlain EMem EFace EAny APlain AMem AGeo AOpen AMake1 AEmpty AMake2 AMake3 AMake4 AMake5 ASays IPlain ICheck IPack IUnp IUn3 IPlace IGet ILay ITab
theorem small_any (w : World) : Calls Tryz.prog 32 #[] w fun e w' => e = .returned (.agg #[.int .i64 300, .int .i64 200, .int .i64 16, .int .i64 96]) ∧ Below w.heap.size w w' := by
  have r0 := AMem.rowV_new w [.int .i64 300, .int .i64 200, .int .i64 16, .int .i64 96] 63
  have c0 := AMem.rowc r0 0 rfl
  have c1 := AMem.rowc r0 1 rfl
  have c2 := AMem.rowc r0 2 rfl
  have c3 := AMem.rowc r0 3 rfl
  have HB := Lib.hid (below_box (w := w) (.cells #[.int .i64 300, .int .i64 200, .int .i64 16, .int .i64 96] 63))
  clear r0
  go_enter Tryz.func32, Tryz.ntmps32
  go_wp2
  refine bodyPost_ret_by (v := .agg #[.int .i64 300, .int .i64 200, .int .i64 16, .int .i64 96]) (by simp [results, Tryz.results32, go_sem, c0, c1, c2, c3]; try rfl) rfl ?_
  exact ⟨rfl, HB.out⟩
theorem new300 (w : World) : Calls Tryz.prog 30 #[.int .i64 300] w fun e w' => ∃ g, e = .returned (.tuple #[.pointer (some ⟨g, 0, none⟩), .int .i64 0]) ∧ DD w' (Made w w') g (St.new 300) ∧ Below w.heap.size w w' :=
  DRead.New_yes 300 w (by decide) (by decide)
theorem rnew300 (w : World) : Calls Tryz.prog 34 #[.int .i64 300] w fun e w' => ∃ g, e = .returned (.tuple #[.pointer (some ⟨g, 0, none⟩), .int .i64 0]) ∧ RD w' (Made w w') g (St.new 300) ∧ Below w.heap.size w w' :=
  RNew.RNew_yes 300 w (by decide) (by decide)
theorem make300 (S : Nat → Prop) (db : Nat) (w : World) (hT : Tab w) (hd : DD w S db (St.new 300)) :
    Calls Tryz.prog 31 #[.pointer (some ⟨db, 0, none⟩), .agg #[.int .i64 300, .int .i64 200, .int .i64 16, .int .i64 96]] w fun e w' => e = .returned (.int .i64 0) ∧ ∃ S', DD w' S' db (madeD A0) ∧ Ext S w w' ∧ In S' S w := by
  have h := Make_own A0_is A0_may S db (St.new 300) w hT hd (by show (((List.replicate 300 DPlain.zeros).length : Nat) : Int) = A0.b; rw [List.length_replicate, A0_geo.1]; rfl) (by show (0 : Nat) ≤ _; omega)
  have e : (putW (St.new 300) (emptyW A0)).flush = madeD A0 := by
    unfold madeD
    rw [A0_geo.1]
    rfl
  rw [e, A0_geo.1, A0_geo.2.1, A0_geo.2.2.1, A0_geo.2.2.2] at h
  exact h
theorem rmake300 (S : Nat → Prop) (dc : Nat) (w : World) (hd : RD w S dc (St.new 300)) :
    Calls Tryz.prog 35 #[.pointer (some ⟨dc, 0, none⟩), .agg #[.int .i64 300, .int .i64 200, .int .i64 16, .int .i64 96]] w fun e w' => e = .returned (.int .i64 0) ∧ ∃ S', RD w' S' dc (madeD A0) ∧ Ext S w w' ∧ In S' S w := by
  have h := ARMake.RMake_own A0_is A0_may S dc (St.new 300) w hd (by show (((List.replicate 300 DPlain.zeros).length : Nat) : Int) = A0.b; rw [List.length_replicate, A0_geo.1]; rfl) (by show (0 : Nat) ≤ _; omega) (by show (0 : Nat) ≤ _; omega)
  have e : (putW (St.new 300) (emptyW A0)).flush = madeD A0 := by
    unfold madeD
    rw [A0_geo.1]
    rfl
  rw [e, A0_geo.1, A0_geo.2.1, A0_geo.2.2.1, A0_geo.2.2.2] at h
  exact h
def T0 : Nat → List UInt8 := fun _ => zeros128
set_option maxRecDepth 100000 in
set_option maxHeartbeats 2000000 in
theorem both_any (w : World) (hT : Tab w) : Calls Tryz.prog 16 #[] w fun e w' => ∃ b v, e = .returned (.tuple #[.pointer (some ⟨b, 0, none⟩), v]) ∧ ∃ db s, IS w w' (fun _ => False) b db 70001 s T0 := by
  have HT := Lib.hid hT
  clear hT
  go_enter Tryz.func16, Tryz.ntmps16
  go_wp2_with fail
  refine (new300 w).mono ?_
  rintro e w1 ⟨db, rfl, hd, hb⟩
  have HD1 := Lib.hid hd
  have HB1 := Lib.hid hb
  clear hd hb
  go_wp2_with fail
  refine (small_any _).mono ?_
  rintro e w2 ⟨rfl, hb⟩
  have HD2 := Lib.hid (HD1.out.below hb)
  have HB2 := Lib.hid (below_up HB1.out hb HB1.out.size)
  clear hb
  go_wp2_with fail
  refine (make300 _ db w2 (Tab.below HT.out HB2.out (Tab.lt HT.out)) HD2.out).mono ?_
  rintro e w3 ⟨rfl, S3, hd3, he3, hi3⟩
  have HD3 := Lib.hid hd3
  have HS3 : Hid (∀ q, S3 q → w.heap.size ≤ q) := Lib.hid fun q hq => by
    rcases hi3 q hq with h | h
    · exact h.1
    · have := HB2.out.size; omega
  have HB3 : Hid (Below w.heap.size w w3) := Lib.hid (HB2.out.trans (he3.below HB2.out.size (fun q hq => hq.1)))
  clear hd3 he3 hi3
  have hl : (madeD A0).L.length = 300 := by rw [madeD_len, A0_geo.1]; rfl
  have c0 := HD3.out.c0
  have HST := Lib.hid (ENew.New_yes db 4 32 (madeD A0) w3 c0 (by decide) (by decide) (by decide) (by decide) (by rw [hl]; decide) (by rw [hl]; decide))
  clear hl c0
  go_wp2_with fail
  refine HST.out.mono ?_
  rintro e w4 ⟨b, ρ, rfl, hs, hm, hb4⟩
  have HL := Lib.hid (live_new HD3.out HS3.out HB3.out hs hm hb4)
  have HAS : Hid (AS w w4.heap.size (fun _ => False) w4 b db (fresh (madeD A0) 4 32)) := Lib.hid ⟨⟨ρ, S3, HL.out.own, fun q hq => ⟨HL.out.new q hq, id⟩, fun q hq => HL.out.own.ss.there q (fun e => by rw [e] at hq; exact hq), fun q hq => HL.out.own.dd.there q hq⟩, HL.out.below, fun q hq => hq.elim⟩
  clear hs hm hb4
  go_wp2_with fail
  refine (rnew300 w4).mono ?_
  rintro e w5 ⟨dc, rfl, hr5, hb5⟩
  have HR5 := Lib.hid hr5
  have HB5 := Lib.hid hb5
  clear hr5 hb5
  go_wp2_with fail
  refine (small_any _).mono ?_
  rintro e w6 ⟨rfl, hb⟩
  have HR6 := Lib.hid (HR5.out.below hb)
  have HB6 := Lib.hid (below_up HB5.out hb HB5.out.size)
  clear hb
  go_wp2_with fail
  refine (rmake300 _ dc w6 HR6.out).mono ?_
  rintro e w7 ⟨rfl, S7, hr7, he7, hi7⟩
  have HR7 := Lib.hid hr7
  have HB7 : Hid (Below w4.heap.size w4 w7) := Lib.hid (HB6.out.trans (he7.below HB6.out.size (fun q hq => hq.1)))
  clear hr7 he7 hi7
  have hl : (madeD A0).L.length = 300 := by rw [madeD_len, A0_geo.1]; rfl
  have HN := Lib.hid (IR6.RNew6 S7 dc 300 (madeD A0) w7 HR7.out hl (by decide) (by decide))
  clear hl
  go_wp2_with fail
  refine HN.out.mono ?_
  rintro e w8 ⟨⟨v, rfl⟩, hb8⟩
  have HB8 := Lib.hid (below_up HB7.out hb8 HB7.out.size)
  clear hb8
  go_wp2
  go_ret2
  refine ⟨b, v, rfl, db, _, ⟨AS_fit (HAS.out.go HB8.out), says_made A0_is A0_may 4 32, made_load A0_may, fun m hm => ?_, fun m hm => ?_⟩⟩
  · rw [tab_zero hm]
    exact part_zero (dd m) (places m hm).2.2.2.1
  · rw [tab_zero hm]
    exact List.length_replicate
end Go.Proofs.YtgjcbfdhpbkhoaaGreatDoor.IBoth
