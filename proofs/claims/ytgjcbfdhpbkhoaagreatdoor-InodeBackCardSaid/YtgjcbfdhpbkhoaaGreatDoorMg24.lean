/- Which inodes may be: the program's answer. -/
import Derived.Test.YtgjcbfdhpbkhoaaGreatDoorMg23
import Derived.Test.YtgjcbfdhpbkhoaaGreatDoorMg14
namespace Go.Proofs.YtgjcbfdhpbkhoaaGreatDoor.ICheck
open Go.RowKit WMem WPlain WWide GPlain GWithin GGeo GGeo2 SNums SPlain IPlain
set_option maxHeartbeats 400000 in
theorem iwithin_any (lo hi : Int) (l : List Int) (B : Nat) (A : Option Addr) (c : Nat) (w : World) (hA : Sl w B A (l.map i64v)) (hl : l.length ≤ 140737488355328) :
    Calls Tryz.prog 40 #[.int .i64 lo, .int .i64 hi, .slice A l.length c] w fun e w' => e = .returned (.bool (allIn lo hi l)) ∧ w = w' := by
  have HA := Lib.hid hA
  clear hA
  go_enter Tryz.func40, Tryz.ntmps40
  go_wp2
  go_loop [11] (fun i => ∃ k : Nat, k ≤ l.length ∧ i = .int .i64 k ∧ Hid (allIn lo hi (l.take k) = true)) (fun i => l.length - (intOf i).toNat)
  case atStart => exact ⟨0, Nat.zero_le _, rfl, Lib.hid rfl⟩
  case round =>
    obtain ⟨k, hk, rfl, HK⟩ := hrel
    by_cases hlt : k < l.length
    · obtain ⟨a, rfl, _, hc⟩ := HA.out.i64 hlt
      have HS := Lib.hid (allIn_take lo hi l k hlt)
      have HN := Lib.hid (allIn_no lo hi l k hlt)
      generalize l[k] = x at *
      by_cases h1 : lo ≤ x
      · have d1 : decide (x < lo) = false := by simpa using h1
        by_cases h2 : x ≤ hi
        · have d2 : decide (hi < x) = false := by simpa using h2
          have HX := Lib.hid (inB_true.2 ⟨h1, h2⟩)
          go_wp2
          go_round
          case rel => exact ⟨k + 1, by omega, by go_num, Lib.hid (by rw [HS.out, HK.out, HX.out]; rfl)⟩
          case measure => simp [intOf]; omega
        · have d2 : decide (hi < x) = true := by simpa using h2
          have HX := Lib.hid (HN.out (inB_false.2 (.inr (by omega))))
          clear h2
          go_wp2
          go_ret
          exact ⟨by rw [HX.out]; rfl, rfl⟩
      · have d1 : decide (x < lo) = true := by simpa using h1
        have HX := Lib.hid (HN.out (inB_false.2 (.inl (by omega))))
        clear h1
        go_wp2
        go_ret
        exact ⟨by rw [HX.out]; rfl, rfl⟩
    · obtain rfl : k = l.length := by omega
      have HX := Lib.hid (show allIn lo hi l = true by have := HK.out; rwa [List.take_length] at this)
      go_wp2
      go_ret
      exact ⟨by rw [HX.out]; rfl, rfl⟩
theorem iwithin_one (lo hi x : Int) (a : Addr) (c : Nat) (w : World) (ha : w.cell? a = some (.int .i64 x)) :
    Calls Tryz.prog 40 #[.int .i64 lo, .int .i64 hi, .slice (some a) 1 c] w fun e w' => e = .returned (.bool (inB lo hi x)) ∧ w = w' := by
  have h := iwithin_any lo hi [x] (a.block + 1) (some a) c w (fun k u hu => by
    match k with
    | 0 => simp at hu; subst hu; exact ⟨a, rfl, by omega, by simpa [Addr.add, i64v] using ha⟩
    | k + 1 => simp at hu) (by simp)
  refine h.mono ?_
  rintro e w' ⟨rfl, rfl⟩
  exact ⟨by simp [allIn], rfl⟩
theorem iwithin_six (lo hi x0 x1 x2 x3 x4 x5 : Int) (g c : Nat) (w : World) (h0 : w.cell? ⟨g, 0, none⟩ = some (.int .i64 x0)) (h1 : w.cell? ⟨g, 1, none⟩ = some (.int .i64 x1)) (h2 : w.cell? ⟨g, 2, none⟩ = some (.int .i64 x2)) (h3 : w.cell? ⟨g, 3, none⟩ = some (.int .i64 x3)) (h4 : w.cell? ⟨g, 4, none⟩ = some (.int .i64 x4)) (h5 : w.cell? ⟨g, 5, none⟩ = some (.int .i64 x5)) :
    Calls Tryz.prog 40 #[.int .i64 lo, .int .i64 hi, .slice (some ⟨g, 0, none⟩) 6 c] w fun e w' => e = .returned (.bool (allIn lo hi [x0, x1, x2, x3, x4, x5])) ∧ w = w' :=
  iwithin_any lo hi [x0, x1, x2, x3, x4, x5] (g + 1) (some ⟨g, 0, none⟩) c w (fun k u hu => by
    match k with
    | 0 => simp at hu; subst hu; exact ⟨_, rfl, by simp, by simpa [Addr.add, i64v] using h0⟩
    | 1 => simp at hu; subst hu; exact ⟨_, rfl, by simp, by simpa [Addr.add, i64v] using h1⟩
    | 2 => simp at hu; subst hu; exact ⟨_, rfl, by simp, by simpa [Addr.add, i64v] using h2⟩
    | 3 => simp at hu; subst hu; exact ⟨_, rfl, by simp, by simpa [Addr.add, i64v] using h3⟩
    | 4 => simp at hu; subst hu; exact ⟨_, rfl, by simp, by simpa [Addr.add, i64v] using h4⟩
    | 5 => simp at hu; subst hu; exact ⟨_, rfl, by simp, by simpa [Addr.add, i64v] using h5⟩
    | k + 6 => simp at hu) (by simp)
theorem win1 (lo hi x : Int) (a : Addr) (c : Nat) (w : World) (q : Bool) (hq : inB lo hi x = q) (ha : w.cell? a = some (.int .i64 x)) :
    Calls Tryz.prog 40 #[.int .i64 lo, .int .i64 hi, .slice (some a) 1 c] w fun e w' => e = .returned (.bool q) ∧ w = w' := by
  subst hq
  exact iwithin_one lo hi x a c w ha
theorem win6 (lo hi x0 x1 x2 x3 x4 x5 : Int) (g c : Nat) (w : World) (q : Bool) (hq : allIn lo hi [x0, x1, x2, x3, x4, x5] = q) (h0 : w.cell? ⟨g, 0, none⟩ = some (.int .i64 x0)) (h1 : w.cell? ⟨g, 1, none⟩ = some (.int .i64 x1)) (h2 : w.cell? ⟨g, 2, none⟩ = some (.int .i64 x2)) (h3 : w.cell? ⟨g, 3, none⟩ = some (.int .i64 x3)) (h4 : w.cell? ⟨g, 4, none⟩ = some (.int .i64 x4)) (h5 : w.cell? ⟨g, 5, none⟩ = some (.int .i64 x5)) :
    Calls Tryz.prog 40 #[.int .i64 lo, .int .i64 hi, .slice (some ⟨g, 0, none⟩) 6 c] w fun e w' => e = .returned (.bool q) ∧ w = w' := by
  subst hq
  exact iwithin_six lo hi x0 x1 x2 x3 x4 x5 g c w h0 h1 h2 h3 h4 h5
set_option maxHeartbeats 400000 in
theorem isNumber_is (ino : Int) (w : World) (q : Bool) (hq : inB 1 65535 ino = q) : Calls Tryz.prog 20 #[.int .i64 ino] w fun e w' => e = .returned (.bool q) ∧ Below w.heap.size w w' := by
  have H := Lib.hid hq
  clear hq
  go_enter Tryz.func20, Tryz.ntmps20
  go_wp2_with fail
  refine (win1 1 65535 ino _ _ _ q H.out (by simp [go_sem])).mono ?_
  rintro e w' ⟨rfl, rfl⟩
  go_wp2
  go_ret
  exact ⟨rfl, below_box _⟩
section
variable (r : Ino) (A : Option Addr) (c : Nat) (w : World)
set_option maxHeartbeats 400000 in
theorem kind_dir (h : r.kind = 2) : Calls Tryz.prog 41 #[.agg #[.int .i64 r.kind, .int .i64 r.perm, .int .i64 r.uid, .int .i64 r.gid, .int .i64 r.links, .int .i64 r.size, .int .i64 r.blocks, .int .i64 r.at_, .int .i64 r.mt, .int .i64 r.ct, .int .i64 r.next, .int .i64 r.parent, .int .i64 r.xattr, .bool r.idx, .slice A r.root.length c]] w fun e w' => e = .returned (.bool true) ∧ Below w.heap.size w w' := by
  have k1 : (r.kind == 1) = false := by simp [h]
  have k2 : (r.kind == 2) = true := by simp [h]
  have k3 : (r.kind == 3) = false := by simp [h]
  go_enter Tryz.func41, Tryz.ntmps41
  go_wp2
  go_ret
  exact ⟨rfl, below_box _⟩
set_option maxHeartbeats 400000 in
theorem kind_fno (h : r.kind = 1) (hp : (r.parent == 0) = false) : Calls Tryz.prog 41 #[.agg #[.int .i64 r.kind, .int .i64 r.perm, .int .i64 r.uid, .int .i64 r.gid, .int .i64 r.links, .int .i64 r.size, .int .i64 r.blocks, .int .i64 r.at_, .int .i64 r.mt, .int .i64 r.ct, .int .i64 r.next, .int .i64 r.parent, .int .i64 r.xattr, .bool r.idx, .slice A r.root.length c]] w fun e w' => e = .returned (.bool false) ∧ Below w.heap.size w w' := by
  have k1 : (r.kind == 1) = true := by simp [h]
  have k2 : (r.kind == 2) = false := by simp [h]
  have k3 : (r.kind == 3) = false := by simp [h]
  go_enter Tryz.func41, Tryz.ntmps41
  go_wp2
  go_ret
  exact ⟨rfl, below_box _⟩
set_option maxHeartbeats 400000 in
theorem kind_fyes (h : r.kind = 1) (hp : (r.parent == 0) = true) : Calls Tryz.prog 41 #[.agg #[.int .i64 r.kind, .int .i64 r.perm, .int .i64 r.uid, .int .i64 r.gid, .int .i64 r.links, .int .i64 r.size, .int .i64 r.blocks, .int .i64 r.at_, .int .i64 r.mt, .int .i64 r.ct, .int .i64 r.next, .int .i64 r.parent, .int .i64 r.xattr, .bool r.idx, .slice A r.root.length c]] w fun e w' => e = .returned (.bool (!r.idx)) ∧ Below w.heap.size w w' := by
  have k1 : (r.kind == 1) = true := by simp [h]
  have k2 : (r.kind == 2) = false := by simp [h]
  have k3 : (r.kind == 3) = false := by simp [h]
  go_enter Tryz.func41, Tryz.ntmps41
  go_wp2
  go_ret
  exact ⟨rfl, below_box _⟩
set_option maxHeartbeats 400000 in
theorem kind_lno (h : r.kind = 3) (hp : (r.parent == 0) = false) : Calls Tryz.prog 41 #[.agg #[.int .i64 r.kind, .int .i64 r.perm, .int .i64 r.uid, .int .i64 r.gid, .int .i64 r.links, .int .i64 r.size, .int .i64 r.blocks, .int .i64 r.at_, .int .i64 r.mt, .int .i64 r.ct, .int .i64 r.next, .int .i64 r.parent, .int .i64 r.xattr, .bool r.idx, .slice A r.root.length c]] w fun e w' => e = .returned (.bool false) ∧ Below w.heap.size w w' := by
  have k1 : (r.kind == 1) = false := by simp [h]
  have k2 : (r.kind == 2) = false := by simp [h]
  have k3 : (r.kind == 3) = true := by simp [h]
  go_enter Tryz.func41, Tryz.ntmps41
  go_wp2
  go_ret
  exact ⟨rfl, below_box _⟩
set_option maxHeartbeats 400000 in
theorem kind_lidx (h : r.kind = 3) (hp : (r.parent == 0) = true) (hi : r.idx = true) : Calls Tryz.prog 41 #[.agg #[.int .i64 r.kind, .int .i64 r.perm, .int .i64 r.uid, .int .i64 r.gid, .int .i64 r.links, .int .i64 r.size, .int .i64 r.blocks, .int .i64 r.at_, .int .i64 r.mt, .int .i64 r.ct, .int .i64 r.next, .int .i64 r.parent, .int .i64 r.xattr, .bool r.idx, .slice A r.root.length c]] w fun e w' => e = .returned (.bool false) ∧ Below w.heap.size w w' := by
  have k1 : (r.kind == 1) = false := by simp [h]
  have k2 : (r.kind == 2) = false := by simp [h]
  have k3 : (r.kind == 3) = true := by simp [h]
  go_enter Tryz.func41, Tryz.ntmps41
  go_wp2
  go_ret
  exact ⟨rfl, below_box _⟩
set_option maxHeartbeats 400000 in
theorem kind_lyes (h : r.kind = 3) (hp : (r.parent == 0) = true) (hi : r.idx = false) : Calls Tryz.prog 41 #[.agg #[.int .i64 r.kind, .int .i64 r.perm, .int .i64 r.uid, .int .i64 r.gid, .int .i64 r.links, .int .i64 r.size, .int .i64 r.blocks, .int .i64 r.at_, .int .i64 r.mt, .int .i64 r.ct, .int .i64 r.next, .int .i64 r.parent, .int .i64 r.xattr, .bool r.idx, .slice A r.root.length c]] w fun e w' => e = .returned (.bool (decide (r.size ≤ 512))) ∧ Below w.heap.size w w' := by
  have k1 : (r.kind == 1) = false := by simp [h]
  have k2 : (r.kind == 2) = false := by simp [h]
  have k3 : (r.kind == 3) = true := by simp [h]
  go_enter Tryz.func41, Tryz.ntmps41
  go_wp2
  go_ret
  exact ⟨rfl, below_box _⟩
set_option maxHeartbeats 400000 in
theorem kind_none (k1 : (r.kind == 1) = false) (k2 : (r.kind == 2) = false) (k3 : (r.kind == 3) = false) : Calls Tryz.prog 41 #[.agg #[.int .i64 r.kind, .int .i64 r.perm, .int .i64 r.uid, .int .i64 r.gid, .int .i64 r.links, .int .i64 r.size, .int .i64 r.blocks, .int .i64 r.at_, .int .i64 r.mt, .int .i64 r.ct, .int .i64 r.next, .int .i64 r.parent, .int .i64 r.xattr, .bool r.idx, .slice A r.root.length c]] w fun e w' => e = .returned (.bool false) ∧ Below w.heap.size w w' := by
  go_enter Tryz.func41, Tryz.ntmps41
  go_wp2
  go_ret
  exact ⟨rfl, below_box _⟩
theorem suitsKind_is (q : Bool) (hq : kindB r = q) : Calls Tryz.prog 41 #[.agg #[.int .i64 r.kind, .int .i64 r.perm, .int .i64 r.uid, .int .i64 r.gid, .int .i64 r.links, .int .i64 r.size, .int .i64 r.blocks, .int .i64 r.at_, .int .i64 r.mt, .int .i64 r.ct, .int .i64 r.next, .int .i64 r.parent, .int .i64 r.xattr, .bool r.idx, .slice A r.root.length c]] w fun e w' => e = .returned (.bool q) ∧ Below w.heap.size w w' := by
  subst hq
  unfold kindB
  by_cases h2 : r.kind = 2
  · rw [if_pos h2]
    exact kind_dir r A c w h2
  · rw [if_neg h2]
    by_cases h1 : r.kind = 1
    · cases hp : (r.parent == 0) with
      | false =>
        have e : ((decide (r.kind = 1) || (decide (r.kind = 3) && decide (r.size ≤ 512))) && decide (r.parent = 0) && !r.idx) = false := by
          have : ¬ r.parent = 0 := by simpa using hp
          simp [this]
        rw [e]
        exact kind_fno r A c w h1 hp
      | true =>
        have e : ((decide (r.kind = 1) || (decide (r.kind = 3) && decide (r.size ≤ 512))) && decide (r.parent = 0) && !r.idx) = !r.idx := by
          have : r.parent = 0 := by simpa using hp
          simp [this, h1]
        rw [e]
        exact kind_fyes r A c w h1 hp
    · by_cases h3 : r.kind = 3
      · cases hp : (r.parent == 0) with
        | false =>
          have e : ((decide (r.kind = 1) || (decide (r.kind = 3) && decide (r.size ≤ 512))) && decide (r.parent = 0) && !r.idx) = false := by
            have : ¬ r.parent = 0 := by simpa using hp
            simp [this]
          rw [e]
          exact kind_lno r A c w h3 hp
        | true =>
          have hp' : r.parent = 0 := by simpa using hp
          cases hi : r.idx with
          | true =>
            have e : ((decide (r.kind = 1) || (decide (r.kind = 3) && decide (r.size ≤ 512))) && decide (r.parent = 0) && !true) = false := by simp
            rw [e, ← hi]
            exact kind_lidx r A c w h3 hp hi
          | false =>
            have e : ((decide (r.kind = 1) || (decide (r.kind = 3) && decide (r.size ≤ 512))) && decide (r.parent = 0) && !false) = decide (r.size ≤ 512) := by simp [h3, hp']
            rw [e, ← hi]
            exact kind_lyes r A c w h3 hp hi
      · have e : ((decide (r.kind = 1) || (decide (r.kind = 3) && decide (r.size ≤ 512))) && decide (r.parent = 0) && !r.idx) = false := by simp [h1, h3]
        rw [e]
        exact kind_none r A c w (by simpa using h1) (by simpa using h2) (by simpa using h3)
set_option maxHeartbeats 1000000 in
theorem may_1 (h1 : kindB r = false) : Calls Tryz.prog 21 #[.agg #[.int .i64 r.kind, .int .i64 r.perm, .int .i64 r.uid, .int .i64 r.gid, .int .i64 r.links, .int .i64 r.size, .int .i64 r.blocks, .int .i64 r.at_, .int .i64 r.mt, .int .i64 r.ct, .int .i64 r.next, .int .i64 r.parent, .int .i64 r.xattr, .bool r.idx, .slice A r.root.length c]] w fun e w' => e = .returned (.bool false) ∧ Below w.heap.size w w' := by
  have H1 := Lib.hid h1
  clear h1
  have HX := Lib.hid (Boxed.start w [.int .i64 r.kind, .int .i64 r.perm, .int .i64 r.uid, .int .i64 r.gid, .int .i64 r.links, .int .i64 r.size, .int .i64 r.blocks, .int .i64 r.at_, .int .i64 r.mt, .int .i64 r.ct, .int .i64 r.next, .int .i64 r.parent, .int .i64 r.xattr, .bool r.idx, .slice A r.root.length c] 24)
  go_enter Tryz.func21, Tryz.ntmps21
  go_wp2_with fail
  refine (suitsKind_is r A c _ false H1.out).mono ?_
  rintro e w1 ⟨rfl, hb1⟩
  have HY := Lib.hid (HX.out.go hb1)
  clear hb1
  go_wp2
  go_ret
  exact ⟨rfl, HY.out.below⟩
set_option maxHeartbeats 1000000 in
theorem may_2 (h1 : kindB r = true) (h2 : inB 0 511 r.perm = false) : Calls Tryz.prog 21 #[.agg #[.int .i64 r.kind, .int .i64 r.perm, .int .i64 r.uid, .int .i64 r.gid, .int .i64 r.links, .int .i64 r.size, .int .i64 r.blocks, .int .i64 r.at_, .int .i64 r.mt, .int .i64 r.ct, .int .i64 r.next, .int .i64 r.parent, .int .i64 r.xattr, .bool r.idx, .slice A r.root.length c]] w fun e w' => e = .returned (.bool false) ∧ Below w.heap.size w w' := by
  have H1 := Lib.hid h1
  have H2 := Lib.hid h2
  clear h1 h2
  have HX := Lib.hid (Boxed.start w [.int .i64 r.kind, .int .i64 r.perm, .int .i64 r.uid, .int .i64 r.gid, .int .i64 r.links, .int .i64 r.size, .int .i64 r.blocks, .int .i64 r.at_, .int .i64 r.mt, .int .i64 r.ct, .int .i64 r.next, .int .i64 r.parent, .int .i64 r.xattr, .bool r.idx, .slice A r.root.length c] 24)
  go_enter Tryz.func21, Tryz.ntmps21
  go_wp2_with fail
  refine (suitsKind_is r A c _ true H1.out).mono ?_
  rintro e w1 ⟨rfl, hb1⟩
  have HY := Lib.hid (HX.out.go hb1)
  clear hb1
  have c1 := HY.out.cell 1 _ rfl
  have c2 := HY.out.cell 2 _ rfl
  have c3 := HY.out.cell 3 _ rfl
  have c4 := HY.out.cell 4 _ rfl
  have c5 := HY.out.cell 5 _ rfl
  have c6 := HY.out.cell 6 _ rfl
  have c10 := HY.out.cell 10 _ rfl
  have c11 := HY.out.cell 11 _ rfl
  have c12 := HY.out.cell 12 _ rfl
  have c14 := HY.out.cell 14 _ rfl
  have hlt := HY.out.lt
  have d6 : ∀ o1 o2 o3 : Obj, (((w1.alloc o1).alloc o2).alloc o3).cell? ⟨w.heap.size, 6, none⟩ = some (.int .i64 r.blocks) := fun o1 o2 o3 => (((HY.out.alloc o1).alloc o2).alloc o3).cell 6 _ rfl
  have d14 : ∀ o1 o2 o3 o4 : Obj, ((((w1.alloc o1).alloc o2).alloc o3).alloc o4).cell? ⟨w.heap.size, 14, none⟩ = some (.slice A r.root.length c) := fun o1 o2 o3 o4 => ((((HY.out.alloc o1).alloc o2).alloc o3).alloc o4).cell 14 _ rfl
  go_wp2_with fail
  refine (win1 0 511 r.perm _ _ _ false H2.out ?_).mono ?_
  · simp [go_sem, *]
  rintro e w' ⟨rfl, rfl⟩
  go_wp2
  go_ret
  exact ⟨rfl, (HY.out.alloc _).below⟩
set_option maxHeartbeats 1000000 in
theorem may_3 (h1 : kindB r = true) (h2 : inB 0 511 r.perm = true) (h3 : allIn 0 65535 [r.uid, r.gid, r.links, r.next, r.parent, r.xattr] = false) : Calls Tryz.prog 21 #[.agg #[.int .i64 r.kind, .int .i64 r.perm, .int .i64 r.uid, .int .i64 r.gid, .int .i64 r.links, .int .i64 r.size, .int .i64 r.blocks, .int .i64 r.at_, .int .i64 r.mt, .int .i64 r.ct, .int .i64 r.next, .int .i64 r.parent, .int .i64 r.xattr, .bool r.idx, .slice A r.root.length c]] w fun e w' => e = .returned (.bool false) ∧ Below w.heap.size w w' := by
  have H1 := Lib.hid h1
  have H2 := Lib.hid h2
  have H3 := Lib.hid h3
  clear h1 h2 h3
  have HX := Lib.hid (Boxed.start w [.int .i64 r.kind, .int .i64 r.perm, .int .i64 r.uid, .int .i64 r.gid, .int .i64 r.links, .int .i64 r.size, .int .i64 r.blocks, .int .i64 r.at_, .int .i64 r.mt, .int .i64 r.ct, .int .i64 r.next, .int .i64 r.parent, .int .i64 r.xattr, .bool r.idx, .slice A r.root.length c] 24)
  go_enter Tryz.func21, Tryz.ntmps21
  go_wp2_with fail
  refine (suitsKind_is r A c _ true H1.out).mono ?_
  rintro e w1 ⟨rfl, hb1⟩
  have HY := Lib.hid (HX.out.go hb1)
  clear hb1
  have c1 := HY.out.cell 1 _ rfl
  have c2 := HY.out.cell 2 _ rfl
  have c3 := HY.out.cell 3 _ rfl
  have c4 := HY.out.cell 4 _ rfl
  have c5 := HY.out.cell 5 _ rfl
  have c6 := HY.out.cell 6 _ rfl
  have c10 := HY.out.cell 10 _ rfl
  have c11 := HY.out.cell 11 _ rfl
  have c12 := HY.out.cell 12 _ rfl
  have c14 := HY.out.cell 14 _ rfl
  have hlt := HY.out.lt
  have d6 : ∀ o1 o2 o3 : Obj, (((w1.alloc o1).alloc o2).alloc o3).cell? ⟨w.heap.size, 6, none⟩ = some (.int .i64 r.blocks) := fun o1 o2 o3 => (((HY.out.alloc o1).alloc o2).alloc o3).cell 6 _ rfl
  have d14 : ∀ o1 o2 o3 o4 : Obj, ((((w1.alloc o1).alloc o2).alloc o3).alloc o4).cell? ⟨w.heap.size, 14, none⟩ = some (.slice A r.root.length c) := fun o1 o2 o3 o4 => ((((HY.out.alloc o1).alloc o2).alloc o3).alloc o4).cell 14 _ rfl
  go_wp2_with fail
  refine (win1 0 511 r.perm _ _ _ true H2.out ?_).mono ?_
  · simp [go_sem, *]
  rintro e w' ⟨rfl, rfl⟩
  go_wp2_with fail
  refine (win6 0 65535 r.uid r.gid r.links r.next r.parent r.xattr _ _ _ false H3.out ?_ ?_ ?_ ?_ ?_ ?_).mono ?_
  · simp [go_sem, *]
  · simp [go_sem, *]
  · simp [go_sem, *]
  · simp [go_sem, *]
  · simp [go_sem, *]
  · simp [go_sem, *]
  rintro e w' ⟨rfl, rfl⟩
  go_wp2
  go_ret
  exact ⟨rfl, ((HY.out.alloc _).alloc _).below⟩
set_option maxHeartbeats 1000000 in
theorem may_4 (h1 : kindB r = true) (h2 : inB 0 511 r.perm = true) (h3 : allIn 0 65535 [r.uid, r.gid, r.links, r.next, r.parent, r.xattr] = true) (h4 : inB 0 65536 r.size = false) : Calls Tryz.prog 21 #[.agg #[.int .i64 r.kind, .int .i64 r.perm, .int .i64 r.uid, .int .i64 r.gid, .int .i64 r.links, .int .i64 r.size, .int .i64 r.blocks, .int .i64 r.at_, .int .i64 r.mt, .int .i64 r.ct, .int .i64 r.next, .int .i64 r.parent, .int .i64 r.xattr, .bool r.idx, .slice A r.root.length c]] w fun e w' => e = .returned (.bool false) ∧ Below w.heap.size w w' := by
  have H1 := Lib.hid h1
  have H2 := Lib.hid h2
  have H3 := Lib.hid h3
  have H4 := Lib.hid h4
  clear h1 h2 h3 h4
  have HX := Lib.hid (Boxed.start w [.int .i64 r.kind, .int .i64 r.perm, .int .i64 r.uid, .int .i64 r.gid, .int .i64 r.links, .int .i64 r.size, .int .i64 r.blocks, .int .i64 r.at_, .int .i64 r.mt, .int .i64 r.ct, .int .i64 r.next, .int .i64 r.parent, .int .i64 r.xattr, .bool r.idx, .slice A r.root.length c] 24)
  go_enter Tryz.func21, Tryz.ntmps21
  go_wp2_with fail
  refine (suitsKind_is r A c _ true H1.out).mono ?_
  rintro e w1 ⟨rfl, hb1⟩
  have HY := Lib.hid (HX.out.go hb1)
  clear hb1
  have c1 := HY.out.cell 1 _ rfl
  have c2 := HY.out.cell 2 _ rfl
  have c3 := HY.out.cell 3 _ rfl
  have c4 := HY.out.cell 4 _ rfl
  have c5 := HY.out.cell 5 _ rfl
  have c6 := HY.out.cell 6 _ rfl
  have c10 := HY.out.cell 10 _ rfl
  have c11 := HY.out.cell 11 _ rfl
  have c12 := HY.out.cell 12 _ rfl
  have c14 := HY.out.cell 14 _ rfl
  have hlt := HY.out.lt
  have d6 : ∀ o1 o2 o3 : Obj, (((w1.alloc o1).alloc o2).alloc o3).cell? ⟨w.heap.size, 6, none⟩ = some (.int .i64 r.blocks) := fun o1 o2 o3 => (((HY.out.alloc o1).alloc o2).alloc o3).cell 6 _ rfl
  have d14 : ∀ o1 o2 o3 o4 : Obj, ((((w1.alloc o1).alloc o2).alloc o3).alloc o4).cell? ⟨w.heap.size, 14, none⟩ = some (.slice A r.root.length c) := fun o1 o2 o3 o4 => ((((HY.out.alloc o1).alloc o2).alloc o3).alloc o4).cell 14 _ rfl
  go_wp2_with fail
  refine (win1 0 511 r.perm _ _ _ true H2.out ?_).mono ?_
  · simp [go_sem, *]
  rintro e w' ⟨rfl, rfl⟩
  go_wp2_with fail
  refine (win6 0 65535 r.uid r.gid r.links r.next r.parent r.xattr _ _ _ true H3.out ?_ ?_ ?_ ?_ ?_ ?_).mono ?_
  · simp [go_sem, *]
  · simp [go_sem, *]
  · simp [go_sem, *]
  · simp [go_sem, *]
  · simp [go_sem, *]
  · simp [go_sem, *]
  rintro e w' ⟨rfl, rfl⟩
  go_wp2_with fail
  refine (win1 0 65536 r.size _ _ _ false H4.out ?_).mono ?_
  · simp [go_sem, *]
  rintro e w' ⟨rfl, rfl⟩
  go_wp2
  go_ret
  exact ⟨rfl, (((HY.out.alloc _).alloc _).alloc _).below⟩
set_option maxHeartbeats 1000000 in
theorem may_5 (h1 : kindB r = true) (h2 : inB 0 511 r.perm = true) (h3 : allIn 0 65535 [r.uid, r.gid, r.links, r.next, r.parent, r.xattr] = true) (h4 : inB 0 65536 r.size = true) (h5 : inB 0 4096 r.blocks = false) : Calls Tryz.prog 21 #[.agg #[.int .i64 r.kind, .int .i64 r.perm, .int .i64 r.uid, .int .i64 r.gid, .int .i64 r.links, .int .i64 r.size, .int .i64 r.blocks, .int .i64 r.at_, .int .i64 r.mt, .int .i64 r.ct, .int .i64 r.next, .int .i64 r.parent, .int .i64 r.xattr, .bool r.idx, .slice A r.root.length c]] w fun e w' => e = .returned (.bool false) ∧ Below w.heap.size w w' := by
  have H1 := Lib.hid h1
  have H2 := Lib.hid h2
  have H3 := Lib.hid h3
  have H4 := Lib.hid h4
  have H5 := Lib.hid h5
  clear h1 h2 h3 h4 h5
  have HX := Lib.hid (Boxed.start w [.int .i64 r.kind, .int .i64 r.perm, .int .i64 r.uid, .int .i64 r.gid, .int .i64 r.links, .int .i64 r.size, .int .i64 r.blocks, .int .i64 r.at_, .int .i64 r.mt, .int .i64 r.ct, .int .i64 r.next, .int .i64 r.parent, .int .i64 r.xattr, .bool r.idx, .slice A r.root.length c] 24)
  go_enter Tryz.func21, Tryz.ntmps21
  go_wp2_with fail
  refine (suitsKind_is r A c _ true H1.out).mono ?_
  rintro e w1 ⟨rfl, hb1⟩
  have HY := Lib.hid (HX.out.go hb1)
  clear hb1
  have c1 := HY.out.cell 1 _ rfl
  have c2 := HY.out.cell 2 _ rfl
  have c3 := HY.out.cell 3 _ rfl
  have c4 := HY.out.cell 4 _ rfl
  have c5 := HY.out.cell 5 _ rfl
  have c6 := HY.out.cell 6 _ rfl
  have c10 := HY.out.cell 10 _ rfl
  have c11 := HY.out.cell 11 _ rfl
  have c12 := HY.out.cell 12 _ rfl
  have c14 := HY.out.cell 14 _ rfl
  have hlt := HY.out.lt
  have d6 : ∀ o1 o2 o3 : Obj, (((w1.alloc o1).alloc o2).alloc o3).cell? ⟨w.heap.size, 6, none⟩ = some (.int .i64 r.blocks) := fun o1 o2 o3 => (((HY.out.alloc o1).alloc o2).alloc o3).cell 6 _ rfl
  have d14 : ∀ o1 o2 o3 o4 : Obj, ((((w1.alloc o1).alloc o2).alloc o3).alloc o4).cell? ⟨w.heap.size, 14, none⟩ = some (.slice A r.root.length c) := fun o1 o2 o3 o4 => ((((HY.out.alloc o1).alloc o2).alloc o3).alloc o4).cell 14 _ rfl
  go_wp2_with fail
  refine (win1 0 511 r.perm _ _ _ true H2.out ?_).mono ?_
  · simp [go_sem, *]
  rintro e w' ⟨rfl, rfl⟩
  go_wp2_with fail
  refine (win6 0 65535 r.uid r.gid r.links r.next r.parent r.xattr _ _ _ true H3.out ?_ ?_ ?_ ?_ ?_ ?_).mono ?_
  · simp [go_sem, *]
  · simp [go_sem, *]
  · simp [go_sem, *]
  · simp [go_sem, *]
  · simp [go_sem, *]
  · simp [go_sem, *]
  rintro e w' ⟨rfl, rfl⟩
  go_wp2_with fail
  refine (win1 0 65536 r.size _ _ _ true H4.out ?_).mono ?_
  · simp [go_sem, *]
  rintro e w' ⟨rfl, rfl⟩
  go_wp2_with fail
  refine (win1 0 4096 r.blocks _ _ _ false H5.out ?_).mono ?_
  · simp [go_sem, *]
  rintro e w' ⟨rfl, rfl⟩
  go_wp2
  go_ret
  exact ⟨rfl, ((((HY.out.alloc _).alloc _).alloc _).alloc _).below⟩
set_option maxHeartbeats 1000000 in
theorem may_6 (h1 : kindB r = true) (h2 : inB 0 511 r.perm = true) (h3 : allIn 0 65535 [r.uid, r.gid, r.links, r.next, r.parent, r.xattr] = true) (h4 : inB 0 65536 r.size = true) (h5 : inB 0 4096 r.blocks = true) : Calls Tryz.prog 21 #[.agg #[.int .i64 r.kind, .int .i64 r.perm, .int .i64 r.uid, .int .i64 r.gid, .int .i64 r.links, .int .i64 r.size, .int .i64 r.blocks, .int .i64 r.at_, .int .i64 r.mt, .int .i64 r.ct, .int .i64 r.next, .int .i64 r.parent, .int .i64 r.xattr, .bool r.idx, .slice A r.root.length c]] w fun e w' => e = .returned (.bool ((r.root.length : Int) == 48)) ∧ Below w.heap.size w w' := by
  have H1 := Lib.hid h1
  have H2 := Lib.hid h2
  have H3 := Lib.hid h3
  have H4 := Lib.hid h4
  have H5 := Lib.hid h5
  clear h1 h2 h3 h4 h5
  have HX := Lib.hid (Boxed.start w [.int .i64 r.kind, .int .i64 r.perm, .int .i64 r.uid, .int .i64 r.gid, .int .i64 r.links, .int .i64 r.size, .int .i64 r.blocks, .int .i64 r.at_, .int .i64 r.mt, .int .i64 r.ct, .int .i64 r.next, .int .i64 r.parent, .int .i64 r.xattr, .bool r.idx, .slice A r.root.length c] 24)
  go_enter Tryz.func21, Tryz.ntmps21
  go_wp2_with fail
  refine (suitsKind_is r A c _ true H1.out).mono ?_
  rintro e w1 ⟨rfl, hb1⟩
  have HY := Lib.hid (HX.out.go hb1)
  clear hb1
  have c1 := HY.out.cell 1 _ rfl
  have c2 := HY.out.cell 2 _ rfl
  have c3 := HY.out.cell 3 _ rfl
  have c4 := HY.out.cell 4 _ rfl
  have c5 := HY.out.cell 5 _ rfl
  have c6 := HY.out.cell 6 _ rfl
  have c10 := HY.out.cell 10 _ rfl
  have c11 := HY.out.cell 11 _ rfl
  have c12 := HY.out.cell 12 _ rfl
  have c14 := HY.out.cell 14 _ rfl
  have hlt := HY.out.lt
  have d6 : ∀ o1 o2 o3 : Obj, (((w1.alloc o1).alloc o2).alloc o3).cell? ⟨w.heap.size, 6, none⟩ = some (.int .i64 r.blocks) := fun o1 o2 o3 => (((HY.out.alloc o1).alloc o2).alloc o3).cell 6 _ rfl
  have d14 : ∀ o1 o2 o3 o4 : Obj, ((((w1.alloc o1).alloc o2).alloc o3).alloc o4).cell? ⟨w.heap.size, 14, none⟩ = some (.slice A r.root.length c) := fun o1 o2 o3 o4 => ((((HY.out.alloc o1).alloc o2).alloc o3).alloc o4).cell 14 _ rfl
  go_wp2_with fail
  refine (win1 0 511 r.perm _ _ _ true H2.out ?_).mono ?_
  · simp [go_sem, *]
  rintro e w' ⟨rfl, rfl⟩
  go_wp2_with fail
  refine (win6 0 65535 r.uid r.gid r.links r.next r.parent r.xattr _ _ _ true H3.out ?_ ?_ ?_ ?_ ?_ ?_).mono ?_
  · simp [go_sem, *]
  · simp [go_sem, *]
  · simp [go_sem, *]
  · simp [go_sem, *]
  · simp [go_sem, *]
  · simp [go_sem, *]
  rintro e w' ⟨rfl, rfl⟩
  go_wp2_with fail
  refine (win1 0 65536 r.size _ _ _ true H4.out ?_).mono ?_
  · simp [go_sem, *]
  rintro e w' ⟨rfl, rfl⟩
  go_wp2_with fail
  refine (win1 0 4096 r.blocks _ _ _ true H5.out ?_).mono ?_
  · simp [go_sem, *]
  rintro e w' ⟨rfl, rfl⟩
  go_wp2
  go_ret
  exact ⟨rfl, ((((HY.out.alloc _).alloc _).alloc _).alloc _).below⟩
theorem mayBe_is (q : Bool) (hq : inoMay r = q) : Calls Tryz.prog 21 #[.agg #[.int .i64 r.kind, .int .i64 r.perm, .int .i64 r.uid, .int .i64 r.gid, .int .i64 r.links, .int .i64 r.size, .int .i64 r.blocks, .int .i64 r.at_, .int .i64 r.mt, .int .i64 r.ct, .int .i64 r.next, .int .i64 r.parent, .int .i64 r.xattr, .bool r.idx, .slice A r.root.length c]] w fun e w' => e = .returned (.bool q) ∧ Below w.heap.size w w' := by
  subst hq
  unfold inoMay
  cases h1 : kindB r with
  | false => simpa only [Bool.false_and] using may_1 r A c w h1
  | true =>
    cases h2 : inB 0 511 r.perm with
    | false => simpa only [Bool.false_and, Bool.and_false, Bool.true_and] using may_2 r A c w h1 h2
    | true =>
      cases h3 : allIn 0 65535 [r.uid, r.gid, r.links, r.next, r.parent, r.xattr] with
      | false => simpa only [Bool.false_and, Bool.and_false, Bool.true_and] using may_3 r A c w h1 h2 h3
      | true =>
        cases h4 : inB 0 65536 r.size with
        | false => simpa only [Bool.false_and, Bool.and_false, Bool.true_and] using may_4 r A c w h1 h2 h3 h4
        | true =>
          cases h5 : inB 0 4096 r.blocks with
          | false => simpa only [Bool.false_and, Bool.and_false, Bool.true_and] using may_5 r A c w h1 h2 h3 h4 h5
          | true =>
            have e : ((r.root.length : Int) == 48) = decide (r.root.length = 48) := by
              rw [Bool.eq_iff_iff, beq_iff_eq, decide_eq_true_iff]
              omega
            have h := may_6 r A c w h1 h2 h3 h4 h5
            rw [e] at h
            simpa only [Bool.true_and] using h
set_option maxHeartbeats 400000 in
theorem Check_is (q : Bool) (hq : inoMay r = q) : Calls Tryz.prog 14 #[.agg #[.int .i64 r.kind, .int .i64 r.perm, .int .i64 r.uid, .int .i64 r.gid, .int .i64 r.links, .int .i64 r.size, .int .i64 r.blocks, .int .i64 r.at_, .int .i64 r.mt, .int .i64 r.ct, .int .i64 r.next, .int .i64 r.parent, .int .i64 r.xattr, .bool r.idx, .slice A r.root.length c]] w fun e w' => e = .returned (.int .i64 (if q = true then 0 else 22)) ∧ Below w.heap.size w w' := by
  have H := Lib.hid hq
  clear hq
  have HX := Lib.hid (Boxed.start w [.int .i64 r.kind, .int .i64 r.perm, .int .i64 r.uid, .int .i64 r.gid, .int .i64 r.links, .int .i64 r.size, .int .i64 r.blocks, .int .i64 r.at_, .int .i64 r.mt, .int .i64 r.ct, .int .i64 r.next, .int .i64 r.parent, .int .i64 r.xattr, .bool r.idx, .slice A r.root.length c] 24)
  cases q
  all_goals
    go_enter Tryz.func14, Tryz.ntmps14
    go_wp2_with fail
    refine (mayBe_is r A c _ _ H.out).mono ?_
    rintro e w1 ⟨rfl, hb1⟩
    have HY := Lib.hid (HX.out.go hb1)
    clear hb1
    go_wp2
    go_ret
    exact ⟨rfl, HY.out.below⟩
end
end Go.Proofs.YtgjcbfdhpbkhoaaGreatDoor.ICheck
