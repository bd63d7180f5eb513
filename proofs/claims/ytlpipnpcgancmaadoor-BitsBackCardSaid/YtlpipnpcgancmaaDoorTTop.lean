/- Turn, the program's and the document's, each by one contract: refused, or done. -/
import Derived.Test.YtlpipnpcgancmaaDoorTRef3
namespace Go.Proofs.YtlpipnpcgancmaaDoor.TTop
open Go.RowKit WMem WPlain WAppend WCrc WSeal WAny TPlain TBits TSet TWalk TOrd TCut TTurn TFace TTurnF TSame TRef TRef2 TRef3

theorem turnE_cases {l : List UInt8} {n a k : Int} {on : Bool} {seed : Nat} :
    (chkE l n seed ≠ 0 ∧ turnE l n a k on seed = chkE l n seed) ∨
    (chkE l n seed = 0 ∧ ∃ m : Nat, n = (m : Int) ∧ m ≤ 2016 ∧ l.length = 256 ∧ sealB l seed = true ∧ allB l m (2016 - m) true = true ∧
      ((rangeB m a k = false ∧ turnE l n a k on seed = 22) ∨
       (∃ x y : Nat, a = (x : Int) ∧ k = (y : Int) ∧ 1 ≤ y ∧ x + y ≤ m ∧ ((allB l x y (!on) = false ∧ turnE l n a k on seed = 117) ∨ (allB l x y (!on) = true ∧ turnE l n a k on seed = 0))))) := by
  by_cases h : chkE l n seed = 0
  · refine .inr ⟨h, ?_⟩
    obtain ⟨m, rfl, hm, hl, hs, hb⟩ := chkE_zero h
    refine ⟨m, rfl, hm, hl, hs, hb, ?_⟩
    cases hr : rangeB m a k with
    | false => exact .inl ⟨rfl, by simp [turnE, h, hr]⟩
    | true =>
      have h2 : 1 ≤ k ∧ 0 ≤ a ∧ a + k ≤ m := by simpa [rangeB] using hr
      obtain ⟨x, rfl⟩ := Int.eq_ofNat_of_zero_le h2.2.1
      obtain ⟨y, rfl⟩ := Int.eq_ofNat_of_zero_le (show 0 ≤ k by omega)
      refine .inr ⟨x, y, rfl, rfl, by omega, by omega, ?_⟩
      cases hb2 : allB l x y (!on) with
      | false => exact .inl ⟨rfl, by simp [turnE, h, hr, hb2]⟩
      | true => exact .inr ⟨rfl, by simp [turnE, h, hr, hb2]⟩
  · exact .inl ⟨h, by simp [turnE, h]⟩
section
variable (l : List UInt8) (len : Nat) (hlen : l.length = len) (B : Nat) (A : Option Addr) (c : Nat) (n a k : Int) (on : Bool) (seed : Nat) (w : World) (hs : seed < 4294967296) (hc : len ≤ c) (ha : a ≤ 9223372036854775807) (hB : B ≤ w.heap.size) (hA : Sl w B A (l.map u8v))
include hlen hs hc hB hA
include ha in
theorem Turn_fail (hT : Tab w) (e0 : Int) (he : turnE l n a k on seed = e0) (h0 : e0 ≠ 0) :
    Calls Tryd.prog 14 #[.slice A len c, .int .i64 n, .int .i64 a, .int .i64 k, .bool on, .int .u32 seed] w fun e w' => e = .returned (.tuple #[.slice none 0 0, .int .i64 e0]) ∧ Below w.heap.size w w' := by
  have hC := Check_any l len hlen B A c n seed w hs hc hA hT
  rcases turnE_cases (l := l) (n := n) (a := a) (k := k) (on := on) (seed := seed) with ⟨h1, h2⟩ | ⟨h1, m, rfl, hm, hl, hsl, _, h3 | ⟨x, y, rfl, rfl, hy, hxy, h3 | h3⟩⟩
  · rw [he] at h2
    rw [h2]
    exact Turn_chk len A c n a k _ on seed w h1 hC
  · rw [h1] at hC
    rw [h3.2] at he
    rw [← he]
    exact Turn_range len A c m a k on seed w hm ha h3.1 hC
  · rw [h1] at hC
    rw [h3.2] at he
    rw [← he]
    subst hlen
    rw [hl] at hC ⊢
    exact Turn_bits l hl B A c m x y on seed w hB hm hy hxy h3.1 hA hC
  · rw [h3.2] at he
    exact absurd he.symm h0
theorem Turn_done (hT : Tab w) (he : turnE l n a k on seed = 0) :
    Calls Tryd.prog 14 #[.slice A len c, .int .i64 n, .int .i64 a, .int .i64 k, .bool on, .int .u32 seed] w fun e w' => ∃ g cap rest, e = .returned (.tuple #[.slice (some ⟨g, 0, none⟩) 256 cap, .int .i64 0]) ∧ w.heap.size ≤ g ∧ 256 ≤ cap ∧ Row w' g (turnL l a k seed) rest ∧ Below w.heap.size w w' := by
  have hC := Check_any l len hlen B A c n seed w hs hc hA hT
  rcases turnE_cases (l := l) (n := n) (a := a) (k := k) (on := on) (seed := seed) with ⟨h1, h2⟩ | ⟨h1, m, rfl, hm, hl, hsl, _, h3 | ⟨x, y, rfl, rfl, hy, hxy, h3 | h3⟩⟩
  · rw [he] at h2; exact absurd h2.symm h1
  · rw [h3.2] at he; cases he
  · rw [h3.2] at he; cases he
  · rw [h1] at hC
    subst hlen
    rw [hl] at hC hc ⊢
    exact Turn_yes l hl B A c m x y on seed w hs hB hm hy hxy h3.1 hA hT hC
theorem refTurn_fail (e0 : Int) (he : turnE l n a k on seed = e0) (h0 : e0 ≠ 0) :
    Calls Tryd.prog 15 #[.slice A len c, .int .i64 n, .int .i64 a, .int .i64 k, .bool on, .int .u32 seed] w fun e w' => e = .returned (.tuple #[.slice none 0 0, .int .i64 e0]) ∧ Below w.heap.size w w' := by
  have hC := refCheck_any l len hlen B A c n seed w hs hc hA
  rcases turnE_cases (l := l) (n := n) (a := a) (k := k) (on := on) (seed := seed) with ⟨h1, h2⟩ | ⟨h1, m, rfl, hm, hl, hsl, _, h3 | ⟨x, y, rfl, rfl, hy, hxy, h3 | h3⟩⟩
  · rw [he] at h2
    rw [h2]
    exact refTurn_chk len A c n a k _ on seed w h1 hC
  · rw [h1] at hC
    rw [h3.2] at he
    rw [← he]
    exact refTurn_range len A c m a k on seed w hm h3.1 hC
  · rw [h1] at hC
    rw [h3.2] at he
    rw [← he]
    subst hlen
    rw [hl] at hC ⊢
    exact (refTurn_main l hl B A c m x y on seed w hs hB hm hy hxy hA hC).mono fun e w' h => by
      unfold RefTurned at h
      rw [if_neg (by rw [h3.1]; simp)] at h
      exact h
  · rw [h3.2] at he
    exact absurd he.symm h0
theorem refTurn_done (he : turnE l n a k on seed = 0) :
    Calls Tryd.prog 15 #[.slice A len c, .int .i64 n, .int .i64 a, .int .i64 k, .bool on, .int .u32 seed] w fun e w' => ∃ g cap rest, e = .returned (.tuple #[.slice (some ⟨g, 0, none⟩) 256 cap, .int .i64 0]) ∧ w.heap.size ≤ g ∧ 256 ≤ cap ∧ Row w' g (turnL l a k seed) rest ∧ Below w.heap.size w w' := by
  have hC := refCheck_any l len hlen B A c n seed w hs hc hA
  rcases turnE_cases (l := l) (n := n) (a := a) (k := k) (on := on) (seed := seed) with ⟨h1, h2⟩ | ⟨h1, m, rfl, hm, hl, hsl, _, h3 | ⟨x, y, rfl, rfl, hy, hxy, h3 | h3⟩⟩
  · rw [he] at h2; exact absurd h2.symm h1
  · rw [h3.2] at he; cases he
  · rw [h3.2] at he; cases he
  · rw [h1] at hC
    subst hlen
    rw [hl] at hC hc ⊢
    exact (refTurn_main l hl B A c m x y on seed w hs hB hm hy hxy hA hC).mono fun e w' h => by
      unfold RefTurned at h
      rw [if_pos h3.1] at h
      exact h
end
end Go.Proofs.YtlpipnpcgancmaaDoor.TTop
