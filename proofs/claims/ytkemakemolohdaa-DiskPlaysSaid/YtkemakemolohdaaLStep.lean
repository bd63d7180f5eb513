/- One operation of a script, done to both disks: the answers are alike, and both disks are what the document says. -/
import Derived.Test.YtkemakemolohdaaRFlush
import Derived.Test.YtkemakemolohdaaDCopy
import Derived.Test.YtkemakemolohdaaDLaw
import Derived.Laws.BitsAllLaws
namespace Go.Proofs.Ytkemakemolohdaa.LStep
open Go.RowKit WMem WPlain WAppend Ext Map DPlain DMem Mk DBase DRead DPend DWrite DFlush DPending DCopy RNew RRead RWrite RFlush DLaw

theorem and7 (x : Int) : bits BinOp.and IntKind.i64 x 7 = (low7 x : Int) := by
  have h := low7_lt x
  show IntKind.i64.wrap ((BitVec.ofInt 64 x &&& BitVec.ofInt 64 7).toNat : Int) = _
  rw [IntKind.wrap_i64]
  unfold low7 at *
  omega
theorem and127 (x : Int) : bits BinOp.and IntKind.i64 x 127 = (low127 x : Int) := by
  have h := low127_lt x
  show IntKind.i64.wrap ((BitVec.ofInt 64 x &&& BitVec.ofInt 64 127).toNat : Int) = _
  rw [IntKind.wrap_i64]
  unfold low127 at *
  omega
theorem xor1 (x : UInt8) : bits BinOp.xor IntKind.u8 (x.toNat : Int) 1 = ((x ^^^ 1).toNat : Int) := by
  have h := u8_xor_nat x.toNat 1 (byte_lt x) (by decide)
  rw [show (1 : Int) = ((1 : Nat) : Int) from rfl, h, UInt8.toNat_xor]
  rfl

/-- Write, whatever number and bytes come in -/
theorem WriteU (S : Nat → Prop) (b : Nat) (n : Int) (s : St) (l : List UInt8) (B : Nat) (A : Option Addr) (c m : Nat) (w : World) (hd : DD w S b s) (hA : Sl w B A (l.map u8v)) (hB : B ≤ w.heap.size) (hm : l.length = m) (hm2 : m ≤ 256) (hN : s.N ≤ 1073741824) :
    Calls Try.prog 15 #[.pointer (some ⟨b, 0, none⟩), .int .i64 n, .slice A m c] w fun e w' =>
      e = .returned (.int .i64 (werr s n m)) ∧ ∃ S', DD w' S' b (wst s n l) ∧ Ext S w w' ∧ In S' S w := by
  unfold werr wst
  by_cases hin : 0 ≤ n ∧ n < s.L.length
  · obtain ⟨k, rfl⟩ := Int.eq_ofNat_of_zero_le hin.1
    have hk : k < s.L.length := by omega
    rw [if_pos hin]
    by_cases h256 : m = 256
    · subst h256
      rw [if_pos rfl, if_pos ⟨hin.1, hin.2, hm⟩, Int.toNat_natCast]
      exact Write_ok S b k s l B A c w hd hA hB hk hm hN
    · rw [if_neg h256, if_neg (fun h => h256 (hm ▸ h.2.2))]
      refine (Write_len S b k m s A c w hd hk (by omega)).mono ?_
      rintro e w' ⟨rfl, rfl⟩
      exact ⟨rfl, S, hd, Ext.refl _ _, In.refl _ _⟩
  · rw [if_neg hin, if_neg (fun h => hin ⟨h.1, h.2.1⟩)]
    refine (Write_no S b n s (.slice A m c) w hd (by omega)).mono ?_
    rintro e w' ⟨rfl, rfl⟩
    exact ⟨rfl, S, hd, Ext.refl _ _, In.refl _ _⟩
theorem RWriteU (S : Nat → Prop) (b : Nat) (n : Int) (s : St) (l : List UInt8) (B : Nat) (A : Option Addr) (c m : Nat) (w : World) (hd : RD w S b s) (hA : Sl w B A (l.map u8v)) (hm : l.length = m) (hm2 : m ≤ 256) (hP : s.P.length ≤ 1073741824) (hN : s.N ≤ 1073741824) :
    Calls Try.prog 36 #[.pointer (some ⟨b, 0, none⟩), .int .i64 n, .slice A m c] w fun e w' =>
      e = .returned (.int .i64 (werr s n m)) ∧ ∃ S', RD w' S' b (wst s n l) ∧ Ext S w w' ∧ In S' S w := by
  unfold werr wst
  by_cases hin : 0 ≤ n ∧ n < s.L.length
  · obtain ⟨k, rfl⟩ := Int.eq_ofNat_of_zero_le hin.1
    have hk : k < s.L.length := by omega
    rw [if_pos hin]
    by_cases h256 : m = 256
    · subst h256
      rw [if_pos rfl, if_pos ⟨hin.1, hin.2, hm⟩, Int.toNat_natCast]
      exact RWrite_ok S b k s l B A c w hd hA hk hm hP hN
    · rw [if_neg h256, if_neg (fun h => h256 (hm ▸ h.2.2))]
      refine (RWrite_len S b k m s A c w hd hk (by omega)).mono ?_
      rintro e w' ⟨rfl, rfl⟩
      exact ⟨rfl, S, hd, Ext.refl _ _, In.refl _ _⟩
  · rw [if_neg hin, if_neg (fun h => hin ⟨h.1, h.2.1⟩)]
    refine (RWrite_no S b n s (.slice A m c) w hd (by omega)).mono ?_
    rintro e w' ⟨rfl, rfl⟩
    exact ⟨rfl, S, hd, Ext.refl _ _, In.refl _ _⟩

/-- both disks in memory, apart from one another and from all that was there below block B -/
structure Two (w : World) (B : Nat) (S R : Nat → Prop) (d r : Nat) (s : St) : Prop where
  dev : DD w S d s
  doc : RD w R r s
  far : Far S R
  newS : ∀ q, S q → B ≤ q
  newR : ∀ q, R q → B ≤ q
section
variable {w w' : World} {B d r : Nat} {S R S' R' : Nat → Prop} {s : St}
theorem Two.below (h : Two w B S R d r s) (hb : Below w.heap.size w w') : Two w' B S R d r s := ⟨h.dev.below hb, h.doc.below hb, h.far, h.newS, h.newR⟩
theorem in_new (h : In S' S w) (hS : ∀ q, S q → B ≤ q) (hB : B ≤ w.heap.size) : ∀ q, S' q → B ≤ q := fun q hq => by
  rcases h q hq with h1 | h1
  · exact hS q h1
  · omega
end
/-- a block that neither disk has -/
theorem not_in {w w' : World} {S S' : Nat → Prop} {g : Nat} (h : In S' S w) (ht : There S w') (hg : w'.heap.size ≤ g) (hl : g < w.heap.size) : ¬ S' g := fun hq => by
  rcases h g hq with h1 | h1
  · have := ht g h1; omega
  · omega
theorem filled_at (x : Int) (w : World) : Calls Try.prog 16 #[.int .i64 x] w fun e w' => ∃ g, e = .returned (.slice (some ⟨g, 0, none⟩) 256 256) ∧ w.heap.size ≤ g ∧ Row w' g (full (octet x)) [] ∧ Below w.heap.size w w' :=
  (filled_any x w).mono fun _ _ ⟨he, h1, h2, _⟩ => ⟨_, he, Nat.le_refl _, h1, h2⟩

end Go.Proofs.Ytkemakemolohdaa.LStep
