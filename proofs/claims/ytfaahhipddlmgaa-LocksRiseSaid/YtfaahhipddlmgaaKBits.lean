/- The lowest bits of a number. -/
import Derived.Test.YtfaahhipddlmgaaKScript
namespace Go.Proofs.Ytfaahhipddlmgaa.KBits
open Go.RowKit WMem Ext KMap KPlain KMem KAsk KLeave KClaims KLaw KScript

def low1 (x : Int) : Nat := (BitVec.ofInt 64 x &&& BitVec.ofInt 64 1).toNat
theorem low1_lt (x : Int) : low1 x < 2 := by
  unfold low1
  rw [BitVec.toNat_and]
  exact Nat.lt_of_le_of_lt Nat.and_le_right (by decide)
theorem and1 (x : Int) : bits BinOp.and IntKind.i64 x 1 = (low1 x : Int) := by
  have h := low1_lt x
  show IntKind.i64.wrap ((BitVec.ofInt 64 x &&& BitVec.ofInt 64 1).toNat : Int) = _
  rw [IntKind.wrap_i64]
  unfold low1 at *
  omega
def low3 (x : Int) : Nat := (BitVec.ofInt 64 x &&& BitVec.ofInt 64 3).toNat
theorem low3_lt (x : Int) : low3 x < 4 := by
  unfold low3
  rw [BitVec.toNat_and]
  exact Nat.lt_of_le_of_lt Nat.and_le_right (by decide)
theorem and3 (x : Int) : bits BinOp.and IntKind.i64 x 3 = (low3 x : Int) := by
  have h := low3_lt x
  show IntKind.i64.wrap ((BitVec.ofInt 64 x &&& BitVec.ofInt 64 3).toNat : Int) = _
  rw [IntKind.wrap_i64]
  unfold low3 at *
  omega
def low7 (x : Int) : Nat := (BitVec.ofInt 64 x &&& BitVec.ofInt 64 7).toNat
theorem low7_lt (x : Int) : low7 x < 8 := by
  unfold low7
  rw [BitVec.toNat_and]
  exact Nat.lt_of_le_of_lt Nat.and_le_right (by decide)
theorem and7 (x : Int) : bits BinOp.and IntKind.i64 x 7 = (low7 x : Int) := by
  have h := low7_lt x
  show IntKind.i64.wrap ((BitVec.ofInt 64 x &&& BitVec.ofInt 64 7).toNat : Int) = _
  rw [IntKind.wrap_i64]
  unfold low7 at *
  omega
def low15 (x : Int) : Nat := (BitVec.ofInt 64 x &&& BitVec.ofInt 64 15).toNat
theorem low15_lt (x : Int) : low15 x < 16 := by
  unfold low15
  rw [BitVec.toNat_and]
  exact Nat.lt_of_le_of_lt Nat.and_le_right (by decide)
theorem and15 (x : Int) : bits BinOp.and IntKind.i64 x 15 = (low15 x : Int) := by
  have h := low15_lt x
  show IntKind.i64.wrap ((BitVec.ofInt 64 x &&& BitVec.ofInt 64 15).toNat : Int) = _
  rw [IntKind.wrap_i64]
  unfold low15 at *
  omega
def low31 (x : Int) : Nat := (BitVec.ofInt 64 x &&& BitVec.ofInt 64 31).toNat
theorem low31_lt (x : Int) : low31 x < 32 := by
  unfold low31
  rw [BitVec.toNat_and]
  exact Nat.lt_of_le_of_lt Nat.and_le_right (by decide)
theorem and31 (x : Int) : bits BinOp.and IntKind.i64 x 31 = (low31 x : Int) := by
  have h := low31_lt x
  show IntKind.i64.wrap ((BitVec.ofInt 64 x &&& BitVec.ofInt 64 31).toNat : Int) = _
  rw [IntKind.wrap_i64]
  unfold low31 at *
  omega
def low65535 (x : Int) : Nat := (BitVec.ofInt 64 x &&& BitVec.ofInt 64 65535).toNat
theorem low65535_lt (x : Int) : low65535 x < 65536 := by
  unfold low65535
  rw [BitVec.toNat_and]
  exact Nat.lt_of_le_of_lt Nat.and_le_right (by decide)
theorem and65535 (x : Int) : bits BinOp.and IntKind.i64 x 65535 = (low65535 x : Int) := by
  have h := low65535_lt x
  show IntKind.i64.wrap ((BitVec.ofInt 64 x &&& BitVec.ofInt 64 65535).toNat : Int) = _
  rw [IntKind.wrap_i64]
  unfold low65535 at *
  omega

/-- what Claims answered, read at a place -/
theorem row3_at {w w' wr : World} {l : List Cl} {A : Option Addr} {c : Nat} (h : Row3 w w' l A c) (hb : Below w'.heap.size w' wr) {i : Nat} (hi : i < l.length) :
    ∃ g, A = some ⟨g, 0, none⟩ ∧ w.heap.size ≤ g ∧ g < w'.heap.size ∧ wr.cell? ⟨g, i * 3, none⟩ = some (.int .i64 (at_ l i).1) ∧ wr.cell? ⟨g, i * 3 + 1, none⟩ = some (.bool (at_ l i).2) ∧ wr.cell? ⟨g, i * 3 + 2, none⟩ = some (.bool (holdsAt l i)) := by
  rcases h.2 with ⟨h0, h1⟩ | ⟨g, cap, cur, hv, hg, hgg, _⟩
  · omega
  · simp only [Value.slice.injEq] at hv
    obtain ⟨rfl, -, rfl⟩ := hv
    have hlt : g < w'.heap.size := row_lt hgg
    have hc := h.cells (g := g) rfl
    have ht : ∀ j, j < 3 → (tcells l (List.range l.length))[i * 3 + j]? = [Value.int .i64 (at_ l i).1, .bool (at_ l i).2, .bool (holdsAt l i)][j]? := by
      intro j hj
      have e : ∀ (n : Nat) (k : Nat), i < n → (tcells l ((List.range n).map (k + ·)))[i * 3 + j]? = [Value.int .i64 (at_ l (k + i)).1, .bool (at_ l (k + i)).2, .bool (holdsAt l (k + i))][j]? := by
        clear hi
        induction i with
        | zero =>
          intro n k hn
          obtain ⟨n', rfl⟩ : ∃ n', n = n' + 1 := ⟨n - 1, by omega⟩
          rw [List.range_succ_eq_map, List.map_cons]
          unfold tcells
          rw [List.flatMap_cons, List.getElem?_append_left (by simp; omega)]
          simp
        | succ i ih =>
          intro n k hn
          obtain ⟨n', rfl⟩ : ∃ n', n = n' + 1 := ⟨n - 1, by omega⟩
          rw [List.range_succ_eq_map, List.map_cons]
          unfold tcells at ih ⊢
          rw [List.flatMap_cons, List.getElem?_append_right (by simp; omega), List.map_map]
          have h2 := ih n' (k + 1) (by omega)
          have e1 : (fun x => k + x) ∘ Nat.succ = fun x => (k + 1) + x := by funext x; simp; omega
          have e2 : (i + 1) * 3 + j - [Value.int .i64 (at_ l (k + 0)).1, .bool (at_ l (k + 0)).2, .bool (holdsAt l (k + 0))].length = i * 3 + j := by simp only [List.length_cons, List.length_nil]; omega
          rw [e1, e2, show k + (i + 1) = k + 1 + i by omega]
          exact h2
      have h3 := e l.length 0 hi
      simpa using h3
    have hk : ∀ j u, j < 3 → [Value.int .i64 (at_ l i).1, .bool (at_ l i).2, .bool (holdsAt l i)][j]? = some u → wr.cell? ⟨g, i * 3 + j, none⟩ = some u := by
      intro j u hj hu
      have h4 := hc (i * 3 + j) u ((ht j hj).trans hu)
      rw [KSeq.addr_at] at h4
      rw [hb.cell (p := ⟨g, i * 3 + j, none⟩) hlt]
      exact h4
    exact ⟨g, rfl, hg, hlt, hk 0 _ (by decide) rfl, hk 1 _ (by decide) rfl, hk 2 _ (by decide) rfl⟩
end Go.Proofs.Ytfaahhipddlmgaa.KBits
