/- The document's locks in memory: At, Ask, Leave, Holds. -/
import Derived.Test.YtfaahhipddlmgaaKRPlain
import Derived.Deep.DeepMust
namespace Go.Proofs.Ytfaahhipddlmgaa.KRMem
open Go.RowKit WMem Ext KMap KPlain KMem KDel KAsk KLeave KClaims KLaw KScript KBits KAPlain KRPlain

def ecells (L : List E) : List Value := L.flatMap fun e => [.int .i64 e.1, .int .i64 e.2.1, .bool e.2.2]
theorem ecells_len (L : List E) : (ecells L).length = L.length * 3 := by
  induction L with
  | nil => rfl
  | cons c r ih => simp only [ecells, List.flatMap_cons, List.length_append, List.length_cons, List.length_nil] at ih ⊢; rw [ih]; omega
theorem ecells_append (L M : List E) : ecells (L ++ M) = ecells L ++ ecells M := by simp [ecells]
theorem ecells_get : ∀ (L : List E) (i j : Nat), i < L.length → j < 3 → (ecells L)[i * 3 + j]? = [Value.int .i64 (atE L i).1, .int .i64 (atE L i).2.1, .bool (atE L i).2.2][j]?
  | [], i, j, h, _ => by cases h
  | e :: r, 0, j, _, hj => by
    unfold ecells
    rw [List.flatMap_cons, List.getElem?_append_left (by simp; omega)]
    simp [atE]
  | e :: r, i + 1, j, h, hj => by
    have h1 := ecells_get r i j (by simpa using h) hj
    unfold ecells at h1 ⊢
    rw [List.flatMap_cons, List.getElem?_append_right (by simp; omega)]
    have e2 : (i + 1) * 3 + j - [Value.int .i64 e.1, .int .i64 e.2.1, .bool e.2.2].length = i * 3 + j := by simp only [List.length_cons, List.length_nil]; omega
    rw [e2, h1]
    simp [atE]
theorem ecells_flat (L : List E) : ∀ u ∈ ecells L, u.oneCell' = true := by
  intro u hu
  obtain ⟨c, _, h⟩ := List.mem_flatMap.1 hu
  simp at h
  rcases h with rfl | rfl | rfl <;> rfl
theorem ecells_take : ∀ (L : List E) (i : Nat), (ecells L).take (i * 3) = ecells (L.take i)
  | [], i => by simp [ecells]
  | c :: r, 0 => by simp [ecells]
  | c :: r, i + 1 => by
    have h := ecells_take r i
    unfold ecells at h ⊢
    rw [show (i + 1) * 3 = i * 3 + 1 + 1 + 1 by omega, List.flatMap_cons]
    simp only [List.cons_append, List.nil_append, List.take_succ_cons, List.flatMap_cons]
    rw [h]
theorem ecells_drop : ∀ (L : List E) (i : Nat), (ecells L).drop (i * 3) = ecells (L.drop i)
  | [], i => by simp [ecells]
  | c :: r, 0 => by simp
  | c :: r, i + 1 => by
    have h := ecells_drop r i
    unfold ecells at h ⊢
    rw [show (i + 1) * 3 = i * 3 + 1 + 1 + 1 by omega, List.flatMap_cons]
    simp only [List.cons_append, List.nil_append, List.drop_succ_cons]
    rw [h]

structure RTx (w : World) (S : Nat → Prop) (b : Nat) (L : List E) (v : Value) : Prop where
  here : S b
  block : w.heap[b]? = some (.cells #[v] 29 (0, 0))
  row : OwnS w S 66 3 v L.length (ecells L)
  there : There S w
/-- block b is the document's table with the claims L; S: its own blocks -/
def RT (w : World) (S : Nat → Prop) (b : Nat) (L : List E) : Prop := ∃ v, RTx w S b L v
section
variable {w w' : World} {S S' : Nat → Prop} {b : Nat} {L : List E}
theorem RT.keep (h : RT w S b L) (hk : ∀ k, S k → w'.heap[k]? = w.heap[k]?) (hs : w.heap.size ≤ w'.heap.size) : RT w' S b L := by
  obtain ⟨v, hx⟩ := h
  exact ⟨v, hx.here, (hk b hx.here).trans hx.block, hx.row.keep hk, hx.there.up hs⟩
theorem RT.there (h : RT w S b L) : There S w := by
  obtain ⟨v, hx⟩ := h
  exact hx.there
theorem RT.below (h : RT w S b L) (hb : Below w.heap.size w w') : RT w' S b L := h.keep (fun k hk => hb.block k (h.there k hk)) hb.size
theorem RT.drew (h : RT w S b L) : RT w.drew S b L := h.keep (fun _ _ => rfl) (Nat.le_refl _)
theorem RT.ext (h : RT w S b L) (he : Ext S' w w') (hf : Far S' S) : RT w' S b L := h.keep (he.keeps hf h.there) he.size
theorem own_form {base : Nat} {e : TypeId} {size n : Nat} {v : Value} {xs : List Value} (h : w.ownsRow base e size v n xs) : ∃ A c, v = .slice A n c := by
  rcases h.2 with ⟨rfl, h0⟩ | ⟨g, c, _, rfl, _⟩
  · exact ⟨none, 0, by rw [h0]⟩
  · exact ⟨_, _, rfl⟩
/-- a claim's cells -/
theorem row_at {A : Option Addr} {c i : Nat} (h : w.ownsRow 0 66 3 (.slice A L.length c) L.length (ecells L)) (hi : i < L.length) :
    ∃ g, A = some ⟨g, 0, none⟩ ∧ w.cell? ⟨g, i * 3, none⟩ = some (.int .i64 (atE L i).1) ∧ w.cell? ⟨g, i * 3 + 1, none⟩ = some (.int .i64 (atE L i).2.1) ∧ w.cell? ⟨g, i * 3 + 2, none⟩ = some (.bool (atE L i).2.2) := by
  rcases h.2 with ⟨h0, h1⟩ | ⟨g, cap, cur, hv, _⟩
  · omega
  · simp only [Value.slice.injEq] at hv
    obtain ⟨rfl, -, rfl⟩ := hv
    have hc := h.cells (g := g) rfl
    have hk : ∀ j u, j < 3 → [Value.int .i64 (atE L i).1, .int .i64 (atE L i).2.1, .bool (atE L i).2.2][j]? = some u → w.cell? ⟨g, i * 3 + j, none⟩ = some u := by
      intro j u hj hu
      have h4 := hc (i * 3 + j) u ((ecells_get L i j hi hj).trans hu)
      rw [KSeq.addr_at] at h4
      exact h4
    exact ⟨g, rfl, hk 0 _ (by decide) rfl, hk 1 _ (by decide) rfl, hk 2 _ (by decide) rfl⟩
end

def atV (L : List E) (th k : Int) : Int := match placeE L th k with | none => -1 | some i => (i : Int)

set_option maxRecDepth 100000 in
set_option maxHeartbeats 1600000 in
theorem At_walk (b : Nat) (L : List E) (A : Option Addr) (c : Nat) (th key : Int) (w : World) (c0 : w.cell? ⟨b, 0, none⟩ = some (.slice A L.length c)) (hl : L.length ≤ 1073741824)
    (ho : w.ownsRow 0 66 3 (.slice A L.length c) L.length (ecells L)) :
    Calls Try.prog 25 #[.pointer (some ⟨b, 0, none⟩), .int .i64 th, .int .i64 key] w fun e w' => e = .returned (.int .i64 (atV L th key)) ∧ w' = w := by
  have HO := Lib.hid ho
  clear ho
  go_enter Try.func25, Try.ntmps25
  go_wp2_with fail
  go_loopw [7] (fun i wr => ∃ (k : Nat), k ≤ L.length ∧ i = .int .i64 k ∧ wr = w ∧ ∀ j, j < k → isE th key (atE L j) = false) (fun i _ => L.length - (intOf i).toNat)
  case atStart => exact ⟨0, Nat.zero_le _, rfl, rfl, fun j hj => by cases hj⟩
  case round =>
    obtain ⟨k, hk, rfl, rfl, hno⟩ := hrel
    have HNO := Lib.hid hno
    clear hno
    by_cases hlt : k < L.length
    · obtain ⟨g, hA, p0, p1, _⟩ := row_at HO.out hlt
      subst hA
      have hk1 : (k : Int) < (L.length : Int) := by omega
      have HS : Hid (isE th key (atE L k) = true → atV L th key = (k : Int)) := fun h => by
        unfold atV
        rw [placeE_some.2 ⟨hlt, h, HNO.out⟩]
      have HN : Hid (isE th key (atE L k) = false → ∀ j, j < k + 1 → isE th key (atE L j) = false) := fun h j hj => by
        rcases Nat.lt_or_ge j k with h1 | h1
        · exact HNO.out j h1
        · obtain rfl : j = k := by omega
          exact h
      have HD : Hid (isE th key (atE L k) = ((atE L k).1 == th && (atE L k).2.1 == key)) := rfl
      generalize atE L k = e at *
      generalize isE th key e = q at *
      obtain ⟨t, ky, al⟩ := e
      cases h1 : t == th
      · have hq : q = false := by have h := HD.out; simp only [h1] at h; exact h
        subst hq
        have HN1 := Lib.hid (HN.out rfl)
        clear HN HS HD
        go_wp2_with fail
        go_roundw
        case rel => exact ⟨k + 1, by omega, by go_num, by first | rfl | trivial, HN1.out⟩
        case measure => simp [intOf]; omega
      · cases h2 : ky == key
        · have hq : q = false := by have h := HD.out; simp only [h1, h2] at h; exact h
          subst hq
          have HN1 := Lib.hid (HN.out rfl)
          clear HN HS HD
          go_wp2_with fail
          go_roundw
          case rel => exact ⟨k + 1, by omega, by go_num, by first | rfl | trivial, HN1.out⟩
          case measure => simp [intOf]; omega
        · have hq : q = true := by have h := HD.out; simp only [h1, h2] at h; exact h
          subst hq
          have HS1 := Lib.hid (HS.out rfl)
          clear HN HS HD
          go_wp2_with fail
          go_ret
          exact ⟨by rw [HS1.out]; rfl, rfl⟩
    · have hend : (L.length : Int) ≤ (k : Int) := by omega
      have HV : Hid (atV L th key = -1) := by
        show _ = _
        unfold atV
        rw [placeE_none.2 (fun i hi => HNO.out i (by omega))]
      clear hlt
      go_wp2_with fail
      go_ret
      exact ⟨by rw [HV.out]; rfl, rfl⟩
theorem At_ok (S : Nat → Prop) (b : Nat) (L : List E) (th key : Int) (w : World) (h : RT w S b L) (hl : L.length ≤ 1073741824) :
    Calls Try.prog 25 #[.pointer (some ⟨b, 0, none⟩), .int .i64 th, .int .i64 key] w fun e w' => e = .returned (.int .i64 (atV L th key)) ∧ w' = w := by
  obtain ⟨v, hx⟩ := h
  obtain ⟨A, c, rfl⟩ := own_form hx.row.1
  exact At_walk b L A c th key w ((row_cell hx.block 0).trans rfl) hl hx.row.1
end Go.Proofs.Ytfaahhipddlmgaa.KRMem
