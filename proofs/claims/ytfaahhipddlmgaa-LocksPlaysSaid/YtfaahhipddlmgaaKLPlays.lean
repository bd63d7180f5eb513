/- LocksPlays holds: whatever the script. -/
import Derived.Test.YtfaahhipddlmgaaKBoth
import Derived.Deep.CutBlock
namespace Go.Proofs.Ytfaahhipddlmgaa.KLPlays
open Go.RowKit WMem Ext KMap KPlain KMem KDel KAsk KLeave KClaims KLaw KScript KBits KAPlain KRPlain KRMem KRAsk KRHolds KBoth

/-- the document's table, new -/
theorem new_doc (w : World) : RT (w.alloc (.cells #[.slice none 0 0] 29)) (Made w (w.alloc (.cells #[.slice none 0 0] 29))) w.heap.size [] :=
  ⟨.slice none 0 0, ⟨Nat.le_refl _, by simp⟩, row_new _ _, ⟨World.ownsRow_nil _ _ _ _, fun g hg => by cases hg⟩, fun k hk => hk.2⟩
def FitsAll (L : List E) : Prop := ∀ e ∈ L, Fits e.2.1
theorem fits_ask {L : List E} (h : FitsAll L) {k : Int} (hk : Fits k) (th : Int) (al : Bool) : FitsAll (rAsk L th k al) := by
  unfold rAsk
  split
  · intro e he
    rcases List.mem_append.1 he with h1 | h1
    · exact h e h1
    · rw [List.mem_singleton.1 h1]; exact hk
  · exact h
theorem fits_leave {L : List E} (h : FitsAll L) (k th : Int) : FitsAll (rLeave L th k) := by
  rw [rLeave_erase]
  exact fun e he => h e (List.mem_of_mem_eraseP he)
theorem len_ask (L : List E) (th k : Int) (al : Bool) : (rAsk L th k al).length ≤ L.length + 1 := by
  unfold rAsk
  split
  · simp
  · omega
theorem len_leave (L : List E) (th k : Int) : (rLeave L th k).length ≤ L.length + 1 := by
  rw [rLeave_erase]
  have := List.length_eraseP_le (p := isE th k) (l := L)
  omega
theorem empty_rows {L : List E} (h : FitsAll L) : KLeave.Empty (rowOf L) ↔ L.length = 0 := by
  constructor
  · intro he
    cases L with
    | nil => rfl
    | cons e r =>
      have h1 := he e.2.1 (h e (by simp))
      simp [rowOf] at h1
  · intro h0 k _
    rw [List.length_eq_zero_iff.1 h0]
    rfl
/-- where the answers of both are the same -/
theorem leave_q (L : List E) (th k : Int) : (if has (rowOf L k) th = true then (0 : Int) else 22) = (if (placeE L th k).isSome = true then 0 else 22) := by rw [rowOf_has]
theorem ask_q (L : List E) (th k : Int) : (if askOk (rowOf L) th k = true then (0 : Int) else 22) = (if rOk L th k = true then 0 else 22) := by rw [rowOf_ok]

/-- the block that a slice lies in -/
def InA (A : Option Addr) (x : Nat) : Prop := ∃ ad, A = some ad ∧ x = ad.block
/-- the slice's cells are there -/
def RowOk (w : World) (A : Option Addr) (n : Nat) : Prop := ∀ ad, A = some ad → ∃ g cs, ad = ⟨g, 0, none⟩ ∧ w.heap[g]? = some (.cells cs 39 (0, 0)) ∧ n * 3 ≤ cs.size
theorem row3_some {w w' : World} {l : List Cl} {A : Option Addr} {c : Nat} (h : Row3 w w' l A c) : 0 < l.length → ∃ g, A = some ⟨g, 0, none⟩ := fun h0 => by
  rcases h.2 with ⟨h1, h2⟩ | ⟨g, cap, cur, hv, _⟩
  · omega
  · simp only [Value.slice.injEq] at hv
    exact ⟨g, hv.1⟩
theorem row3_ok {w w' : World} {l : List Cl} {A : Option Addr} {c : Nat} (h : Row3 w w' l A c) : RowOk w' A l.length := by
  rintro ad rfl
  rcases h.2 with ⟨h1, h2⟩ | ⟨g, cap, cur, hv, _, hg, hn, _, hs, _⟩
  · cases h1
  · simp only [Value.slice.injEq, Option.some.injEq] at hv
    exact ⟨g, cur, hv.1, hg, by rw [hs]; omega⟩
theorem row_has {w : World} {g : Nat} {cs : Array Value} {T : TypeId} (h : w.heap[g]? = some (.cells cs T (0, 0))) {i : Nat} (hi : i < cs.size) : ∃ u, w.cell? ⟨g, i, none⟩ = some u := by
  rw [row_cell h]
  exact ⟨cs[i], Array.getElem?_eq_getElem hi⟩
theorem row_ok_set {w : World} {g n : Nat} {cs : Array Value} (i : Nat) (h : w.heap[g]? = some (.cells cs 39 (0, 0))) (hn : n * 3 ≤ cs.size) :
    RowOk (((w.setCell ⟨g, i, none⟩ (.int .i64 (-7))).setCell ⟨g, i + 1, none⟩ (.bool false)).setCell ⟨g, i + 2, none⟩ (.bool false)) (some ⟨g, 0, none⟩) n := by
  rintro ad he
  cases he
  exact ⟨g, _, rfl, row_set (row_set (row_set h _ _) _ _) _ _, by simpa using hn⟩

theorem ext_row3 {w0 w : World} {g i : Nat} (A : Nat → Prop) (hA : A g) (h : Ext A w0 w) :
    Ext A w0 (((w.setCell ⟨g, i, none⟩ (.int .i64 (-7))).setCell ⟨g, i + 1, none⟩ (.bool false)).setCell ⟨g, i + 2, none⟩ (.bool false)) :=
  ((h.setCell (p := ⟨g, i, none⟩) (.inl hA) (.int .i64 (-7))).setCell (p := ⟨g, i + 1, none⟩) (.inl hA) (.bool false)).setCell (p := ⟨g, i + 2, none⟩) (.inl hA) (.bool false)

set_option maxHeartbeats 8000000 in
set_option maxRecDepth 100000 in
theorem plays_true (ops : List OpV) (A : Option Addr) (c : Nat) (w : World) (hA : OpsIn w w.heap.size A ops) (_hl : ops.length ≤ 140737488355328) :
    Calls Try.prog 3 #[.slice A ops.length c] w fun e w' => e = .returned (.bool true) ∧ Below w.heap.size w w' := by
  have HA := Lib.hid hA
  clear hA
  go_enter Try.func3, Try.ntmps3
  go_wp2_with fail
  refine (awake_any w).mono ?_
  rintro e w1 ⟨rfl, hb1⟩
  have HB1 := Lib.hid hb1
  clear hb1
  go_wp2_with fail
  refine (New_own w1).mono ?_
  rintro e w2 ⟨b, rfl, S0, o2⟩
  have B2 : Hid (Both w (w2.alloc (.cells #[.slice none 0 0] 29)) S0 (Made w2 (w2.alloc (.cells #[.slice none 0 0] 29))) b w2.heap.size (rowOf []) [] 0) := by
    have o := o2.base HB1.out
    have hb := (Below.refl w2.heap.size w2).alloc (Nat.le_refl _) (.cells #[.slice none 0 0] 29)
    exact ⟨o.tab.below hb, new_doc w2, fun q h1 h2 => by have h3 := o.tab.there q h1; have h4 := h2.1; omega, o.new, fun q hq => Nat.le_trans o.below.size hq.1, o.below.trans (hb.mono o.below.size)⟩
  clear o2
  go_wp2_with fail
  generalize w2.alloc (.cells #[.slice none 0 0] 29) = w3 at *
  generalize w2.heap.size = r at *
  go_loopw [6] (fun i wr => ∃ (j : Nat) (S Q : Nat → Prop) (L : List E), j ≤ ops.length ∧ j ≤ 3000 ∧ i = .int .i64 j ∧ Both w wr S Q b r (rowOf L) L j ∧ Uniq (rowOf L) ∧ FitsAll L ∧ L.length ≤ j) (fun i _ => ops.length - (intOf i).toNat)
  case atStart => exact ⟨0, _, _, [], Nat.zero_le _, Nat.zero_le _, rfl, B2.out, fun k => List.nodup_nil, fun e he => by (cases he), Nat.le_refl _⟩
  case round =>
    clear B2
    obtain ⟨j, S, Q, L, hj, hj2, rfl, ho, hu, hf, hlj⟩ := hrel
    have B3 := Lib.hid ho
    have HU := Lib.hid hu
    have HF := Lib.hid hf
    clear ho hu hf
    by_cases hlt : j < ops.length ∧ j < 3000
    · obtain ⟨hlt1, hlt2⟩ := hlt
      obtain ⟨a, rfl, hab, hop, hfk⟩ := op_at HA.out B3.out.below hlt1
      have hk0 : (0 : Int) ≤ (j : Int) := Int.natCast_nonneg _
      have hk1 : (j : Int) < (ops.length : Int) := by omega
      have hk2 : (j : Int) < 3000 := by omega
      generalize ops[j] = o at *
      have r0 := hop.c0
      have r1 := hop.c1
      have r2 := hop.c2
      have r3 := hop.c3
      have hc3 := and3 o.what
      have hq : low3 o.what = 0 ∨ low3 o.what = 1 ∨ low3 o.what = 2 ∨ low3 o.what = 3 := by have := low3_lt o.what; omega
      generalize low3 o.what = q3 at *
      have HK := Lib.hid hfk
      clear hop hfk
      have HBX : Hid (RowV (wr.alloc (.cells #[.int .i64 o.what, .int .i64 o.th, .int .i64 o.key, .bool o.al] 31)) wr.heap.size 31 [.int .i64 o.what, .int .i64 o.th, .int .i64 o.key, .bool o.al]) := row_new _ _
      have B4 := Lib.hid (B3.out.go ((Below.refl _ _).alloc (Nat.le_refl _) (.cells #[.int .i64 o.what, .int .i64 o.th, .int .i64 o.key, .bool o.al] 31)))
      have HSZ : Hid (wr.heap.size < (wr.alloc (.cells #[.int .i64 o.what, .int .i64 o.th, .int .i64 o.key, .bool o.al] 31)).heap.size) := by show _ < _; simp
      have HNS : Hid (¬ S wr.heap.size) := fun h => Nat.lt_irrefl _ (B3.out.tab.there _ h)
      have HNQ : Hid (¬ Q wr.heap.size) := fun h => Nat.lt_irrefl _ (B3.out.doc.there _ h)
      have HGE0 : Hid (w.heap.size ≤ wr.heap.size) := B3.out.below.size
      have x0 : (wr.alloc (.cells #[.int .i64 o.what, .int .i64 o.th, .int .i64 o.key, .bool o.al] 31)).cell? ⟨wr.heap.size, 0, none⟩ = some (.int .i64 o.what) := HBX.out.cell (i := 0) (by simp)
      have x1 : (wr.alloc (.cells #[.int .i64 o.what, .int .i64 o.th, .int .i64 o.key, .bool o.al] 31)).cell? ⟨wr.heap.size, 1, none⟩ = some (.int .i64 o.th) := HBX.out.cell (i := 1) (by simp)
      have x2 : (wr.alloc (.cells #[.int .i64 o.what, .int .i64 o.th, .int .i64 o.key, .bool o.al] 31)).cell? ⟨wr.heap.size, 2, none⟩ = some (.int .i64 o.key) := HBX.out.cell (i := 2) (by simp)
      have x3 : (wr.alloc (.cells #[.int .i64 o.what, .int .i64 o.th, .int .i64 o.key, .bool o.al] 31)).cell? ⟨wr.heap.size, 3, none⟩ = some (.bool o.al) := HBX.out.cell (i := 3) (by simp)
      have B4d := Lib.hid (B4.out.go ((Below.refl _ _).drew))
      go_upto_block 2 with fail
      generalize wr.alloc (.cells #[.int .i64 o.what, .int .i64 o.th, .int .i64 o.key, .bool o.al] 31) = W1 at *
      generalize wr.heap.size = hs0 at *
      go_cut [8] from 21 to 120 (fun s8 wx => s8 = .bool true ∧ Hid (∃ (S6 Q7 : Nat → Prop) (L2 : List E), Both w wx S6 Q7 b r (rowOf L2) L2 (j + 1) ∧ Uniq (rowOf L2) ∧ FitsAll L2 ∧ L2.length ≤ j + 1 ∧ RowV wx hs0 31 [.int .i64 o.what, .int .i64 o.th, .int .i64 o.key, .bool o.al]))
      case first =>
        rcases hq with rfl | rfl | rfl | rfl
        · obtain ⟨q0, hq0⟩ : ∃ q0, (if rOk L o.th o.key = true then (0 : Int) else 22) = q0 := ⟨_, rfl⟩
          have HQ2 := Lib.hid hq0
          have HQ1 : Hid ((if askOk (rowOf L) o.th o.key = true then (0 : Int) else 22) = q0) := (ask_q L o.th o.key).trans hq0
          clear hq0
          go_wp2_with fail
          go_region_held3 (fun w' => w'.cell? ⟨hs0, 1, none⟩ = some (.int .i64 o.th) ∧ w'.cell? ⟨hs0, 2, none⟩ = some (.int .i64 o.key) ∧ w'.cell? ⟨hs0, 3, none⟩ = some (.bool o.al)) (go_keep)
            ((first
              | (go_at_call 12
                 refine (B4d.out.askP o.th o.key o.al HK.out (by omega) q0 HQ1.out).mono ?_
                 rintro e w6 ⟨rfl, S6, hb6, he6, hi6⟩
                 have HBX6 : Hid (RowV w6 hs0 31 [.int .i64 o.what, .int .i64 o.th, .int .i64 o.key, .bool o.al]) := (he6.block hs0 HSZ.out HNS.out).trans HBX.out
                 have HL6 : Hid (hs0 < w6.heap.size) := HBX6.out.lt
                 have t1w6 : w6.cell? ⟨hs0, 1, none⟩ = some (.int .i64 o.th) := HBX6.out.cell (i := 1) (by simp)
                 have t2w6 : w6.cell? ⟨hs0, 2, none⟩ = some (.int .i64 o.key) := HBX6.out.cell (i := 2) (by simp)
                 have t3w6 : w6.cell? ⟨hs0, 3, none⟩ = some (.bool o.al) := HBX6.out.cell (i := 3) (by simp)
                 have HNS6 : Hid (¬ S6 hs0) := fun h => by
                   rcases hi6 hs0 h with h1 | h1
                   · exact HNS.out h1
                   · exact absurd h1 (Nat.not_le.2 HSZ.out)
                 have B6 := Lib.hid hb6
                 clear hb6 he6 hi6)
              | (go_at_call 13
                 refine (B6.out.askQ o.th o.key o.al (by omega) q0 HQ2.out).mono ?_
                 rintro e w7 ⟨rfl, Q7, hb7, he7, hi7⟩
                 have HBX7 : Hid (RowV w7 hs0 31 [.int .i64 o.what, .int .i64 o.th, .int .i64 o.key, .bool o.al]) := (he7.block hs0 HL6.out HNQ.out).trans HBX6.out
                 have HL7 : Hid (hs0 < w7.heap.size) := HBX7.out.lt
                 have t1w7 : w7.cell? ⟨hs0, 1, none⟩ = some (.int .i64 o.th) := HBX7.out.cell (i := 1) (by simp)
                 have t2w7 : w7.cell? ⟨hs0, 2, none⟩ = some (.int .i64 o.key) := HBX7.out.cell (i := 2) (by simp)
                 have t3w7 : w7.cell? ⟨hs0, 3, none⟩ = some (.bool o.al) := HBX7.out.cell (i := 3) (by simp)
                 have HNQ7 : Hid (¬ Q7 hs0) := fun h => by
                   rcases hi7 hs0 h with h1 | h1
                   · exact HNQ.out h1
                   · exact absurd h1 (Nat.not_le.2 HL6.out)
                 have B7 := Lib.hid hb7
                 clear hb7 he7 hi7)))
          all_goals
            have BF : Hid (Both w w7 S6 Q7 b r (rowOf (rAsk L o.th o.key o.al)) (rAsk L o.th o.key o.al) (j + 1)) := by
              have h := B7.out
              rw [rowOf_ask] at h
              exact h
            have HU' : Hid (Uniq (rowOf (rAsk L o.th o.key o.al))) := by
              have h := HU.out.ask o.th o.key o.al
              rw [rowOf_ask] at h
              exact h
            have HF' := Lib.hid (fits_ask HF.out HK.out o.th o.al)
            have hlj' : (rAsk L o.th o.key o.al).length ≤ j + 1 := Nat.le_trans (len_ask _ _ _ _) (by omega)
            go_wp2_with fail
            go_meet
            exact ⟨rfl, Lib.hid ⟨_, _, _, BF.out, HU'.out, HF'.out, hlj', HBX7.out⟩⟩
        · obtain ⟨q0, hq0⟩ : ∃ q0, (if rOk L o.th o.key = true then (0 : Int) else 22) = q0 := ⟨_, rfl⟩
          have HQ2 := Lib.hid hq0
          have HQ1 : Hid ((if askOk (rowOf L) o.th o.key = true then (0 : Int) else 22) = q0) := (ask_q L o.th o.key).trans hq0
          clear hq0
          go_wp2_with fail
          go_region_held3 (fun w' => w'.cell? ⟨hs0, 1, none⟩ = some (.int .i64 o.th) ∧ w'.cell? ⟨hs0, 2, none⟩ = some (.int .i64 o.key) ∧ w'.cell? ⟨hs0, 3, none⟩ = some (.bool o.al)) (go_keep)
            ((first
              | (go_at_call 12
                 refine (B4d.out.askP o.th o.key o.al HK.out (by omega) q0 HQ1.out).mono ?_
                 rintro e w6 ⟨rfl, S6, hb6, he6, hi6⟩
                 have HBX6 : Hid (RowV w6 hs0 31 [.int .i64 o.what, .int .i64 o.th, .int .i64 o.key, .bool o.al]) := (he6.block hs0 HSZ.out HNS.out).trans HBX.out
                 have HL6 : Hid (hs0 < w6.heap.size) := HBX6.out.lt
                 have t1w6 : w6.cell? ⟨hs0, 1, none⟩ = some (.int .i64 o.th) := HBX6.out.cell (i := 1) (by simp)
                 have t2w6 : w6.cell? ⟨hs0, 2, none⟩ = some (.int .i64 o.key) := HBX6.out.cell (i := 2) (by simp)
                 have t3w6 : w6.cell? ⟨hs0, 3, none⟩ = some (.bool o.al) := HBX6.out.cell (i := 3) (by simp)
                 have HNS6 : Hid (¬ S6 hs0) := fun h => by
                   rcases hi6 hs0 h with h1 | h1
                   · exact HNS.out h1
                   · exact absurd h1 (Nat.not_le.2 HSZ.out)
                 have B6 := Lib.hid hb6
                 clear hb6 he6 hi6)
              | (go_at_call 13
                 refine (B6.out.askQ o.th o.key o.al (by omega) q0 HQ2.out).mono ?_
                 rintro e w7 ⟨rfl, Q7, hb7, he7, hi7⟩
                 have HBX7 : Hid (RowV w7 hs0 31 [.int .i64 o.what, .int .i64 o.th, .int .i64 o.key, .bool o.al]) := (he7.block hs0 HL6.out HNQ.out).trans HBX6.out
                 have HL7 : Hid (hs0 < w7.heap.size) := HBX7.out.lt
                 have t1w7 : w7.cell? ⟨hs0, 1, none⟩ = some (.int .i64 o.th) := HBX7.out.cell (i := 1) (by simp)
                 have t2w7 : w7.cell? ⟨hs0, 2, none⟩ = some (.int .i64 o.key) := HBX7.out.cell (i := 2) (by simp)
                 have t3w7 : w7.cell? ⟨hs0, 3, none⟩ = some (.bool o.al) := HBX7.out.cell (i := 3) (by simp)
                 have HNQ7 : Hid (¬ Q7 hs0) := fun h => by
                   rcases hi7 hs0 h with h1 | h1
                   · exact HNQ.out h1
                   · exact absurd h1 (Nat.not_le.2 HL6.out)
                 have B7 := Lib.hid hb7
                 clear hb7 he7 hi7)))
          all_goals
            have BF : Hid (Both w w7 S6 Q7 b r (rowOf (rAsk L o.th o.key o.al)) (rAsk L o.th o.key o.al) (j + 1)) := by
              have h := B7.out
              rw [rowOf_ask] at h
              exact h
            have HU' : Hid (Uniq (rowOf (rAsk L o.th o.key o.al))) := by
              have h := HU.out.ask o.th o.key o.al
              rw [rowOf_ask] at h
              exact h
            have HF' := Lib.hid (fits_ask HF.out HK.out o.th o.al)
            have hlj' : (rAsk L o.th o.key o.al).length ≤ j + 1 := Nat.le_trans (len_ask _ _ _ _) (by omega)
            go_wp2_with fail
            go_meet
            exact ⟨rfl, Lib.hid ⟨_, _, _, BF.out, HU'.out, HF'.out, hlj', HBX7.out⟩⟩
        · obtain ⟨q0, hq0⟩ : ∃ q0, (if (placeE L o.th o.key).isSome = true then (0 : Int) else 22) = q0 := ⟨_, rfl⟩
          have HQ2 := Lib.hid hq0
          have HQ1 : Hid ((if has (rowOf L o.key) o.th = true then (0 : Int) else 22) = q0) := (leave_q L o.th o.key).trans hq0
          clear hq0
          go_wp2_with fail
          go_region_held3 (fun w' => w'.cell? ⟨hs0, 1, none⟩ = some (.int .i64 o.th) ∧ w'.cell? ⟨hs0, 2, none⟩ = some (.int .i64 o.key)) (go_keep)
            ((first
              | (go_at_call 14
                 refine (B4d.out.leaveP o.th o.key HK.out (by omega) q0 HQ1.out).mono ?_
                 rintro e w6 ⟨rfl, S6, hb6, he6, hi6⟩
                 have HBX6 : Hid (RowV w6 hs0 31 [.int .i64 o.what, .int .i64 o.th, .int .i64 o.key, .bool o.al]) := (he6.block hs0 HSZ.out HNS.out).trans HBX.out
                 have HL6 : Hid (hs0 < w6.heap.size) := HBX6.out.lt
                 have t1w6 : w6.cell? ⟨hs0, 1, none⟩ = some (.int .i64 o.th) := HBX6.out.cell (i := 1) (by simp)
                 have t2w6 : w6.cell? ⟨hs0, 2, none⟩ = some (.int .i64 o.key) := HBX6.out.cell (i := 2) (by simp)
                 have HNS6 : Hid (¬ S6 hs0) := fun h => by
                   rcases hi6 hs0 h with h1 | h1
                   · exact HNS.out h1
                   · exact absurd h1 (Nat.not_le.2 HSZ.out)
                 have B6 := Lib.hid hb6
                 clear hb6 he6 hi6)
              | (go_at_call 15
                 refine (B6.out.leaveQ o.th o.key (by omega) q0 HQ2.out).mono ?_
                 rintro e w7 ⟨rfl, Q7, hb7, he7, hi7⟩
                 have HBX7 : Hid (RowV w7 hs0 31 [.int .i64 o.what, .int .i64 o.th, .int .i64 o.key, .bool o.al]) := (he7.block hs0 HL6.out HNQ.out).trans HBX6.out
                 have HL7 : Hid (hs0 < w7.heap.size) := HBX7.out.lt
                 have t1w7 : w7.cell? ⟨hs0, 1, none⟩ = some (.int .i64 o.th) := HBX7.out.cell (i := 1) (by simp)
                 have t2w7 : w7.cell? ⟨hs0, 2, none⟩ = some (.int .i64 o.key) := HBX7.out.cell (i := 2) (by simp)
                 have HNQ7 : Hid (¬ Q7 hs0) := fun h => by
                   rcases hi7 hs0 h with h1 | h1
                   · exact HNQ.out h1
                   · exact absurd h1 (Nat.not_le.2 HL6.out)
                 have B7 := Lib.hid hb7
                 clear hb7 he7 hi7)))
          all_goals
            have BF : Hid (Both w w7 S6 Q7 b r (rowOf (rLeave L o.th o.key)) (rLeave L o.th o.key) (j + 1)) := by
              have h := B7.out
              rw [rowOf_leave] at h
              exact h
            have HU' : Hid (Uniq (rowOf (rLeave L o.th o.key))) := by
              have h := HU.out.leave o.th o.key
              rw [rowOf_leave] at h
              exact h
            have HF' := Lib.hid (fits_leave HF.out o.key o.th)
            have hlj' : (rLeave L o.th o.key).length ≤ j + 1 := Nat.le_trans (len_leave _ _ _) (by omega)
            go_wp2_with fail
            go_meet
            exact ⟨rfl, Lib.hid ⟨_, _, _, BF.out, HU'.out, HF'.out, hlj', HBX7.out⟩⟩
        · obtain ⟨q0, hq0⟩ : ∃ q0, rHolds L o.th o.key = q0 := ⟨_, rfl⟩
          have HQ2 := Lib.hid hq0
          have HQ1 : Hid (holdd (rowOf L) o.th o.key = q0) := (rowOf_holds L o.th o.key).trans hq0
          clear hq0
          go_wp2_with fail
          go_region_held3 (fun w' => w'.cell? ⟨hs0, 1, none⟩ = some (.int .i64 o.th) ∧ w'.cell? ⟨hs0, 2, none⟩ = some (.int .i64 o.key)) (go_keep)
            ((first
              | (go_at_call 16
                 refine (B4d.out.holdsP o.th o.key HK.out (by omega) q0 HQ1.out).mono ?_
                 rintro e w6 ⟨rfl, hb6, he6⟩
                 have HBX6 : Hid (RowV w6 hs0 31 [.int .i64 o.what, .int .i64 o.th, .int .i64 o.key, .bool o.al]) := (he6.block hs0 HSZ.out).trans HBX.out
                 have HL6 : Hid (hs0 < w6.heap.size) := HBX6.out.lt
                 have t1w6 : w6.cell? ⟨hs0, 1, none⟩ = some (.int .i64 o.th) := HBX6.out.cell (i := 1) (by simp)
                 have t2w6 : w6.cell? ⟨hs0, 2, none⟩ = some (.int .i64 o.key) := HBX6.out.cell (i := 2) (by simp)
                 have B6 := Lib.hid hb6
                 clear hb6 he6)
              | (go_at_call 17
                 refine (B6.out.holdsQ o.th o.key (by omega) q0 HQ2.out).mono ?_
                 rintro e w' ⟨rfl, hww⟩
                 have hww := hww.symm
                 subst hww)))
          all_goals
            have BF : Hid (Both w w6 S Q b r (rowOf L) L (j + 1)) := B6.out.mono (Nat.le_succ j)
            have HU' := HU
            have HF' := HF
            have hlj' : L.length ≤ j + 1 := by omega
            have HBX7 := HBX6
            have HL7 := HL6
            go_wp2_with fail
            go_meet
            exact ⟨rfl, Lib.hid ⟨_, _, _, BF.out, HU'.out, HF'.out, hlj', HBX7.out⟩⟩
      case rest =>
        obtain ⟨rfl, hrest⟩ := hcut
        obtain ⟨w7, hw7⟩ : ∃ x, x = wc := ⟨_, rfl⟩
        subst hw7
        obtain ⟨S6, Q7, L2, hBF, hu', hf', hlj', hbx⟩ := hrest.out
        have BF := Lib.hid hBF
        have HU' := Lib.hid hu'
        have HF' := Lib.hid hf'
        have HBX7 := Lib.hid hbx
        have HL7 : Hid (hs0 < w7.heap.size) := hbx.lt
        clear hrest hBF hu' hf' hbx x0 x1 x2 x3 B4d B4 HBX HSZ HNS HNQ hc3 hq B3 HU HF
        obtain ⟨n1, hn1⟩ : ∃ n1, (rowOf L2 o.key).length = n1 := ⟨_, rfl⟩
        have HN1 := Lib.hid hn1
        have hn1b : n1 ≤ 3001 := by rw [← hn1]; exact Nat.le_trans (BF.out.own.len HK.out) (by omega)
        clear hn1
        have x2' : w7.cell? ⟨hs0, 2, none⟩ = some (.int .i64 o.key) := HBX7.out.cell (i := 2) (by simp)
        go_wp2_with fail
        refine (BF.out.own.claims o.key HK.out (by omega) n1 HN1.out).mono ?_
        rintro e w8 ⟨A1, c1, rfl, hr1, ho8, hb8⟩
        have B8 := Lib.hid (BF.out.go hb8)
        have HGE : Hid (∀ g, A1 = some ⟨g, 0, none⟩ → w7.heap.size ≤ g) := fun g hg => own_ge hr1 g (by rw [hg]; rfl)
        have HA1 := Lib.hid (row3_some hr1)
        have HOK := Lib.hid (row3_ok hr1)
        rw [HN1.out] at HA1 HOK
        have HBX8 := Lib.hid (HBX7.out.keep hb8 HL7.out)
        have HSZ8 : Hid (w7.heap.size ≤ w8.heap.size) := hb8.size
        clear hr1 ho8 hb8 x2'
        go_upto_block 3 with fail
        go_cut [] from 21 to 120 (fun wx => Hid (Both w wx S6 Q7 b r (rowOf L2) L2 (j + 1) ∧ RowV wx hs0 31 [.int .i64 o.what, .int .i64 o.th, .int .i64 o.key, .bool o.al]))
        case first =>
          go_wp2_with fail
          go_loopw [10] (fun i wr' => ∃ (k : Nat), k ≤ n1 ∧ i = .int .i64 k ∧ Ext (InA A1) w8 wr' ∧ RowOk wr' A1 n1) (fun i _ => n1 - (intOf i).toNat)
          case atStart => exact ⟨0, Nat.zero_le _, rfl, Ext.refl _ _, HOK.out⟩
          case round =>
            obtain ⟨k, hk, rfl, hex, hok⟩ := hrel
            have HEX := Lib.hid hex
            by_cases hlt3 : k < n1
            · obtain ⟨g, hA⟩ := HA1.out (by omega)
              subst hA
              obtain ⟨g', cs, he, hg, hsz⟩ := hok _ rfl
              cases he
              obtain ⟨u0, v0⟩ := row_has hg (i := k * 3) (by omega)
              obtain ⟨u1, v1⟩ := row_has hg (i := k * 3 + 1) (by omega)
              obtain ⟨u2, v2⟩ := row_has hg (i := k * 3 + 2) (by omega)
              have f0 := row_free hg
              have hk4 : (k : Int) < (n1 : Int) := by omega
              have HG := Lib.hid hg
              have HNEW := Lib.hid (row_ok_set (k * 3) hg hsz)
              have HEXN := Lib.hid (ext_row3 (g := g) (i := k * 3) (InA (some ⟨g, 0, none⟩)) ⟨_, rfl, rfl⟩ HEX.out)
              clear hok hex hg
              go_wp2_with fail
              go_roundw
              case rel =>
                refine ⟨k + 1, by omega, by go_num, ?_, ?_⟩
                · exact HEXN.out
                · exact HNEW.out
              case measure => simp [intOf]; omega
            · have hend3 : (n1 : Int) ≤ (k : Int) := by omega
              have hA2 : ∀ x, InA A1 x → w7.heap.size ≤ x := by
                rintro x ⟨ad, rfl, rfl⟩
                obtain ⟨g', cs, rfl, _⟩ := hok _ rfl
                exact HGE.out _ rfl
              have B9 := Lib.hid (B8.out.ext hex (fun q h1 h2 => by have h3 := hA2 q h1; have h4 := BF.out.tab.there q h2; omega) (fun q h1 h2 => by have h3 := hA2 q h1; have h4 := BF.out.doc.there q h2; omega) (fun q h1 => Nat.le_trans BF.out.below.size (hA2 q h1)))
              have HBX9 := Lib.hid ((hex.block hs0 HBX8.out.lt (fun h => by have h3 := hA2 _ h; have h4 := HL7.out; omega)).trans HBX8.out)
              clear hok hex hA2 hlt3
              go_wp2_with fail
              go_meet
              exact Lib.hid ⟨B9.out, HBX9.out⟩
        case rest =>
          obtain ⟨h9, hbx9⟩ := hcut.out
          have B9 := Lib.hid h9
          obtain ⟨w9, hw9⟩ : ∃ x, x = wc := ⟨_, rfl⟩
          subst hw9
          have y2 : w9.cell? ⟨hs0, 2, none⟩ = some (.int .i64 o.key) := hbx9.cell (i := 2) (by simp)
          have lh : hs0 < w9.heap.size := hbx9.lt
          obtain ⟨vv, hx⟩ := h9.doc
          obtain ⟨A', c', rfl⟩ := own_form hx.row.1
          have yr : w9.cell? ⟨r, 0, none⟩ = some (.slice A' L2.length c') := (row_cell hx.block 0).trans rfl
          have lr : r < w9.heap.size := row_lt hx.block
          obtain ⟨z, hz⟩ : ∃ z, ((L2.length : Int) == 0) = z := ⟨_, rfl⟩
          have HZ : Hid (∀ q : Bool, (q = true ↔ KLeave.Empty (rowOf L2)) → q = z) := fun q hq => by
            rw [empty_rows HF'.out] at hq
            rw [← hz, Bool.eq_iff_iff, hq, beq_iff_eq]
            omega
          have B9d := Lib.hid (B9.out.go ((Below.refl _ _).drew))
          have hlz : (L2.length : Int) ≤ 3001 := by omega
          clear hcut h9 hbx9 hx B8 HGE HA1 HOK HBX8 HSZ8 BF
          go_wp2_with fail
          go_region_held3 (fun w' => w'.cell? ⟨hs0, 2, none⟩ = some (.int .i64 o.key) ∧ w'.cell? ⟨r, 0, none⟩ = some (.slice A' L2.length c')) (go_keep)
            ((first
              | (go_at_call 19
                 refine (same_any w S6 Q7 b r (j + 1) L2 o.key _ B9d.out HU'.out HK.out (by omega) (by omega)).mono ?_
                 rintro e w10 ⟨rfl, hb10, hbb⟩
                 have z2 : w10.cell? ⟨hs0, 2, none⟩ = some (.int .i64 o.key) := (hbb.cell (p := ⟨hs0, 2, none⟩) lh).trans y2
                 have zr : w10.cell? ⟨r, 0, none⟩ = some (.slice A' L2.length c') := (hbb.cell (p := ⟨r, 0, none⟩) lr).trans yr
                 have B10 := Lib.hid hb10
                 clear hb10 hbb)
              | (go_at_call 20
                 refine (B10.out.own.free).mono ?_
                 rintro e w' ⟨q, rfl, hqq, hww⟩
                 have hqz := HZ.out q hqq
                 subst hqz
                 have hww := hww.symm
                 subst hww)))
          all_goals
            go_wp2_with fail
            go_roundw
            case rel => first
              | exact ⟨j + 1, S6, Q7, L2, by omega, by omega, by go_num, B10.out, HU'.out, HF'.out, hlj'⟩
              | ((repeat apply Exists.intro); exact ⟨⟨j + 1, S6, Q7, L2, by omega, by omega, by go_num, B10.out, HU'.out, HF'.out, hlj'⟩, rfl⟩)
            case measure => simp [intOf]; omega
    · have hends : ((ops.length : Int) ≤ (j : Int)) ∨ ((j : Int) < (ops.length : Int) ∧ (3000 : Int) ≤ (j : Int)) := by omega
      clear hlt
      rcases hends with hd1 | ⟨hd1, hd2⟩
      all_goals
        go_wp2_with fail
        go_ret
        exact ⟨rfl, B3.out.below⟩
end Go.Proofs.Ytfaahhipddlmgaa.KLPlays
