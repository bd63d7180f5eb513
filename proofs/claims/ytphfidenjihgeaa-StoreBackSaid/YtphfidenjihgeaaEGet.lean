/- The store's cache: get, and a new cache. -/
import Derived.Test.YtphfidenjihgeaaECache
import Derived.Carry
namespace Go.Proofs.Ytphfidenjihgeaa.EGet
open Go.RowKit WMem WPlain WAppend Ext Map DPlain DMem EPlain EMem ECache

set_option maxRecDepth 100000 in
set_option maxHeartbeats 800000 in
theorem get_miss (b g N n : Nat) (ρ : Ro) (rd : Nat → Bk) (cch : List (List Nat)) (w : World) (c3 : w.cell? ⟨b, 3, none⟩ = some (.slice (some ⟨g, 0, none⟩) cch.length cch.length)) (hc : Cac w ρ g N rd cch) (h1 : 1 ≤ cch.length) (h2 : cch.length ≤ 16) (hn : n ≤ 4096)
    (hl : n ∉ cch.getD (n % cch.length) []) :
    Calls Try.prog 49 #[.pointer (some ⟨b, 3, none⟩), .int .i64 n] w fun e w' => e = .returned (.tuple #[.slice none 0 0, .bool false]) ∧ ∃ k, w' = w.drewN k := by
  have hi : n % cch.length < cch.length := Nat.mod_lt _ (by omega)
  obtain ⟨xs, mm, uv, hx⟩ := hc
  have hs := Cacx.shard hx hi
  have hz : hasC rd (cch.getD (n % cch.length) []) n = none := if_neg hl
  obtain ⟨v, hk, _, hv⟩ := hs.map.look hn
  rw [hz] at hk
  obtain rfl := hv hz
  have k0 := hs.c0
  have HK := Lib.hid hk
  have HS := shardOf_at b g cch.length n w c3 h1 h2 hn
  clear hk hs hl hz hx hv
  go_enter Try.func49, Try.ntmps49
  go_wp2_with fail
  refine HS.mono ?_
  rintro e w1 ⟨rfl, k, rfl⟩
  have hk := (HK.out (w.drewN k) rfl).1
  have k1 : (w.drewN k).cell? ⟨g, n % cch.length * 2, none⟩ = some (.map (some (mm (n % cch.length)))) := k0
  go_wp2
  go_ret2
  exact ⟨rfl, k, rfl⟩

set_option maxRecDepth 100000 in
set_option maxHeartbeats 800000 in
theorem get_hit (b g N n room : Nat) (ρ : Ro) (rd : Nat → Bk) (cch : List (List Nat)) (w : World) (there : There (Mine ρ) w) (rb : ρ b = .store) (lb : b < w.heap.size)
    (c3 : w.cell? ⟨b, 3, none⟩ = some (.slice (some ⟨g, 0, none⟩) cch.length cch.length)) (c4 : w.cell? ⟨b, 4, none⟩ = some (.int .i64 (room : Int))) (hc : Cac w ρ g N rd cch) (h1 : 1 ≤ cch.length) (h2 : cch.length ≤ 16) (hN : N ≤ 4096) (hn : n < N)
    (hnd : (cch.getD (n % cch.length) []).Nodup) (hlen : (cch.getD (n % cch.length) []).length ≤ room) (hr1 : 1 ≤ room) (hr : room ≤ 256) (hsh : ∀ x ∈ cch.getD (n % cch.length) [], x < N ∧ x % cch.length = n % cch.length)
    (hl : n ∈ cch.getD (n % cch.length) []) :
    Calls Try.prog 49 #[.pointer (some ⟨b, 3, none⟩), .int .i64 n] w fun e w' => ∃ v, e = .returned (.tuple #[v, .bool true]) ∧ Blk w ρ v (rd n) ∧
      ∃ ρ', Cac w' ρ' g N rd (cch.set (n % cch.length) (putC room n (cch.getD (n % cch.length) []))) ∧ Same ρ ρ' w ∧ There (Mine ρ') w' ∧ Ext (fun k => isC (ρ k)) w w' := by
  have hi : n % cch.length < cch.length := Nat.mod_lt _ (by omega)
  have HS := shardOf_at b g cch.length n w c3 h1 h2 (by omega)
  obtain ⟨xs, mm, uv, hx⟩ := id hc
  have hs := Cacx.shard hx hi
  have hz : hasC rd (cch.getD (n % cch.length) []) n = some (rd n) := if_pos hl
  obtain ⟨v, hk, hv, _⟩ := hs.map.look (show n ≤ 4096 by omega)
  rw [hz] at hk
  have hbv := hv _ hz
  have k0 := hs.c0
  have HP : ∀ k, Hid (Calls Try.prog 33 #[.pointer (some ⟨b, 3, none⟩), .int .i64 n, v] (w.drewN k) fun e w' => e = .returned (.tuple #[]) ∧ ∃ ρ', Cac w' ρ' g N rd (cch.set (n % cch.length) (putC room n (cch.getD (n % cch.length) []))) ∧ Same ρ ρ' (w.drewN k) ∧ There (Mine ρ') w' ∧ Ext (fun k => isC (ρ k)) (w.drewN k) w') := fun k =>
    put_any b g N n room ρ rd cch v (w.drewN k) there rb lb c3 c4 (hc.keep (fun _ _ => rfl) (fun _ _ => rfl)) h1 h2 hN hn (hbv.keep (fun _ _ => rfl) (fun _ h => h)) hnd hlen hr1 hr hsh
  have HK := Lib.hid hk
  have HV := Lib.hid hbv
  clear hk hs hl hz hx hv hc hnd hlen hsh
  obtain ⟨g0, c0, rest, rfl, _⟩ := id hbv
  clear hbv
  go_enter Try.func49, Try.ntmps49
  go_wp2_with fail
  refine HS.mono ?_
  rintro e w1 ⟨rfl, k, rfl⟩
  have hk := (HK.out (w.drewN k) rfl).1
  have k1 : (w.drewN k).cell? ⟨g, n % cch.length * 2, none⟩ = some (.map (some (mm (n % cch.length)))) := k0
  go_wp2_with fail
  refine (HP k).out.mono ?_
  rintro e w2 ⟨rfl, hq⟩
  have HQ := Lib.hid hq
  clear hq
  go_wp2
  go_ret2
  obtain ⟨ρ', q1, q2, q3, q4⟩ := HQ.out
  exact ⟨_, rfl, HV.out, ρ', q1, q2, q3, ((Ext.refl _ _).drewN k).trans q4 (fun _ h => .inl h)⟩
end Go.Proofs.Ytphfidenjihgeaa.EGet
