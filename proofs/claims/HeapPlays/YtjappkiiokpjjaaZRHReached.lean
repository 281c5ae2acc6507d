/- The document's Reached. -/
import Derived.Test.YtjappkiiokpjjaaZRHOrder
namespace Go.Proofs.Ytjappkiiokpjjaa
open Go.RowKit

section
variable {own : Nat → Prop} {w : World}
set_option maxHeartbeats 2000000 in
set_option maxRecDepth 100000 in
theorem rhReached {a : Option Addr} {Os : List Ob} (hm : MH own w a Os) (hown : ∀ k, own k → k < w.heap.size) (hb : Os.length ≤ 1048576) {rt : List Nat} (hrl : rt.length = 16) (hrw : ∀ k, rt.getD k 0 < 18446744073709551616) (hww : ∀ k j, k < Os.length → (refsO (oat Os k)).getD j 0 < 18446744073709551616) (hrf : ∀ k, k < Os.length → (refsO (oat Os k)).length ≤ 1048576) {c k : Nat} (hk : k < Os.length) : Calls Try.prog 31 #[.agg (Value.slice a Os.length c :: rt.map (fun x : Nat => Value.int .u64 (x : Int))).toArray, .int .u64 (hnd k 1 : Nat)] w fun e w' => ∃ r : Bool, e = .returned (.bool r) ∧ (r = true ↔ Rch Os rt k) ∧ Below w.heap.size w w' := by
  obtain ⟨W, hW⟩ : ∃ W, W = w.alloc (.cells (Value.slice a Os.length c :: rt.map (fun x : Nat => Value.int .u64 (x : Int))).toArray 30) := ⟨_, rfl⟩
  have hbw : Below w.heap.size w W := by rw [hW]; exact (Below.refl _ _).alloc (Nat.le_refl _) _
  have hBX : W.heap[w.heap.size]? = some (.cells (Value.slice a Os.length c :: rt.map (fun x : Nat => Value.int .u64 (x : Int))).toArray 30 (0, 0)) := by rw [hW]; exact heap_alloc_new _ _
  have hra : W.rangeAt w.heap.size 0 (Value.slice a Os.length c :: rt.map (fun x : Nat => Value.int .u64 (x : Int))) := fun j v hv => by
    rw [cell_of_row W _ _ _ _ _ hBX, Nat.zero_add]; simpa using hv
  have HO := mkHid (rhOrder (hm.below hbw) (fun k hk => Nat.lt_of_lt_of_le (hown k hk) hbw.size) hb hrl hrw hww hrf (c := c))
  have hmem := fun {K : Nat} (h1 : K = (ordK Os rt K).length) (h2 : ∀ j, j < K → j < (ordK Os rt j).length) => mem_ord h1 h2 hb hk
  have HMEM : Hid (∀ (K : Nat), K = (ordK Os rt K).length → (∀ j, j < K → j < (ordK Os rt j).length) → (hnd k 1 ∈ ordK Os rt K ↔ Rch Os rt k)) := fun K h1 h2 => hmem h1 h2
  have HFEW : Hid (∀ K, (ordK Os rt K).length ≤ 1048576) := fun K => Nat.le_trans (ordK_few hb K) hb
  obtain ⟨l, hl⟩ : ∃ l, l = rt.map (fun x : Nat => Value.int .u64 (x : Int)) := ⟨_, rfl⟩
  have hl17 : (Value.slice a Os.length c :: l).length = 17 := by rw [hl]; simp [hrl]
  rw [← hl] at HO hra hW ⊢
  obtain ⟨x, hx⟩ : ∃ x, x = hnd k 1 := ⟨_, rfl⟩
  rw [← hx] at HMEM ⊢
  obtain ⟨n, hn⟩ : ∃ n, n = Os.length := ⟨_, rfl⟩
  rw [← hn] at HO hra hl17 hW ⊢
  have HW := mkHid hW
  have HBW := mkHid hbw
  clear hm hown hmem hl hx hn hbw hBX hW hb hk hww hrf
  go_enter Try.func31, Try.ntmps31
  refine wp_seq_k (fun K1 hkA => ?_)
  have HK1 := mkHid hkA
  clear hkA
  go_wp2_with fail
  rw [← HW.out]
  refine HK1.out _ _ ?_
  clear HK1
  refine wp_seq_k (fun K2 hkB => ?_)
  have HK2 := mkHid hkB
  clear hkB
  refine wp_region_list ?_
  refine wpList_load_mid rfl 30 _ rfl w.heap.size 0 rfl _ _ hra Try.underlying30 rfl (by rw [hl17]; exact infoHp) ?_
  go_wp2_with fail
  refine HO.out.mono ?_
  rintro e w1 ⟨v, K, rfl, b1, r1, e1, e2⟩
  obtain ⟨va, vc, ev, _⟩ := r1.len
  rw [ucells_len] at ev
  subst ev
  have HNU := mkHid (rhNumber (own := fun _ => False) (w := w1) (rw_ri r1) (HFEW.out K) vc x)
  have HM := mkHid (HMEM.out K e1 e2)
  have HB1 := mkHid b1
  obtain ⟨xs, hxs⟩ : ∃ xs, xs = ordK Os rt K := ⟨_, rfl⟩
  rw [← hxs] at HNU HM ⊢
  obtain ⟨m, hm⟩ : ∃ m, m = xs.length := ⟨_, rfl⟩
  rw [← hm] at HNU ⊢
  clear b1 r1 e1 e2 hxs hm
  go_wp2_with fail
  refine HNU.out.mono ?_
  rintro e w2 ⟨rfl, rfl⟩
  have hbb := HBW.out.trans (HB1.out.mono HBW.out.size)
  have HBB := mkHid hbb
  clear hbb
  by_cases h0 : 0 ≤ numI xs x
  · go_wp2_with fail
    refine HK2.out _ _ ?_
    go_wp2_with fail
    go_ret
    exact ⟨_, rfl, by simp [HM.out.symm, ← numI_mem, h0], HBB.out⟩
  · go_wp2_with fail
    refine HK2.out _ _ ?_
    go_wp2_with fail
    go_ret
    exact ⟨_, rfl, by simp [HM.out.symm, ← numI_mem], HBB.out⟩
end
end Go.Proofs.Ytjappkiiokpjjaa
