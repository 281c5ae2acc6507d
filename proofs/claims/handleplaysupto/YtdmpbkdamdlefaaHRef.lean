/- The document's own table: what it tells. -/
import Derived.Test.YtdmpbkdamdlefaaHRow
import Derived.Test.YtdmpbkdamdlefaaHSeen
namespace Go.Proofs.Ytdmpbkdamdlefaa
open Go.RowKit

/-- A row of slots as the document has them: three cells each. -/
def SRow (w : World) (a : Option Addr) (L : List RS) : Prop := L.length = 0 ∨ ∃ g, a = some ⟨g, 0, none⟩ ∧ g < w.heap.size ∧ ∀ i, i < L.length → w.cell? ⟨g, i * 3, none⟩ = some (.int .u64 ((rs L i).gen : Int)) ∧ w.cell? ⟨g, i * 3 + 1, none⟩ = some (.int .i64 ((rs L i).at_ : Int)) ∧ w.cell? ⟨g, i * 3 + 2, none⟩ = some (.bool (rs L i).taken)
theorem SRow.below {w w' : World} {a : Option Addr} {L : List RS} (h : SRow w a L) (hb : RowKit.Below w.heap.size w w') : SRow w' a L := by
  rcases h with h | ⟨g, e, hg, hc⟩
  · exact Or.inl h
  · refine Or.inr ⟨g, e, by have := hb.size; omega, fun i hi => ?_⟩
    obtain ⟨h1, h2, h3⟩ := hc i hi
    exact ⟨by rw [hb.cell (p := ⟨g, i * 3, none⟩) hg]; exact h1, by rw [hb.cell (p := ⟨g, i * 3 + 1, none⟩) hg]; exact h2, by rw [hb.cell (p := ⟨g, i * 3 + 2, none⟩) hg]; exact h3⟩
theorem SRow.at_ {w : World} {a : Option Addr} {L : List RS} (h : SRow w a L) {i : Nat} (hi : i < L.length) : ∃ g, a = some ⟨g, 0, none⟩ ∧ g < w.heap.size ∧ w.cell? ⟨g, i * 3, none⟩ = some (.int .u64 ((rs L i).gen : Int)) ∧ w.cell? ⟨g, i * 3 + 1, none⟩ = some (.int .i64 ((rs L i).at_ : Int)) ∧ w.cell? ⟨g, i * 3 + 2, none⟩ = some (.bool (rs L i).taken) := by
  rcases h with h | ⟨g, e, hg, hc⟩
  · omega
  · exact ⟨g, e, hg, hc i hi⟩
/-- A row of numbers. -/
def NRow (w : World) (a : Option Addr) (F : List Nat) : Prop := F.length = 0 ∨ ∃ g, a = some ⟨g, 0, none⟩ ∧ g < w.heap.size ∧ ∀ i, i < F.length → w.cell? ⟨g, i, none⟩ = some (.int .i64 ((F.getD i 0 : Nat) : Int))
theorem NRow.below {w w' : World} {a : Option Addr} {F : List Nat} (h : NRow w a F) (hb : RowKit.Below w.heap.size w w') : NRow w' a F := by
  rcases h with h | ⟨g, e, hg, hc⟩
  · exact Or.inl h
  · exact Or.inr ⟨g, e, by have := hb.size; omega, fun i hi => by rw [hb.cell (p := ⟨g, i, none⟩) hg]; exact hc i hi⟩
section
variable {w : World} {la fa : Option Addr} {slots fn lc fc : Nat} {L : List RS}
theorem rhandle_any (hl : SRow w la L) (i : Nat) (hi : i < L.length) (hi2 : i + 1 < 4294967296) (hg : (rs L i).gen < 4294967296) :
    Calls Try.prog 34 #[.agg #[.int .i64 slots, .slice la L.length lc, .slice fa fn fc], .int .i64 i] w fun e w' => e = .returned (.int .u64 (hnd i (rs L i).gen : Nat)) ∧ RowKit.Below w.heap.size w w' := by
  obtain ⟨g, rfl, hgs, c0, c1, c2⟩ := hl.at_ hi
  obtain ⟨G, hG⟩ : ∃ G, G = (rs L i).gen := ⟨_, rfl⟩
  rw [← hG] at c0 hg ⊢
  have h1 := or_add (i + 1) G 32 (by omega) (by omega)
  have H : Hid (bits .or .u64 ((G : Int) * 4294967296) ((i : Int) + 1) = (hnd i G : Int)) := by
    show _ = _
    have e1 : ((G : Int) * 4294967296) = ((G * 2 ^ 32 : Nat) : Int) := by simp
    have e2 : (i : Int) + 1 = ((i + 1 : Nat) : Int) := by simp
    rw [e1, e2, bits_or_u64_nat _ _ (by omega) (by omega), Nat.or_comm, ← bits_or_u64_nat _ _ (by omega) (by omega), h1]
    rfl
  have hi0 : (0 : Int) ≤ (i : Int) := by omega
  have hi1 : (i : Int) < (L.length : Int) := by omega
  have HB : Hid (RowKit.Below w.heap.size w (w.alloc (.cells #[.int .i64 slots, .slice (some ⟨g, 0, none⟩) L.length lc, .slice fa fn fc] 39))) := (RowKit.Below.refl _ w).alloc (Nat.le_refl _) _
  have hne : g ≠ w.heap.size := by omega
  clear hl hG h1 hi
  go_enter Try.func34, Try.ntmps34
  go_wp2_with fail
  go_ret
  exact ⟨congrArg (fun z => Ending.returned (.int .u64 z)) H.out, HB.out⟩
theorem box_below (w : World) (x : Obj) : RowKit.Below w.heap.size w (w.alloc x) := (RowKit.Below.refl _ w).alloc (Nat.le_refl _) _
theorem rfind_no (hl : SRow w la L) (x : Nat) (hx : x < 18446744073709551616) (hn : look L x = none) (hlen : L.length ≤ 1048576) :
    Calls Try.prog 35 #[.agg #[.int .i64 slots, .slice la L.length lc, .slice fa fn fc], .int .u64 x] w fun e w' => e = .returned (.int .i64 (-1)) ∧ RowKit.Below w.heap.size w w' := by
  have h1 : bits .and .u64 (x : Int) 4294967295 = ((x % 4294967296 : Nat) : Int) := and_mask x 32 (by omega) hx
  obtain ⟨q, hq⟩ : ∃ q : Nat, q = x % 4294967296 := ⟨_, rfl⟩
  rw [← hq] at h1
  have hw : wrap64 (wrap64 (q : Int) - 1) = (q : Int) - 1 := by unfold wrap64; omega
  have hw0 : wrap64 (q : Int) = (q : Int) := by unfold wrap64; omega
  have hw1 : wrap64 ((q : Int) - 1) = (q : Int) - 1 := by unfold wrap64; omega
  have HB := mkHid (box_below w (.cells #[.int .i64 slots, .slice la L.length lc, .slice fa fn fc] 39))
  by_cases c0 : q = 0
  · have hneg : ((q : Int) - 1 < 0) := by omega
    clear hl hn hq
    go_enter Try.func35, Try.ntmps35
    go_wp2_with fail
    go_ret
    exact ⟨rfl, HB.out⟩
  · have hneg : ¬ ((q : Int) - 1 < 0) := by omega
    obtain ⟨p, hp⟩ : ∃ p, q = p + 1 := ⟨q - 1, by omega⟩
    by_cases c1 : L.length ≤ p
    · have hge : (L.length : Int) ≤ (q : Int) - 1 := by omega
      clear hl hn hq hp
      go_enter Try.func35, Try.ntmps35
      go_wp2_with fail
      go_ret
      exact ⟨rfl, HB.out⟩
    · obtain ⟨g, rfl, hgs, d0, d1, d2⟩ := hl.at_ (i := p) (by omega)
      have hge : ¬ ((L.length : Int) ≤ (q : Int) - 1) := by omega
      have hpi : (q : Int) - 1 = (p : Int) := by omega
      have hp0 : (0 : Int) ≤ (p : Int) := by omega
      have hp1 : (p : Int) < (L.length : Int) := by omega
      have hne : g ≠ w.heap.size := by omega
      have HB := mkHid (box_below w (.cells #[.int .i64 slots, .slice (some ⟨g, 0, none⟩) L.length lc, .slice fa fn fc] 39))
      cases ht : (rs L p).taken with
      | false =>
        rw [ht] at d2
        clear hl hn hq hp ht d0 d1
        go_enter Try.func35, Try.ntmps35
        go_wp2_with fail
        go_ret
        exact ⟨rfl, HB.out⟩
      | true =>
        rw [ht] at d2
        have hgn : (rs L p).gen ≠ x / 4294967296 := by
          intro e
          have := look_at ⟨by omega, ht, e⟩ hlen (show x % 4294967296 = p + 1 by omega)
          rw [hn] at this; cases this
        obtain ⟨G, hG⟩ : ∃ G, G = (rs L p).gen := ⟨_, rfl⟩
        rw [← hG] at d0 hgn
        have hxx : (x : Int) / 4294967296 = ((x / 4294967296 : Nat) : Int) := by omega
        obtain ⟨X, hX⟩ : ∃ X, X = x / 4294967296 := ⟨_, rfl⟩
        rw [← hX] at hxx hgn
        have hb : ((G : Int) != (X : Int)) = true := by simp; omega
        clear hl hn hq hp ht hG hX d1 hgn
        go_enter Try.func35, Try.ntmps35
        go_wp2_with fail
        go_ret
        exact ⟨rfl, HB.out⟩
theorem rfind_yes (hl : SRow w la L) (x p : Nat) (hx : x < 18446744073709551616) (hn : look L x = some p) :
    Calls Try.prog 35 #[.agg #[.int .i64 slots, .slice la L.length lc, .slice fa fn fc], .int .u64 x] w fun e w' => e = .returned (.int .i64 p) ∧ RowKit.Below w.heap.size w w' := by
  obtain ⟨e1, e2, e3, e4⟩ := look_some hn
  have h1 : bits .and .u64 (x : Int) 4294967295 = ((x % 4294967296 : Nat) : Int) := and_mask x 32 (by omega) hx
  rw [e1, show ((p + 1 : Nat) : Int) = (p : Int) + 1 by omega] at h1
  have hp4 : p < 4294967296 := by omega
  obtain ⟨g, rfl, hgs, d0, d1, d2⟩ := hl.at_ e2
  rw [e3] at d2
  rw [e4] at d0
  have hxx : (x : Int) / 4294967296 = ((x / 4294967296 : Nat) : Int) := by omega
  obtain ⟨X, hX⟩ : ∃ X, X = x / 4294967296 := ⟨_, rfl⟩
  rw [← hX] at hxx d0
  have hb : ((X : Int) != (X : Int)) = false := by simp
  have hneg : ¬ ((p : Int) < 0) := by omega
  have hge : ¬ ((L.length : Int) ≤ (p : Int)) := by omega
  have hp0 : (0 : Int) ≤ (p : Int) := by omega
  have hp1 : (p : Int) < (L.length : Int) := by omega
  have hne : g ≠ w.heap.size := by omega
  have HB := mkHid (box_below w (.cells #[.int .i64 slots, .slice (some ⟨g, 0, none⟩) L.length lc, .slice fa fn fc] 39))
  clear hl hn e1 e2 e3 e4 hX d1
  go_enter Try.func35, Try.ntmps35
  go_wp2_with fail
  go_ret
  exact ⟨rfl, HB.out⟩
end
end Go.Proofs.Ytdmpbkdamdlefaa
