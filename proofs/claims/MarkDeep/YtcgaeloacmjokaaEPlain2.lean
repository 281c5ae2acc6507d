/- What each call says of a plain heap. -/
import Derived.Test.YtcgaeloacmjokaaEPlain
namespace Go.Proofs.Ytcgaeloacmjokaa
open Go.RowKit

section
variable {own : Nat → Prop} {w : World} {i : HId} {cap slots : Nat} {Os : List Ob} {rt : List Nat} {wv : Value}
/-- The new object that is the k-th one. -/
def newOb (t r z k : Nat) : Ob := ⟨t, r, k, false, List.replicate z 0⟩
theorem tabs_new (h : PH own w i cap slots Os rt wv) (n : Nat) (hn : n < 9223372036854775808) (hl : Os.length < slots) : Calls Try.prog 54 #[.pointer (some ⟨i.T, 0, none⟩), .int .i64 n] w fun e w' => e = .returned (.tuple #[.int .u64 (hnd Os.length 1 : Nat), .int .i64 0]) ∧ ∃ own', Mv own own' w w' ∧ HP own' w' i ⟨cap, slots, Os, [], 0, false, plL 0 Os ++ [⟨1, n, true⟩], [], rt⟩ wv := by
  obtain ⟨ot, h0⟩ := id h
  have hl2 : (plL 0 Os).length < slots := by rw [plL_len]; exact hl
  have hT : AbO ot w i.T slots (plL 0 Os) [] := h0.tb
  have hm := ao_Make_new hT n hn hl2
  rw [plL_len] at hm
  refine hm.mono ?_
  rintro e w' ⟨rfl, ot', m, ha⟩
  refine ⟨rfl, ?_⟩
  have hH := (Array.getElem?_eq_some_iff.1 h0.head).1
  refine ⟨fun k => k = i.H ∨ mine i.A i.W i.B k ∨ ot' k, ⟨m.chg.mono fun k _ hk => (h0.owns k).2 (Or.inr (Or.inr hk)), fun k hk => ?_⟩, ot', ?_, h0.ar.same fun k hk => m.chg.block k (h0.ar.lt hk) (fun e => (h0.hT k e).2 hk), ha, fun k => Iff.rfl, h0.hA, fun k hk => ?_, h0.rlen, h0.rlt⟩
  · rcases hk with hk | hk | hk
    · exact Or.inl ((h0.owns k).2 (Or.inl hk))
    · exact Or.inl ((h0.owns k).2 (Or.inr (Or.inl hk)))
    · rcases m.sub k hk with hk | hk
      · exact Or.inl ((h0.owns k).2 (Or.inr (Or.inr hk)))
      · exact Or.inr hk
  · rw [m.chg.block _ hH (fun e => (h0.hT _ e).1 rfl)]; exact h0.head
  · rcases m.sub k hk with hk | hk
    · exact h0.hT k hk
    · exact ⟨fun e => by omega, fun e => by have := h0.ar.lt e; omega⟩
theorem ph_Make_core {Q : World → World → Prop} (h : PH own w i cap slots Os rt wv) (t r z : Nat) (hb : fitsH t r z = true) (hroom : tot Os + 1 + z ≤ cap) (hl : Os.length < slots)
    (hT : ∀ own' u, PH own' u i cap slots (Os ++ [newOb t r z Os.length]) rt wv → Calls Try.prog 58 #[.pointer (some ⟨i.H, 0, none⟩), .int .u64 (hnd Os.length 1 : Nat)] u fun e w' => e = .returned (.tuple #[]) ∧ Q u w') :
    Calls Try.prog 24 #[.pointer (some ⟨i.H, 0, none⟩), .int .i64 t, .int .i64 r, .int .i64 z] w fun e w' => e = .returned (.tuple #[.int .u64 (hnd Os.length 1 : Nat), .int .i64 0]) ∧ ∃ own' u, Mv own own' w u ∧ PH own' u i cap slots (Os ++ [newOb t r z Os.length]) rt wv ∧ Q u w' := by
  obtain ⟨h1, h2, h3, h4, h5⟩ := h.few
  have hcn : cnt (plainS cap slots Os rt).L < slots := by
    show cnt (plL 0 Os) < slots
    rw [plL_cnt]; exact hl
  have hlk : look (plL 0 Os ++ [⟨1, tot Os, true⟩]) (hnd Os.length 1) = some Os.length := by
    have := look_pl (Os := Os ++ [newOb t r z Os.length]) (k := Os.length) (by simp) (by simp; omega)
    rw [plL_append, Nat.zero_add] at this
    exact this
  have hp2 : Os.length < 1048576 := by omega
  have ht2 : tot Os < 9223372036854775808 := by omega
  have hMM : ∀ u, HP own u i (plainS cap slots Os rt) wv → Calls Try.prog 54 #[.pointer (some ⟨i.T, 0, none⟩), .int .i64 (tot Os : Nat)] u fun e w' => e = .returned (.tuple #[.int .u64 (hnd Os.length 1 : Nat), .int .i64 0]) ∧ ∃ own', Mv own own' u w' ∧ HP own' w' i ⟨cap, slots, Os, [], 0, false, plL 0 Os ++ [⟨1, tot Os, true⟩], [], rt⟩ wv := fun u hu => tabs_new (h := hu) (tot Os) ht2 hl
  have hTT : ∀ own' u, HP own' u i ((plainS cap slots Os rt).more (plL 0 Os ++ [⟨1, tot Os, true⟩]) [] (newOb t r z Os.length)) wv → Calls Try.prog 58 #[.pointer (some ⟨i.H, 0, none⟩), .int .u64 (hnd Os.length 1 : Nat)] u fun e w' => e = .returned (.tuple #[]) ∧ Q u w' := by rw [plain_more]; exact hT
  have hxl : hnd Os.length 1 < 18446744073709551616 := hnd_lt (by omega) (by decide)
  obtain ⟨L2, hL2⟩ : ∃ L2, L2 = plL 0 Os ++ [(⟨1, tot Os, true⟩ : RS)] := ⟨_, rfl⟩
  rw [← hL2] at hlk hMM hTT
  have hc := hMake_core (Q := Q) (s := plainS cap slots Os rt) h t r z hb hroom hcn (hnd Os.length 1) Os.length hxl L2 [] hlk hp2 hMM hTT
  rw [hL2] at hc
  erw [plain_more] at hc
  exact hc
theorem ph_Make (h : PH own w i cap slots Os rt .nilIface) (t r z : Nat) (hb : fitsH t r z = true) (hroom : tot Os + 1 + z ≤ cap) (hl : Os.length < slots) :
    Calls Try.prog 24 #[.pointer (some ⟨i.H, 0, none⟩), .int .i64 t, .int .i64 r, .int .i64 z] w fun e w' => e = .returned (.tuple #[.int .u64 (hnd Os.length 1 : Nat), .int .i64 0]) ∧ ∃ own', Mv own own' w w' ∧ PH own' w' i cap slots (Os ++ [newOb t r z Os.length]) rt .nilIface := by
  refine (ph_Make_core (Q := fun u w' => w' = u) h t r z hb hroom hl fun own' u hu => tellMade_nil hu _).mono ?_
  rintro e w' ⟨rfl, own', u, m, hu, rfl⟩
  exact ⟨rfl, own', m, hu⟩
theorem ph_full (h : PH own w i cap slots Os rt wv) (t r z : Nat) (hb : fitsH t r z = true) (hf : cap < tot Os + 1 + z ∨ Os.length = slots) : Calls Try.prog 24 #[.pointer (some ⟨i.H, 0, none⟩), .int .i64 t, .int .i64 r, .int .i64 z] w fun e w' => e = .returned (.tuple #[.int .u64 0, .int .i64 5]) ∧ w' = w := by
  refine hMake_full (s := plainS cap slots Os rt) h t r z hb ?_
  rcases hf with hf | hf
  · exact Or.inl hf
  · refine Or.inr ?_
    show cnt (plL 0 Os) = slots
    rw [plL_cnt]; exact hf
theorem ph_SetWord (h : PH own w i cap slots Os rt wv) {k j : Nat} (hk : k < Os.length) (hj : (oat Os k).refs + j < (oat Os k).ws.length) (y : Nat) (hy : y < 18446744073709551616) : Calls Try.prog 50 #[.pointer (some ⟨i.H, 0, none⟩), .int .u64 (hnd k 1 : Nat), .int .i64 j, .int .u64 y] w fun e w' => e = .returned (.int .i64 0) ∧ Mv own own w w' ∧ PH own w' i cap slots (Os.set k ((oat Os k).put ((oat Os k).refs + j) y)) rt wv := by
  have hc := SetWord_yes h (h.has hk) hj y hy
  rw [plain_put hk] at hc
  exact hc
theorem ph_SetRef (h : PH own w i cap slots Os rt .nilIface) {k j : Nat} (hk : k < Os.length) (hj : j < (oat Os k).refs) {y : Nat} (hy : y < Os.length) : Calls Try.prog 25 #[.pointer (some ⟨i.H, 0, none⟩), .int .u64 (hnd k 1 : Nat), .int .i64 j, .int .u64 (hnd y 1 : Nat)] w fun e w' => e = .returned (.int .i64 0) ∧ Mv own own w w' ∧ PH own w' i cap slots (Os.set k ((oat Os k).put j (hnd y 1))) rt .nilIface := by
  obtain ⟨h1, h2, h3, h4, h5⟩ := h.few
  have hc := SetRef_yes h (h.has hk) hj (hnd y 1) (hnd_lt (by omega) (by decide)) (may_pl hy (by omega))
  rw [plain_put hk] at hc
  exact hc
theorem ph_SetRoot (h : PH own w i cap slots Os rt .nilIface) {k y : Nat} (hk : k < 16) (hy : y < Os.length) : Calls Try.prog 26 #[.pointer (some ⟨i.H, 0, none⟩), .int .i64 k, .int .u64 (hnd y 1 : Nat)] w fun e w' => e = .returned (.int .i64 0) ∧ Mv own own w w' ∧ PH own w' i cap slots Os (rt.set k (hnd y 1)) .nilIface := by
  obtain ⟨h1, h2, h3, h4, h5⟩ := h.few
  exact SetRoot_yes h k (hnd y 1) hk (hnd_lt (by omega) (by decide)) (may_pl hy (by omega))
theorem ph_Word (h : PH own w i cap slots Os rt wv) {k j : Nat} (hk : k < Os.length) (hj : (oat Os k).refs + j < (oat Os k).ws.length) : Calls Try.prog 79 #[.pointer (some ⟨i.H, 0, none⟩), .int .u64 (hnd k 1 : Nat), .int .i64 j] w fun e w' => e = .returned (.tuple #[.int .u64 ((oat Os k).ws.getD ((oat Os k).refs + j) 0 : Nat), .int .i64 0]) ∧ RowKit.Below w.heap.size w w' := Word_yes h (h.has hk) hj
theorem ph_Ref (h : PH own w i cap slots Os rt wv) {k j : Nat} (hk : k < Os.length) (hj : j < (oat Os k).refs) : Calls Try.prog 65 #[.pointer (some ⟨i.H, 0, none⟩), .int .u64 (hnd k 1 : Nat), .int .i64 j] w fun e w' => e = .returned (.tuple #[.int .u64 ((oat Os k).ws.getD j 0 : Nat), .int .i64 0]) ∧ RowKit.Below w.heap.size w w' := Ref_yes h (h.has hk) hj
theorem ph_Root (h : PH own w i cap slots Os rt wv) {k : Nat} (hk : k < 16) : Calls Try.prog 30 #[.pointer (some ⟨i.H, 0, none⟩), .int .i64 k] w fun e w' => e = .returned (.tuple #[.int .u64 (rt.getD k 0 : Nat), .int .i64 0]) ∧ RowKit.Below w.heap.size w w' := Root_yes h k hk
theorem PH.below (h : PH own w i cap slots Os rt wv) {w' : World} (hb : RowKit.Below w.heap.size w w') : PH own w' i cap slots Os rt wv := HP.below h hb
theorem PH.drew (h : PH own w i cap slots Os rt wv) : PH own w.drew i cap slots Os rt wv := HP.drew h
end
/-- No roots. -/
def rt0 : List Nat := [0, 0, 0, 0, 0, 0, 0, 0, 0, 0, 0, 0, 0, 0, 0, 0]
set_option maxHeartbeats 1000000 in
theorem hNew_heap (n m : Nat) (w : World) (h1 : 1 ≤ n) (h2 : n ≤ 1048576) (g1 : 1 ≤ m) (g2 : m ≤ 1048576) : Calls Try.prog 52 #[.int .i64 n, .int .i64 m] w fun e w' => ∃ i own, e = .returned (.tuple #[.pointer (some ⟨i.H, 0, none⟩), .int .i64 0]) ∧ RowKit.Below w.heap.size w w' ∧ (∀ k, own k → w.heap.size ≤ k) ∧ PH own w' i n m [] rt0 .nilIface := by
  have HA := mkHid (fun u : World => at_New n u h1 h2)
  have HT := mkHid (fun u : World => ao_New m u g1 g2)
  clear h1 h2 g1 g2
  go_enter Try.func52, Try.ntmps52
  go_wp2_with fail
  refine (HA.out _).mono ?_
  rintro e w1 ⟨A, W, B, rfl, b1, hA, hW, hB, a1⟩
  have HA1 := mkHid a1
  have B1 := mkHid b1
  have HW1 : Hid (∀ k, mine A W B k → w.heap.size ≤ k) := by
    rintro k (rfl | rfl | rfl)
    · exact hA
    · exact hW
    · exact hB
  clear a1 b1 hA hW hB
  go_wp2_with fail
  refine (HT.out _).mono ?_
  rintro e w2 ⟨rfl, b2, a2⟩
  have HB2 := mkHid b2
  have HT2 := mkHid a2
  clear a2 b2
  go_wp2_with fail
  go_returns
  have ha := HA1.out
  have b1 := B1.out
  have b2 := HB2.out
  have s1 := b1.size
  have s2 := b2.size
  have ht := HT2.out
  have htlt : w1.heap.size < w2.heap.size := ht.lt rfl
  have bb : RowKit.Below w.heap.size w w2 := b1.trans (b2.mono s1)
  have b3 : RowKit.Below w2.heap.size w2 (w2.alloc (.cells (hcells ⟨w2.heap.size, A, W, B, w1.heap.size⟩ rt0 .nilIface) 110)) := (RowKit.Below.refl _ w2).alloc (Nat.le_refl _) _
  refine ⟨⟨w2.heap.size, A, W, B, w1.heap.size⟩, fun k => k = w2.heap.size ∨ mine A W B k ∨ k = w1.heap.size, rfl, bb.trans (b3.mono bb.size), ?_, fun k => k = w1.heap.size, ?_, ?_, ?_, fun k => Iff.rfl, ?_, ?_, rfl, ?_⟩
  · rintro k (rfl | hk | rfl)
    · omega
    · exact HW1.out k hk
    · omega
  · exact heap_alloc_new w2 _
  · exact (ha.below b2).below b3
  · exact ht.same fun k hk => by rw [hk]; exact b3.block _ htlt
  · intro e
    have e2 : mine A W B w2.heap.size := e
    have := ha.lt e2
    omega
  · rintro k rfl
    exact ⟨by show w1.heap.size ≠ w2.heap.size; omega, fun e => by have := ha.lt e; omega⟩
  · intro k
    unfold plainS rt0
    dsimp only
    match k with
    | 0 | 1 | 2 | 3 | 4 | 5 | 6 | 7 | 8 | 9 | 10 | 11 | 12 | 13 | 14 | 15 => decide
    | k + 16 => simp
end Go.Proofs.Ytcgaeloacmjokaa
