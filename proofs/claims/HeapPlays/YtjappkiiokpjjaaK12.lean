/- Some texts in one: each opens with its own remark. -/
import Derived.Test.YtjappkiiokpjjaaK11
import Derived.Deep.AppendLies
import Derived.Deep.OwnRows
/- What each call says of a plain heap. -/
namespace Go.Proofs.Ytjappkiiokpjjaa
open Go.RowKit

section
variable {own : Nat → Prop} {w : World} {i : HId} {cap slots : Nat} {Os : List Ob} {rt : List Nat} {wv : Value}
/-- The new object that is the k-th one. -/
def newOb (t r z k : Nat) : Ob := ⟨t, r, k, false, List.replicate z 0⟩
theorem tabs_new (h : PH own w i cap slots Os rt wv) (n : Nat) (hn : n < 9223372036854775808) (hl : Os.length < slots) : Calls Try.prog 53 #[.pointer (some ⟨i.T, 0, none⟩), .int .i64 n] w fun e w' => e = .returned (.tuple #[.int .u64 (hnd Os.length 1 : Nat), .int .i64 0]) ∧ ∃ own', Mv own own' w w' ∧ HP own' w' i ⟨cap, slots, Os, [], 0, false, plL 0 Os ++ [⟨1, n, true⟩], [], rt⟩ wv := by
  obtain ⟨ot, h0⟩ := id h
  have hl2 : (plL 0 Os).length < slots := by rw [plL_len]; exact hl
  have hT : AbO ot w i.T slots (plL 0 Os) [] := h0.tb
  have hm := ao_Make_new hT n hn hl2
  rw [plL_len] at hm
  refine hm.mono ?_
  rintro e w' ⟨rfl, ot', m, ha⟩
  refine ⟨rfl, ?_⟩
  have hH := (Array.getElem?_eq_some_iff.1 h0.head).1
  refine ⟨fun k => k = i.H ∨ mine i.A i.W i.B k ∨ ot' k, ⟨m.chg.mono fun k _ hk => (h0.owns k).2 (Or.inr (Or.inr hk)), fun k hk => ?_⟩, ot', ?_, h0.ar.same fun k hk => m.chg.block k (h0.ar.lt hk) (fun e => (h0.hT k e).2 hk), ha, fun k => Iff.rfl, h0.hA, fun k hk => ?_, h0.rlen, h0.rlt⟩
  · rcases hk with hk | hk | hk
    · exact Or.inl ((h0.owns k).2 (Or.inl hk))
    · exact Or.inl ((h0.owns k).2 (Or.inr (Or.inl hk)))
    · rcases m.sub k hk with hk | hk
      · exact Or.inl ((h0.owns k).2 (Or.inr (Or.inr hk)))
      · exact Or.inr hk
  · rw [m.chg.block _ hH (fun e => (h0.hT _ e).1 rfl)]; exact h0.head
  · rcases m.sub k hk with hk | hk
    · exact h0.hT k hk
    · exact ⟨fun e => by omega, fun e => by have := h0.ar.lt e; omega⟩
theorem ph_Make_core {Q : World → World → Prop} (h : PH own w i cap slots Os rt wv) (t r z : Nat) (hb : fitsH t r z = true) (hroom : tot Os + 1 + z ≤ cap) (hl : Os.length < slots)
    (hT : ∀ own' u, PH own' u i cap slots (Os ++ [newOb t r z Os.length]) rt wv → Calls Try.prog 57 #[.pointer (some ⟨i.H, 0, none⟩), .int .u64 (hnd Os.length 1 : Nat)] u fun e w' => e = .returned (.tuple #[]) ∧ Q u w') :
    Calls Try.prog 21 #[.pointer (some ⟨i.H, 0, none⟩), .int .i64 t, .int .i64 r, .int .i64 z] w fun e w' => e = .returned (.tuple #[.int .u64 (hnd Os.length 1 : Nat), .int .i64 0]) ∧ ∃ own' u, Mv own own' w u ∧ PH own' u i cap slots (Os ++ [newOb t r z Os.length]) rt wv ∧ Q u w' := by
  obtain ⟨h1, h2, h3, h4, h5⟩ := h.few
  have hcn : cnt (plainS cap slots Os rt).L < slots := by
    show cnt (plL 0 Os) < slots
    rw [plL_cnt]; exact hl
  have hlk : look (plL 0 Os ++ [⟨1, tot Os, true⟩]) (hnd Os.length 1) = some Os.length := by
    have := look_pl (Os := Os ++ [newOb t r z Os.length]) (k := Os.length) (by simp) (by simp; omega)
    rw [plL_append, Nat.zero_add] at this
    exact this
  have hp2 : Os.length < 1048576 := by omega
  have ht2 : tot Os < 9223372036854775808 := by omega
  have hMM : ∀ u, HP own u i (plainS cap slots Os rt) wv → Calls Try.prog 53 #[.pointer (some ⟨i.T, 0, none⟩), .int .i64 (tot Os : Nat)] u fun e w' => e = .returned (.tuple #[.int .u64 (hnd Os.length 1 : Nat), .int .i64 0]) ∧ ∃ own', Mv own own' u w' ∧ HP own' w' i ⟨cap, slots, Os, [], 0, false, plL 0 Os ++ [⟨1, tot Os, true⟩], [], rt⟩ wv := fun u hu => tabs_new (h := hu) (tot Os) ht2 hl
  have hTT : ∀ own' u, HP own' u i ((plainS cap slots Os rt).more (plL 0 Os ++ [⟨1, tot Os, true⟩]) [] (newOb t r z Os.length)) wv → Calls Try.prog 57 #[.pointer (some ⟨i.H, 0, none⟩), .int .u64 (hnd Os.length 1 : Nat)] u fun e w' => e = .returned (.tuple #[]) ∧ Q u w' := by rw [plain_more]; exact hT
  have hxl : hnd Os.length 1 < 18446744073709551616 := hnd_lt (by omega) (by decide)
  obtain ⟨L2, hL2⟩ : ∃ L2, L2 = plL 0 Os ++ [(⟨1, tot Os, true⟩ : RS)] := ⟨_, rfl⟩
  rw [← hL2] at hlk hMM hTT
  have hc := hMake_core (Q := Q) (s := plainS cap slots Os rt) h t r z hb hroom hcn (hnd Os.length 1) Os.length hxl L2 [] hlk hp2 hMM hTT
  rw [hL2] at hc
  erw [plain_more] at hc
  exact hc
theorem ph_Make (h : PH own w i cap slots Os rt .nilIface) (t r z : Nat) (hb : fitsH t r z = true) (hroom : tot Os + 1 + z ≤ cap) (hl : Os.length < slots) :
    Calls Try.prog 21 #[.pointer (some ⟨i.H, 0, none⟩), .int .i64 t, .int .i64 r, .int .i64 z] w fun e w' => e = .returned (.tuple #[.int .u64 (hnd Os.length 1 : Nat), .int .i64 0]) ∧ ∃ own', Mv own own' w w' ∧ PH own' w' i cap slots (Os ++ [newOb t r z Os.length]) rt .nilIface := by
  refine (ph_Make_core (Q := fun u w' => w' = u) h t r z hb hroom hl fun own' u hu => tellMade_nil hu _).mono ?_
  rintro e w' ⟨rfl, own', u, m, hu, rfl⟩
  exact ⟨rfl, own', m, hu⟩
theorem ph_full (h : PH own w i cap slots Os rt wv) (t r z : Nat) (hb : fitsH t r z = true) (hf : cap < tot Os + 1 + z ∨ Os.length = slots) : Calls Try.prog 21 #[.pointer (some ⟨i.H, 0, none⟩), .int .i64 t, .int .i64 r, .int .i64 z] w fun e w' => e = .returned (.tuple #[.int .u64 0, .int .i64 5]) ∧ w' = w := by
  refine hMake_full (s := plainS cap slots Os rt) h t r z hb ?_
  rcases hf with hf | hf
  · exact Or.inl hf
  · refine Or.inr ?_
    show cnt (plL 0 Os) = slots
    rw [plL_cnt]; exact hf
theorem ph_SetWord (h : PH own w i cap slots Os rt wv) {k j : Nat} (hk : k < Os.length) (hj : (oat Os k).refs + j < (oat Os k).ws.length) (y : Nat) (hy : y < 18446744073709551616) : Calls Try.prog 40 #[.pointer (some ⟨i.H, 0, none⟩), .int .u64 (hnd k 1 : Nat), .int .i64 j, .int .u64 y] w fun e w' => e = .returned (.int .i64 0) ∧ Mv own own w w' ∧ PH own w' i cap slots (Os.set k ((oat Os k).put ((oat Os k).refs + j) y)) rt wv := by
  have hc := SetWord_yes h (h.has hk) hj y hy
  rw [plain_put hk] at hc
  exact hc
theorem ph_SetRef (h : PH own w i cap slots Os rt .nilIface) {k j : Nat} (hk : k < Os.length) (hj : j < (oat Os k).refs) {y : Nat} (hy : y < Os.length) : Calls Try.prog 32 #[.pointer (some ⟨i.H, 0, none⟩), .int .u64 (hnd k 1 : Nat), .int .i64 j, .int .u64 (hnd y 1 : Nat)] w fun e w' => e = .returned (.int .i64 0) ∧ Mv own own w w' ∧ PH own w' i cap slots (Os.set k ((oat Os k).put j (hnd y 1))) rt .nilIface := by
  obtain ⟨h1, h2, h3, h4, h5⟩ := h.few
  have hc := SetRef_yes h (h.has hk) hj (hnd y 1) (hnd_lt (by omega) (by decide)) (may_pl hy (by omega))
  rw [plain_put hk] at hc
  exact hc
theorem ph_SetRoot (h : PH own w i cap slots Os rt .nilIface) {k y : Nat} (hk : k < 16) (hy : y < Os.length) : Calls Try.prog 23 #[.pointer (some ⟨i.H, 0, none⟩), .int .i64 k, .int .u64 (hnd y 1 : Nat)] w fun e w' => e = .returned (.int .i64 0) ∧ Mv own own w w' ∧ PH own w' i cap slots Os (rt.set k (hnd y 1)) .nilIface := by
  obtain ⟨h1, h2, h3, h4, h5⟩ := h.few
  exact SetRoot_yes h k (hnd y 1) hk (hnd_lt (by omega) (by decide)) (may_pl hy (by omega))
theorem ph_Word (h : PH own w i cap slots Os rt wv) {k j : Nat} (hk : k < Os.length) (hj : (oat Os k).refs + j < (oat Os k).ws.length) : Calls Try.prog 78 #[.pointer (some ⟨i.H, 0, none⟩), .int .u64 (hnd k 1 : Nat), .int .i64 j] w fun e w' => e = .returned (.tuple #[.int .u64 ((oat Os k).ws.getD ((oat Os k).refs + j) 0 : Nat), .int .i64 0]) ∧ Below w.heap.size w w' := Word_yes h (h.has hk) hj
theorem ph_Ref (h : PH own w i cap slots Os rt wv) {k j : Nat} (hk : k < Os.length) (hj : j < (oat Os k).refs) : Calls Try.prog 33 #[.pointer (some ⟨i.H, 0, none⟩), .int .u64 (hnd k 1 : Nat), .int .i64 j] w fun e w' => e = .returned (.tuple #[.int .u64 ((oat Os k).ws.getD j 0 : Nat), .int .i64 0]) ∧ Below w.heap.size w w' := Ref_yes h (h.has hk) hj
theorem ph_Root (h : PH own w i cap slots Os rt wv) {k : Nat} (hk : k < 16) : Calls Try.prog 64 #[.pointer (some ⟨i.H, 0, none⟩), .int .i64 k] w fun e w' => e = .returned (.tuple #[.int .u64 (rt.getD k 0 : Nat), .int .i64 0]) ∧ Below w.heap.size w w' := Root_yes h k hk
theorem PH.below (h : PH own w i cap slots Os rt wv) {w' : World} (hb : Below w.heap.size w w') : PH own w' i cap slots Os rt wv := HP.below h hb
theorem PH.drew (h : PH own w i cap slots Os rt wv) : PH own w.drew i cap slots Os rt wv := HP.drew h
end
/-- No roots. -/
def rt0 : List Nat := [0, 0, 0, 0, 0, 0, 0, 0, 0, 0, 0, 0, 0, 0, 0, 0]
set_option maxHeartbeats 1000000 in
theorem hNew_heap (n m : Nat) (w : World) (h1 : 1 ≤ n) (h2 : n ≤ 1048576) (g1 : 1 ≤ m) (g2 : m ≤ 1048576) : Calls Try.prog 34 #[.int .i64 n, .int .i64 m] w fun e w' => ∃ i own, e = .returned (.tuple #[.pointer (some ⟨i.H, 0, none⟩), .int .i64 0]) ∧ Below w.heap.size w w' ∧ (∀ k, own k → w.heap.size ≤ k) ∧ PH own w' i n m [] rt0 .nilIface := by
  have HA := mkHid (fun u : World => at_New n u h1 h2)
  have HT := mkHid (fun u : World => ao_New m u g1 g2)
  clear h1 h2 g1 g2
  go_enter Try.func34, Try.ntmps34
  go_wp2_with fail
  refine (HA.out _).mono ?_
  rintro e w1 ⟨A, W, B, rfl, b1, hA, hW, hB, a1⟩
  have HA1 := mkHid a1
  have B1 := mkHid b1
  have HW1 : Hid (∀ k, mine A W B k → w.heap.size ≤ k) := by
    rintro k (rfl | rfl | rfl)
    · exact hA
    · exact hW
    · exact hB
  clear a1 b1 hA hW hB
  go_wp2_with fail
  refine (HT.out _).mono ?_
  rintro e w2 ⟨rfl, b2, a2⟩
  have HB2 := mkHid b2
  have HT2 := mkHid a2
  clear a2 b2
  go_wp2_with fail
  go_returns
  have ha := HA1.out
  have b1 := B1.out
  have b2 := HB2.out
  have s1 := b1.size
  have s2 := b2.size
  have ht := HT2.out
  have htlt : w1.heap.size < w2.heap.size := ht.lt rfl
  have bb : Below w.heap.size w w2 := b1.trans (b2.mono s1)
  have b3 : Below w2.heap.size w2 (w2.alloc (.cells (hcells ⟨w2.heap.size, A, W, B, w1.heap.size⟩ rt0 .nilIface) 97)) := (Below.refl _ w2).alloc (Nat.le_refl _) _
  refine ⟨⟨w2.heap.size, A, W, B, w1.heap.size⟩, fun k => k = w2.heap.size ∨ mine A W B k ∨ k = w1.heap.size, rfl, bb.trans (b3.mono bb.size), ?_, fun k => k = w1.heap.size, ?_, ?_, ?_, fun k => Iff.rfl, ?_, ?_, rfl, ?_⟩
  · rintro k (rfl | hk | rfl)
    · omega
    · exact HW1.out k hk
    · omega
  · exact heap_alloc_new w2 _
  · exact (ha.below b2).below b3
  · exact ht.same fun k hk => by rw [hk]; exact b3.block _ htlt
  · intro e
    have e2 : mine A W B w2.heap.size := e
    have := ha.lt e2
    omega
  · rintro k rfl
    exact ⟨by show w1.heap.size ≠ w2.heap.size; omega, fun e => by have := ha.lt e; omega⟩
  · intro k
    unfold plainS rt0
    dsimp only
    match k with
    | 0 | 1 | 2 | 3 | 4 | 5 | 6 | 7 | 8 | 9 | 10 | 11 | 12 | 13 | 14 | 15 => decide
    | k + 16 => simp
end Go.Proofs.Ytjappkiiokpjjaa

/- The statements' own helpers. -/
namespace Go.Proofs.Ytjappkiiokpjjaa
open Go.RowKit

theorem hFresh_any (n m : Nat) (w : World) (h1 : 1 ≤ n) (h2 : n ≤ 1048576) (g1 : 1 ≤ m) (g2 : m ≤ 1048576) : Calls Try.prog 8 #[.int .i64 n, .int .i64 m] w fun e w' => ∃ i own, e = .returned (.pointer (some ⟨i.H, 0, none⟩)) ∧ Below w.heap.size w w' ∧ (∀ k, own k → w.heap.size ≤ k) ∧ PH own w' i n m [] rt0 .nilIface := by
  have HN := mkHid (hNew_heap n m w h1 h2 g1 g2)
  clear h1 h2 g1 g2
  go_enter Try.func8, Try.ntmps8
  go_wp2_with fail
  refine HN.out.mono ?_
  rintro e w1 ⟨i, own, rfl, hb, ho, hp⟩
  have HB := mkHid hb
  have HO := mkHid ho
  have HH := mkHid hp
  clear hb ho hp
  go_wp2_with fail
  go_ret
  exact ⟨i, own, rfl, HB.out, HO.out, HH.out⟩
section
variable {own : Nat → Prop} {w : World} {i : HId}
def aw1 : List Ob := [⟨1, 1, 0, false, [0, 0]⟩]
def aw2 : List Ob := [⟨1, 1, 0, false, [0, 0]⟩, ⟨2, 0, 1, false, [0]⟩]
def aw3 : List Ob := [⟨1, 1, 0, false, [4294967298, 0]⟩, ⟨2, 0, 1, false, [0]⟩]
theorem aw_make1 (h : PH own w i 100 10 [] rt0 .nilIface) : Calls Try.prog 21 #[.pointer (some ⟨i.H, 0, none⟩), .int .i64 1, .int .i64 1, .int .i64 2] w fun e w' => e = .returned (.tuple #[.int .u64 4294967297, .int .i64 0]) ∧ ∃ own', Mv own own' w w' ∧ PH own' w' i 100 10 aw1 rt0 .nilIface := ph_Make h 1 1 2 (by decide) (by decide) (by decide)
theorem aw_make2 (h : PH own w i 100 10 aw1 rt0 .nilIface) : Calls Try.prog 21 #[.pointer (some ⟨i.H, 0, none⟩), .int .i64 2, .int .i64 0, .int .i64 1] w fun e w' => e = .returned (.tuple #[.int .u64 4294967298, .int .i64 0]) ∧ ∃ own', Mv own own' w w' ∧ PH own' w' i 100 10 aw2 rt0 .nilIface := ph_Make h 2 0 1 (by decide) (by decide) (by decide)
theorem aw_ref (h : PH own w i 100 10 aw2 rt0 .nilIface) : Calls Try.prog 32 #[.pointer (some ⟨i.H, 0, none⟩), .int .u64 4294967297, .int .i64 0, .int .u64 4294967298] w fun e w' => e = .returned (.int .i64 0) ∧ Mv own own w w' ∧ PH own w' i 100 10 aw3 rt0 .nilIface := ph_SetRef h (k := 0) (j := 0) (y := 1) (by decide) (by decide) (by decide)
theorem aw_get (h : PH own w i 100 10 aw3 rt0 .nilIface) : Calls Try.prog 33 #[.pointer (some ⟨i.H, 0, none⟩), .int .u64 4294967297, .int .i64 0] w fun e w' => e = .returned (.tuple #[.int .u64 4294967298, .int .i64 0]) ∧ Below w.heap.size w w' := ph_Ref h (k := 0) (j := 0) (by decide) (by decide)
end
theorem fresh_100 (w : World) : Calls Try.prog 8 #[.int .i64 100, .int .i64 10] w fun e w' => ∃ i own, e = .returned (.pointer (some ⟨i.H, 0, none⟩)) ∧ Below w.heap.size w w' ∧ (∀ k, own k → w.heap.size ≤ k) ∧ PH own w' i 100 10 [] rt0 .nilIface := hFresh_any 100 10 w (by decide) (by decide) (by decide) (by decide)
theorem fresh_4096 (w : World) : Calls Try.prog 8 #[.int .i64 4096, .int .i64 256] w fun e w' => ∃ i own, e = .returned (.pointer (some ⟨i.H, 0, none⟩)) ∧ Below w.heap.size w w' ∧ (∀ k, own k → w.heap.size ≤ k) ∧ PH own w' i 4096 256 [] rt0 .nilIface := hFresh_any 4096 256 w (by decide) (by decide) (by decide) (by decide)
set_option maxHeartbeats 1000000 in
theorem awake9 (w : World) : Calls Try.prog 7 #[] w fun e w' => e = .returned (.bool true) ∧ Below w.heap.size w w' := by
  go_enter Try.func7, Try.ntmps7
  go_wp2_with fail
  refine (fresh_100 _).mono ?_
  rintro e w1 ⟨i, own, rfl, b1, ho, h1⟩
  have B1 := mkHid b1
  have HO := mkHid ho
  have H1 := mkHid h1
  clear b1 ho h1
  go_wp2_with fail
  refine (aw_make1 H1.out).mono ?_
  rintro e w2 ⟨rfl, own2, m2, h2⟩
  have M2 := mkHid m2
  have H2 := mkHid h2
  clear m2 h2
  go_wp2_with fail
  refine (aw_make2 H2.out).mono ?_
  rintro e w3 ⟨rfl, own3, m3, h3⟩
  have M3 := mkHid m3
  have H3 := mkHid h3
  clear m3 h3
  go_wp2_with fail
  refine (aw_ref H3.out).mono ?_
  rintro e w4 ⟨rfl, m4, h4⟩
  have M4 := mkHid m4
  have H4 := mkHid h4
  clear m4 h4
  go_wp2_with fail
  refine (aw_get H4.out).mono ?_
  rintro e w5 ⟨rfl, b5⟩
  have B5 := mkHid b5
  clear b5
  go_wp2_with fail
  go_ret
  have m := (M2.out.trans M3.out).trans M4.out
  have b1 := B1.out
  have hb := (m.below HO.out b1.size).1
  have hs := hb.size
  exact ⟨rfl, b1.trans (hb.trans (B5.out.mono (by have := b1.size; omega)))⟩
end Go.Proofs.Ytjappkiiokpjjaa

/- Rows of words that the statements keep beside a heap. -/
namespace Go.Proofs.Ytjappkiiokpjjaa
open Go.RowKit

/-- The handles of the first ones. -/
def hs1 (i : Nat) : List Nat := (List.range i).map fun j => hnd j 1
theorem hs1_len (i : Nat) : (hs1 i).length = i := by simp [hs1]
theorem hs1_succ (i : Nat) : hs1 (i + 1) = hs1 i ++ [hnd i 1] := by simp [hs1, List.range_succ]
theorem hs1_at {i j : Nat} (h : j < i) : (hs1 i).getD j 0 = hnd j 1 := by simp [hs1, h]
/-- A row of one's own that is none of the heap's. -/
def Rw (own : Nat → Prop) (w : World) (B e : Nat) (u : Value) (xs : List Value) : Prop := w.ownsRow B e 1 u xs.length xs ∧ ∀ k, u.ownBlock = some k → ¬ own k
section
variable {own own' : Nat → Prop} {w w' : World} {B e : Nat} {u : Value} {xs : List Value}
theorem Rw.nil (own : Nat → Prop) (w : World) (B e : Nat) : Rw own w B e (.slice none 0 0) [] := ⟨World.ownsRow_nil _ _ _ _, fun k h => by cases h⟩
theorem Rw.lt (h : Rw own w B e u xs) {k : Nat} (hk : u.ownBlock = some k) : B ≤ k ∧ k < w.heap.size := h.1.lt k hk
theorem Rw.same (h : Rw own w B e u xs) (hb : ∀ k, u.ownBlock = some k → w'.heap[k]? = w.heap[k]? ∧ ¬ own' k) : Rw own' w' B e u xs := by
  refine ⟨⟨h.1.1, ?_⟩, fun k hk => (hb k hk).2⟩
  rcases h.1.2 with h0 | ⟨g, cap, cur, rfl, h1, h2, h3⟩
  · exact Or.inl h0
  · exact Or.inr ⟨g, cap, cur, rfl, h1, by rw [(hb g rfl).1]; exact h2, h3⟩
theorem Rw.mv (h : Rw own w B e u xs) (m : Mv own own' w w') : Rw own' w' B e u xs := h.same fun k hk => ⟨m.chg.block k (h.lt hk).2 (h.2 k hk), fun e => (m.sub k e).elim (h.2 k hk) (fun e => by have := (h.lt hk).2; omega)⟩
theorem Rw.below (h : Rw own w B e u xs) (hb : Below w.heap.size w w') : Rw own w' B e u xs := h.mv (Mv.of_below hb)
theorem Rw.drew (h : Rw own w B e u xs) : Rw own w.drew B e u xs := h.same fun k hk => ⟨rfl, h.2 k hk⟩
theorem Rw.cells (h : Rw own w B e u xs) (h0 : 0 < xs.length) : ∃ g c, u = .slice (some ⟨g, 0, none⟩) xs.length c ∧ xs.length ≤ c ∧ c ≤ maxLen ∧ g < w.heap.size ∧ ¬ own g ∧ ∀ (j : Nat) (v : Value), xs[j]? = some v → w.cell? ⟨g, j, none⟩ = some v := by
  have h2 := h.2
  rcases h.1.2 with ⟨_, h0'⟩ | ⟨g, cap, cur, rfl, hb, hg, hnc, hcm, hcs, hcx⟩
  · omega
  · refine ⟨g, cap, rfl, hnc, hcm, (Array.getElem?_eq_some_iff.1 hg).1, h2 g rfl, fun j v hj => ?_⟩
    have hlt := (List.getElem?_eq_some_iff.1 hj).1
    rw [cell_of_row w g j _ _ _ hg, ← hj, ← hcx, List.getElem?_take_of_lt (by omega)]
    simp
theorem Rw.at_ {g n c : Nat} (h : Rw own w B e (.slice (some ⟨g, 0, none⟩) n c) xs) {j : Nat} {v : Value} (hj : xs[j]? = some v) : w.cell? ⟨g, j, none⟩ = some v := by
  have h0 := (List.getElem?_eq_some_iff.1 hj).1
  obtain ⟨g', c', e', _, _, _, _, h6⟩ := h.cells (by omega)
  cases e'
  exact h6 j v hj
theorem ucells_at {l : List Nat} {j : Nat} (hj : j < l.length) : (ucells l)[j]? = some (.int .u64 ((l.getD j 0 : Nat) : Int)) := by simp [ucells, hj]
theorem Rw.len (h : Rw own w B e u xs) : ∃ a c, u = .slice a xs.length c ∧ (0 < xs.length → ∃ g, a = some ⟨g, 0, none⟩) := by
  rcases h.1.2 with ⟨rfl, h0'⟩ | ⟨g, cap, cur, rfl, hb, hg, hnc, hcm, hcs, hcx⟩
  · exact ⟨none, 0, by rw [h0'], fun h => by omega⟩
  · exact ⟨_, cap, rfl, fun _ => ⟨g, rfl⟩⟩
end
theorem cell_new1 (w : World) (v : Value) (t : TypeId) : (w.alloc (.cells #[v] t)).cell? ⟨w.heap.size, 0, none⟩ = some v := by
  rw [cell_of_row _ _ 0 _ _ _ (heap_alloc_new w (.cells #[v] t))]; rfl
/-- append of one to such a row. -/
theorem wpList_append_rw {P : Program} {w : World} {ops : Array Oper} {rest : List Oper} {o : Oper} {a : Act} {Q : Exit → Act → World → Prop} {own : Nat → Prop} (hgd : o.guard = none) (s x : Operand) (t : TypeId)
    (ho : o.op = .call { callee := .builtin .append, args := #[s, x], argTypes := #[t, t] })
    (B : Nat) (e : TypeId) (i : TypeInfo) (z : Value) (bytes : Nat) (ht : P.underlying t = some (.slice e)) (hi : P.info? e = some i) (hz : i.zero = some z)
    (hsize : i.size = 1) (hby : i.bytes = bytes) (hzs : z.cells.size = 1)
    (v : Value) (xs : List Value) (hs : a.eval s = v) (hown : Rw own w B e v xs)
    (ad : Addr) (y : Value) (hx : a.eval x = .slice (some ad) 1 1) (hy : w.cell? ad = some y) (h1 : y.oneCell' = true)
    (h63 : xs.length + 1 ≤ maxLen) (hbytes : (xs.length + 1) * bytes ≤ 140737488355328) (hbase : B ≤ w.heap.size) (hlt : ∀ k, own k → k < w.heap.size)
    (h : ∀ u' w', Rw own w' B e u' (xs ++ [y]) → Chg (fun k => ¬ own k ∧ B ≤ k) w w' → wpList P ops Q rest (a.put o.dst u') w') : wpList P ops Q (o :: rest) a w := by
  refine wpList_append_lies w hgd s x t ho B e i z 1 bytes ht hi hz hsize hby hzs (by decide) v xs.length xs hs hown.1 ad 1 1 [y] hx rfl (fun j u hj => ?_) (fun u hu => ?_) (by decide) h63 hbytes hbase _ rfl fun g cap w' r1 r2 r3 _ => ?_
  · match j, hj with
    | 0, hj =>
      simp at hj
      subst hj
      have e0 : ad.add 0 = ad := by simp [Addr.add]
      rw [e0]; exact hy
  · simp at hu
    subst hu
    exact h1
  · refine h _ w' ⟨by rw [List.length_append]; exact r1, fun k hk hok => ?_⟩ ⟨r2.os, r2.tape, r2.output, r2.size, fun k hk hn => r2.block k hk fun e2 => hn ⟨fun ho => hown.2 k e2.symm ho, (hown.lt e2.symm).1⟩⟩
    have hkg : g = k := by simpa [Value.ownBlock] using hk
    subst hkg
    rcases r3 with r3 | r3
    · exact hown.2 g r3 hok
    · have := hlt g hok
      omega
end Go.Proofs.Ytjappkiiokpjjaa

/- Places of objects one behind the other; First. -/
namespace Go.Proofs.Ytjappkiiokpjjaa
open Go.RowKit

theorem place_succ : ∀ {Lo : List Ob} {k : Nat}, k < Lo.length → place Lo (k + 1) = place Lo k + osz (oat Lo k)
  | [], _, h => by simp at h
  | o :: r, 0, _ => by simp [place, tot, oat]
  | o :: r, k + 1, h => by
    have := place_succ (Lo := r) (k := k) (by simpa using h)
    unfold place at this ⊢
    simp only [List.take_succ_cons, tot]
    rw [show oat (o :: r) (k + 1) = oat r k by simp [oat]]
    omega
theorem place_all (Lo : List Ob) : place Lo Lo.length = tot Lo := by unfold place; rw [List.take_length]
theorem place_lt {Lo : List Ob} : ∀ {k : Nat}, k < Lo.length → place Lo k < tot Lo := by
  have key : ∀ n k, k + n = Lo.length → 0 < n → place Lo k < tot Lo := by
    intro n
    induction n with
    | zero => intro k _ h; omega
    | succ n ih =>
      intro k hk _
      have h1 := place_succ (Lo := Lo) (k := k) (by omega)
      have hz : osz (oat Lo k) = 1 + (oat Lo k).ws.length := rfl
      rcases Nat.eq_zero_or_pos n with h0 | h0
      · have : k + 1 = Lo.length := by omega
        have h2 := place_all Lo
        rw [← this] at h2
        omega
      · have := ih (k + 1) (by omega) h0
        omega
  intro k hk
  exact key (Lo.length - k) k (by omega) (by omega)
section
variable {w : World} {cap : Nat} {Lo : List Ob}
theorem obAt_place {k : Nat} (hk : k < Lo.length) : obAt Lo [] 0 (place Lo k) = some (oat Lo k) := by
  unfold obAt
  have := objAt_place Lo 0 k hk
  rw [Nat.zero_add] at this
  rw [this]
theorem at_First {A W B : Nat} (h : AT w A W B cap Lo [] 0 false) : Calls Try.prog 86 #[.pointer (some ⟨A, 0, none⟩)] w fun r w' => r = .returned (.int .i64 0) ∧ w' = w := by
  obtain ⟨ws, bs, top, low, high, h1, h2, h3⟩ := h
  obtain ⟨_, _, q1, q2, _⟩ := h3.cls rfl
  have := First_any h1
  rw [q1, q2] at this
  exact this
end
end Go.Proofs.Ytjappkiiokpjjaa
