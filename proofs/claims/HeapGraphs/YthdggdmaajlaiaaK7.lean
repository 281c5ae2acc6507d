/- Some texts in one: each opens with its own remark. -/
import Derived.Test.YthdggdmaajlaiaaK6
import Derived.Deep.AppendLies
import Derived.Deep.RegionWith
/- A slot is taken; a slot is let go. -/
namespace Go.Proofs.Ythdggdmaajlaiaa
open Go.RowKit

section
variable {w : World} {T np slots count begun freed : Nat} {v : Value} {pg : Nat → Nat} {f : Nat → Sl}
/-- A whole slot is written. -/
theorem Tr.setAll (h : Tr w T v np pg slots count begun freed f) {p : Nat} (hp : p < begun) (s : Sl) (hg : s.gen < 4294967296) (hn : s.num < 9223372036854775808) :
    Tr (((w.setCell ⟨pg (p / 64), p % 64 * 3, none⟩ (.int .i64 s.num)).setCell ⟨pg (p / 64), p % 64 * 3 + 1, none⟩ (.int .u32 s.gen)).setCell ⟨pg (p / 64), p % 64 * 3 + 2, none⟩ (.bool s.taken)) T v np pg slots count begun freed (upd f p s) := by
  have h1 := h.setSlot hp (c := 0) (by omega) (s := ⟨s.num, (f p).gen, (f p).taken⟩) (h.gen p) hn (fun d hd hne => by
    obtain rfl | rfl | rfl : d = 0 ∨ d = 1 ∨ d = 2 := by omega
    all_goals first | rfl | exact absurd rfl hne)
  have h2 := h1.setSlot hp (c := 1) (by omega) (s := ⟨s.num, s.gen, (f p).taken⟩) hg hn (fun d hd hne => by
    rw [upd_same]
    obtain rfl | rfl | rfl : d = 0 ∨ d = 1 ∨ d = 2 := by omega
    all_goals first | rfl | exact absurd rfl hne)
  have h3 := h2.setSlot hp (c := 2) (by omega) (s := s) hg hn (fun d hd hne => by
    rw [upd_same]
    obtain rfl | rfl | rfl : d = 0 ∨ d = 1 ∨ d = 2 := by omega
    all_goals first | rfl | exact absurd rfl hne)
  rw [upd_upd, upd_upd] at h3
  exact h3
theorem own_page {T np : Nat} {v : Value} {pg : Nat → Nat} {k : Nat} (hk : k < np) : ownT T v np pg (pg k) := Or.inr (Or.inr ⟨k, hk, rfl⟩)
theorem unlink_old (h : Tr w T v np pg slots count begun freed f) (q : Nat) (hf : freed = q + 1) (hn : (f q).num ≤ begun) : Calls Try.prog 43 #[.pointer (some ⟨T, 0, none⟩)] w fun e w' => e = .returned (.int .i64 q) ∧ Chg (ownT T v np pg) w w' ∧ Tr w' T v np pg slots count begun (f q).num f := by
  have hlen := h.len
  have hfew := h.few
  have hbl := h.begunLe
  have hfl := h.freedLe
  have HS := mkHid (slot_any h q (by omega) (by omega))
  obtain ⟨c0, c1, c2, c3, c4⟩ := h.cells
  have f3 := h.free 3
  have p0 := h.pcell (p := q) (by omega) (c := 0) (by omega)
  rw [show (f q).cell 0 = .int .i64 ((f q).num : Int) from rfl, Nat.add_zero] at p0
  obtain ⟨P, hP⟩ : ∃ P, P = pg (q / 64) := ⟨_, rfl⟩
  obtain ⟨j, hj⟩ : ∃ j, j = q % 64 * 3 := ⟨_, rfl⟩
  obtain ⟨N, hN⟩ : ∃ N, N = (f q).num := ⟨_, rfl⟩
  rw [← hN] at p0 hn ⊢
  rw [← hP, ← hj] at HS p0
  subst hf
  rw [show ((q + 1 : Nat) : Int) = (q : Int) + 1 by omega] at c3
  have hne : ((q : Int) + 1 == 0) = false := by simp; omega
  have HB := mkHid (h.setHead (i := 3) (x := .int .i64 (N : Int)) (count' := count) (freed' := N) h.countLe (by omega) (by simp))
  clear h hP hj hN hlen
  go_enter Try.func43, Try.ntmps43
  go_wp2_with fail
  refine HS.out.mono ?_
  rintro e w1 ⟨rfl, rfl⟩
  go_wp2_with fail
  go_ret
  exact ⟨rfl, (Chg.refl _ _).setCell (Or.inl (Or.inl rfl)) _ _, HB.out⟩
end
end Go.Proofs.Ythdggdmaajlaiaa

/- A slot that was never taken. -/
namespace Go.Proofs.Ythdggdmaajlaiaa
open Go.RowKit

/-- A page that is new. -/
def zpage : Array Value := pcells (fun _ => Sl.zero) 0
theorem zero_page (w : World) : Sem.run Try.prog (zeroValue 118) w = .ok (.agg zpage) w := by kernel_rfl
theorem infoPage : (Try.prog.info? 112).map (fun i => (i.zero, i.size, i.bytes)) = some (some (.pointer none), 1, 8) := by kernel_rfl
theorem zpage_eq {f : Nat → Sl} {k : Nat} (h : ∀ i, 64 * k ≤ i → f i = Sl.zero) : zpage = pcells f k := by
  unfold zpage pcells
  refine Array.map_congr_left fun i hi => ?_
  rw [h _ (by omega)]
/-- One page more. -/
def pgUp (pg : Nat → Nat) (np b : Nat) : Nat → Nat := fun k => if k = np then b else pg k
theorem pgUp_new (pg : Nat → Nat) (np b : Nat) : pgUp pg np b np = b := by simp [pgUp]
theorem pgUp_old (pg : Nat → Nat) {np k : Nat} (b : Nat) (h : k < np) : pgUp pg np b k = pg k := by unfold pgUp; rw [if_neg (by omega)]
theorem ptrs_up (pg : Nat → Nat) (np b : Nat) : ptrs (pgUp pg np b) (np + 1) = ptrs pg np ++ [.pointer (some ⟨b, 0, none⟩)] := by
  unfold ptrs
  rw [List.range_succ, List.map_append]
  congr 1
  · refine List.map_congr_left fun k hk => ?_
    rw [pgUp_old pg b (by simpa using hk)]
  · simp [pgUp_new]

section
variable {w : World} {T np slots count begun freed : Nat} {v : Value} {pg : Nat → Nat} {f : Nat → Sl}
theorem Tr.setBegun (h : Tr w T v np pg slots count begun freed f) (hb : begun < slots) (hz : begun % 64 ≠ 0) : Tr (w.setCell ⟨T, 2, none⟩ (.int .i64 ((begun : Int) + 1))) T v np pg slots count (begun + 1) freed f := by
  obtain ⟨a1, a2, a3⟩ := h.apart
  have hlen := h.len
  have hfl := h.freedLe
  have hbk : ∀ k, k ≠ T → (w.setCell ⟨T, 2, none⟩ (.int .i64 ((begun : Int) + 1))).heap[k]? = w.heap[k]? := fun k hk => Below.heap_setCell w _ _ k hk
  refine ⟨?_, ⟨h.row.1, ?_⟩, fun k hk => by rw [hbk _ (a1 k hk)]; exact h.page k hk, h.inj, by omega, h.few, by omega, h.countLe, by omega, h.gen, h.num, fun i hi => h.zero i (by omega)⟩
  · rw [heap_setCell_same w T 2 _ _ _ h.head]
    simp
  · rcases h.row.2 with h0 | ⟨g, cap, cur, rfl, h1, h2, h3⟩
    · exact Or.inl h0
    · exact Or.inr ⟨g, cap, cur, rfl, h1, by rw [hbk g (fun e => a2 (by rw [← e]; rfl))]; exact h2, h3⟩
theorem Tr.grow (h : Tr w T v np pg slots count begun freed f) (hb : begun < slots) (hz : begun = 64 * np) {w3 : World} {g cap : Nat} {o : Obj}
    (hown : w3.ownsRow 0 112 1 (.slice (some ⟨g, 0, none⟩) (np + 1) cap) (np + 1) (ptrs pg np ++ [.pointer (some ⟨w.heap.size, 0, none⟩)]))
    (hgr : ((w.alloc (.cells zpage 118)).alloc o).grownBy w3 v.ownBlock) (hat : v.ownBlock = some g ∨ g = w.heap.size + 2) :
    Tr ((w3.setCell ⟨T, 4, none⟩ (.slice (some ⟨g, 0, none⟩) (np + 1) cap)).setCell ⟨T, 2, none⟩ (.int .i64 ((begun : Int) + 1))) T (.slice (some ⟨g, 0, none⟩) (np + 1) cap) (np + 1) (pgUp pg np w.heap.size) slots count (begun + 1) freed f ∧
    Chg (ownT T v np pg) w ((w3.setCell ⟨T, 4, none⟩ (.slice (some ⟨g, 0, none⟩) (np + 1) cap)).setCell ⟨T, 2, none⟩ (.int .i64 ((begun : Int) + 1))) ∧
    (∀ k, ownT T (.slice (some ⟨g, 0, none⟩) (np + 1) cap) (np + 1) (pgUp pg np w.heap.size) k → ownT T v np pg k ∨ w.heap.size ≤ k) ∧
    w3.heap[T]? = w.heap[T]? := by
  obtain ⟨a1, a2, a3⟩ := h.apart
  have hlen := h.len
  have hfl := h.freedLe
  have hsz : w.heap.size + 2 ≤ w3.heap.size := by have := hgr.size; simpa using this
  have hbelow : Below w.heap.size w ((w.alloc (.cells zpage 118)).alloc o) := ((Below.refl _ w).alloc (Nat.le_refl _) _).alloc (by simp) _
  have hold : ∀ k, k < w.heap.size → v.ownBlock ≠ some k → w3.heap[k]? = w.heap[k]? := fun k hk hn => by
    rw [hgr.block k (by simp; omega) (fun e => hn e.symm), hbelow.block k hk]
  have hvlt : ∀ k, v.ownBlock = some k → k < w.heap.size := fun k hk => h.ownLt (Or.inr (Or.inl hk))
  have hTlt := h.lt
  have hplt : ∀ k, k < np → pg k < w.heap.size := fun k hk => h.ownLt (own_page hk)
  have hT3 : w3.heap[T]? = w.heap[T]? := hold T hTlt a2
  have hgT : g ≠ T := by
    rcases hat with e | e
    · intro e2; subst e2; exact a2 e
    · omega
  have hP3 : w3.heap[w.heap.size]? = some (.cells zpage 118 (0, 0)) := by
    rw [hgr.block w.heap.size (by simp; omega) (fun e => by have := hvlt _ e.symm; omega)]
    have hb2 : Below (w.alloc (.cells zpage 118)).heap.size (w.alloc (.cells zpage 118)) ((w.alloc (.cells zpage 118)).alloc o) := (Below.refl _ _).alloc (Nat.le_refl _) _
    rw [hb2.block w.heap.size (by simp)]
    exact heap_alloc_new w _
  obtain ⟨W5, hW5⟩ : ∃ W5, W5 = (w3.setCell ⟨T, 4, none⟩ (.slice (some ⟨g, 0, none⟩) (np + 1) cap)).setCell ⟨T, 2, none⟩ (.int .i64 ((begun : Int) + 1)) := ⟨_, rfl⟩
  have h5 : ∀ k, k ≠ T → W5.heap[k]? = w3.heap[k]? := fun k hk => by
    rw [hW5, Below.heap_setCell _ _ _ k hk, Below.heap_setCell _ _ _ k hk]
  have h5T : W5.heap[T]? = some (.cells #[.int .i64 slots, .int .i64 count, .int .i64 ((begun + 1 : Nat) : Int), .int .i64 freed, .slice (some ⟨g, 0, none⟩) (np + 1) cap] 84 (0, 0)) := by
    rw [hW5]
    have e1 := heap_setCell_same w3 T 4 _ _ (.slice (some ⟨g, 0, none⟩) (np + 1) cap) (by rw [hT3]; exact h.head)
    rw [heap_setCell_same _ T 2 _ _ _ e1]
    simp
  have hc5 : Chg (ownT T v np pg) w W5 := by
    have hc3 : Chg (ownT T v np pg) w w3 := ⟨hgr.os.trans hbelow.os, hgr.tape.trans hbelow.tape, hgr.output.trans hbelow.output, by omega, fun k hk hn => hold k hk (fun e => hn (Or.inr (Or.inl e)))⟩
    rw [hW5]
    exact (hc3.setCell (Or.inl (Or.inl rfl)) _ _).setCell (Or.inl (Or.inl rfl)) _ _
  rw [← hW5]
  refine ⟨⟨h5T, ⟨by rw [ptrs_up]; exact hown.1, ?_⟩, fun k hk => ?_, ?_, by omega, h.few, by omega, h.countLe, by omega, h.gen, h.num, fun i hi => h.zero i (by omega)⟩, hc5, fun k hk => ?_, hT3⟩
  · rcases hown.2 with ⟨e, _⟩ | ⟨g2, cap2, cur, e, h1, h2, h3⟩
    · cases e
    · cases e
      exact Or.inr ⟨g, cap, cur, rfl, h1, by rw [h5 g hgT]; exact h2, by rw [ptrs_up]; exact h3⟩
  · by_cases e : k = np
    · subst e
      rw [pgUp_new, h5 _ (by omega), hP3, zpage_eq (f := f) (k := k) (fun i hi => h.zero i (by omega))]
    · have hk' : k < np := by omega
      rw [pgUp_old pg _ hk', h5 _ (a1 k hk'), hold _ (hplt k hk') (a3 k hk')]
      exact h.page k hk'
  · intro i j hi hj e
    by_cases ei : i = np
    · by_cases ej : j = np
      · omega
      · have hj' : j < np := by omega
        rw [ei, pgUp_new, pgUp_old pg _ hj'] at e
        have := hplt j hj'; omega
    · have hi' : i < np := by omega
      rw [pgUp_old pg _ hi'] at e
      by_cases ej : j = np
      · rw [ej, pgUp_new] at e
        have := hplt i hi'; omega
      · have hj' : j < np := by omega
        rw [pgUp_old pg _ hj'] at e
        exact h.inj i j hi' hj' e
  · rcases hk with rfl | hk | ⟨i, hi, rfl⟩
    · exact Or.inl (Or.inl rfl)
    · cases hk
      rcases hat with e | e
      · exact Or.inl (Or.inr (Or.inl e))
      · exact Or.inr (by simp; omega)
    · by_cases e : i = np
      · rw [e, pgUp_new]; exact Or.inr (Nat.le_refl _)
      · have hi' : i < np := by omega
        rw [pgUp_old pg _ hi']
        exact Or.inl (own_page hi')
/-- What begins is told. -/
def BeginSay (w : World) (T : Nat) (v : Value) (np : Nat) (pg : Nat → Nat) (slots count begun freed : Nat) (f : Nat → Sl) (w' : World) : Prop :=
  ∃ v' np' pg', Tr w' T v' np' pg' slots count (begun + 1) freed (upd f begun ⟨0, 1, false⟩) ∧ Chg (ownT T v np pg) w w' ∧ ∀ k, ownT T v' np' pg' k → ownT T v np pg k ∨ w.heap.size ≤ k
set_option maxHeartbeats 1000000 in
theorem begin_new (h : Tr w T v np pg slots count begun freed f) (hb : begun < slots) (hz : begun = 64 * np) : Calls Try.prog 66 #[.pointer (some ⟨T, 0, none⟩)] w fun e w' => e = .returned (.int .i64 begun) ∧ BeginSay w T v np pg slots count begun freed f w' := by
  have hfew := h.few
  obtain ⟨c0, c1, c2, c3, c4⟩ := h.cells
  obtain ⟨va, vc, hv⟩ : ∃ va vc, v = .slice va np vc := by
    rcases h.row.2 with ⟨h0, h1⟩ | ⟨g, cap, cur, h0, _⟩
    · exact ⟨none, 0, by rw [h0, h1]⟩
    · exact ⟨_, _, h0⟩
  subst hv
  have hk : (begun : Int) / 64 = (np : Int) := by omega
  have hke : ((np : Int) == (np : Int)) = true := by simp
  have hb2 : begun < 1048576 := by omega
  have hzp := zero_page
  obtain ⟨i0, hi, hz0, hz1, hz2⟩ := info_parts infoPage
  have HT := mkHid h
  have HZ := mkHid hz
  have HBL := mkHid hb
  clear h hz hb
  go_enter Try.func66, Try.ntmps66
  go_wp2_with (at_builtin; refine wpList_append_lies _ rfl _ _ 82 rfl 0 112 i0 (.pointer none) 1 8 Try.underlying82 hi hz0 hz1 hz2 rfl (by decide) _ np (ptrs pg np) rfl ?c0 _ 1 1 [.pointer (some ⟨w.heap.size, 0, none⟩)] rfl rfl ?c1 ?c2 (by decide) ?c3 ?c4 ?c5 _ rfl ?_)
  case c0 => exact (HT.out.row.alloc _).alloc _
  case c1 =>
    intro j u hj
    match j, hj with
    | 0, hj => simp at hj; subst hj; simp [Addr.add]
  case c2 => intro u hu; simp at hu; subst hu; rfl
  case c3 => have := HZ.out; unfold maxLen; omega
  case c4 => have := HZ.out; omega
  case c5 => simp
  intro g cap w3 hown hgr hat hlt
  obtain ⟨R, hch, hsub, hT3⟩ := HT.out.grow HBL.out HZ.out hown hgr (by simpa using hat)
  have hd3 := hT3.trans HT.out.head
  have d2 : w3.cell? ⟨T, 2, none⟩ = some (.int .i64 (begun : Int)) := by rw [cell_of_row w3 T _ _ _ _ hd3]; rfl
  have d4 : w3.cell? ⟨T, 4, none⟩ = some (.slice va np vc) := by rw [cell_of_row w3 T _ _ _ _ hd3]; rfl
  have e2 := frozen_of_row w3 T 2 _ _ hd3
  have e4 := frozen_of_row w3 T 4 _ _ hd3
  have hbn : begun / 64 < np + 1 := by have := HZ.out; omega
  have HS := mkHid (slot_any R begun hbn hb2)
  have p1 := R.pcell (p := begun) hbn (c := 1) (by omega)
  have q1 := R.pfree (k := begun / 64) hbn (begun % 64 * 3 + 1)
  have hfz : f begun = Sl.zero := HT.out.zero begun (Nat.le_refl _)
  have HB := mkHid (R.setSlot (p := begun) (by omega) (c := 1) (by omega) (s := ⟨0, 1, false⟩) (by decide) (by decide) (fun d hd hne => by
    rw [hfz]
    obtain rfl | rfl | rfl : d = 0 ∨ d = 1 ∨ d = 2 := by omega
    all_goals first | rfl | exact absurd rfl hne))
  have HO : Hid (pgUp pg np w.heap.size (begun / 64) = w.heap.size) := by
    show _ = _
    rw [show begun / 64 = np by have := HZ.out; omega, pgUp_new]
  have HCH := mkHid hch
  have HSUB := mkHid hsub
  have HCC := mkHid ((hch.setCell (b := pgUp pg np w.heap.size (begun / 64)) (Or.inr (by rw [HO.out]; exact Nat.le_refl _))) (begun % 64 * 3 + 1) (.int .u32 1))
  obtain ⟨PP, hPP⟩ : ∃ PP, PP = pgUp pg np w.heap.size (begun / 64) := ⟨_, rfl⟩
  obtain ⟨j, hj⟩ : ∃ j, j = begun % 64 * 3 := ⟨_, rfl⟩
  rw [← hPP, ← hj] at HS p1 q1 HB HCC
  clear R hch hsub hT3 hd3 hown hgr hat hlt hfz hPP hj HO HT
  go_wp2_with fail
  refine HS.out.mono ?_
  rintro e w6 ⟨rfl, rfl⟩
  go_wp2_with fail
  go_ret
  exact ⟨rfl, _, _, _, HB.out, HCC.out, HSUB.out⟩
set_option maxHeartbeats 1000000 in
theorem begin_old (h : Tr w T v np pg slots count begun freed f) (hb : begun < slots) (hz : begun % 64 ≠ 0) : Calls Try.prog 66 #[.pointer (some ⟨T, 0, none⟩)] w fun e w' => e = .returned (.int .i64 begun) ∧ BeginSay w T v np pg slots count begun freed f w' := by
  have hfew := h.few
  have hlen := h.len
  obtain ⟨c0, c1, c2, c3, c4⟩ := h.cells
  have f2 := h.free 2
  obtain ⟨va, vc, hv⟩ : ∃ va vc, v = .slice va np vc := by
    rcases h.row.2 with ⟨h0, h1⟩ | ⟨g, cap, cur, h0, _⟩
    · exact ⟨none, 0, by rw [h0, h1]⟩
    · exact ⟨_, _, h0⟩
  subst hv
  obtain ⟨k, hk0⟩ : ∃ k, k = begun / 64 := ⟨_, rfl⟩
  have hk : (begun : Int) / 64 = (k : Int) := by omega
  have hke : ((k : Int) == (np : Int)) = false := by simp; omega
  have hb2 : begun < 1048576 := by omega
  have R := h.setBegun hb hz
  have hbn : begun / 64 < np := by omega
  have HS := mkHid (slot_any R begun hbn hb2)
  have p1 := R.pcell (p := begun) hbn (c := 1) (by omega)
  have q1 := R.pfree (k := begun / 64) hbn (begun % 64 * 3 + 1)
  have hfz : f begun = Sl.zero := h.zero begun (Nat.le_refl _)
  have HB := mkHid (R.setSlot (p := begun) (by omega) (c := 1) (by omega) (s := ⟨0, 1, false⟩) (by decide) (by decide) (fun d hd hne => by
    rw [hfz]
    obtain rfl | rfl | rfl : d = 0 ∨ d = 1 ∨ d = 2 := by omega
    all_goals first | rfl | exact absurd rfl hne))
  have HCC : Hid (Chg (ownT T (.slice va np vc) np pg) w ((w.setCell ⟨T, 2, none⟩ (.int .i64 ((begun : Int) + 1))).setCell ⟨pg (begun / 64), begun % 64 * 3 + 1, none⟩ (.int .u32 1))) :=
    ((Chg.refl _ _).setCell (Or.inl (Or.inl rfl)) _ _).setCell (Or.inl (own_page hbn)) _ _
  obtain ⟨PP, hPP⟩ : ∃ PP, PP = pg (begun / 64) := ⟨_, rfl⟩
  obtain ⟨j, hj⟩ : ∃ j, j = begun % 64 * 3 := ⟨_, rfl⟩
  rw [← hPP, ← hj] at HS p1 q1 HB HCC
  clear h R hb hz hlen hk0 hfz hPP hj hbn
  go_enter Try.func66, Try.ntmps66
  go_wp2_with fail
  refine HS.out.mono ?_
  rintro e w6 ⟨rfl, rfl⟩
  go_wp2_with fail
  go_ret
  exact ⟨rfl, _, _, _, HB.out, HCC.out, fun k hk => Or.inl hk⟩
theorem begin_any (h : Tr w T v np pg slots count begun freed f) (hb : begun < slots) : Calls Try.prog 66 #[.pointer (some ⟨T, 0, none⟩)] w fun e w' => e = .returned (.int .i64 begun) ∧ BeginSay w T v np pg slots count begun freed f w' := by
  by_cases hz : begun % 64 = 0
  · exact begin_new h hb (by have := h.len; omega)
  · exact begin_old h hb hz
end
end Go.Proofs.Ythdggdmaajlaiaa

/- New, Make, Free. -/
namespace Go.Proofs.Ythdggdmaajlaiaa
open Go.RowKit

section
variable {w : World} {T np slots count begun freed : Nat} {v : Value} {pg : Nat → Nat} {f : Nat → Sl}
theorem Make_arg (T : Nat) (n : Int) (w : World) (hn : n < 0) : Calls Try.prog 21 #[.pointer (some ⟨T, 0, none⟩), .int .i64 n] w fun e w' => e = .returned (.tuple #[.int .u64 0, .int .i64 1]) ∧ w' = w := by
  go_enter Try.func21, Try.ntmps21
  go_wp2_with fail
  go_ret2
  exact ⟨rfl, rfl⟩
theorem Make_full (h : Tr w T v np pg slots slots begun freed f) (n : Nat) : Calls Try.prog 21 #[.pointer (some ⟨T, 0, none⟩), .int .i64 n] w fun e w' => e = .returned (.tuple #[.int .u64 0, .int .i64 5]) ∧ w' = w := by
  have HC := mkHid (Count_any h)
  have HS := mkHid (Slots_any h)
  have h0 : ¬ ((n : Int) < 0) := by omega
  have he : ((slots : Int) == (slots : Int)) = true := by simp
  clear h
  go_enter Try.func21, Try.ntmps21
  go_wp2_with fail
  refine HC.out.mono ?_
  rintro e w1 ⟨rfl, rfl⟩
  go_wp2_with fail
  refine HS.out.mono ?_
  rintro e w1 ⟨rfl, rfl⟩
  go_wp2_with fail
  go_ret2
  exact ⟨rfl, rfl⟩
/-- From one table to another: what is changed, and whose blocks they are. -/
def Goes (w : World) (own : Nat → Prop) (w' : World) (T slots count begun freed : Nat) (f : Nat → Sl) : Prop :=
  ∃ v np pg, Tr w' T v np pg slots count begun freed f ∧ Chg own w w' ∧ ∀ k, ownT T v np pg k → own k ∨ w.heap.size ≤ k
set_option maxHeartbeats 1000000 in
theorem Make_go (h : Tr w T v np pg slots count begun freed f) (n p begun' freed' : Nat) (F : Nat → Sl) (hn : n < 9223372036854775808) (hc : count < slots) (hp : p < begun')
    (hU : Calls Try.prog 43 #[.pointer (some ⟨T, 0, none⟩)] w fun e w' => e = .returned (.int .i64 p) ∧ Goes w (ownT T v np pg) w' T slots count begun' freed' F) :
    Calls Try.prog 21 #[.pointer (some ⟨T, 0, none⟩), .int .i64 n] w fun e w' => e = .returned (.tuple #[.int .u64 (hnd p (F p).gen : Nat), .int .i64 0]) ∧ Goes w (ownT T v np pg) w' T slots (count + 1) begun' freed' (upd F p ⟨n, (F p).gen, true⟩) := by
  have HC := mkHid (Count_any h)
  have HS := mkHid (Slots_any h)
  have HU := mkHid hU
  have hfew := h.few
  have h0 : ¬ ((n : Int) < 0) := by omega
  have he : ((count : Int) == (slots : Int)) = false := by simp; omega
  have HC2 := mkHid hc
  have HP2 := mkHid hp
  have hc3 : count < 1048576 := by omega
  clear h hU hc hp
  go_enter Try.func21, Try.ntmps21
  go_wp2_with fail
  refine HC.out.mono ?_
  rintro e w1 ⟨rfl, rfl⟩
  go_wp2_with fail
  refine HS.out.mono ?_
  rintro e w1 ⟨rfl, rfl⟩
  go_wp2_with fail
  refine HU.out.mono ?_
  rintro e w2 ⟨rfl, v2, np2, pg2, R, hch, hsub⟩
  have hlen := R.len
  have hbl := R.begunLe
  have hp : p < begun' := HP2.out
  have hc : count < slots := HC2.out
  have hpn : p / 64 < np2 := by omega
  have HSL := mkHid (slot_any R p hpn (by omega))
  have p0 := R.pcell (p := p) hpn (c := 0) (by omega)
  have p2 := R.pcell (p := p) hpn (c := 2) (by omega)
  rw [Nat.add_zero] at p0
  have q0 := R.pfree (k := p / 64) hpn (p % 64 * 3)
  have q2 := R.pfree (k := p / 64) hpn (p % 64 * 3 + 2)
  have R1 := R.setSlot hp (c := 0) (by omega) (s := ⟨n, (F p).gen, (F p).taken⟩) (R.gen p) hn (fun d hd hne => by
    obtain rfl | rfl | rfl : d = 0 ∨ d = 1 ∨ d = 2 := by omega
    all_goals first | rfl | exact absurd rfl hne)
  have R2 := R1.setSlot hp (c := 2) (by omega) (s := ⟨n, (F p).gen, true⟩) (R.gen p) hn (fun d hd hne => by
    rw [upd_same]
    obtain rfl | rfl | rfl : d = 0 ∨ d = 1 ∨ d = 2 := by omega
    all_goals first | rfl | exact absurd rfl hne)
  rw [upd_upd, Nat.add_zero] at R2
  have R3 := R2.setHead (i := 1) (x := .int .i64 ((count : Int) + 1)) (count' := count + 1) (freed' := freed') (by omega) R2.freedLe (by simp)
  have HR := mkHid R3
  obtain ⟨_, d1, _, _, _⟩ := R2.cells
  have e1 := R2.free 1
  have g1 := R3.pcell (p := p) hpn (c := 1) (by omega)
  rw [upd_same] at g1
  have hgen := R.gen p
  have HK := mkHid (fun u : World => hpack_any p (F p).gen u (by omega) hgen)
  have HCH : Hid (Chg (ownT T v np pg) w1 _) := ((hch.setCell (b := pg2 (p / 64)) (hsub _ (own_page hpn)) (p % 64 * 3) (Sl.cell ⟨n, (F p).gen, (F p).taken⟩ 0)).setCell (b := pg2 (p / 64)) (hsub _ (own_page hpn)) (p % 64 * 3 + 2) (Sl.cell ⟨n, (F p).gen, true⟩ 2)).setCell (b := T) (hsub _ (Or.inl rfl)) 1 (.int .i64 ((count : Int) + 1))
  have HSUB := mkHid hsub
  simp only [Sl.cell] at d1 e1 g1 HR HCH
  obtain ⟨FF, hFF⟩ : ∃ FF, FF = upd F p ⟨n, (F p).gen, true⟩ := ⟨_, rfl⟩
  rw [← hFF] at HR
  have HFF := mkHid hFF
  obtain ⟨P, hP⟩ : ∃ P, P = pg2 (p / 64) := ⟨_, rfl⟩
  obtain ⟨j, hj⟩ : ∃ j, j = p % 64 * 3 := ⟨_, rfl⟩
  obtain ⟨G, hG⟩ : ∃ G, G = (F p).gen := ⟨_, rfl⟩
  rw [← hG] at g1 HK
  have HG := mkHid hG
  rw [← hP, ← hj] at HSL p0 p2 q0 q2 d1 e1 g1 HR HCH
  have hp4 : p < 1048576 := by omega
  clear R R1 R2 R3 hch hsub hlen hbl hp hc hpn hgen hFF hP hj hG
  go_wp2_with fail
  refine HSL.out.mono ?_
  rintro e w3 ⟨rfl, rfl⟩
  go_wp2_with fail
  refine (HK.out _).mono ?_
  rintro e w4 ⟨rfl, rfl⟩
  go_wp2_with fail
  go_ret2
  refine ⟨?_, _, _, _, by rw [← HFF.out]; exact HR.out, HCH.out, HSUB.out⟩
  rw [← HG.out]; rfl
theorem unlink_new (h : Tr w T v np pg slots count begun 0 f) (hb : begun < slots) : Calls Try.prog 43 #[.pointer (some ⟨T, 0, none⟩)] w fun e w' => e = .returned (.int .i64 begun) ∧ Goes w (ownT T v np pg) w' T slots count (begun + 1) 0 (upd f begun ⟨0, 1, false⟩) := by
  have HB := mkHid (begin_any h hb)
  obtain ⟨c0, c1, c2, c3, c4⟩ := h.cells
  clear h hb
  go_enter Try.func43, Try.ntmps43
  go_wp2_with fail
  refine HB.out.mono ?_
  rintro e w1 ⟨rfl, hg⟩
  go_wp2_with fail
  go_ret
  exact ⟨rfl, hg⟩
/-- Make takes the slot that was freed last. -/
theorem Make_old (h : Tr w T v np pg slots count begun freed f) (n q : Nat) (hn : n < 9223372036854775808) (hc : count < slots) (hf : freed = q + 1) (hq : (f q).num ≤ begun) :
    Calls Try.prog 21 #[.pointer (some ⟨T, 0, none⟩), .int .i64 n] w fun e w' => e = .returned (.tuple #[.int .u64 (hnd q (f q).gen : Nat), .int .i64 0]) ∧ Goes w (ownT T v np pg) w' T slots (count + 1) begun (f q).num (upd f q ⟨n, (f q).gen, true⟩) :=
  Make_go h n q begun (f q).num f hn hc (by have := h.freedLe; omega) ((unlink_old h q hf hq).mono fun _ _ hx => ⟨hx.1, _, _, _, hx.2.2, hx.2.1, fun _ hk => Or.inl hk⟩)
/-- Make takes the lowest slot that was never taken. -/
theorem Make_new (h : Tr w T v np pg slots count begun 0 f) (n : Nat) (hn : n < 9223372036854775808) (hc : count < slots) (hb : begun < slots) :
    Calls Try.prog 21 #[.pointer (some ⟨T, 0, none⟩), .int .i64 n] w fun e w' => e = .returned (.tuple #[.int .u64 (hnd begun 1 : Nat), .int .i64 0]) ∧ Goes w (ownT T v np pg) w' T slots (count + 1) (begun + 1) 0 (upd f begun ⟨n, 1, true⟩) := by
  have hm := Make_go h n begun (begun + 1) 0 _ hn hc (by omega) (unlink_new h hb)
  rw [upd_same, upd_upd] at hm
  exact hm
theorem hNew_bad (n : Int) (w : World) (h : ¬ (1 ≤ n ∧ n ≤ 1048576)) : Calls Try.prog 41 #[.int .i64 n] w fun e w' => e = .returned (.tuple #[.pointer none, .int .i64 1]) ∧ w' = w := by
  by_cases h0 : n < 1
  · clear h
    go_enter Try.func41, Try.ntmps41
    go_wp2_with fail
    go_ret2
    exact ⟨rfl, rfl⟩
  · have h1 : 1048576 < n := by omega
    clear h
    go_enter Try.func41, Try.ntmps41
    go_wp2_with fail
    go_ret2
    exact ⟨rfl, rfl⟩
theorem hNew_any (n : Nat) (w : World) (h1 : 1 ≤ n) (h2 : n ≤ 1048576) : Calls Try.prog 41 #[.int .i64 n] w fun e w' => e = .returned (.tuple #[.pointer (some ⟨w.heap.size, 0, none⟩), .int .i64 0]) ∧ Below w.heap.size w w' ∧ Tr w' w.heap.size (.slice none 0 0) 0 (fun _ => 0) n 0 0 0 (fun _ => Sl.zero) := by
  have g0 : ¬ ((n : Int) < 1) := by omega
  have g1 : ¬ (1048576 < (n : Int)) := by omega
  have HT : Hid (Tr (w.alloc (.cells #[.int .i64 (n : Int), .int .i64 0, .int .i64 0, .int .i64 0, .slice none 0 0] 84)) w.heap.size (.slice none 0 0) 0 (fun _ => 0) n 0 0 0 (fun _ => Sl.zero)) := by
    refine ⟨heap_alloc_new w _, ⟨rfl, Or.inl ⟨rfl, rfl⟩⟩, fun k hk => absurd hk (Nat.not_lt_zero _), fun i j hi => absurd hi (Nat.not_lt_zero _), rfl, h2, Nat.zero_le _, Nat.zero_le _, Nat.le_refl _, fun _ => by decide, fun _ => by decide, fun _ _ => rfl⟩
  have HB : Hid (Below w.heap.size w (w.alloc (.cells #[.int .i64 (n : Int), .int .i64 0, .int .i64 0, .int .i64 0, .slice none 0 0] 84))) := (Below.refl _ w).alloc (Nat.le_refl _) _
  clear h1 h2
  go_enter Try.func41, Try.ntmps41
  go_wp2_with fail
  go_ret2
  exact ⟨rfl, HB.out, HT.out⟩
end
end Go.Proofs.Ythdggdmaajlaiaa
