/- A slot that was never taken. -/
import Derived.Test.YtdmpbkdamdlefaaHMake
namespace Go.Proofs.Ytdmpbkdamdlefaa
open Go.RowKit

/-- A page that is new. -/
def zpage : Array Value := pcells (fun _ => Sl.zero) 0
theorem zero_page (w : World) : Sem.run Try.prog (zeroValue 82) w = .ok (.agg zpage) w := by kernel_rfl
theorem infoPage : (Try.prog.info? 79).map (fun i => (i.zero, i.size, i.bytes)) = some (some (.pointer none), 1, 8) := by kernel_rfl
theorem zpage_eq {f : Nat → Sl} {k : Nat} (h : ∀ i, 64 * k ≤ i → f i = Sl.zero) : zpage = pcells f k := by
  unfold zpage pcells
  refine Array.map_congr_left fun i hi => ?_
  rw [h _ (by omega)]
/-- One page more. -/
def pgUp (pg : Nat → Nat) (np b : Nat) : Nat → Nat := fun k => if k = np then b else pg k
theorem pgUp_new (pg : Nat → Nat) (np b : Nat) : pgUp pg np b np = b := by simp [pgUp]
theorem pgUp_old (pg : Nat → Nat) {np k : Nat} (b : Nat) (h : k < np) : pgUp pg np b k = pg k := by unfold pgUp; rw [if_neg (by omega)]
theorem ptrs_up (pg : Nat → Nat) (np b : Nat) : ptrs (pgUp pg np b) (np + 1) = ptrs pg np ++ [.pointer (some ⟨b, 0, none⟩)] := by
  unfold ptrs
  rw [List.range_succ, List.map_append]
  congr 1
  · refine List.map_congr_left fun k hk => ?_
    rw [pgUp_old pg b (by simpa using hk)]
  · simp [pgUp_new]

section
variable {w : World} {T np slots count begun freed : Nat} {v : Value} {pg : Nat → Nat} {f : Nat → Sl}
theorem Tr.setBegun (h : Tr w T v np pg slots count begun freed f) (hb : begun < slots) (hz : begun % 64 ≠ 0) : Tr (w.setCell ⟨T, 2, none⟩ (.int .i64 ((begun : Int) + 1))) T v np pg slots count (begun + 1) freed f := by
  obtain ⟨a1, a2, a3⟩ := h.apart
  have hlen := h.len
  have hfl := h.freedLe
  have hbk : ∀ k, k ≠ T → (w.setCell ⟨T, 2, none⟩ (.int .i64 ((begun : Int) + 1))).heap[k]? = w.heap[k]? := fun k hk => RowKit.Below.heap_setCell w _ _ k hk
  refine ⟨?_, ⟨h.row.1, ?_⟩, fun k hk => by rw [hbk _ (a1 k hk)]; exact h.page k hk, h.inj, by omega, h.few, by omega, h.countLe, by omega, h.gen, h.num, fun i hi => h.zero i (by omega)⟩
  · rw [heap_setCell_same w T 2 _ _ _ h.head]
    simp
  · rcases h.row.2 with h0 | ⟨g, cap, cur, rfl, h1, h2, h3⟩
    · exact Or.inl h0
    · exact Or.inr ⟨g, cap, cur, rfl, h1, by rw [hbk g (fun e => a2 (by rw [← e]; rfl))]; exact h2, h3⟩
theorem Tr.grow (h : Tr w T v np pg slots count begun freed f) (hb : begun < slots) (hz : begun = 64 * np) {w3 : World} {g cap : Nat} {o : Obj}
    (hown : w3.ownsRow 0 79 1 (.slice (some ⟨g, 0, none⟩) (np + 1) cap) (np + 1) (ptrs pg np ++ [.pointer (some ⟨w.heap.size, 0, none⟩)]))
    (hgr : ((w.alloc (.cells zpage 82)).alloc o).grownBy w3 v.ownBlock) (hat : v.ownBlock = some g ∨ g = w.heap.size + 2) :
    Tr ((w3.setCell ⟨T, 4, none⟩ (.slice (some ⟨g, 0, none⟩) (np + 1) cap)).setCell ⟨T, 2, none⟩ (.int .i64 ((begun : Int) + 1))) T (.slice (some ⟨g, 0, none⟩) (np + 1) cap) (np + 1) (pgUp pg np w.heap.size) slots count (begun + 1) freed f ∧
    Chg (ownT T v np pg) w ((w3.setCell ⟨T, 4, none⟩ (.slice (some ⟨g, 0, none⟩) (np + 1) cap)).setCell ⟨T, 2, none⟩ (.int .i64 ((begun : Int) + 1))) ∧
    (∀ k, ownT T (.slice (some ⟨g, 0, none⟩) (np + 1) cap) (np + 1) (pgUp pg np w.heap.size) k → ownT T v np pg k ∨ w.heap.size ≤ k) ∧
    w3.heap[T]? = w.heap[T]? := by
  obtain ⟨a1, a2, a3⟩ := h.apart
  have hlen := h.len
  have hfl := h.freedLe
  have hsz : w.heap.size + 2 ≤ w3.heap.size := by have := hgr.size; simpa using this
  have hbelow : RowKit.Below w.heap.size w ((w.alloc (.cells zpage 82)).alloc o) := ((RowKit.Below.refl _ w).alloc (Nat.le_refl _) _).alloc (by simp) _
  have hold : ∀ k, k < w.heap.size → v.ownBlock ≠ some k → w3.heap[k]? = w.heap[k]? := fun k hk hn => by
    rw [hgr.block k (by simp; omega) (fun e => hn e.symm), hbelow.block k hk]
  have hvlt : ∀ k, v.ownBlock = some k → k < w.heap.size := fun k hk => h.ownLt (Or.inr (Or.inl hk))
  have hTlt := h.lt
  have hplt : ∀ k, k < np → pg k < w.heap.size := fun k hk => h.ownLt (own_page hk)
  have hT3 : w3.heap[T]? = w.heap[T]? := hold T hTlt a2
  have hgT : g ≠ T := by
    rcases hat with e | e
    · intro e2; subst e2; exact a2 e
    · omega
  have hP3 : w3.heap[w.heap.size]? = some (.cells zpage 82 (0, 0)) := by
    rw [hgr.block w.heap.size (by simp; omega) (fun e => by have := hvlt _ e.symm; omega)]
    have hb2 : RowKit.Below (w.alloc (.cells zpage 82)).heap.size (w.alloc (.cells zpage 82)) ((w.alloc (.cells zpage 82)).alloc o) := (RowKit.Below.refl _ _).alloc (Nat.le_refl _) _
    rw [hb2.block w.heap.size (by simp)]
    exact heap_alloc_new w _
  obtain ⟨W5, hW5⟩ : ∃ W5, W5 = (w3.setCell ⟨T, 4, none⟩ (.slice (some ⟨g, 0, none⟩) (np + 1) cap)).setCell ⟨T, 2, none⟩ (.int .i64 ((begun : Int) + 1)) := ⟨_, rfl⟩
  have h5 : ∀ k, k ≠ T → W5.heap[k]? = w3.heap[k]? := fun k hk => by
    rw [hW5, RowKit.Below.heap_setCell _ _ _ k hk, RowKit.Below.heap_setCell _ _ _ k hk]
  have h5T : W5.heap[T]? = some (.cells #[.int .i64 slots, .int .i64 count, .int .i64 ((begun + 1 : Nat) : Int), .int .i64 freed, .slice (some ⟨g, 0, none⟩) (np + 1) cap] 68 (0, 0)) := by
    rw [hW5]
    have e1 := heap_setCell_same w3 T 4 _ _ (.slice (some ⟨g, 0, none⟩) (np + 1) cap) (by rw [hT3]; exact h.head)
    rw [heap_setCell_same _ T 2 _ _ _ e1]
    simp
  have hc5 : Chg (ownT T v np pg) w W5 := by
    have hc3 : Chg (ownT T v np pg) w w3 := ⟨hgr.os.trans hbelow.os, hgr.tape.trans hbelow.tape, hgr.output.trans hbelow.output, by omega, fun k hk hn => hold k hk (fun e => hn (Or.inr (Or.inl e)))⟩
    rw [hW5]
    exact (hc3.setCell (Or.inl (Or.inl rfl)) _ _).setCell (Or.inl (Or.inl rfl)) _ _
  rw [← hW5]
  refine ⟨⟨h5T, ⟨by rw [ptrs_up]; exact hown.1, ?_⟩, fun k hk => ?_, ?_, by omega, h.few, by omega, h.countLe, by omega, h.gen, h.num, fun i hi => h.zero i (by omega)⟩, hc5, fun k hk => ?_, hT3⟩
  · rcases hown.2 with ⟨e, _⟩ | ⟨g2, cap2, cur, e, h1, h2, h3⟩
    · cases e
    · cases e
      exact Or.inr ⟨g, cap, cur, rfl, h1, by rw [h5 g hgT]; exact h2, by rw [ptrs_up]; exact h3⟩
  · by_cases e : k = np
    · subst e
      rw [pgUp_new, h5 _ (by omega), hP3, zpage_eq (f := f) (k := k) (fun i hi => h.zero i (by omega))]
    · have hk' : k < np := by omega
      rw [pgUp_old pg _ hk', h5 _ (a1 k hk'), hold _ (hplt k hk') (a3 k hk')]
      exact h.page k hk'
  · intro i j hi hj e
    by_cases ei : i = np
    · by_cases ej : j = np
      · omega
      · have hj' : j < np := by omega
        rw [ei, pgUp_new, pgUp_old pg _ hj'] at e
        have := hplt j hj'; omega
    · have hi' : i < np := by omega
      rw [pgUp_old pg _ hi'] at e
      by_cases ej : j = np
      · rw [ej, pgUp_new] at e
        have := hplt i hi'; omega
      · have hj' : j < np := by omega
        rw [pgUp_old pg _ hj'] at e
        exact h.inj i j hi' hj' e
  · rcases hk with rfl | hk | ⟨i, hi, rfl⟩
    · exact Or.inl (Or.inl rfl)
    · cases hk
      rcases hat with e | e
      · exact Or.inl (Or.inr (Or.inl e))
      · exact Or.inr (by simp; omega)
    · by_cases e : i = np
      · rw [e, pgUp_new]; exact Or.inr (Nat.le_refl _)
      · have hi' : i < np := by omega
        rw [pgUp_old pg _ hi']
        exact Or.inl (own_page hi')
/-- What begins is told. -/
def BeginSay (w : World) (T : Nat) (v : Value) (np : Nat) (pg : Nat → Nat) (slots count begun freed : Nat) (f : Nat → Sl) (w' : World) : Prop :=
  ∃ v' np' pg', Tr w' T v' np' pg' slots count (begun + 1) freed (upd f begun ⟨0, 1, false⟩) ∧ Chg (ownT T v np pg) w w' ∧ ∀ k, ownT T v' np' pg' k → ownT T v np pg k ∨ w.heap.size ≤ k
set_option maxHeartbeats 1000000 in
theorem begin_new (h : Tr w T v np pg slots count begun freed f) (hb : begun < slots) (hz : begun = 64 * np) : Calls Try.prog 37 #[.pointer (some ⟨T, 0, none⟩)] w fun e w' => e = .returned (.int .i64 begun) ∧ BeginSay w T v np pg slots count begun freed f w' := by
  have hfew := h.few
  obtain ⟨c0, c1, c2, c3, c4⟩ := h.cells
  obtain ⟨va, vc, hv⟩ : ∃ va vc, v = .slice va np vc := by
    rcases h.row.2 with ⟨h0, h1⟩ | ⟨g, cap, cur, h0, _⟩
    · exact ⟨none, 0, by rw [h0, h1]⟩
    · exact ⟨_, _, h0⟩
  subst hv
  have hk : (begun : Int) / 64 = (np : Int) := by omega
  have hke : ((np : Int) == (np : Int)) = true := by simp
  have hb2 : begun < 1048576 := by omega
  have hzp := zero_page
  obtain ⟨i0, hi, hz0, hz1, hz2⟩ := info_parts infoPage
  have HT := mkHid h
  have HZ := mkHid hz
  have HBL := mkHid hb
  clear h hz hb
  go_enter Try.func37, Try.ntmps37
  go_wp2_with (at_builtin; refine wpList_append_lies _ rfl _ _ 66 rfl 0 79 i0 (.pointer none) 1 8 Try.underlying66 hi hz0 hz1 hz2 rfl (by decide) _ np (ptrs pg np) rfl ?c0 _ 1 1 [.pointer (some ⟨w.heap.size, 0, none⟩)] rfl rfl ?c1 ?c2 (by decide) ?c3 ?c4 ?c5 _ rfl ?_)
  case c0 => exact (HT.out.row.alloc _).alloc _
  case c1 =>
    intro j u hj
    match j, hj with
    | 0, hj => simp at hj; subst hj; simp [Addr.add]
  case c2 => intro u hu; simp at hu; subst hu; rfl
  case c3 => have := HZ.out; unfold maxLen; omega
  case c4 => have := HZ.out; omega
  case c5 => simp
  intro g cap w3 hown hgr hat hlt
  obtain ⟨R, hch, hsub, hT3⟩ := HT.out.grow HBL.out HZ.out hown hgr (by simpa using hat)
  have hd3 := hT3.trans HT.out.head
  have d2 : w3.cell? ⟨T, 2, none⟩ = some (.int .i64 (begun : Int)) := by rw [cell_of_row w3 T _ _ _ _ hd3]; rfl
  have d4 : w3.cell? ⟨T, 4, none⟩ = some (.slice va np vc) := by rw [cell_of_row w3 T _ _ _ _ hd3]; rfl
  have e2 := frozen_of_row w3 T 2 _ _ hd3
  have e4 := frozen_of_row w3 T 4 _ _ hd3
  have hbn : begun / 64 < np + 1 := by have := HZ.out; omega
  have HS := mkHid (slot_any R begun hbn hb2)
  have p1 := R.pcell (p := begun) hbn (c := 1) (by omega)
  have q1 := R.pfree (k := begun / 64) hbn (begun % 64 * 3 + 1)
  have hfz : f begun = Sl.zero := HT.out.zero begun (Nat.le_refl _)
  have HB := mkHid (R.setSlot (p := begun) (by omega) (c := 1) (by omega) (s := ⟨0, 1, false⟩) (by decide) (by decide) (fun d hd hne => by
    rw [hfz]
    obtain rfl | rfl | rfl : d = 0 ∨ d = 1 ∨ d = 2 := by omega
    all_goals first | rfl | exact absurd rfl hne))
  have HO : Hid (pgUp pg np w.heap.size (begun / 64) = w.heap.size) := by
    show _ = _
    rw [show begun / 64 = np by have := HZ.out; omega, pgUp_new]
  have HCH := mkHid hch
  have HSUB := mkHid hsub
  have HCC := mkHid ((hch.setCell (b := pgUp pg np w.heap.size (begun / 64)) (Or.inr (by rw [HO.out]; exact Nat.le_refl _))) (begun % 64 * 3 + 1) (.int .u32 1))
  obtain ⟨PP, hPP⟩ : ∃ PP, PP = pgUp pg np w.heap.size (begun / 64) := ⟨_, rfl⟩
  obtain ⟨j, hj⟩ : ∃ j, j = begun % 64 * 3 := ⟨_, rfl⟩
  rw [← hPP, ← hj] at HS p1 q1 HB HCC
  clear R hch hsub hT3 hd3 hown hgr hat hlt hfz hPP hj HO HT
  go_wp2_with fail
  refine HS.out.mono ?_
  rintro e w6 ⟨rfl, rfl⟩
  go_wp2_with fail
  go_ret
  exact ⟨rfl, _, _, _, HB.out, HCC.out, HSUB.out⟩
set_option maxHeartbeats 1000000 in
theorem begin_old (h : Tr w T v np pg slots count begun freed f) (hb : begun < slots) (hz : begun % 64 ≠ 0) : Calls Try.prog 37 #[.pointer (some ⟨T, 0, none⟩)] w fun e w' => e = .returned (.int .i64 begun) ∧ BeginSay w T v np pg slots count begun freed f w' := by
  have hfew := h.few
  have hlen := h.len
  obtain ⟨c0, c1, c2, c3, c4⟩ := h.cells
  have f2 := h.free 2
  obtain ⟨va, vc, hv⟩ : ∃ va vc, v = .slice va np vc := by
    rcases h.row.2 with ⟨h0, h1⟩ | ⟨g, cap, cur, h0, _⟩
    · exact ⟨none, 0, by rw [h0, h1]⟩
    · exact ⟨_, _, h0⟩
  subst hv
  obtain ⟨k, hk0⟩ : ∃ k, k = begun / 64 := ⟨_, rfl⟩
  have hk : (begun : Int) / 64 = (k : Int) := by omega
  have hke : ((k : Int) == (np : Int)) = false := by simp; omega
  have hb2 : begun < 1048576 := by omega
  have R := h.setBegun hb hz
  have hbn : begun / 64 < np := by omega
  have HS := mkHid (slot_any R begun hbn hb2)
  have p1 := R.pcell (p := begun) hbn (c := 1) (by omega)
  have q1 := R.pfree (k := begun / 64) hbn (begun % 64 * 3 + 1)
  have hfz : f begun = Sl.zero := h.zero begun (Nat.le_refl _)
  have HB := mkHid (R.setSlot (p := begun) (by omega) (c := 1) (by omega) (s := ⟨0, 1, false⟩) (by decide) (by decide) (fun d hd hne => by
    rw [hfz]
    obtain rfl | rfl | rfl : d = 0 ∨ d = 1 ∨ d = 2 := by omega
    all_goals first | rfl | exact absurd rfl hne))
  have HCC : Hid (Chg (ownT T (.slice va np vc) np pg) w ((w.setCell ⟨T, 2, none⟩ (.int .i64 ((begun : Int) + 1))).setCell ⟨pg (begun / 64), begun % 64 * 3 + 1, none⟩ (.int .u32 1))) :=
    ((Chg.refl _ _).setCell (Or.inl (Or.inl rfl)) _ _).setCell (Or.inl (own_page hbn)) _ _
  obtain ⟨PP, hPP⟩ : ∃ PP, PP = pg (begun / 64) := ⟨_, rfl⟩
  obtain ⟨j, hj⟩ : ∃ j, j = begun % 64 * 3 := ⟨_, rfl⟩
  rw [← hPP, ← hj] at HS p1 q1 HB HCC
  clear h R hb hz hlen hk0 hfz hPP hj hbn
  go_enter Try.func37, Try.ntmps37
  go_wp2_with fail
  refine HS.out.mono ?_
  rintro e w6 ⟨rfl, rfl⟩
  go_wp2_with fail
  go_ret
  exact ⟨rfl, _, _, _, HB.out, HCC.out, fun k hk => Or.inl hk⟩
theorem begin_any (h : Tr w T v np pg slots count begun freed f) (hb : begun < slots) : Calls Try.prog 37 #[.pointer (some ⟨T, 0, none⟩)] w fun e w' => e = .returned (.int .i64 begun) ∧ BeginSay w T v np pg slots count begun freed f w' := by
  by_cases hz : begun % 64 = 0
  · exact begin_new h hb (by have := h.len; omega)
  · exact begin_old h hb hz
end
end Go.Proofs.Ytdmpbkdamdlefaa
