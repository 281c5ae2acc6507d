/- The document's met. -/
import Derived.Test.YtjappkiiokpjjaaK15
import Derived.Test.YtjappkiiokpjjaaZRHMake
import Derived.Deep.RegionHeld3
namespace Go.Proofs.Ytjappkiiokpjjaa
open Go.RowKit

theorem metX_take (Os : List Ob) (o ys : List Nat) {j : Nat} (hj : j < ys.length) : metX Os o (ys.take (j + 1)) = metO Os (metX Os o (ys.take j)) (ys.getD j 0) := by
  unfold metX
  rw [List.take_add_one, List.foldl_append]
  simp [hj]
/-- The blocks that may be changed: the heap's, and the row of what was met. -/
def owO (own : Nat → Prop) (v : Value) : Nat → Prop := fun k => own k ∨ v.ownBlock = some k
theorem chg_more {p : Nat → Prop} {w u u' : World} (h : Chg p w u) (hb : Below u.heap.size u u') : Chg p w u' := ⟨hb.os.trans h.os, hb.tape.trans h.tape, hb.output.trans h.output, Nat.le_trans h.size hb.size, fun k hk hn => by rw [hb.block k (Nat.lt_of_lt_of_le hk h.size), h.block k hk hn]⟩
theorem rw_ri {own : Nat → Prop} {w : World} {B n c : Nat} {a : Option Addr} {xs : List Nat} (h : Rw own w B 27 (.slice a n c) (ucells xs)) : RI (fun _ => False) w a xs := by
  rcases Nat.eq_zero_or_pos xs.length with h0 | h0
  · exact Or.inl (List.eq_nil_of_length_eq_zero h0)
  · obtain ⟨g, c', e, _, _, hg, _, hc⟩ := h.cells (by rw [ucells_len]; exact h0)
    cases e
    exact Or.inr ⟨g, rfl, fun j hj => ⟨hc j _ (ucells_at hj), hg, fun e => e⟩⟩
theorem met_few {Os : List Ob} {out : List Nat} (h1 : out.Nodup) (h2 : ∀ x ∈ out, (look (plL 0 Os) x).isSome = true) (_hb : Os.length ≤ 1048576) (zs : List Nat) : (metX Os out zs).length ≤ Os.length := by
  have hsub : ∀ x, x ∈ metX Os out zs → x ∈ hs1 Os.length := fun x hx => by
    have hs : (look (plL 0 Os) x).isSome = true := by
      rcases (metX_mem Os zs out x).1 hx with h | h
      · exact h2 x h
      · exact h.2
    obtain ⟨j, hj⟩ := Option.isSome_iff_exists.1 hs
    have := look_pl_some hj
    rw [this.2]
    unfold hs1
    exact List.mem_map.2 ⟨j, List.mem_range.2 this.1, rfl⟩
  have := List.Nodup.length_le_of_subset (metX_nodup Os zs out h1) hsub
  rw [hs1_len] at this
  exact this
theorem numI_no {xs : List Nat} {x : Nat} (h : x ∉ xs) : numI xs x = -1 := numI_miss (fun k hk e => h (by
  rw [← e, List.getD_eq_getElem?_getD, List.getElem?_eq_getElem hk]; exact List.getElem_mem hk))
theorem mv_row {own : Nat → Prop} {v0 v u : Value} {W w1 w2 : World} (m : Mv (owO own v0) (owO own v) W w1) (hc : Chg (fun k => v.ownBlock = some k) w1 w2) (hu : ∀ k, u.ownBlock = some k → v.ownBlock = some k ∨ w1.heap.size ≤ k) : Mv (owO own v0) (owO own u) W w2 :=
  m.trans ⟨hc.mono fun k _ h => Or.inr h, fun k hk => by
    rcases hk with hk | hk
    · exact Or.inl (Or.inl hk)
    · rcases hu k hk with h | h
      · exact Or.inl (Or.inr h)
      · exact Or.inr h⟩
theorem chg_row {own : Nat → Prop} {v0 v : Value} {W w1 w2 : World} (m : Mv (owO own v0) (owO own v) W w1) (h : Chg (fun k => v0.ownBlock = some k) W w1) (hc : Chg (fun k => v.ownBlock = some k) w1 w2) (hn : ∀ k, v.ownBlock = some k → ¬ own k) : Chg (fun k => v0.ownBlock = some k) W w2 :=
  ⟨hc.os.trans h.os, hc.tape.trans h.tape, hc.output.trans h.output, Nat.le_trans h.size hc.size, fun k hk hk2 => by
    rw [hc.block k (Nat.lt_of_lt_of_le hk h.size) (fun e => ?_), h.block k hk hk2]
    rcases m.sub k (Or.inr e) with (h1 | h1) | h1
    · exact hn k e h1
    · exact hk2 h1
    · omega⟩
section
variable {own : Nat → Prop} {w : World}
set_option maxHeartbeats 4000000 in
set_option maxRecDepth 100000 in
theorem rhMet {a : Option Addr} {Os : List Ob} {ov : Value} (hm : MH (owO own ov) w a Os) (hown : ∀ k, own k → k < w.heap.size) (hb : Os.length ≤ 1048576) {l : List Value} (hl : l.length = 16) {c : Nat} {out : List Nat} (hout : Rw own w 0 27 ov (ucells out)) (hol : out.Nodup ∧ ∀ x ∈ out, (look (plL 0 Os) x).isSome = true) {ys : List Nat} {ra : Option Addr} {rc : Nat} (hys : ys = [] ∨ ∃ rb ro, ra = some ⟨rb, ro, none⟩ ∧ ∀ j, j < ys.length → Im (owO own ov) w rb (ro + j) (.int .u64 ((ys.getD j 0 : Nat) : Int))) (hyl : ys.length ≤ 1048576) (hyw : ∀ j, ys.getD j 0 < 18446744073709551616) : Calls Try.prog 83 #[.agg (Value.slice a Os.length c :: l).toArray, ov, .slice ra ys.length rc] w fun e w' => ∃ ov', e = .returned ov' ∧ Mv (owO own ov) (owO own ov') w w' ∧ Chg (fun k => ov.ownBlock = some k) w w' ∧ Rw own w' 0 27 ov' (ucells (metX Os out ys)) := by
  obtain ⟨i0, hi, hz0, hz1, hz2⟩ := info_parts infoU64
  obtain ⟨n, hn⟩ : ∃ n, n = Os.length := ⟨_, rfl⟩
  obtain ⟨rn, hrn⟩ : ∃ rn, rn = ys.length := ⟨_, rfl⟩
  rw [← hn, ← hrn]
  have HN := mkHid hn
  have HRN := mkHid hrn
  obtain ⟨ao, co, e0, _⟩ := hout.len
  rw [ucells_len] at e0
  obtain ⟨W, hW⟩ : ∃ W, W = w.alloc (.cells (Value.slice a n c :: l).toArray 30) := ⟨_, rfl⟩
  have hbw : Below w.heap.size w W := by rw [hW]; exact (Below.refl _ _).alloc (Nat.le_refl _) _
  have HM := mkHid (hm.mv (Mv.of_below hbw))
  have HYS0 : Hid (ys = [] ∨ ∃ rb ro, ra = some ⟨rb, ro, none⟩ ∧ ∀ j, j < ys.length → Im (owO own ov) W rb (ro + j) (.int .u64 ((ys.getD j 0 : Nat) : Int))) := hys.imp id (fun ⟨rb, ro, e, h⟩ => ⟨rb, ro, e, fun j hj => (h j hj).below hbw⟩)
  have HO0 := mkHid (hout.below hbw)
  have HBW := mkHid hbw
  have HOW := mkHid hown
  have HOL := mkHid hol
  have HPL : Hid (∀ k, ov.ownBlock = some k → k < w.heap.size) := fun k hk => (hout.lt hk).2
  have HYW := mkHid hyw
  have hBX : W.heap[w.heap.size]? = some (.cells (Value.slice a n c :: l).toArray 30 (0, 0)) := by rw [hW]; exact heap_alloc_new _ _
  have HBX := mkHid hBX
  have HW := mkHid hW
  have hl17 : (Value.slice a n c :: l).length = 17 := by simp [hl]
  have hnb : n ≤ 1048576 := by omega
  have hrb : rn ≤ 1048576 := by omega
  subst e0
  clear hm hys hout hbw hown hol hyw hBX hW hn hrn hb hyl hl
  go_enter Try.func83, Try.ntmps83
  refine wp_seq_k (fun K1 hkA => ?_)
  have HK1 := mkHid hkA
  clear hkA
  go_wp2_with fail
  rw [← HW.out]
  refine HK1.out _ _ ?_
  clear HK1
  go_wp2_with fail
  go_loopw [1, 7] (fun u yy wr => ∃ (j : Nat) (oa : Option Addr) (oc : Nat) (outj : List Nat), yy = .int .i64 j ∧ u = .slice oa outj.length oc ∧ outj = metX Os out (ys.take j) ∧ j ≤ rn ∧ Mv (owO own (.slice ao out.length co)) (owO own u) W wr ∧ Chg (fun k => (Value.slice ao out.length co).ownBlock = some k) W wr ∧ Rw own wr 0 27 u (ucells outj)) (fun _ yy _ => rn - (intOf yy).toNat)
  case atStart => exact ⟨0, ao, co, out, rfl, rfl, by simp [metX], Nat.zero_le _, Mv.refl _ _, Chg.refl _ _, HO0.out⟩
  case round =>
    obtain ⟨j, oa, oc, outj, rfl, rfl, hoj, hj, hmv, hch, hrw⟩ := hrel
    have HOJ := mkHid hoj
    by_cases hlt : j < rn
    · obtain ⟨rb, ro, rfl, hys⟩ : ∃ rb ro, ra = some ⟨rb, ro, none⟩ ∧ ∀ j, j < ys.length → Im (owO own (.slice ao out.length co)) W rb (ro + j) (.int .u64 ((ys.getD j 0 : Nat) : Int)) := by
        rcases HYS0.out with h | h
        · have := HRN.out; rw [h] at this; simp at this; omega
        · exact h
      have HYS := mkHid hys
      clear hys
      obtain ⟨y, hy⟩ : ∃ y, y = ys.getD j 0 := ⟨_, rfl⟩
      have HMT : Hid (metX Os out (ys.take (j + 1)) = metO Os outj y) := by
        show _ = _
        rw [metX_take Os out ys (by rw [← HRN.out]; exact hlt), ← hoj, ← hy]
      have hyc := (HYS.out j (by rw [← HRN.out]; exact hlt)).mv hmv
      rw [← hy] at hyc
      have hyw : y < 18446744073709551616 := by rw [hy]; exact HYW.out j
      have hnb2 : ¬ owO own (.slice ao out.length co) w.heap.size := by
        rintro (e | e)
        · have := HOW.out _ e; omega
        · have := (HO0.out.lt e)
          have h2 := HPL.out _ e
          omega
      have hbx : wr.heap[w.heap.size]? = _ := (hmv.chg.block w.heap.size (Array.getElem?_eq_some_iff.1 HBX.out).1 hnb2).trans HBX.out
      have hra : wr.rangeAt w.heap.size 0 (Value.slice a n c :: l) := fun j v hv => by
        rw [cell_of_row wr _ _ _ _ _ hbx, Nat.zero_add]; simpa using hv
      have hS0 : wr.drew.cell? ⟨rb, ro + j, none⟩ = some (.int .u64 (y : Int)) ∧ wr.drew.rangeAt w.heap.size 0 (Value.slice a n c :: l) := ⟨hyc.1, hra⟩
      have HSB : Hid (∀ v, Below wr.drew.heap.size wr.drew v → v.cell? ⟨rb, ro + j, none⟩ = some (.int .u64 (y : Int)) ∧ v.rangeAt w.heap.size 0 (Value.slice a n c :: l)) := fun v hv => ⟨by rw [hv.cell (p := ⟨rb, ro + j, none⟩) hyc.2.1]; exact hyc.1, fun q u hu => by rw [hv.cell (p := ⟨w.heap.size, 0 + q, none⟩) (Array.getElem?_eq_some_iff.1 hbx).1]; exact hra q u hu⟩
      have hmh : MH (owO own (.slice oa outj.length oc)) wr.drew a Os := HM.out.mv hmv.drew
      have hat := rhAt hmh (by rw [← HN.out]; exact hnb) c l y
      rw [← HN.out] at hat
      have hof : outj.length ≤ 1048576 := by
        rw [hoj]
        exact Nat.le_trans (met_few HOL.out.1 HOL.out.2 (by rw [← HN.out]; exact hnb) _) (by rw [← HN.out]; exact hnb)
      have HOF := mkHid hof
      have HNU : Hid (∀ v, Below wr.drew.heap.size wr.drew v → Calls Try.prog 69 #[.slice oa outj.length oc, .int .u64 y] v fun e w' => e = .returned (.int .i64 (numI outj y)) ∧ w' = v) := fun v hv => rhNumber (own := fun _ => False) (rw_ri (hrw.drew.below hv)) hof oc y
      have HMV := mkHid hmv
      have HCH := mkHid hch
      have HRW := mkHid hrw
      have hj0 : (0 : Int) ≤ (j : Int) := by omega
      have hj1 : (j : Int) < (rn : Int) := by omega
      have HAT := mkHid hat
      clear hmv hch hrw hoj hyc hnb2 hbx hra hmh hat hof hy
      rcases hlk : look (plL 0 Os) y with _ | k
      · have HMO : Hid (metO Os outj y = outj) := by
          show _ = _
          unfold metO; rw [hlk]; simp
        have hax := atX_none hlk
        by_cases hy0 : y = 0
        · have hyq : ((y : Int) != 0) = false := by rw [hy0]; rfl
          have hyq2 : ((y : Int) == 0) = true := by rw [hy0]; rfl
          clear hax hlk hy0 HAT HNU
          go_wp2_with fail
          refine wp_region_held_drew (S := fun u => u.cell? ⟨rb, ro + j, none⟩ = some (.int .u64 (y : Int)) ∧ u.rangeAt w.heap.size 0 (Value.slice a n c :: l)) (by kernel_rfl) hS0 (fun hHeld => ?_)
          refine wpAnyH_take (i := 0) (oi := ⟨some 14, .move (.tmp 2), 31, "ref.go:62", #[], none⟩) (v := .slice (some ⟨rb, ro, none⟩) rn rc) rfl (by kernel_rfl) (by kernel_rfl) (by kernel_rfl) (fun _ _ _ h => h) (Or.inl ⟨by rfl, ?_⟩) hHeld ?_
          · intro wq hSq
            have hSq1 := hSq.1
            clear hSq
            go_simp
          (try simp only [Act.put, Sx0, Sx1, Sx2])
          refine wpAnyH_take (i := 1) (oi := ⟨some 15, .move (.tmp 7), 3, "ref.go:62", #[], none⟩) (v := .int .i64 j) rfl (by kernel_rfl) (by kernel_rfl) (by kernel_rfl) (fun _ _ _ h => h) (Or.inl ⟨by rfl, ?_⟩) hHeld ?_
          · intro wq hSq
            have hSq1 := hSq.1
            clear hSq
            go_simp
          (try simp only [Act.put, Sx0, Sx1, Sx2])
          refine wpAnyH_take (i := 2) (oi := ⟨some 16, .indexAddr 31 (.tmp 14) (.tmp 15), 0, "ref.go:62", #[⟨0, .data⟩, ⟨1, .data⟩], none⟩) (v := .pointer (some ⟨rb, ro + j, none⟩)) rfl (by kernel_rfl) (by kernel_rfl) (by kernel_rfl) (fun _ _ _ h => h) (Or.inl ⟨by rfl, ?_⟩) hHeld ?_
          · intro wq hSq
            have hSq1 := hSq.1
            clear hSq
            go_simp
          (try simp only [Act.put, Sx0, Sx1, Sx2])
          refine wpAnyH_take (i := 3) (oi := ⟨some 17, .load 27 (.tmp 16), 27, "ref.go:62", #[⟨2, .data⟩], none⟩) (v := .int .u64 y) rfl (by kernel_rfl) (by kernel_rfl) (by kernel_rfl) (fun _ _ _ h => h) (Or.inl ⟨by rfl, ?_⟩) hHeld ?_
          · intro wq hSq
            have hSq1 := hSq.1
            clear hSq
            go_simp
          (try simp only [Act.put, Sx0, Sx1, Sx2])
          refine wpAnyH_take (i := 4) (oi := ⟨some 18, .binOp .neq 27 (.tmp 17) (.const (.int .u64 0)) 27, 4, "ref.go:62", #[⟨3, .data⟩], none⟩) (v := .bool false) rfl (by kernel_rfl) (by kernel_rfl) (by kernel_rfl) (fun _ _ _ h => h) (Or.inl ⟨by rfl, ?_⟩) hHeld ?_
          · intro wq hSq
            have hSq1 := hSq.1
            clear hSq
            go_simp
          (try simp only [Act.put, Sx0, Sx1, Sx2])
          refine wpAnyH_take (i := 5) (oi := ⟨some 19, .move (.tmp 18), 4, "ref.go:62", #[⟨4, .data⟩], none⟩) (v := .bool false) rfl (by kernel_rfl) (by kernel_rfl) (by kernel_rfl) (fun _ _ _ h => h) (Or.inl ⟨by rfl, ?_⟩) hHeld ?_
          · intro wq hSq
            have hSq1 := hSq.1
            clear hSq
            go_simp
          (try simp only [Act.put, Sx0, Sx1, Sx2])
          refine wpAnyH_take (i := 6) (oi := ⟨some 20, .load 30 (.tmp 3), 30, "ref.go:62", #[⟨5, .guard⟩], some (5, true)⟩) (v := undef) rfl (by kernel_rfl) (by kernel_rfl) (by kernel_rfl) (fun _ _ _ h => h) (Or.inr ⟨by rfl, rfl⟩) hHeld ?_
          (try simp only [Act.put, Sx0, Sx1, Sx2])
          refine wpAnyH_take (i := 7) (oi := ⟨some 21, .move (.tmp 2), 31, "ref.go:62", #[⟨5, .guard⟩], some (5, true)⟩) (v := undef) rfl (by kernel_rfl) (by kernel_rfl) (by kernel_rfl) (fun _ _ _ h => h) (Or.inr ⟨by rfl, rfl⟩) hHeld ?_
          (try simp only [Act.put, Sx0, Sx1, Sx2])
          refine wpAnyH_take (i := 8) (oi := ⟨some 22, .move (.tmp 7), 3, "ref.go:62", #[⟨5, .guard⟩], some (5, true)⟩) (v := undef) rfl (by kernel_rfl) (by kernel_rfl) (by kernel_rfl) (fun _ _ _ h => h) (Or.inr ⟨by rfl, rfl⟩) hHeld ?_
          (try simp only [Act.put, Sx0, Sx1, Sx2])
          refine wpAnyH_take (i := 9) (oi := ⟨some 23, .indexAddr 31 (.tmp 21) (.tmp 22), 0, "ref.go:62", #[⟨7, .data⟩, ⟨8, .data⟩, ⟨5, .guard⟩], some (5, true)⟩) (v := undef) rfl (by kernel_rfl) (by kernel_rfl) (by kernel_rfl) (fun _ _ _ h => h) (Or.inr ⟨by rfl, rfl⟩) hHeld ?_
          (try simp only [Act.put, Sx0, Sx1, Sx2])
          refine wpAnyH_take (i := 10) (oi := ⟨some 24, .load 27 (.tmp 23), 27, "ref.go:62", #[⟨9, .data⟩, ⟨5, .guard⟩], some (5, true)⟩) (v := undef) rfl (by kernel_rfl) (by kernel_rfl) (by kernel_rfl) (fun _ _ _ h => h) (Or.inr ⟨by rfl, rfl⟩) hHeld ?_
          (try simp only [Act.put, Sx0, Sx1, Sx2])
          refine wpAnyH_take (i := 11) (oi := ⟨some 25, .call ⟨.value (.func 19), #[.tmp 20, .tmp 24], #[30, 27]⟩, 3, "ref.go:62", #[⟨6, .data⟩, ⟨10, .data⟩, ⟨5, .chain⟩, ⟨5, .guard⟩], some (5, true)⟩) (v := undef) rfl (by kernel_rfl) (by kernel_rfl) (by kernel_rfl) (fun _ _ _ h => h) (Or.inr ⟨by rfl, rfl⟩) hHeld ?_
          (try simp only [Act.put, Sx0, Sx1, Sx2])
          refine wpAnyH_take (i := 12) (oi := ⟨some 26, .binOp .geq 3 (.tmp 25) (.const (.int .i64 0)) 3, 4, "ref.go:62", #[⟨11, .data⟩, ⟨5, .guard⟩], some (5, true)⟩) (v := undef) rfl (by kernel_rfl) (by kernel_rfl) (by kernel_rfl) (fun _ _ _ h => h) (Or.inr ⟨by rfl, rfl⟩) hHeld ?_
          (try simp only [Act.put, Sx0, Sx1, Sx2])
          refine wpAnyH_take (i := 13) (oi := ⟨some 27, .pick (.tmp 19) (.tmp 26) (.const (.bool false)), 4, "ref.go:62", #[⟨5, .data⟩, ⟨12, .data⟩], none⟩) (v := .bool false) rfl (by kernel_rfl) (by kernel_rfl) (by kernel_rfl) (fun _ _ _ h => h) (Or.inl ⟨by rfl, ?_⟩) hHeld ?_
          · intro wq hSq
            have hSq1 := hSq.1
            clear hSq
            go_simp
          (try simp only [Act.put, Sx0, Sx1, Sx2])
          refine wpAnyH_take (i := 14) (oi := ⟨some 28, .move (.tmp 27), 4, "ref.go:62", #[⟨13, .data⟩, ⟨11, .chain⟩], none⟩) (v := .bool false) rfl (by kernel_rfl) (by kernel_rfl) (by kernel_rfl) (fun _ _ _ h => h) (Or.inl ⟨by rfl, ?_⟩) hHeld ?_
          · intro wq hSq
            have hSq1 := hSq.1
            clear hSq
            go_simp
          (try simp only [Act.put, Sx0, Sx1, Sx2])
          refine wpAnyH_take (i := 15) (oi := ⟨some 29, .move (.tmp 1), 31, "ref.go:62", #[⟨14, .guard⟩], some (14, true)⟩) (v := undef) rfl (by kernel_rfl) (by kernel_rfl) (by kernel_rfl) (fun _ _ _ h => h) (Or.inr ⟨by rfl, rfl⟩) hHeld ?_
          (try simp only [Act.put, Sx0, Sx1, Sx2])
          refine wpAnyH_take (i := 16) (oi := ⟨some 30, .move (.tmp 2), 31, "ref.go:62", #[⟨14, .guard⟩], some (14, true)⟩) (v := undef) rfl (by kernel_rfl) (by kernel_rfl) (by kernel_rfl) (fun _ _ _ h => h) (Or.inr ⟨by rfl, rfl⟩) hHeld ?_
          (try simp only [Act.put, Sx0, Sx1, Sx2])
          refine wpAnyH_take (i := 17) (oi := ⟨some 31, .move (.tmp 7), 3, "ref.go:62", #[⟨14, .guard⟩], some (14, true)⟩) (v := undef) rfl (by kernel_rfl) (by kernel_rfl) (by kernel_rfl) (fun _ _ _ h => h) (Or.inr ⟨by rfl, rfl⟩) hHeld ?_
          (try simp only [Act.put, Sx0, Sx1, Sx2])
          refine wpAnyH_take (i := 18) (oi := ⟨some 32, .indexAddr 31 (.tmp 30) (.tmp 31), 0, "ref.go:62", #[⟨16, .data⟩, ⟨17, .data⟩, ⟨14, .guard⟩], some (14, true)⟩) (v := undef) rfl (by kernel_rfl) (by kernel_rfl) (by kernel_rfl) (fun _ _ _ h => h) (Or.inr ⟨by rfl, rfl⟩) hHeld ?_
          (try simp only [Act.put, Sx0, Sx1, Sx2])
          refine wpAnyH_take (i := 19) (oi := ⟨some 33, .load 27 (.tmp 32), 27, "ref.go:62", #[⟨18, .data⟩, ⟨14, .guard⟩], some (14, true)⟩) (v := undef) rfl (by kernel_rfl) (by kernel_rfl) (by kernel_rfl) (fun _ _ _ h => h) (Or.inr ⟨by rfl, rfl⟩) hHeld ?_
          (try simp only [Act.put, Sx0, Sx1, Sx2])
          refine wpAnyH_take (i := 20) (oi := ⟨some 34, .call ⟨.value (.func 69), #[.tmp 29, .tmp 33], #[31, 27]⟩, 3, "ref.go:62", #[⟨15, .data⟩, ⟨19, .data⟩, ⟨14, .chain⟩, ⟨14, .guard⟩], some (14, true)⟩) (v := undef) rfl (by kernel_rfl) (by kernel_rfl) (by kernel_rfl) (fun _ _ _ h => h) (Or.inr ⟨by rfl, rfl⟩) hHeld ?_
          (try simp only [Act.put, Sx0, Sx1, Sx2])
          refine wpAnyH_take (i := 21) (oi := ⟨some 35, .binOp .lss 3 (.tmp 34) (.const (.int .i64 0)) 3, 4, "ref.go:62", #[⟨20, .data⟩, ⟨14, .guard⟩], some (14, true)⟩) (v := undef) rfl (by kernel_rfl) (by kernel_rfl) (by kernel_rfl) (fun _ _ _ h => h) (Or.inr ⟨by rfl, rfl⟩) hHeld ?_
          (try simp only [Act.put, Sx0, Sx1, Sx2])
          refine wpAnyH_take (i := 22) (oi := ⟨some 36, .pick (.tmp 28) (.tmp 35) (.const (.bool false)), 4, "ref.go:62", #[⟨14, .data⟩, ⟨21, .data⟩], none⟩) (v := .bool false) rfl (by kernel_rfl) (by kernel_rfl) (by kernel_rfl) (fun _ _ _ h => h) (Or.inl ⟨by rfl, ?_⟩) hHeld ?_
          · intro wq hSq
            have hSq1 := hSq.1
            clear hSq
            go_simp
          (try simp only [Act.put, Sx0, Sx1, Sx2])
          refine wpAnyH_done (by kernel_rfl) ?_ _
          go_wp2_with fail
          go_roundw
          case rel => exact ⟨j + 1, oa, oc, outj, by go_num, rfl, by rw [HMT.out, HMO.out], by omega, HMV.out.drew, HCH.out.drew, HRW.out.drew⟩
          case measure => simp [intOf]; omega
        · have hyq : ((y : Int) != 0) = true := by simp; omega
          have hyq2 : ((y : Int) == 0) = false := by simp; omega
          rw [hax] at HAT
          clear hax hlk hy0 HNU
          go_wp2_with fail
          refine wp_region_held_drew (S := fun u => u.cell? ⟨rb, ro + j, none⟩ = some (.int .u64 (y : Int)) ∧ u.rangeAt w.heap.size 0 (Value.slice a n c :: l)) (by kernel_rfl) hS0 (fun hHeld => ?_)
          refine wpAnyH_take (i := 0) (oi := ⟨some 14, .move (.tmp 2), 31, "ref.go:62", #[], none⟩) (v := .slice (some ⟨rb, ro, none⟩) rn rc) rfl (by kernel_rfl) (by kernel_rfl) (by kernel_rfl) (fun _ _ _ h => h) (Or.inl ⟨by rfl, ?_⟩) hHeld ?_
          · intro wq hSq
            have hSq1 := hSq.1
            clear hSq
            go_simp
          (try simp only [Act.put, Sx0, Sx1, Sx2])
          refine wpAnyH_take (i := 1) (oi := ⟨some 15, .move (.tmp 7), 3, "ref.go:62", #[], none⟩) (v := .int .i64 j) rfl (by kernel_rfl) (by kernel_rfl) (by kernel_rfl) (fun _ _ _ h => h) (Or.inl ⟨by rfl, ?_⟩) hHeld ?_
          · intro wq hSq
            have hSq1 := hSq.1
            clear hSq
            go_simp
          (try simp only [Act.put, Sx0, Sx1, Sx2])
          refine wpAnyH_take (i := 2) (oi := ⟨some 16, .indexAddr 31 (.tmp 14) (.tmp 15), 0, "ref.go:62", #[⟨0, .data⟩, ⟨1, .data⟩], none⟩) (v := .pointer (some ⟨rb, ro + j, none⟩)) rfl (by kernel_rfl) (by kernel_rfl) (by kernel_rfl) (fun _ _ _ h => h) (Or.inl ⟨by rfl, ?_⟩) hHeld ?_
          · intro wq hSq
            have hSq1 := hSq.1
            clear hSq
            go_simp
          (try simp only [Act.put, Sx0, Sx1, Sx2])
          refine wpAnyH_take (i := 3) (oi := ⟨some 17, .load 27 (.tmp 16), 27, "ref.go:62", #[⟨2, .data⟩], none⟩) (v := .int .u64 y) rfl (by kernel_rfl) (by kernel_rfl) (by kernel_rfl) (fun _ _ _ h => h) (Or.inl ⟨by rfl, ?_⟩) hHeld ?_
          · intro wq hSq
            have hSq1 := hSq.1
            clear hSq
            go_simp
          (try simp only [Act.put, Sx0, Sx1, Sx2])
          refine wpAnyH_take (i := 4) (oi := ⟨some 18, .binOp .neq 27 (.tmp 17) (.const (.int .u64 0)) 27, 4, "ref.go:62", #[⟨3, .data⟩], none⟩) (v := .bool true) rfl (by kernel_rfl) (by kernel_rfl) (by kernel_rfl) (fun _ _ _ h => h) (Or.inl ⟨by rfl, ?_⟩) hHeld ?_
          · intro wq hSq
            have hSq1 := hSq.1
            clear hSq
            go_simp
          (try simp only [Act.put, Sx0, Sx1, Sx2])
          refine wpAnyH_take (i := 5) (oi := ⟨some 19, .move (.tmp 18), 4, "ref.go:62", #[⟨4, .data⟩], none⟩) (v := .bool true) rfl (by kernel_rfl) (by kernel_rfl) (by kernel_rfl) (fun _ _ _ h => h) (Or.inl ⟨by rfl, ?_⟩) hHeld ?_
          · intro wq hSq
            have hSq1 := hSq.1
            clear hSq
            go_simp
          (try simp only [Act.put, Sx0, Sx1, Sx2])
          refine' wpAnyH_take (i := 6) (oi := ⟨some 20, .load 30 (.tmp 3), 30, "ref.go:62", #[⟨5, .guard⟩], some (5, true)⟩) (v := _) rfl (by kernel_rfl) (by kernel_rfl) (by kernel_rfl) (fun _ _ _ h => h) (yieldsIf_load_mid (by rfl) _ _ rfl _ _ rfl _ _ (fun wq hSq => hSq.2) Try.underlying30 rfl (by rw [hl17]; exact infoHp)) hHeld ?_
          (try simp only [Act.put, Sx0, Sx1, Sx2])
          refine wpAnyH_take (i := 7) (oi := ⟨some 21, .move (.tmp 2), 31, "ref.go:62", #[⟨5, .guard⟩], some (5, true)⟩) (v := .slice (some ⟨rb, ro, none⟩) rn rc) rfl (by kernel_rfl) (by kernel_rfl) (by kernel_rfl) (fun _ _ _ h => h) (Or.inl ⟨by rfl, ?_⟩) hHeld ?_
          · intro wq hSq
            have hSq1 := hSq.1
            clear hSq
            go_simp
          (try simp only [Act.put, Sx0, Sx1, Sx2])
          refine wpAnyH_take (i := 8) (oi := ⟨some 22, .move (.tmp 7), 3, "ref.go:62", #[⟨5, .guard⟩], some (5, true)⟩) (v := .int .i64 j) rfl (by kernel_rfl) (by kernel_rfl) (by kernel_rfl) (fun _ _ _ h => h) (Or.inl ⟨by rfl, ?_⟩) hHeld ?_
          · intro wq hSq
            have hSq1 := hSq.1
            clear hSq
            go_simp
          (try simp only [Act.put, Sx0, Sx1, Sx2])
          refine wpAnyH_take (i := 9) (oi := ⟨some 23, .indexAddr 31 (.tmp 21) (.tmp 22), 0, "ref.go:62", #[⟨7, .data⟩, ⟨8, .data⟩, ⟨5, .guard⟩], some (5, true)⟩) (v := .pointer (some ⟨rb, ro + j, none⟩)) rfl (by kernel_rfl) (by kernel_rfl) (by kernel_rfl) (fun _ _ _ h => h) (Or.inl ⟨by rfl, ?_⟩) hHeld ?_
          · intro wq hSq
            have hSq1 := hSq.1
            clear hSq
            go_simp
          (try simp only [Act.put, Sx0, Sx1, Sx2])
          refine wpAnyH_take (i := 10) (oi := ⟨some 24, .load 27 (.tmp 23), 27, "ref.go:62", #[⟨9, .data⟩, ⟨5, .guard⟩], some (5, true)⟩) (v := .int .u64 y) rfl (by kernel_rfl) (by kernel_rfl) (by kernel_rfl) (fun _ _ _ h => h) (Or.inl ⟨by rfl, ?_⟩) hHeld ?_
          · intro wq hSq
            have hSq1 := hSq.1
            clear hSq
            go_simp
          (try simp only [Act.put, Sx0, Sx1, Sx2])
          refine wpAnyH_ready (rs := [11]) (by kernel_rfl) (by simp) ?_
          refine AllReadyH.cons (o := ⟨some 25, .call ⟨.value (.func 19), #[.tmp 20, .tmp 24], #[30, 27]⟩, 3, "ref.go:62", #[⟨6, .data⟩, ⟨10, .data⟩, ⟨5, .chain⟩, ⟨5, .guard⟩], some (5, true)⟩) rfl (fun Kr hKr => ?_) AllReadyH.nil
          go_simp
          refine HAT.out.mono ?_
          rintro e w5 ⟨rfl, b5⟩
          have hS5 := HSB.out w5 b5
          have HB5 := mkHid b5
          clear b5
          go_wp2_with fail
          refine hKr.out _ _ hS5 (fun hHeld2 => ?_)
          clear hKr Kr
          (try simp only [Act.put, Sx0, Sx1, Sx2])
          refine wpAnyH_take (i := 12) (oi := ⟨some 26, .binOp .geq 3 (.tmp 25) (.const (.int .i64 0)) 3, 4, "ref.go:62", #[⟨11, .data⟩, ⟨5, .guard⟩], some (5, true)⟩) (v := .bool false) rfl (by kernel_rfl) (by kernel_rfl) (by kernel_rfl) (fun _ _ _ h => h) (Or.inl ⟨by rfl, ?_⟩) hHeld2 ?_
          · intro wq hSq
            have hSq1 := hSq.1
            clear hSq
            go_simp
          (try simp only [Act.put, Sx0, Sx1, Sx2])
          refine wpAnyH_take (i := 13) (oi := ⟨some 27, .pick (.tmp 19) (.tmp 26) (.const (.bool false)), 4, "ref.go:62", #[⟨5, .data⟩, ⟨12, .data⟩], none⟩) (v := .bool false) rfl (by kernel_rfl) (by kernel_rfl) (by kernel_rfl) (fun _ _ _ h => h) (Or.inl ⟨by rfl, ?_⟩) hHeld2 ?_
          · intro wq hSq
            have hSq1 := hSq.1
            clear hSq
            go_simp
          (try simp only [Act.put, Sx0, Sx1, Sx2])
          refine wpAnyH_take (i := 14) (oi := ⟨some 28, .move (.tmp 27), 4, "ref.go:62", #[⟨13, .data⟩, ⟨11, .chain⟩], none⟩) (v := .bool false) rfl (by kernel_rfl) (by kernel_rfl) (by kernel_rfl) (fun _ _ _ h => h) (Or.inl ⟨by rfl, ?_⟩) hHeld2 ?_
          · intro wq hSq
            have hSq1 := hSq.1
            clear hSq
            go_simp
          (try simp only [Act.put, Sx0, Sx1, Sx2])
          refine wpAnyH_take (i := 15) (oi := ⟨some 29, .move (.tmp 1), 31, "ref.go:62", #[⟨14, .guard⟩], some (14, true)⟩) (v := undef) rfl (by kernel_rfl) (by kernel_rfl) (by kernel_rfl) (fun _ _ _ h => h) (Or.inr ⟨by rfl, rfl⟩) hHeld2 ?_
          (try simp only [Act.put, Sx0, Sx1, Sx2])
          refine wpAnyH_take (i := 16) (oi := ⟨some 30, .move (.tmp 2), 31, "ref.go:62", #[⟨14, .guard⟩], some (14, true)⟩) (v := undef) rfl (by kernel_rfl) (by kernel_rfl) (by kernel_rfl) (fun _ _ _ h => h) (Or.inr ⟨by rfl, rfl⟩) hHeld2 ?_
          (try simp only [Act.put, Sx0, Sx1, Sx2])
          refine wpAnyH_take (i := 17) (oi := ⟨some 31, .move (.tmp 7), 3, "ref.go:62", #[⟨14, .guard⟩], some (14, true)⟩) (v := undef) rfl (by kernel_rfl) (by kernel_rfl) (by kernel_rfl) (fun _ _ _ h => h) (Or.inr ⟨by rfl, rfl⟩) hHeld2 ?_
          (try simp only [Act.put, Sx0, Sx1, Sx2])
          refine wpAnyH_take (i := 18) (oi := ⟨some 32, .indexAddr 31 (.tmp 30) (.tmp 31), 0, "ref.go:62", #[⟨16, .data⟩, ⟨17, .data⟩, ⟨14, .guard⟩], some (14, true)⟩) (v := undef) rfl (by kernel_rfl) (by kernel_rfl) (by kernel_rfl) (fun _ _ _ h => h) (Or.inr ⟨by rfl, rfl⟩) hHeld2 ?_
          (try simp only [Act.put, Sx0, Sx1, Sx2])
          refine wpAnyH_take (i := 19) (oi := ⟨some 33, .load 27 (.tmp 32), 27, "ref.go:62", #[⟨18, .data⟩, ⟨14, .guard⟩], some (14, true)⟩) (v := undef) rfl (by kernel_rfl) (by kernel_rfl) (by kernel_rfl) (fun _ _ _ h => h) (Or.inr ⟨by rfl, rfl⟩) hHeld2 ?_
          (try simp only [Act.put, Sx0, Sx1, Sx2])
          refine wpAnyH_take (i := 20) (oi := ⟨some 34, .call ⟨.value (.func 69), #[.tmp 29, .tmp 33], #[31, 27]⟩, 3, "ref.go:62", #[⟨15, .data⟩, ⟨19, .data⟩, ⟨14, .chain⟩, ⟨14, .guard⟩], some (14, true)⟩) (v := undef) rfl (by kernel_rfl) (by kernel_rfl) (by kernel_rfl) (fun _ _ _ h => h) (Or.inr ⟨by rfl, rfl⟩) hHeld2 ?_
          (try simp only [Act.put, Sx0, Sx1, Sx2])
          refine wpAnyH_take (i := 21) (oi := ⟨some 35, .binOp .lss 3 (.tmp 34) (.const (.int .i64 0)) 3, 4, "ref.go:62", #[⟨20, .data⟩, ⟨14, .guard⟩], some (14, true)⟩) (v := undef) rfl (by kernel_rfl) (by kernel_rfl) (by kernel_rfl) (fun _ _ _ h => h) (Or.inr ⟨by rfl, rfl⟩) hHeld2 ?_
          (try simp only [Act.put, Sx0, Sx1, Sx2])
          refine wpAnyH_take (i := 22) (oi := ⟨some 36, .pick (.tmp 28) (.tmp 35) (.const (.bool false)), 4, "ref.go:62", #[⟨14, .data⟩, ⟨21, .data⟩], none⟩) (v := .bool false) rfl (by kernel_rfl) (by kernel_rfl) (by kernel_rfl) (fun _ _ _ h => h) (Or.inl ⟨by rfl, ?_⟩) hHeld2 ?_
          · intro wq hSq
            have hSq1 := hSq.1
            clear hSq
            go_simp
          (try simp only [Act.put, Sx0, Sx1, Sx2])
          refine wpAnyH_done (by kernel_rfl) ?_ _
          go_wp2_with fail
          go_roundw
          case rel => exact ⟨j + 1, oa, oc, outj, by go_num, rfl, by rw [HMT.out, HMO.out], by omega, (HMV.out.drew.trans (Mv.of_below HB5.out)), (chg_more HCH.out.drew HB5.out), (HRW.out.drew.below HB5.out)⟩
          case measure => simp [intOf]; omega
      · have hax := atX_some hlk
        have hy0 : y ≠ 0 := fun e => by
          rw [e] at hlk
          have := (look_pl_some hlk).2
          unfold hnd at this
          omega
        have hyq : ((y : Int) != 0) = true := by simp; omega
        have hyq2 : ((y : Int) == 0) = false := by simp; omega
        rw [hax] at HAT
        have hk0 : (0 : Int) ≤ (k : Int) := by omega
        by_cases hmem : y ∈ outj
        · have HMO : Hid (metO Os outj y = outj) := by
            show _ = _
            unfold metO; rw [if_neg (fun e => e.2 hmem)]
          obtain ⟨q, hq⟩ : ∃ q : Nat, numI outj y = (q : Int) := ⟨(numI outj y).toNat, by have := numI_mem.2 hmem; omega⟩
          rw [hq] at HNU
          have hq0 : ¬ (q : Int) < 0 := by omega
          clear hax hlk hy0 hmem hq
          go_wp2_with fail
          refine wp_region_held_drew (S := fun u => u.cell? ⟨rb, ro + j, none⟩ = some (.int .u64 (y : Int)) ∧ u.rangeAt w.heap.size 0 (Value.slice a n c :: l)) (by kernel_rfl) hS0 (fun hHeld => ?_)
          refine wpAnyH_take (i := 0) (oi := ⟨some 14, .move (.tmp 2), 31, "ref.go:62", #[], none⟩) (v := .slice (some ⟨rb, ro, none⟩) rn rc) rfl (by kernel_rfl) (by kernel_rfl) (by kernel_rfl) (fun _ _ _ h => h) (Or.inl ⟨by rfl, ?_⟩) hHeld ?_
          · intro wq hSq
            have hSq1 := hSq.1
            clear hSq
            go_simp
          (try simp only [Act.put, Sx0, Sx1, Sx2])
          refine wpAnyH_take (i := 1) (oi := ⟨some 15, .move (.tmp 7), 3, "ref.go:62", #[], none⟩) (v := .int .i64 j) rfl (by kernel_rfl) (by kernel_rfl) (by kernel_rfl) (fun _ _ _ h => h) (Or.inl ⟨by rfl, ?_⟩) hHeld ?_
          · intro wq hSq
            have hSq1 := hSq.1
            clear hSq
            go_simp
          (try simp only [Act.put, Sx0, Sx1, Sx2])
          refine wpAnyH_take (i := 2) (oi := ⟨some 16, .indexAddr 31 (.tmp 14) (.tmp 15), 0, "ref.go:62", #[⟨0, .data⟩, ⟨1, .data⟩], none⟩) (v := .pointer (some ⟨rb, ro + j, none⟩)) rfl (by kernel_rfl) (by kernel_rfl) (by kernel_rfl) (fun _ _ _ h => h) (Or.inl ⟨by rfl, ?_⟩) hHeld ?_
          · intro wq hSq
            have hSq1 := hSq.1
            clear hSq
            go_simp
          (try simp only [Act.put, Sx0, Sx1, Sx2])
          refine wpAnyH_take (i := 3) (oi := ⟨some 17, .load 27 (.tmp 16), 27, "ref.go:62", #[⟨2, .data⟩], none⟩) (v := .int .u64 y) rfl (by kernel_rfl) (by kernel_rfl) (by kernel_rfl) (fun _ _ _ h => h) (Or.inl ⟨by rfl, ?_⟩) hHeld ?_
          · intro wq hSq
            have hSq1 := hSq.1
            clear hSq
            go_simp
          (try simp only [Act.put, Sx0, Sx1, Sx2])
          refine wpAnyH_take (i := 4) (oi := ⟨some 18, .binOp .neq 27 (.tmp 17) (.const (.int .u64 0)) 27, 4, "ref.go:62", #[⟨3, .data⟩], none⟩) (v := .bool true) rfl (by kernel_rfl) (by kernel_rfl) (by kernel_rfl) (fun _ _ _ h => h) (Or.inl ⟨by rfl, ?_⟩) hHeld ?_
          · intro wq hSq
            have hSq1 := hSq.1
            clear hSq
            go_simp
          (try simp only [Act.put, Sx0, Sx1, Sx2])
          refine wpAnyH_take (i := 5) (oi := ⟨some 19, .move (.tmp 18), 4, "ref.go:62", #[⟨4, .data⟩], none⟩) (v := .bool true) rfl (by kernel_rfl) (by kernel_rfl) (by kernel_rfl) (fun _ _ _ h => h) (Or.inl ⟨by rfl, ?_⟩) hHeld ?_
          · intro wq hSq
            have hSq1 := hSq.1
            clear hSq
            go_simp
          (try simp only [Act.put, Sx0, Sx1, Sx2])
          refine' wpAnyH_take (i := 6) (oi := ⟨some 20, .load 30 (.tmp 3), 30, "ref.go:62", #[⟨5, .guard⟩], some (5, true)⟩) (v := _) rfl (by kernel_rfl) (by kernel_rfl) (by kernel_rfl) (fun _ _ _ h => h) (yieldsIf_load_mid (by rfl) _ _ rfl _ _ rfl _ _ (fun wq hSq => hSq.2) Try.underlying30 rfl (by rw [hl17]; exact infoHp)) hHeld ?_
          (try simp only [Act.put, Sx0, Sx1, Sx2])
          refine wpAnyH_take (i := 7) (oi := ⟨some 21, .move (.tmp 2), 31, "ref.go:62", #[⟨5, .guard⟩], some (5, true)⟩) (v := .slice (some ⟨rb, ro, none⟩) rn rc) rfl (by kernel_rfl) (by kernel_rfl) (by kernel_rfl) (fun _ _ _ h => h) (Or.inl ⟨by rfl, ?_⟩) hHeld ?_
          · intro wq hSq
            have hSq1 := hSq.1
            clear hSq
            go_simp
          (try simp only [Act.put, Sx0, Sx1, Sx2])
          refine wpAnyH_take (i := 8) (oi := ⟨some 22, .move (.tmp 7), 3, "ref.go:62", #[⟨5, .guard⟩], some (5, true)⟩) (v := .int .i64 j) rfl (by kernel_rfl) (by kernel_rfl) (by kernel_rfl) (fun _ _ _ h => h) (Or.inl ⟨by rfl, ?_⟩) hHeld ?_
          · intro wq hSq
            have hSq1 := hSq.1
            clear hSq
            go_simp
          (try simp only [Act.put, Sx0, Sx1, Sx2])
          refine wpAnyH_take (i := 9) (oi := ⟨some 23, .indexAddr 31 (.tmp 21) (.tmp 22), 0, "ref.go:62", #[⟨7, .data⟩, ⟨8, .data⟩, ⟨5, .guard⟩], some (5, true)⟩) (v := .pointer (some ⟨rb, ro + j, none⟩)) rfl (by kernel_rfl) (by kernel_rfl) (by kernel_rfl) (fun _ _ _ h => h) (Or.inl ⟨by rfl, ?_⟩) hHeld ?_
          · intro wq hSq
            have hSq1 := hSq.1
            clear hSq
            go_simp
          (try simp only [Act.put, Sx0, Sx1, Sx2])
          refine wpAnyH_take (i := 10) (oi := ⟨some 24, .load 27 (.tmp 23), 27, "ref.go:62", #[⟨9, .data⟩, ⟨5, .guard⟩], some (5, true)⟩) (v := .int .u64 y) rfl (by kernel_rfl) (by kernel_rfl) (by kernel_rfl) (fun _ _ _ h => h) (Or.inl ⟨by rfl, ?_⟩) hHeld ?_
          · intro wq hSq
            have hSq1 := hSq.1
            clear hSq
            go_simp
          (try simp only [Act.put, Sx0, Sx1, Sx2])
          refine wpAnyH_ready (rs := [11]) (by kernel_rfl) (by simp) ?_
          refine AllReadyH.cons (o := ⟨some 25, .call ⟨.value (.func 19), #[.tmp 20, .tmp 24], #[30, 27]⟩, 3, "ref.go:62", #[⟨6, .data⟩, ⟨10, .data⟩, ⟨5, .chain⟩, ⟨5, .guard⟩], some (5, true)⟩) rfl (fun Kr hKr => ?_) AllReadyH.nil
          go_simp
          refine HAT.out.mono ?_
          rintro e w5 ⟨rfl, b5⟩
          have hS5 := HSB.out w5 b5
          have HB5 := mkHid b5
          clear b5
          go_wp2_with fail
          refine hKr.out _ _ hS5 (fun hHeld2 => ?_)
          clear hKr Kr
          (try simp only [Act.put, Sx0, Sx1, Sx2])
          refine wpAnyH_take (i := 12) (oi := ⟨some 26, .binOp .geq 3 (.tmp 25) (.const (.int .i64 0)) 3, 4, "ref.go:62", #[⟨11, .data⟩, ⟨5, .guard⟩], some (5, true)⟩) (v := .bool true) rfl (by kernel_rfl) (by kernel_rfl) (by kernel_rfl) (fun _ _ _ h => h) (Or.inl ⟨by rfl, ?_⟩) hHeld2 ?_
          · intro wq hSq
            have hSq1 := hSq.1
            clear hSq
            go_simp
          (try simp only [Act.put, Sx0, Sx1, Sx2])
          refine wpAnyH_take (i := 13) (oi := ⟨some 27, .pick (.tmp 19) (.tmp 26) (.const (.bool false)), 4, "ref.go:62", #[⟨5, .data⟩, ⟨12, .data⟩], none⟩) (v := .bool true) rfl (by kernel_rfl) (by kernel_rfl) (by kernel_rfl) (fun _ _ _ h => h) (Or.inl ⟨by rfl, ?_⟩) hHeld2 ?_
          · intro wq hSq
            have hSq1 := hSq.1
            clear hSq
            go_simp
          (try simp only [Act.put, Sx0, Sx1, Sx2])
          refine wpAnyH_take (i := 14) (oi := ⟨some 28, .move (.tmp 27), 4, "ref.go:62", #[⟨13, .data⟩, ⟨11, .chain⟩], none⟩) (v := .bool true) rfl (by kernel_rfl) (by kernel_rfl) (by kernel_rfl) (fun _ _ _ h => h) (Or.inl ⟨by rfl, ?_⟩) hHeld2 ?_
          · intro wq hSq
            have hSq1 := hSq.1
            clear hSq
            go_simp
          (try simp only [Act.put, Sx0, Sx1, Sx2])
          refine wpAnyH_take (i := 15) (oi := ⟨some 29, .move (.tmp 1), 31, "ref.go:62", #[⟨14, .guard⟩], some (14, true)⟩) (v := .slice oa outj.length oc) rfl (by kernel_rfl) (by kernel_rfl) (by kernel_rfl) (fun _ _ _ h => h) (Or.inl ⟨by rfl, ?_⟩) hHeld2 ?_
          · intro wq hSq
            have hSq1 := hSq.1
            clear hSq
            go_simp
          (try simp only [Act.put, Sx0, Sx1, Sx2])
          refine wpAnyH_take (i := 16) (oi := ⟨some 30, .move (.tmp 2), 31, "ref.go:62", #[⟨14, .guard⟩], some (14, true)⟩) (v := .slice (some ⟨rb, ro, none⟩) rn rc) rfl (by kernel_rfl) (by kernel_rfl) (by kernel_rfl) (fun _ _ _ h => h) (Or.inl ⟨by rfl, ?_⟩) hHeld2 ?_
          · intro wq hSq
            have hSq1 := hSq.1
            clear hSq
            go_simp
          (try simp only [Act.put, Sx0, Sx1, Sx2])
          refine wpAnyH_take (i := 17) (oi := ⟨some 31, .move (.tmp 7), 3, "ref.go:62", #[⟨14, .guard⟩], some (14, true)⟩) (v := .int .i64 j) rfl (by kernel_rfl) (by kernel_rfl) (by kernel_rfl) (fun _ _ _ h => h) (Or.inl ⟨by rfl, ?_⟩) hHeld2 ?_
          · intro wq hSq
            have hSq1 := hSq.1
            clear hSq
            go_simp
          (try simp only [Act.put, Sx0, Sx1, Sx2])
          refine wpAnyH_take (i := 18) (oi := ⟨some 32, .indexAddr 31 (.tmp 30) (.tmp 31), 0, "ref.go:62", #[⟨16, .data⟩, ⟨17, .data⟩, ⟨14, .guard⟩], some (14, true)⟩) (v := .pointer (some ⟨rb, ro + j, none⟩)) rfl (by kernel_rfl) (by kernel_rfl) (by kernel_rfl) (fun _ _ _ h => h) (Or.inl ⟨by rfl, ?_⟩) hHeld2 ?_
          · intro wq hSq
            have hSq1 := hSq.1
            clear hSq
            go_simp
          (try simp only [Act.put, Sx0, Sx1, Sx2])
          refine wpAnyH_take (i := 19) (oi := ⟨some 33, .load 27 (.tmp 32), 27, "ref.go:62", #[⟨18, .data⟩, ⟨14, .guard⟩], some (14, true)⟩) (v := .int .u64 y) rfl (by kernel_rfl) (by kernel_rfl) (by kernel_rfl) (fun _ _ _ h => h) (Or.inl ⟨by rfl, ?_⟩) hHeld2 ?_
          · intro wq hSq
            have hSq1 := hSq.1
            clear hSq
            go_simp
          (try simp only [Act.put, Sx0, Sx1, Sx2])
          refine wpAnyH_ready (rs := [20]) (by kernel_rfl) (by simp) ?_
          refine AllReadyH.cons (o := ⟨some 34, .call ⟨.value (.func 69), #[.tmp 29, .tmp 33], #[31, 27]⟩, 3, "ref.go:62", #[⟨15, .data⟩, ⟨19, .data⟩, ⟨14, .chain⟩, ⟨14, .guard⟩], some (14, true)⟩) rfl (fun Kr hKr => ?_) AllReadyH.nil
          go_simp
          refine (HNU.out w5 HB5.out).mono ?_
          rintro e w6 ⟨rfl, rfl⟩
          go_wp2_with fail
          refine hKr.out _ _ hHeld2 (fun hHeld3 => ?_)
          clear hKr Kr
          (try simp only [Act.put, Sx0, Sx1, Sx2])
          refine wpAnyH_take (i := 21) (oi := ⟨some 35, .binOp .lss 3 (.tmp 34) (.const (.int .i64 0)) 3, 4, "ref.go:62", #[⟨20, .data⟩, ⟨14, .guard⟩], some (14, true)⟩) (v := .bool false) rfl (by kernel_rfl) (by kernel_rfl) (by kernel_rfl) (fun _ _ _ h => h) (Or.inl ⟨by rfl, ?_⟩) hHeld3 ?_
          · intro wq hSq
            have hSq1 := hSq.1
            clear hSq
            go_simp
          (try simp only [Act.put, Sx0, Sx1, Sx2])
          refine wpAnyH_take (i := 22) (oi := ⟨some 36, .pick (.tmp 28) (.tmp 35) (.const (.bool false)), 4, "ref.go:62", #[⟨14, .data⟩, ⟨21, .data⟩], none⟩) (v := .bool false) rfl (by kernel_rfl) (by kernel_rfl) (by kernel_rfl) (fun _ _ _ h => h) (Or.inl ⟨by rfl, ?_⟩) hHeld3 ?_
          · intro wq hSq
            have hSq1 := hSq.1
            clear hSq
            go_simp
          (try simp only [Act.put, Sx0, Sx1, Sx2])
          refine wpAnyH_done (by kernel_rfl) ?_ _
          go_wp2_with fail
          go_roundw
          case rel => exact ⟨j + 1, oa, oc, outj, by go_num, rfl, by rw [HMT.out, HMO.out], by omega, (HMV.out.drew.trans (Mv.of_below HB5.out)), (chg_more HCH.out.drew HB5.out), (HRW.out.drew.below HB5.out)⟩
          case measure => simp [intOf]; omega
        · have HMO : Hid (metO Os outj y = outj ++ [y]) := by
            show _ = _
            unfold metO; rw [if_pos ⟨by rw [hlk]; rfl, hmem⟩]
          rw [numI_no hmem] at HNU
          clear hax hlk hy0 hmem
          go_wp2_with fail
          refine wp_region_held_drew (S := fun u => u.cell? ⟨rb, ro + j, none⟩ = some (.int .u64 (y : Int)) ∧ u.rangeAt w.heap.size 0 (Value.slice a n c :: l)) (by kernel_rfl) hS0 (fun hHeld => ?_)
          refine wpAnyH_take (i := 0) (oi := ⟨some 14, .move (.tmp 2), 31, "ref.go:62", #[], none⟩) (v := .slice (some ⟨rb, ro, none⟩) rn rc) rfl (by kernel_rfl) (by kernel_rfl) (by kernel_rfl) (fun _ _ _ h => h) (Or.inl ⟨by rfl, ?_⟩) hHeld ?_
          · intro wq hSq
            have hSq1 := hSq.1
            clear hSq
            go_simp
          (try simp only [Act.put, Sx0, Sx1, Sx2])
          refine wpAnyH_take (i := 1) (oi := ⟨some 15, .move (.tmp 7), 3, "ref.go:62", #[], none⟩) (v := .int .i64 j) rfl (by kernel_rfl) (by kernel_rfl) (by kernel_rfl) (fun _ _ _ h => h) (Or.inl ⟨by rfl, ?_⟩) hHeld ?_
          · intro wq hSq
            have hSq1 := hSq.1
            clear hSq
            go_simp
          (try simp only [Act.put, Sx0, Sx1, Sx2])
          refine wpAnyH_take (i := 2) (oi := ⟨some 16, .indexAddr 31 (.tmp 14) (.tmp 15), 0, "ref.go:62", #[⟨0, .data⟩, ⟨1, .data⟩], none⟩) (v := .pointer (some ⟨rb, ro + j, none⟩)) rfl (by kernel_rfl) (by kernel_rfl) (by kernel_rfl) (fun _ _ _ h => h) (Or.inl ⟨by rfl, ?_⟩) hHeld ?_
          · intro wq hSq
            have hSq1 := hSq.1
            clear hSq
            go_simp
          (try simp only [Act.put, Sx0, Sx1, Sx2])
          refine wpAnyH_take (i := 3) (oi := ⟨some 17, .load 27 (.tmp 16), 27, "ref.go:62", #[⟨2, .data⟩], none⟩) (v := .int .u64 y) rfl (by kernel_rfl) (by kernel_rfl) (by kernel_rfl) (fun _ _ _ h => h) (Or.inl ⟨by rfl, ?_⟩) hHeld ?_
          · intro wq hSq
            have hSq1 := hSq.1
            clear hSq
            go_simp
          (try simp only [Act.put, Sx0, Sx1, Sx2])
          refine wpAnyH_take (i := 4) (oi := ⟨some 18, .binOp .neq 27 (.tmp 17) (.const (.int .u64 0)) 27, 4, "ref.go:62", #[⟨3, .data⟩], none⟩) (v := .bool true) rfl (by kernel_rfl) (by kernel_rfl) (by kernel_rfl) (fun _ _ _ h => h) (Or.inl ⟨by rfl, ?_⟩) hHeld ?_
          · intro wq hSq
            have hSq1 := hSq.1
            clear hSq
            go_simp
          (try simp only [Act.put, Sx0, Sx1, Sx2])
          refine wpAnyH_take (i := 5) (oi := ⟨some 19, .move (.tmp 18), 4, "ref.go:62", #[⟨4, .data⟩], none⟩) (v := .bool true) rfl (by kernel_rfl) (by kernel_rfl) (by kernel_rfl) (fun _ _ _ h => h) (Or.inl ⟨by rfl, ?_⟩) hHeld ?_
          · intro wq hSq
            have hSq1 := hSq.1
            clear hSq
            go_simp
          (try simp only [Act.put, Sx0, Sx1, Sx2])
          refine' wpAnyH_take (i := 6) (oi := ⟨some 20, .load 30 (.tmp 3), 30, "ref.go:62", #[⟨5, .guard⟩], some (5, true)⟩) (v := _) rfl (by kernel_rfl) (by kernel_rfl) (by kernel_rfl) (fun _ _ _ h => h) (yieldsIf_load_mid (by rfl) _ _ rfl _ _ rfl _ _ (fun wq hSq => hSq.2) Try.underlying30 rfl (by rw [hl17]; exact infoHp)) hHeld ?_
          (try simp only [Act.put, Sx0, Sx1, Sx2])
          refine wpAnyH_take (i := 7) (oi := ⟨some 21, .move (.tmp 2), 31, "ref.go:62", #[⟨5, .guard⟩], some (5, true)⟩) (v := .slice (some ⟨rb, ro, none⟩) rn rc) rfl (by kernel_rfl) (by kernel_rfl) (by kernel_rfl) (fun _ _ _ h => h) (Or.inl ⟨by rfl, ?_⟩) hHeld ?_
          · intro wq hSq
            have hSq1 := hSq.1
            clear hSq
            go_simp
          (try simp only [Act.put, Sx0, Sx1, Sx2])
          refine wpAnyH_take (i := 8) (oi := ⟨some 22, .move (.tmp 7), 3, "ref.go:62", #[⟨5, .guard⟩], some (5, true)⟩) (v := .int .i64 j) rfl (by kernel_rfl) (by kernel_rfl) (by kernel_rfl) (fun _ _ _ h => h) (Or.inl ⟨by rfl, ?_⟩) hHeld ?_
          · intro wq hSq
            have hSq1 := hSq.1
            clear hSq
            go_simp
          (try simp only [Act.put, Sx0, Sx1, Sx2])
          refine wpAnyH_take (i := 9) (oi := ⟨some 23, .indexAddr 31 (.tmp 21) (.tmp 22), 0, "ref.go:62", #[⟨7, .data⟩, ⟨8, .data⟩, ⟨5, .guard⟩], some (5, true)⟩) (v := .pointer (some ⟨rb, ro + j, none⟩)) rfl (by kernel_rfl) (by kernel_rfl) (by kernel_rfl) (fun _ _ _ h => h) (Or.inl ⟨by rfl, ?_⟩) hHeld ?_
          · intro wq hSq
            have hSq1 := hSq.1
            clear hSq
            go_simp
          (try simp only [Act.put, Sx0, Sx1, Sx2])
          refine wpAnyH_take (i := 10) (oi := ⟨some 24, .load 27 (.tmp 23), 27, "ref.go:62", #[⟨9, .data⟩, ⟨5, .guard⟩], some (5, true)⟩) (v := .int .u64 y) rfl (by kernel_rfl) (by kernel_rfl) (by kernel_rfl) (fun _ _ _ h => h) (Or.inl ⟨by rfl, ?_⟩) hHeld ?_
          · intro wq hSq
            have hSq1 := hSq.1
            clear hSq
            go_simp
          (try simp only [Act.put, Sx0, Sx1, Sx2])
          refine wpAnyH_ready (rs := [11]) (by kernel_rfl) (by simp) ?_
          refine AllReadyH.cons (o := ⟨some 25, .call ⟨.value (.func 19), #[.tmp 20, .tmp 24], #[30, 27]⟩, 3, "ref.go:62", #[⟨6, .data⟩, ⟨10, .data⟩, ⟨5, .chain⟩, ⟨5, .guard⟩], some (5, true)⟩) rfl (fun Kr hKr => ?_) AllReadyH.nil
          go_simp
          refine HAT.out.mono ?_
          rintro e w5 ⟨rfl, b5⟩
          have hS5 := HSB.out w5 b5
          have HB5 := mkHid b5
          clear b5
          go_wp2_with fail
          refine hKr.out _ _ hS5 (fun hHeld2 => ?_)
          clear hKr Kr
          (try simp only [Act.put, Sx0, Sx1, Sx2])
          refine wpAnyH_take (i := 12) (oi := ⟨some 26, .binOp .geq 3 (.tmp 25) (.const (.int .i64 0)) 3, 4, "ref.go:62", #[⟨11, .data⟩, ⟨5, .guard⟩], some (5, true)⟩) (v := .bool true) rfl (by kernel_rfl) (by kernel_rfl) (by kernel_rfl) (fun _ _ _ h => h) (Or.inl ⟨by rfl, ?_⟩) hHeld2 ?_
          · intro wq hSq
            have hSq1 := hSq.1
            clear hSq
            go_simp
          (try simp only [Act.put, Sx0, Sx1, Sx2])
          refine wpAnyH_take (i := 13) (oi := ⟨some 27, .pick (.tmp 19) (.tmp 26) (.const (.bool false)), 4, "ref.go:62", #[⟨5, .data⟩, ⟨12, .data⟩], none⟩) (v := .bool true) rfl (by kernel_rfl) (by kernel_rfl) (by kernel_rfl) (fun _ _ _ h => h) (Or.inl ⟨by rfl, ?_⟩) hHeld2 ?_
          · intro wq hSq
            have hSq1 := hSq.1
            clear hSq
            go_simp
          (try simp only [Act.put, Sx0, Sx1, Sx2])
          refine wpAnyH_take (i := 14) (oi := ⟨some 28, .move (.tmp 27), 4, "ref.go:62", #[⟨13, .data⟩, ⟨11, .chain⟩], none⟩) (v := .bool true) rfl (by kernel_rfl) (by kernel_rfl) (by kernel_rfl) (fun _ _ _ h => h) (Or.inl ⟨by rfl, ?_⟩) hHeld2 ?_
          · intro wq hSq
            have hSq1 := hSq.1
            clear hSq
            go_simp
          (try simp only [Act.put, Sx0, Sx1, Sx2])
          refine wpAnyH_take (i := 15) (oi := ⟨some 29, .move (.tmp 1), 31, "ref.go:62", #[⟨14, .guard⟩], some (14, true)⟩) (v := .slice oa outj.length oc) rfl (by kernel_rfl) (by kernel_rfl) (by kernel_rfl) (fun _ _ _ h => h) (Or.inl ⟨by rfl, ?_⟩) hHeld2 ?_
          · intro wq hSq
            have hSq1 := hSq.1
            clear hSq
            go_simp
          (try simp only [Act.put, Sx0, Sx1, Sx2])
          refine wpAnyH_take (i := 16) (oi := ⟨some 30, .move (.tmp 2), 31, "ref.go:62", #[⟨14, .guard⟩], some (14, true)⟩) (v := .slice (some ⟨rb, ro, none⟩) rn rc) rfl (by kernel_rfl) (by kernel_rfl) (by kernel_rfl) (fun _ _ _ h => h) (Or.inl ⟨by rfl, ?_⟩) hHeld2 ?_
          · intro wq hSq
            have hSq1 := hSq.1
            clear hSq
            go_simp
          (try simp only [Act.put, Sx0, Sx1, Sx2])
          refine wpAnyH_take (i := 17) (oi := ⟨some 31, .move (.tmp 7), 3, "ref.go:62", #[⟨14, .guard⟩], some (14, true)⟩) (v := .int .i64 j) rfl (by kernel_rfl) (by kernel_rfl) (by kernel_rfl) (fun _ _ _ h => h) (Or.inl ⟨by rfl, ?_⟩) hHeld2 ?_
          · intro wq hSq
            have hSq1 := hSq.1
            clear hSq
            go_simp
          (try simp only [Act.put, Sx0, Sx1, Sx2])
          refine wpAnyH_take (i := 18) (oi := ⟨some 32, .indexAddr 31 (.tmp 30) (.tmp 31), 0, "ref.go:62", #[⟨16, .data⟩, ⟨17, .data⟩, ⟨14, .guard⟩], some (14, true)⟩) (v := .pointer (some ⟨rb, ro + j, none⟩)) rfl (by kernel_rfl) (by kernel_rfl) (by kernel_rfl) (fun _ _ _ h => h) (Or.inl ⟨by rfl, ?_⟩) hHeld2 ?_
          · intro wq hSq
            have hSq1 := hSq.1
            clear hSq
            go_simp
          (try simp only [Act.put, Sx0, Sx1, Sx2])
          refine wpAnyH_take (i := 19) (oi := ⟨some 33, .load 27 (.tmp 32), 27, "ref.go:62", #[⟨18, .data⟩, ⟨14, .guard⟩], some (14, true)⟩) (v := .int .u64 y) rfl (by kernel_rfl) (by kernel_rfl) (by kernel_rfl) (fun _ _ _ h => h) (Or.inl ⟨by rfl, ?_⟩) hHeld2 ?_
          · intro wq hSq
            have hSq1 := hSq.1
            clear hSq
            go_simp
          (try simp only [Act.put, Sx0, Sx1, Sx2])
          refine wpAnyH_ready (rs := [20]) (by kernel_rfl) (by simp) ?_
          refine AllReadyH.cons (o := ⟨some 34, .call ⟨.value (.func 69), #[.tmp 29, .tmp 33], #[31, 27]⟩, 3, "ref.go:62", #[⟨15, .data⟩, ⟨19, .data⟩, ⟨14, .chain⟩, ⟨14, .guard⟩], some (14, true)⟩) rfl (fun Kr hKr => ?_) AllReadyH.nil
          go_simp
          refine (HNU.out w5 HB5.out).mono ?_
          rintro e w6 ⟨rfl, rfl⟩
          go_wp2_with fail
          refine hKr.out _ _ hHeld2 (fun hHeld3 => ?_)
          clear hKr Kr
          (try simp only [Act.put, Sx0, Sx1, Sx2])
          refine wpAnyH_take (i := 21) (oi := ⟨some 35, .binOp .lss 3 (.tmp 34) (.const (.int .i64 0)) 3, 4, "ref.go:62", #[⟨20, .data⟩, ⟨14, .guard⟩], some (14, true)⟩) (v := .bool true) rfl (by kernel_rfl) (by kernel_rfl) (by kernel_rfl) (fun _ _ _ h => h) (Or.inl ⟨by rfl, ?_⟩) hHeld3 ?_
          · intro wq hSq
            have hSq1 := hSq.1
            clear hSq
            go_simp
          (try simp only [Act.put, Sx0, Sx1, Sx2])
          refine wpAnyH_take (i := 22) (oi := ⟨some 36, .pick (.tmp 28) (.tmp 35) (.const (.bool false)), 4, "ref.go:62", #[⟨14, .data⟩, ⟨21, .data⟩], none⟩) (v := .bool true) rfl (by kernel_rfl) (by kernel_rfl) (by kernel_rfl) (fun _ _ _ h => h) (Or.inl ⟨by rfl, ?_⟩) hHeld3 ?_
          · intro wq hSq
            have hSq1 := hSq.1
            clear hSq
            go_simp
          (try simp only [Act.put, Sx0, Sx1, Sx2])
          refine wpAnyH_done (by kernel_rfl) ?_ _
          have c5 := hHeld3.1
          have hul : (ucells outj).length = outj.length := ucells_len outj
          have HRW5 := mkHid (HRW.out.drew.below HB5.out)
          have hof := HOF.out
          have hlo : ∀ k, own k → k < w6.heap.size := fun k hk => by
            have h1 := HOW.out k hk
            have h2 := HBW.out.size
            have h3 := HMV.out.chg.size
            have h4 : wr.heap.size ≤ w6.heap.size := HB5.out.size
            omega
          have HLO := mkHid hlo
          clear hlo
          go_wp2_with (at_builtin; refine wpList_append_rw2 rfl _ _ 31 rfl 0 27 i0 (.int .u64 0) 8 Try.underlying31 hi hz0 hz1 hz2 rfl _ (ucells outj) rfl (HRW5.out.below ((Below.refl _ _).alloc (Nat.le_refl _) _)) _ (.int .u64 (y : Int)) rfl (cell_new1 _ _ _) rfl (by rw [hul]; unfold maxLen; omega) (by rw [hul]; omega) (Nat.zero_le _) (fun k hk => Nat.lt_of_lt_of_le (HLO.out k hk) (by simp)) ?_)
          intro u6 w7 r6 c6 hu6
          have hal : Below w6.heap.size w6 (w6.alloc (.cells #[.int .u64 (y : Int)] 27)) := (Below.refl _ _).alloc (Nat.le_refl _) _
          have hbb : Below wr.drew.heap.size wr.drew (w6.alloc (.cells #[.int .u64 (y : Int)] 27)) := HB5.out.trans (hal.mono HB5.out.size)
          obtain ⟨a6, cc6, e6, _⟩ := r6.len
          rw [List.length_append, hul] at e6
          have HE6 := mkHid e6
          have HM6 := mkHid (mv_row (HMV.out.drew.trans (Mv.of_below hbb)) c6 (fun k hk => (hu6 k hk).imp id (fun e => by simpa using e)))
          have HC6 := mkHid (chg_row (HMV.out.drew.trans (Mv.of_below hbb)) (chg_more HCH.out.drew hbb) c6 HRW.out.2)
          have HR6 : Hid (Rw own w7 0 27 u6 (ucells (outj ++ [y]))) := by rw [ucells_snoc]; exact r6
          subst e6
          clear r6 c6 hu6 hal hbb hul
          go_wp2_with fail
          go_roundw
          case rel => exact ⟨j + 1, a6, cc6, outj ++ [y], by go_num, by simp, by rw [HMT.out, HMO.out], by omega, HM6.out, HC6.out, HR6.out⟩
          case measure => simp [intOf]; omega
    · obtain rfl : j = rn := by omega
      have hall : ys.take j = ys := List.take_of_length_le (by rw [← HRN.out]; exact Nat.le_refl _)
      rw [hall] at hoj
      have HMV := mkHid hmv
      have HCH := mkHid hch
      have HRW := mkHid hrw
      have HOJ2 := mkHid hoj
      clear hmv hch hrw hoj hall
      go_wp2_with fail
      go_ret
      refine ⟨_, rfl, (Mv.of_below HBW.out).trans HMV.out, ?_, by rw [← HOJ2.out]; exact HRW.out⟩
      have hch := HCH.out
      have hbw := HBW.out
      exact ⟨hch.os.trans hbw.os, hch.tape.trans hbw.tape, hch.output.trans hbw.output, Nat.le_trans hbw.size hch.size, fun k hk hn => by rw [hch.block k (Nat.lt_of_lt_of_le hk hbw.size) hn, hbw.block k hk]⟩
end
end Go.Proofs.Ytjappkiiokpjjaa
