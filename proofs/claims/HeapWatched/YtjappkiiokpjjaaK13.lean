/- Some texts in one: each opens with its own remark. -/
import Derived.Test.YtjappkiiokpjjaaK12
/- A marker's calls on one object: object, mark, put; Running, Waiting, Marked. -/
namespace Go.Proofs.Ytjappkiiokpjjaa
open Go.RowKit

section
variable {own oh : Nat → Prop} {w w' : World} {i : HId} {cap slots : Nat} {rt : List Nat} {wv : Value} {M : Nat} {rn : Bool} {s : List Ob × List Nat} {sv : Value}
theorem mobject_no (h : Mr own w i cap slots rt wv M rn s oh sv) (x : Nat) (hx : x < 18446744073709551616) (hl : look (plL 0 s.1) x = none) : Calls Try.prog 68 #[.pointer (some ⟨M, 0, none⟩), .int .u64 x] w fun e w' => e = .returned (.tuple #[.int .i64 0, .bool false, .int .i64 6]) ∧ Below w.heap.size w w' := by
  have HT := mkHid (hTable_any h.ph)
  have HA := mkHid (ab_At_no (HP.ab h.ph) x hx hl)
  obtain ⟨c0, _, _⟩ := h.cells
  clear h hl
  go_enter Try.func68, Try.ntmps68
  go_wp2_with fail
  refine HT.out.mono ?_
  rintro e w1 ⟨rfl, rfl⟩
  go_wp2_with fail
  refine HA.out.mono ?_
  rintro e w1 ⟨rfl, rfl⟩
  go_wp2_with fail
  go_returns
  exact ⟨rfl, Below.refl _ _⟩
theorem mobject_yes (h : Mr own w i cap slots rt wv M rn s oh sv) (x k : Nat) (hx : x < 18446744073709551616) (hl : look (plL 0 s.1) x = some k) : Calls Try.prog 68 #[.pointer (some ⟨M, 0, none⟩), .int .u64 x] w fun e w' => e = .returned (.tuple #[.int .i64 (place s.1 k : Nat), .bool (oat s.1 k).mark, .int .i64 0]) ∧ Below w.heap.size w w' := by
  have hk := look_lt hl
  have HT := mkHid (hTable_any h.ph)
  have HAR := mkHid (hArena_any h.ph)
  have ha := ab_At (HP.ab h.ph) x k hx hl
  rw [show rs (plainS cap slots s.1 rt).L k = ⟨1, 0 + place s.1 k, true⟩ from plL_rs s.1 0 k hk, Nat.zero_add] at ha
  have HA := mkHid ha
  have hh := at_Head (HP.at_ h.ph) (show obAt s.1 [] 0 (place s.1 k) = some (oat s.1 k) from obAt_place hk)
  obtain ⟨p, hp⟩ : ∃ p, p = place s.1 k := ⟨_, rfl⟩
  obtain ⟨t, ht⟩ : ∃ t, t = (oat s.1 k).tag := ⟨_, rfl⟩
  obtain ⟨r, hr⟩ : ∃ r, r = (oat s.1 k).refs := ⟨_, rfl⟩
  obtain ⟨z, hz⟩ : ∃ z, z = (oat s.1 k).ws.length := ⟨_, rfl⟩
  obtain ⟨m, hm⟩ : ∃ m, m = (oat s.1 k).mark := ⟨_, rfl⟩
  obtain ⟨u, hu⟩ : ∃ u, u = (oat s.1 k).own := ⟨_, rfl⟩
  have hO : headO (oat s.1 k) = .agg #[.int .i64 (t : Int), .int .i64 (r : Int), .int .i64 (z : Int), .bool m, .int .i64 (u : Int)] := by unfold headO; rw [ht, hr, hz, hm, hu]
  rw [hO, ← hp] at hh
  rw [← hp] at HA ⊢
  rw [← hm]
  have HH := mkHid hh
  obtain ⟨c0, _, _⟩ := h.cells
  have hc0 : ∀ W, Below w.heap.size w W → W.cell? ⟨M, 0, none⟩ = some (.pointer (some ⟨i.H, 0, none⟩)) := fun W hW => (h.below hW).cells.1
  clear h hl hh ha hp ht hr hz hm hu hO
  go_enter Try.func68, Try.ntmps68
  go_wp2_with fail
  refine HT.out.mono ?_
  rintro e w1 ⟨rfl, rfl⟩
  go_wp2_with fail
  refine HA.out.mono ?_
  rintro e w1 ⟨rfl, rfl⟩
  go_wp2_with fail
  refine HAR.out.mono ?_
  rintro e w1 ⟨rfl, rfl⟩
  go_wp2_with fail
  refine HH.out.mono ?_
  rintro e w1 ⟨rfl, b1⟩
  have HB := mkHid b1
  clear b1
  go_wp2_with fail
  obtain ⟨W2, hW2⟩ : ∃ W2, W2 = w1.alloc (.cells #[.int .i64 (t : Int), .int .i64 (r : Int), .int .i64 (z : Int), .bool m, .int .i64 (u : Int)] 92) := ⟨_, rfl⟩
  have c3 : W2.cell? ⟨w1.heap.size, 3, none⟩ = some (.bool m) := by
    rw [hW2]; exact cell_of_row _ _ 3 _ _ _ (heap_alloc_new w1 _)
  have HB2 := mkHid (HB.out.alloc HB.out.size (.cells #[.int .i64 (t : Int), .int .i64 (r : Int), .int .i64 (z : Int), .bool m, .int .i64 (u : Int)] 92))
  rw [← hW2] at HB2 ⊢
  clear hW2
  go_quiet (fail)
  go_wp2_with fail
  go_returns
  exact ⟨rfl, below_dn HB2.out _⟩
theorem mmark_no (h : Mr own w i cap slots rt wv M rn s oh sv) (x : Nat) (hx : x < 18446744073709551616) (hl : look (plL 0 s.1) x = none ∨ ∃ k, look (plL 0 s.1) x = some k ∧ (oat s.1 k).mark = true) : Calls Try.prog 101 #[.pointer (some ⟨M, 0, none⟩), .int .u64 x] w fun e w' => e = .returned (.bool false) ∧ Below w.heap.size w w' := by
  rcases hl with hl | ⟨k, hl, hm⟩
  · have HO := mkHid (mobject_no h x hx hl)
    clear h hl
    go_enter Try.func101, Try.ntmps101
    go_wp2_with fail
    refine HO.out.mono ?_
    rintro e w1 ⟨rfl, b1⟩
    have HB := mkHid b1
    clear b1
    go_wp2_with fail
    go_ret
    exact ⟨rfl, HB.out⟩
  · have ho := mobject_yes h x k hx hl
    rw [hm] at ho
    have HO := mkHid ho
    clear h hl ho hm
    go_enter Try.func101, Try.ntmps101
    go_wp2_with fail
    refine HO.out.mono ?_
    rintro e w1 ⟨rfl, b1⟩
    have HB := mkHid b1
    clear b1
    go_wp2_with fail
    go_ret
    exact ⟨rfl, HB.out⟩
/-- The heap with one mark changed. -/
theorem ph_mark {Os : List Ob} (h : PH own w i cap slots Os rt wv) {k : Nat} (hk : k < Os.length) (b : Bool) : Calls Try.prog 100 #[.pointer (some ⟨i.A, 0, none⟩), .int .i64 (place Os k : Nat), .bool b] w fun e w' => e = .returned (.int .i64 0) ∧ Mv own own w w' ∧ PH own w' i cap slots (mkO Os k b) rt wv := by
  refine (at_Mark (HP.at_ h) b (show obAt Os [] 0 (place Os k) = some (oat Os k) from obAt_place hk)).mono ?_
  rintro e w' ⟨rfl, hc, ha⟩
  obtain ⟨m, hp⟩ := HP.arena h hc ha
  refine ⟨rfl, m, ?_⟩
  have h1 := setObj_place Os 0 k ((oat Os k).on b) hk
  have h2 := objAt_place Os 0 k hk
  rw [Nat.zero_add] at h1 h2
  have hl : setLo Os (place Os k) ((oat Os k).on b) = mkO Os k b := by
    unfold setLo; exact h1
  have hh : setHi Os [] 0 (place Os k) ((oat Os k).on b) = [] := by unfold setHi; rw [h2]
  have hp2 : HP own w' i ⟨cap, slots, setLo Os (place Os k) ((oat Os k).on b), setHi Os [] 0 (place Os k) ((oat Os k).on b), 0, false, plL 0 Os, [], rt⟩ wv := hp
  rw [hl, hh] at hp2
  unfold PH plainS
  rw [plL_mkO]
  exact hp2
theorem mmark_yes (h : Mr own w i cap slots rt wv M rn s oh sv) (x k : Nat) (hx : x < 18446744073709551616) (hl : look (plL 0 s.1) x = some k) (hm : (oat s.1 k).mark = false) : Calls Try.prog 101 #[.pointer (some ⟨M, 0, none⟩), .int .u64 x] w fun e w' => e = .returned (.bool true) ∧ Mv oh oh w w' ∧ PH oh w' i cap slots (mkO s.1 k true) rt wv := by
  have hk := look_lt hl
  have ho := mobject_yes h x k hx hl
  rw [hm] at ho
  have HO := mkHid ho
  have HAR := mkHid (fun (v : World) (hv : Below w.heap.size w v) => hArena_any (h.below hv).ph)
  have HMK := mkHid (fun (v : World) (hv : Below w.heap.size w v) => ph_mark (h.below hv).ph hk true)
  have HC := mkHid (fun (v : World) (hv : Below w.heap.size w v) => (h.below hv).cells.1)
  generalize place s.1 k = p at HO HMK
  clear h hl ho hm
  go_enter Try.func101, Try.ntmps101
  go_wp2_with fail
  refine HO.out.mono ?_
  rintro e w1 ⟨rfl, b1⟩
  have HB := mkHid b1
  have c0 := HC.out w1 b1
  have HAR1 := mkHid (HAR.out w1 b1)
  have HMK1 := mkHid (HMK.out w1 b1)
  clear b1
  go_wp2_with fail
  refine HAR1.out.mono ?_
  rintro e w2 ⟨rfl, rfl⟩
  go_wp2_with fail
  refine HMK1.out.mono ?_
  rintro e w3 ⟨rfl, m3, h3⟩
  have M3 := mkHid m3
  have H3 := mkHid h3
  clear m3 h3
  go_wp2_with fail
  go_ret
  exact ⟨rfl, (Mv.of_below HB.out).trans M3.out, H3.out⟩
theorem mput_same (h : Mr own w i cap slots rt wv M rn s oh sv) (x : Nat) (hx : x < 18446744073709551616) (hl : look (plL 0 s.1) x = none ∨ ∃ k, look (plL 0 s.1) x = some k ∧ (oat s.1 k).mark = true) : Calls Try.prog 65 #[.pointer (some ⟨M, 0, none⟩), .int .u64 x] w fun e w' => e = .returned (.tuple #[]) ∧ Below w.heap.size w w' := by
  have HM := mkHid (mmark_no h x hx hl)
  clear h hl
  go_enter Try.func65, Try.ntmps65
  go_wp2_with fail
  refine HM.out.mono ?_
  rintro e w1 ⟨rfl, b1⟩
  have HB := mkHid b1
  clear b1
  go_wp2_with fail
  go_returns
  exact ⟨rfl, HB.out⟩
set_option maxHeartbeats 2000000 in
set_option maxRecDepth 1000000 in
theorem mput_new (h : Mr own w i cap slots rt wv M rn s oh sv) (x k : Nat) (hx : x < 18446744073709551616) (hl : look (plL 0 s.1) x = some k) (hm : (oat s.1 k).mark = false) : Calls Try.prog 65 #[.pointer (some ⟨M, 0, none⟩), .int .u64 x] w fun e w' => e = .returned (.tuple #[]) ∧ ∃ own', Mv own own' w w' ∧ MS own' w' i cap slots rt wv M rn (mkO s.1 k true, s.2 ++ [k]) := by
  have hk := look_lt hl
  have hxe : x = hnd k 1 := (look_pl_some hl).2
  obtain ⟨i0, hi, hz0, hz1, hz2⟩ := info_parts infoU64
  have HM := mkHid (mmark_yes h x k hx hl hm)
  have HH := mkHid h
  have HK := mkHid (And.intro hk hm)
  have HXE := mkHid hxe
  obtain ⟨a0, c00, rfl, _⟩ := h.len
  clear h hl hm hk hxe
  go_enter Try.func65, Try.ntmps65
  go_wp2_with fail
  refine HM.out.mono ?_
  rintro e w1 ⟨rfl, m1, p1⟩
  obtain ⟨own1, mm, h1⟩ := HH.out.heap m1 p1 (by rw [mkO_len]; exact Nat.le_refl _) (by rw [mcnt_set _ _ HK.out.1 HK.out.2]; omega)
  obtain ⟨c0, c1, c2⟩ := h1.cells
  have f1 := h1.free 1
  have H1 := mkHid h1
  have MM := mkHid mm
  have hfw : s.2.length ≤ (mkO s.1 k true).length ∧ (mkO s.1 k true).length ≤ 1048576 ∧ _ := h1.few
  have HRW : Hid (Rw oh w1 0 27 (.slice a0 s.2.length c00) (ucells (s.2.map fun k => hnd k 1))) := h1.row
  have hln : (ucells (s.2.map fun k => hnd k 1)).length = s.2.length := by rw [ucells_len, List.length_map]
  have hlt1 : s.2.length ≤ 1048576 := by omega
  clear m1 p1 mm h1 hfw
  go_wp2_with (at_builtin; refine wpList_append_rw2 rfl _ _ 31 rfl 0 27 i0 (.int .u64 0) 8 Try.underlying31 hi hz0 hz1 hz2 rfl _ (ucells (s.2.map fun k => hnd k 1)) rfl (HRW.out.below ((Below.refl _ _).alloc (Nat.le_refl _) _)) _ (.int .u64 (x : Int)) rfl (cell_new1 _ _ _) rfl (by rw [hln]; unfold maxLen; omega) (by rw [hln]; omega) (Nat.zero_le _) (fun k hk => Nat.lt_of_lt_of_le (HP.lt H1.out.ph hk) (by simp)) ?_)
  intro u' w3 hr hc hu
  have hr2 : Rw oh w3 0 27 u' (ucells ((s.2 ++ [k]).map fun k => hnd k 1)) := by
    have e : ucells ((s.2 ++ [k]).map fun k => hnd k 1) = ucells (s.2.map fun k => hnd k 1) ++ [.int .u64 (x : Int)] := by rw [HXE.out]; simp [ucells]
    rw [e]; exact hr
  have B1 : Below w1.heap.size w1 (w1.alloc (.cells #[.int .u64 (x : Int)] 27)) := (Below.refl _ _).alloc (Nat.le_refl _) _
  obtain ⟨own2, m2, h2⟩ := (H1.out.below B1).push hc hr2 (fun k hk => (hu k hk).imp id (fun e => by simpa using e)) (by
    have := HH.out.stk.putX x
    exact ⟨fun j hj => by rw [mkO_len]; rcases List.mem_append.1 hj with hj | hj; exact HH.out.stk.lt j hj; simp at hj; rw [hj]; exact HK.out.1, by
      have h1 := mcnt_set s.1 k HK.out.1 HK.out.2
      have h2 := HH.out.stk.few
      show (s.2 ++ [k]).length ≤ mcnt (mkO s.1 k true)
      rw [h1, List.length_append]
      simp; omega⟩)
  have hMl := (Array.getElem?_eq_some_iff.1 H1.out.head).1
  have hM3 : w3.heap[M]? = some (.cells #[.pointer (some ⟨i.H, 0, none⟩), .slice a0 s.2.length c00, .bool rn] 126 (0, 0)) := by
    rw [hc.block M (Nat.lt_of_lt_of_le hMl B1.size) H1.out.hS, B1.block M hMl]; exact H1.out.head
  have f3 := frozen_of_row w3 M 1 _ _ hM3
  have c3 : w3.cell? ⟨M, 1, none⟩ = some (.slice a0 s.2.length c00) := cell_of_row w3 M 1 _ _ _ hM3
  obtain ⟨a3, cc3, e3, _⟩ := hr.len
  rw [List.length_append, hln] at e3
  subst e3
  have H2 := mkHid h2
  have M2 := mkHid ((MM.out.trans (Mv.of_below B1)).trans m2)
  clear hr hc hu hr2 B1 m2 h2 hMl hM3 c0 c1 c2 f1
  go_wp2_with fail
  go_returns
  exact ⟨rfl, own2, M2.out, oh, _, H2.out⟩
theorem mput (h : MS own w i cap slots rt wv M rn s) (x : Nat) (hx : x < 18446744073709551616) : Calls Try.prog 65 #[.pointer (some ⟨M, 0, none⟩), .int .u64 x] w fun e w' => e = .returned (.tuple #[]) ∧ ∃ own', Mv own own' w w' ∧ MS own' w' i cap slots rt wv M rn (putX s x) := by
  obtain ⟨oh, sv, h⟩ := h
  rcases hl : look (plL 0 s.1) x with _ | k
  · refine (mput_same h x hx (Or.inl hl)).mono ?_
    rintro e w' ⟨rfl, hb⟩
    rw [putX_none hl]
    exact ⟨rfl, own, Mv.of_below hb, oh, sv, h.below hb⟩
  · rcases hm : (oat s.1 k).mark with _ | _
    · rw [putX_new hl hm]
      exact mput_new h x k hx hl hm
    · refine (mput_same h x hx (Or.inr ⟨k, hl, hm⟩)).mono ?_
      rintro e w' ⟨rfl, hb⟩
      rw [putX_old hl hm]
      exact ⟨rfl, own, Mv.of_below hb, oh, sv, h.below hb⟩
theorem mRunning (h : MS own w i cap slots rt wv M rn s) : Calls Try.prog 66 #[.pointer (some ⟨M, 0, none⟩)] w fun e w' => e = .returned (.bool rn) ∧ w' = w := by
  obtain ⟨oh, sv, h⟩ := h
  obtain ⟨c0, c1, c2⟩ := h.cells
  clear h
  go_enter Try.func66, Try.ntmps66
  go_wp2_with fail
  go_ret
  exact ⟨rfl, rfl⟩
theorem mMarked_no (h : MS own w i cap slots rt wv M rn s) (x : Nat) (hx : x < 18446744073709551616) (hl : look (plL 0 s.1) x = none) : Calls Try.prog 30 #[.pointer (some ⟨M, 0, none⟩), .int .u64 x] w fun e w' => e = .returned (.tuple #[.bool false, .int .i64 6]) ∧ Below w.heap.size w w' := by
  obtain ⟨oh, sv, h⟩ := h
  have HO := mkHid (mobject_no h x hx hl)
  clear h hl
  go_enter Try.func30, Try.ntmps30
  go_wp2_with fail
  refine HO.out.mono ?_
  rintro e w1 ⟨rfl, b1⟩
  have HB := mkHid b1
  clear b1
  go_wp2_with fail
  go_returns
  exact ⟨rfl, HB.out⟩
theorem mMarked (h : MS own w i cap slots rt wv M rn s) {k : Nat} (hk : k < s.1.length) : Calls Try.prog 30 #[.pointer (some ⟨M, 0, none⟩), .int .u64 (hnd k 1 : Nat)] w fun e w' => e = .returned (.tuple #[.bool (oat s.1 k).mark, .int .i64 0]) ∧ Below w.heap.size w w' := by
  have hf := h.few
  obtain ⟨oh, sv, h⟩ := h
  have ho := mobject_yes h (hnd k 1) k (hnd_lt (by omega) (by decide)) (look_pl hk (by omega))
  generalize (oat s.1 k).mark = b at ho ⊢
  generalize hnd k 1 = x at ho ⊢
  generalize place s.1 k = p at ho
  have HO := mkHid ho
  clear h ho
  go_enter Try.func30, Try.ntmps30
  go_wp2_with fail
  refine HO.out.mono ?_
  rintro e w1 ⟨rfl, b1⟩
  have HB := mkHid b1
  clear b1
  go_wp2_with fail
  go_returns
  exact ⟨rfl, HB.out⟩
end
end Go.Proofs.Ytjappkiiokpjjaa

/- A unit of a marking, and Step. -/
namespace Go.Proofs.Ytjappkiiokpjjaa
open Go.RowKit

section
variable {own oh : Nat → Prop} {w w' : World} {i : HId} {cap slots : Nat} {rt : List Nat} {wv : Value} {M : Nat} {rn : Bool} {s : List Ob × List Nat} {sv : Value}
theorem putAll_take (s : List Ob × List Nat) (ys : List Nat) {j : Nat} (hj : j < ys.length) : putAll s (ys.take (j + 1)) = putX (putAll s (ys.take j)) (ys.getD j 0) := by
  unfold putAll
  rw [List.take_add_one, List.foldl_append]
  simp [hj]
theorem MS.word (h : MS own w i cap slots rt wv M rn s) {k j : Nat} (hk : k < s.1.length) : (oat s.1 k).ws.getD j 0 < 18446744073709551616 := by
  obtain ⟨oh, sv, h⟩ := h
  exact (h.ph.ok hk).wlt j
theorem MS.okO (h : MS own w i cap slots rt wv M rn s) {k : Nat} (hk : k < s.1.length) : (oat s.1 k).ok := by
  obtain ⟨oh, sv, h⟩ := h
  exact h.ph.ok hk
theorem mHead (h : MS own w i cap slots rt wv M rn s) {k : Nat} (hk : k < s.1.length) : Calls Try.prog 77 #[.pointer (some ⟨i.H, 0, none⟩), .int .u64 (hnd k 1 : Nat)] w fun e w' => e = .returned (.tuple #[.int .i64 (oat s.1 k).tag, .int .i64 (oat s.1 k).refs, .int .i64 (oat s.1 k).ws.length, .int .i64 0]) ∧ Below w.heap.size w w' := by
  obtain ⟨oh, sv, h⟩ := h
  exact hHead_yes h.ph (h.ph.has hk)
theorem mRef (h : MS own w i cap slots rt wv M rn s) {k j : Nat} (hk : k < s.1.length) (hj : j < (oat s.1 k).refs) : Calls Try.prog 33 #[.pointer (some ⟨i.H, 0, none⟩), .int .u64 (hnd k 1 : Nat), .int .i64 j] w fun e w' => e = .returned (.tuple #[.int .u64 ((oat s.1 k).ws.getD j 0 : Nat), .int .i64 0]) ∧ Below w.heap.size w w' := by
  obtain ⟨oh, sv, h⟩ := h
  exact ph_Ref h.ph hk hj
theorem MS.cell0 (h : MS own w i cap slots rt wv M rn s) : w.cell? ⟨M, 0, none⟩ = some (.pointer (some ⟨i.H, 0, none⟩)) := by
  obtain ⟨oh, sv, h⟩ := h
  exact h.cells.1
set_option maxHeartbeats 4000000 in
set_option maxRecDepth 1000000 in
theorem munit (h : MS own w i cap slots rt wv M rn s) (h0 : 0 < s.2.length) : Calls Try.prog 67 #[.pointer (some ⟨M, 0, none⟩)] w fun e w' => e = .returned (.tuple #[]) ∧ ∃ own', Mv own own' w w' ∧ MS own' w' i cap slots rt wv M rn (unitX s) := by
  obtain ⟨Os, K⟩ := s
  have hK : K ≠ [] := fun e => by rw [e] at h0; simp at h0
  obtain ⟨K', k, rfl⟩ : ∃ K' k, K = K' ++ [k] := ⟨K.dropLast, K.getLast hK, (List.dropLast_concat_getLast hK).symm⟩
  have hun : unitX (Os, K' ++ [k]) = putAll (Os, K') (refsO (oat Os k)) := by unfold unitX; simp
  rw [hun]
  have hk : k < Os.length := h.stk.lt k (by simp)
  have hstk : Stk1 (Os, K') := by have := h.stk.pop; simpa using this
  have hfew := h.few
  obtain ⟨oh, sv, h⟩ := h
  obtain ⟨a, c, rfl, hg⟩ := h.len
  obtain ⟨g, rfl⟩ := hg (by simp)
  have hlen : ((Os, K' ++ [k]) : List Ob × List Nat).2.length = K'.length + 1 := by simp
  rw [hlen] at h
  obtain ⟨c0, c1, c2⟩ := h.cells
  have f1 := h.free 1
  have q1 : w.cell? ⟨g, K'.length, none⟩ = some (.int .u64 ((hnd k 1 : Nat) : Int)) := h.row.at_ (by simp [ucells])
  have hcap : K'.length + 1 ≤ c := by
    obtain ⟨g', c', e', h1, _⟩ := h.row.cells (by simp [ucells])
    have hu : (ucells (((Os, K' ++ [k]) : List Ob × List Nat).2.map fun k => hnd k 1)).length = K'.length + 1 := by simp [ucells]
    rw [hu] at e' h1
    cases e'
    exact h1
  have hN : K'.length ≤ 1048576 := by simp at hfew; omega
  have HH := mkHid h
  have HSTK := mkHid hstk
  have HKL := mkHid hk
  obtain ⟨x, hx⟩ : ∃ x, x = hnd k 1 := ⟨_, rfl⟩
  rw [← hx] at q1
  have HX := mkHid hx
  generalize hNN : K'.length = N at *
  have HN := mkHid hNN
  have hwN : wrap64 ((N : Int) + 1 - 1) = (N : Int) := by unfold wrap64; omega
  have hNc : (N : Int) ≤ (c : Int) := by omega
  clear h hstk hk hx hNN h0 hK hun hfew hlen hg
  go_enter Try.func67, Try.ntmps67
  go_wp2_with fail
  have hrow : Rw oh w 0 27 (.slice (some ⟨g, 0, none⟩) N c) (ucells (K'.map fun k => hnd k 1)) := by
    have := HH.out.row.dropLast
    have e1 : (ucells (((Os, K' ++ [k]) : List Ob × List Nat).2.map fun k => hnd k 1)).dropLast = ucells (K'.map fun k => hnd k 1) := by simp [ucells]
    rw [e1] at this
    exact this
  obtain ⟨own1, m1, h1⟩ := HH.out.push (K := K') (Chg.refl _ w) hrow (fun k hk => Or.inl hk) HSTK.out
  have hms : MS own1 _ i cap slots rt wv M rn (Os, K') := ⟨oh, _, h1⟩
  have HHD := mkHid (mHead hms (k := k) HKL.out)
  have HMS := mkHid hms
  have M1 := mkHid m1
  have hok : (oat Os k).ok := hms.okO (k := k) HKL.out
  have HRL := mkHid (show (oat Os k).refs ≤ (oat Os k).ws.length from hok.r)
  have hr12 : (oat Os k).refs ≤ 4096 := by have := hok.r; have := hok.s; omega
  rw [← HX.out] at HHD
  obtain ⟨t, ht⟩ : ∃ t, t = (oat Os k).tag := ⟨_, rfl⟩
  obtain ⟨r, hr⟩ : ∃ r, r = (oat Os k).refs := ⟨_, rfl⟩
  obtain ⟨z, hz⟩ : ∃ z, z = (oat Os k).ws.length := ⟨_, rfl⟩
  have HHD2 : Hid (Calls Try.prog 77 #[.pointer (some ⟨i.H, 0, none⟩), .int .u64 (x : Int)] (w.setCell ⟨M, 1, none⟩ (.slice (some ⟨g, 0, none⟩) N c)) fun e w' => e = .returned (.tuple #[.int .i64 t, .int .i64 r, .int .i64 z, .int .i64 0]) ∧ Below (w.setCell ⟨M, 1, none⟩ (.slice (some ⟨g, 0, none⟩) N c)).heap.size (w.setCell ⟨M, 1, none⟩ (.slice (some ⟨g, 0, none⟩) N c)) w') := by
    rw [ht, hr, hz]
    exact HHD.out
  have HR := mkHid hr
  rw [← hr] at hr12
  clear HHD hms m1 h1 hrow ht hr hz hok c0 c1 c2 f1 q1
  refine HHD2.out.mono ?_
  rintro e w2 ⟨rfl, b2⟩
  have M2 := mkHid (M1.out.trans (Mv.of_below b2))
  have H2 := mkHid (HMS.out.below b2)
  clear b2 HHD2 HMS M1
  go_wp2_with fail
  go_loopw [45] (fun y wr => ∃ (j : Nat) (own2 : Nat → Prop), y = .int .i64 j ∧ j ≤ r ∧ Mv own own2 w wr ∧ MS own2 wr i cap slots rt wv M rn (putAll (Os, K') ((refsO (oat Os k)).take j))) (fun y _ => r - (intOf y).toNat)
  case atStart => exact ⟨0, own1, rfl, Nat.zero_le _, M2.out, by simpa [putAll] using H2.out⟩
  case round =>
    clear M2 H2
    obtain ⟨j, own2, rfl, hj, m2, h2⟩ := hrel
    by_cases hlt : j < r
    · have hlk := like_putAll ((refsO (oat Os k)).take j) (Os, K')
      have hkl : k < (putAll (Os, K') ((refsO (oat Os k)).take j)).1.length := by rw [hlk.1]; exact HKL.out
      have hl2 := hlk.2 k
      have hrf := mRef h2 (k := k) (j := j) hkl (by rw [hl2.2.1]; show j < (oat Os k).refs; rw [← HR.out]; exact hlt)
      rw [hl2.2.2.2, ← HX.out] at hrf
      have hlen : (refsO (oat Os k)).length = (oat Os k).refs := by unfold refsO; rw [List.length_take]; have := HRL.out; omega
      have hgd : (oat Os k).ws.getD j 0 = (refsO (oat Os k)).getD j 0 := by unfold refsO; rw [List.getD_eq_getElem?_getD, List.getD_eq_getElem?_getD, List.getElem?_take_of_lt (by rw [← HR.out]; exact hlt)]
      have hyl := h2.word (k := k) (j := j) hkl
      rw [hl2.2.2.2] at hyl
      have hpt := putAll_take (Os, K') (refsO (oat Os k)) (j := j) (by rw [hlen, ← HR.out]; exact hlt)
      obtain ⟨y, hy⟩ : ∃ y, y = (oat Os k).ws.getD j 0 := ⟨_, rfl⟩
      have hrf2 : Calls Try.prog 33 #[.pointer (some ⟨i.H, 0, none⟩), .int .u64 (x : Int), .int .i64 j] wr fun e w' => e = .returned (.tuple #[.int .u64 (y : Int), .int .i64 0]) ∧ Below wr.heap.size wr w' := by rw [hy]; exact hrf
      have hyl2 : y < 18446744073709551616 := by rw [hy]; exact hyl
      rw [← hgd, ← hy] at hpt
      have HRF := mkHid hrf2
      have HPU := mkHid (fun (v : World) (hv : Below wr.heap.size wr v) => mput (h2.below hv) y hyl2)
      have HPT := mkHid hpt
      have HM2 := mkHid m2
      have HH2 := mkHid h2
      have d0 := h2.cell0
      clear hlk hkl hl2 hrf hlen hgd hyl hpt hrf2 hyl2 hy m2 h2
      go_wp2_with fail
      refine HRF.out.mono ?_
      rintro e w3 ⟨rfl, b3⟩
      have HPU3 := mkHid (HPU.out w3 b3)
      have HM3 := mkHid (HM2.out.trans (Mv.of_below b3))
      clear b3 d0
      go_wp2_with fail
      refine HPU3.out.mono ?_
      rintro e w4 ⟨rfl, own4, m4, h4⟩
      have M4 := mkHid (HM3.out.trans m4)
      rw [← HPT.out] at h4
      have H4 := mkHid h4
      clear m4 h4
      go_wp2_with fail
      go_roundw
      case rel => exact ⟨j + 1, own4, by go_num, by omega, M4.out, H4.out⟩
      case measure => simp [intOf]; omega
    · obtain rfl : r = j := by omega
      have hlen : (refsO (oat Os k)).length = (oat Os k).refs := by unfold refsO; rw [List.length_take]; have := HRL.out; omega
      have hall : (refsO (oat Os k)).take r = refsO (oat Os k) := by rw [List.take_of_length_le]; rw [hlen, ← HR.out]; exact Nat.le_refl _
      rw [hall] at h2
      have H2 := mkHid h2
      have M2 := mkHid m2
      clear hall hlen h2 m2
      go_wp2_with fail
      go_returns
      exact ⟨rfl, own2, M2.out, H2.out⟩
end
end Go.Proofs.Ytjappkiiokpjjaa

/- Step, Stop, Watch, unmark, Start. -/
namespace Go.Proofs.Ytjappkiiokpjjaa
open Go.RowKit

section
variable {own oh : Nat → Prop} {w w' : World} {i : HId} {cap slots : Nat} {rt : List Nat} {wv : Value} {M : Nat} {rn : Bool} {s : List Ob × List Nat} {sv : Value}
theorem stepX_nil (n : Nat) {s : List Ob × List Nat} (h : s.2 = []) : stepX n s = s := by
  cases n with
  | zero => rfl
  | succ n => unfold stepX; simp [h]
theorem stepX_succ (n : Nat) {s : List Ob × List Nat} (h : 0 < s.2.length) : stepX (n + 1) s = stepX n (unitX s) := by
  have : s.2.isEmpty = false := by cases hs : s.2 with
    | nil => rw [hs] at h; simp at h
    | cons a l => rfl
  conv => lhs; unfold stepX
  rw [this]
  rfl
theorem mStep_state (h : MS own w i cap slots rt wv M false s) (n : Int) : Calls Try.prog 29 #[.pointer (some ⟨M, 0, none⟩), .int .i64 n] w fun e w' => e = .returned (.tuple #[.bool false, .int .i64 16]) ∧ w' = w := by
  have HR := mkHid (mRunning h)
  clear h
  go_enter Try.func29, Try.ntmps29
  go_wp2_with fail
  refine HR.out.mono ?_
  rintro e w1 ⟨rfl, rfl⟩
  go_wp2_with fail
  go_returns
  exact ⟨rfl, rfl⟩
theorem mStep_arg (h : MS own w i cap slots rt wv M true s) (n : Int) (hn : n < 1) : Calls Try.prog 29 #[.pointer (some ⟨M, 0, none⟩), .int .i64 n] w fun e w' => e = .returned (.tuple #[.bool false, .int .i64 1]) ∧ w' = w := by
  have HR := mkHid (mRunning h)
  clear h
  go_enter Try.func29, Try.ntmps29
  go_wp2_with fail
  refine HR.out.mono ?_
  rintro e w1 ⟨rfl, rfl⟩
  go_wp2_with fail
  go_returns
  exact ⟨rfl, rfl⟩
set_option maxHeartbeats 4000000 in
set_option maxRecDepth 1000000 in
theorem mStep (h : MS own w i cap slots rt wv M true s) (n : Nat) (hn : 1 ≤ n) (hn2 : n ≤ 9223372036854775807) : Calls Try.prog 29 #[.pointer (some ⟨M, 0, none⟩), .int .i64 n] w fun e w' => e = .returned (.tuple #[.bool ((stepX n s).2.length == 0), .int .i64 0]) ∧ ∃ own', Mv own own' w w' ∧ MS own' w' i cap slots rt wv M true (stepX n s) := by
  have HR := mkHid (mRunning h)
  have HH := mkHid h
  have hn1 : ¬ (n : Int) < 1 := by omega
  clear h hn
  go_enter Try.func29, Try.ntmps29
  go_wp2_with fail
  refine HR.out.mono ?_
  rintro e w1 ⟨rfl, rfl⟩
  go_wp2_with fail
  go_loopw [1] (fun y wr => ∃ (j : Nat) (own2 : Nat → Prop) (s2 : List Ob × List Nat), y = .int .i64 j ∧ j ≤ n ∧ Mv own own2 w1 wr ∧ MS own2 wr i cap slots rt wv M true s2 ∧ stepX j s2 = stepX n s) (fun y _ => (intOf y).toNat)
  case atStart => exact ⟨n, own, s, rfl, Nat.le_refl _, Mv.refl _ _, HH.out, rfl⟩
  case round =>
    clear HH HR
    obtain ⟨j, own2, s2, rfl, hj, m2, h2, he⟩ := hrel
    have HU := mkHid (fun h0 : 0 < s2.2.length => munit h2 h0)
    have hcc : ∃ a c, wr.cell? ⟨M, 1, none⟩ = some (.slice a s2.2.length c) := by
      obtain ⟨oh, sv, h3⟩ := h2
      obtain ⟨a, c, rfl, _⟩ := h3.len
      exact ⟨a, c, h3.cells.2.1⟩
    obtain ⟨a, c, c1⟩ := hcc
    have HM := mkHid m2
    have HH := mkHid h2
    have HE := mkHid he
    clear m2 h2 he
    rcases Nat.eq_zero_or_pos j with h0 | h0
    · have HE0 : Hid (s2 = stepX n s) := by
        have := HE.out
        rw [h0] at this
        exact this
      have hj0 : ¬ (0 : Int) < (j : Int) := by omega
      clear h0
      obtain ⟨N, hN⟩ : ∃ N, N = s2.2.length := ⟨_, rfl⟩
      rw [← hN] at c1
      have HN := mkHid hN
      clear hN
      go_wp2_with fail
      go_returns
      refine ⟨?_, own2, HM.out, ?_⟩
      · rw [← HE0.out, ← HN.out]
        cases N <;> simp <;> omega
      · rw [← HE0.out]; exact HH.out
    · obtain ⟨N, hN⟩ : ∃ N, N = s2.2.length := ⟨_, rfl⟩
      rw [← hN] at c1
      have HN := mkHid hN
      have hj0 : (0 : Int) < (j : Int) := by omega
      clear hN
      rcases Nat.eq_zero_or_pos N with hN0 | hN0
      · subst hN0
        have HE0 : Hid (s2 = stepX n s) := by
          show _ = _
          rw [← HE.out, stepX_nil j (List.eq_nil_of_length_eq_zero HN.out.symm)]
        go_wp2_with fail
        go_returns
        refine ⟨?_, own2, HM.out, ?_⟩
        · rw [← HE0.out, ← HN.out]
          rfl
        · rw [← HE0.out]; exact HH.out
      · have hN1 : (0 : Int) < (N : Int) := by omega
        have HUU := mkHid (HU.out (by rw [← HN.out]; exact hN0))
        go_wp2_with fail
        refine HUU.out.mono ?_
        rintro e w3 ⟨rfl, own3, m3, h3⟩
        have M3 := mkHid (HM.out.trans m3)
        have H3 := mkHid h3
        clear m3 h3
        go_wp2_with fail
        go_roundw
        case rel =>
          refine ⟨j - 1, own3, unitX s2, by (have : ((j - 1 : Nat) : Int) = (j : Int) - 1 := by omega); rw [this], by omega, M3.out, H3.out, ?_⟩
          rw [← HE.out, ← stepX_succ (j - 1) (by rw [← HN.out]; exact hN0), Nat.sub_add_cancel h0]
        case measure => simp [intOf]; omega
theorem watch_set (i : HId) (rt : List Nat) (wv v : Value) (hl : rt.length = 16) : (hcells i rt wv).setIfInBounds 18 v = hcells i rt v := by
  unfold hcells
  simp [hl]
theorem HP.watch {s : HS} (h : HP own w i s wv) (v : Value) : Mv own own w (w.setCell ⟨i.H, 18, none⟩ v) ∧ HP own (w.setCell ⟨i.H, 18, none⟩ v) i s v := by
  have hH := h.ownH
  obtain ⟨ot, h⟩ := h
  have hc : Chg (fun k => k = i.H) w (w.setCell ⟨i.H, 18, none⟩ v) := (Chg.refl (fun k => k = i.H) w).setCell (b := i.H) (Or.inl rfl) _ _
  refine ⟨Mv.of_chg (hc.mono fun k _ e => by rw [e]; exact hH), ot, ?_, h.ar.same fun k hk => hc.block k (h.ar.lt hk) (fun e => h.hA (e ▸ hk)), h.tb.chg hc fun k hk => (h.hT k hk).1, h.owns, h.hA, h.hT, h.rlen, h.rlt⟩
  rw [heap_setCell_same w _ _ _ _ _ h.head, watch_set i _ wv v h.rlen]
theorem Mr.watch (h : Mr own w i cap slots rt wv M rn s oh sv) (v : Value) : ∃ own', Mv own own' w (w.setCell ⟨i.H, 18, none⟩ v) ∧ Mr own' (w.setCell ⟨i.H, 18, none⟩ v) i cap slots rt v M rn s oh sv := by
  obtain ⟨m, p⟩ := HP.watch h.ph v
  exact h.heap m p (Nat.le_refl _) (Nat.le_refl _)
theorem hWatch_nil {s : HS} (h : HP own w i s wv) : Calls Try.prog 17 #[.pointer (some ⟨i.H, 0, none⟩), .nilIface] w fun e w' => e = .returned (.tuple #[]) ∧ w' = w.setCell ⟨i.H, 18, none⟩ .nilIface := by
  obtain ⟨_, _, c2, _⟩ := h.cells
  have f := h.free 18
  clear h
  go_enter Try.func17, Try.ntmps17
  go_wp2_with fail
  go_returns
  exact ⟨rfl, rfl⟩
end
end Go.Proofs.Ytjappkiiokpjjaa
