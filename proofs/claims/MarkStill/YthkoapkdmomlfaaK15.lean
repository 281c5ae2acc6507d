/- Some texts in one: each opens with its own remark. -/
import Derived.Test.YthkoapkdmomlfaaK14
/- unmark, Start. -/
namespace Go.Proofs.Ythkoapkdmomlfaa
open Go.RowKit

/-- The first j ones' marks are off. -/
def offJ (Os : List Ob) (j : Nat) : List Ob := (Os.take j).map (·.on false) ++ Os.drop j
theorem offJ_zero (Os : List Ob) : offJ Os 0 = Os := by simp [offJ]
theorem offJ_all (Os : List Ob) : offJ Os Os.length = offO Os := by simp [offJ, offO]
theorem offJ_len (Os : List Ob) (j : Nat) : (offJ Os j).length = Os.length := by simp [offJ]; omega
theorem offJ_at (Os : List Ob) {j : Nat} (h : j < Os.length) : oat (offJ Os j) j = oat Os j := by
  unfold oat offJ
  rw [List.getD_eq_getElem?_getD, List.getElem?_append_right (by simp; omega)]
  simp [Nat.min_eq_left (Nat.le_of_lt h)]
theorem offJ_succ (Os : List Ob) {j : Nat} (h : j < Os.length) : mkO (offJ Os j) j false = offJ Os (j + 1) := by
  unfold mkO
  rw [offJ_at Os h]
  unfold offJ
  rw [List.set_append_right _ _ (by simp; omega)]
  have e1 : j - (List.map (·.on false) (Os.take j)).length = 0 := by simp; omega
  rw [e1, List.drop_eq_getElem_cons h, Sx1, List.take_add_one, List.map_append]
  simp [oat, h]
theorem like_offJ (Os : List Ob) : ∀ j, j ≤ Os.length → Like (offJ Os j) Os
  | 0, _ => by rw [offJ_zero]; exact Like.refl _
  | j + 1, h => by
    rw [← offJ_succ Os (by omega)]
    exact (like_mkO _ _ _).trans (like_offJ Os j (by omega))
theorem place_like {a b : List Ob} (h : Like a b) {k : Nat} (hk : k ≤ a.length) : place a k = place b k := by
  rcases Nat.lt_or_ge k a.length with hlt | hge
  · have h1 := plL_rs a 0 k hlt
    have h2 := plL_rs b 0 k (by rw [← h.1]; exact hlt)
    rw [h.pl] at h1
    rw [h1] at h2
    injection h2 with _ h3 _
    omega
  · have e : k = a.length := by omega
    rw [e, place_all]
    have := place_all b
    rw [← h.1] at this
    rw [this, h.tot]
section
variable {own oh : Nat → Prop} {w w' : World} {i : HId} {cap slots : Nat} {rt : List Nat} {wv : Value} {M : Nat} {rn : Bool} {s : List Ob × List Nat} {sv : Value}
theorem ph_First {Os : List Ob} (h : PH own w i cap slots Os rt wv) : Calls Try.prog 90 #[.pointer (some ⟨i.A, 0, none⟩)] w fun r w' => r = .returned (.int .i64 0) ∧ w' = w := at_First (HP.at_ h)
theorem ph_Top {Os : List Ob} (h : PH own w i cap slots Os rt wv) : Calls Try.prog 59 #[.pointer (some ⟨i.A, 0, none⟩)] w fun r w' => r = .returned (.int .i64 (tot Os : Nat)) ∧ w' = w := at_Top (HP.at_ h)
theorem ph_Next {Os : List Ob} (h : PH own w i cap slots Os rt wv) {k : Nat} (hk : k < Os.length) : Calls Try.prog 91 #[.pointer (some ⟨i.A, 0, none⟩), .int .i64 (place Os k : Nat)] w fun x w' => x = .returned (.tuple #[.int .i64 (place Os (k + 1) : Nat), .int .i64 0]) ∧ w' = w := by
  have h1 := at_Next (HP.at_ h) (show obAt Os [] 0 (place Os k) = some (oat Os k) from obAt_place hk)
  rw [show nextT (plainS cap slots Os rt).Lo (plainS cap slots Os rt).e (plainS cap slots Os rt).op (place Os k + osz (oat Os k)) = place Os (k + 1) by unfold nextT; rw [if_neg (by simp [plainS]), place_succ hk]] at h1
  exact h1
set_option maxHeartbeats 4000000 in
set_option maxRecDepth 1000000 in
theorem munmark {Os : List Ob} (h : PH own w i cap slots Os rt wv) (hc0 : w.cell? ⟨M, 0, none⟩ = some (.pointer (some ⟨i.H, 0, none⟩))) : Calls Try.prog 67 #[.pointer (some ⟨M, 0, none⟩)] w fun e w' => e = .returned (.tuple #[]) ∧ Mv own own w w' ∧ PH own w' i cap slots (offO Os) rt wv := by
  have HAR := mkHid (hArena_any h)
  have HFI := mkHid (ph_First h)
  have HH := mkHid h
  have hle := h.few
  obtain ⟨T, hT⟩ : ∃ T, T = tot Os := ⟨_, rfl⟩
  have HT := mkHid hT
  have hT20 : T ≤ 1048576 := by omega
  clear h hle hT
  go_enter Try.func67, Try.ntmps67
  go_wp2_with fail
  refine HAR.out.mono ?_
  rintro e w1 ⟨rfl, rfl⟩
  go_wp2_with fail
  refine HFI.out.mono ?_
  rintro e w1 ⟨rfl, rfl⟩
  go_wp2_with fail
  go_loopw [3] (fun x wr => ∃ k : Nat, x = .int .i64 (place Os k : Nat) ∧ k ≤ Os.length ∧ Mv own own w1 wr ∧ PH own wr i cap slots (offJ Os k) rt wv) (fun x _ => T - (intOf x).toNat)
  case atStart => exact ⟨0, rfl, Nat.zero_le _, Mv.refl _ _, by rw [offJ_zero]; exact HH.out⟩
  case round =>
    clear HH HAR HFI
    obtain ⟨k, rfl, hk, m2, h2⟩ := hrel
    have hlk := like_offJ Os k hk
    have htp := ph_Top h2
    rw [hlk.tot, ← HT.out] at htp
    have HTP := mkHid htp
    by_cases hlt : k < Os.length
    · have hmk := ph_mark h2 (k := k) (by rw [hlk.1]; exact hlt) false
      rw [offJ_succ Os hlt, place_like hlk (by rw [hlk.1]; exact hk)] at hmk
      have hlk2 := like_offJ Os (k + 1) hlt
      obtain ⟨q2, hq2⟩ : ∃ q2, q2 = place Os (k + 1) := ⟨_, rfl⟩
      obtain ⟨q, hq⟩ : ∃ q, q = place Os k := ⟨_, rfl⟩
      have HNX : Hid (∀ v, PH own v i cap slots (offJ Os (k + 1)) rt wv → Calls Try.prog 91 #[.pointer (some ⟨i.A, 0, none⟩), .int .i64 (q : Int)] v fun x w' => x = .returned (.tuple #[.int .i64 (q2 : Int), .int .i64 0]) ∧ w' = v) := by
        intro v hv
        have := ph_Next hv (k := k) (by rw [hlk2.1]; exact hlt)
        rw [place_like hlk2 (by rw [hlk2.1]; exact hk), place_like hlk2 (by rw [hlk2.1]; exact hlt), ← hq, ← hq2] at this
        exact this
      rw [← hq] at hmk ⊢
      have HMK := mkHid hmk
      have hqT : q < T := by rw [hq, HT.out]; exact place_lt hlt
      have hc : (q : Int) < (T : Int) := by omega
      have hq12 : q < q2 := by
        rw [hq2, place_succ hlt, ← hq]
        have hz : osz (oat Os k) = 1 + (oat Os k).ws.length := rfl
        omega
      have HQ2 := mkHid hq2
      have HM2 := mkHid m2
      clear hlk hlk2 hmk htp hq hq2 m2 h2
      go_wp2_with fail
      refine HTP.out.mono ?_
      rintro e w3 ⟨rfl, rfl⟩
      go_wp2_with fail
      refine HMK.out.mono ?_
      rintro e w3 ⟨rfl, m3, h3⟩
      have HN3 := mkHid (HNX.out w3 h3)
      have M3 := mkHid (HM2.out.trans m3)
      have H3 := mkHid h3
      clear m3 h3
      go_wp2_with fail
      refine HN3.out.mono ?_
      rintro e w4 ⟨rfl, rfl⟩
      go_wp2_with fail
      go_roundw
      case rel => exact ⟨k + 1, by rw [← HQ2.out], by omega, M3.out, H3.out⟩
      case measure => simp [intOf]; omega
    · obtain rfl : k = Os.length := by omega
      rw [place_all, ← HT.out]
      rw [offJ_all] at h2
      have hc : ¬ (T : Int) < (T : Int) := by omega
      have H2 := mkHid h2
      have M2 := mkHid m2
      clear hlk htp m2 h2
      go_wp2_with fail
      refine HTP.out.mono ?_
      rintro e w3 ⟨rfl, rfl⟩
      go_wp2_with fail
      go_returns
      exact ⟨rfl, M2.out, H2.out⟩
/-- The marker as a watcher. -/
def mkW (M : Nat) : Value := .iface 70 (.pointer (some ⟨M, 0, none⟩))
theorem hWatch_mk {s : HS} (h : HP own w i s wv) : Calls Try.prog 19 #[.pointer (some ⟨i.H, 0, none⟩), mkW M] w fun e w' => e = .returned (.tuple #[]) ∧ w' = w.setCell ⟨i.H, 18, none⟩ (mkW M) := by
  obtain ⟨_, _, c2, _⟩ := h.cells
  have f := h.free 18
  clear h
  unfold mkW
  go_enter Try.func19, Try.ntmps19
  go_wp2_with fail
  go_returns
  exact ⟨rfl, rfl⟩
theorem MS.root (h : MS own w i cap slots rt wv M rn s) (k : Nat) : rt.getD k 0 < 18446744073709551616 := by
  obtain ⟨oh, sv, h⟩ := h
  obtain ⟨ot, p⟩ := h.ph
  exact p.rlt k
theorem MS.rlen (h : MS own w i cap slots rt wv M rn s) : rt.length = 16 := by
  obtain ⟨oh, sv, h⟩ := h
  exact h.ph.few.2.2.2.2
theorem mRoot (h : MS own w i cap slots rt wv M rn s) {k : Nat} (hk : k < 16) : Calls Try.prog 68 #[.pointer (some ⟨i.H, 0, none⟩), .int .i64 k] w fun e w' => e = .returned (.tuple #[.int .u64 (rt.getD k 0 : Nat), .int .i64 0]) ∧ Below w.heap.size w w' := by
  obtain ⟨oh, sv, h⟩ := h
  exact ph_Root h.ph hk
theorem Mr.reset (h : Mr own w i cap slots rt wv M rn s oh sv) {w1 : World} {Os : List Ob} (m : Mv oh oh w w1) (p : PH oh w1 i cap slots Os rt wv) : w1.heap[M]? = some (.cells #[.pointer (some ⟨i.H, 0, none⟩), sv, .bool rn] 127 (0, 0)) ∧ ∃ own', Mv own own' w (w1.setCell ⟨M, 1, none⟩ (.slice none 0 0)) ∧ Mr own' (w1.setCell ⟨M, 1, none⟩ (.slice none 0 0)) i cap slots rt wv M rn (Os, []) oh (.slice none 0 0) := by
  have hMl := (Array.getElem?_eq_some_iff.1 h.head).1
  have hh1 : w1.heap[M]? = some (.cells #[.pointer (some ⟨i.H, 0, none⟩), sv, .bool rn] 127 (0, 0)) := by rw [m.chg.block M hMl h.hM]; exact h.head
  have hc2 : Chg (fun k => k = M) w1 (w1.setCell ⟨M, 1, none⟩ (.slice none 0 0)) := (Chg.refl (fun k => k = M) w1).setCell (b := M) (Or.inl rfl) _ _
  refine ⟨hh1, fun k => oh k ∨ k = M, ⟨⟨hc2.os.trans m.chg.os, hc2.tape.trans m.chg.tape, hc2.output.trans m.chg.output, Nat.le_trans m.chg.size hc2.size, fun k hk hn2 => ?_⟩, fun k hk => ?_⟩, HP.same p fun k hk => hc2.block k (HP.lt p hk) (fun e => h.hM (e ▸ hk)), ?_, h.hM, Rw.nil _ _ _ _, (fun e => by cases e), fun k => ?_, ⟨(fun k hk => by cases hk), Nat.zero_le _⟩⟩
  · rw [hc2.block k (Nat.lt_of_lt_of_le hk m.chg.size) (fun e => hn2 ((h.owns k).2 (Or.inr (Or.inl e)))), m.chg.block k hk (fun e => hn2 ((h.owns k).2 (Or.inl e)))]
  · rcases hk with hk | hk
    · exact Or.inl ((h.owns k).2 (Or.inl hk))
    · exact Or.inl ((h.owns k).2 (Or.inr (Or.inl hk)))
  · rw [heap_setCell_same w1 _ _ _ _ _ hh1]
    rfl
  · constructor
    · rintro (hk | hk)
      · exact Or.inl hk
      · exact Or.inr (Or.inl hk)
    · rintro (hk | hk | hk)
      · exact Or.inl hk
      · exact Or.inr hk
      · cases hk
set_option maxHeartbeats 4000000 in
set_option maxRecDepth 1000000 in
theorem mStart (h : MS own w i cap slots rt wv M false s) : Calls Try.prog 30 #[.pointer (some ⟨M, 0, none⟩)] w fun e w' => e = .returned (.int .i64 0) ∧ ∃ own', Mv own own' w w' ∧ MS own' w' i cap slots rt (mkW M) M true (startX s.1 rt) := by
  obtain ⟨oh, sv, h⟩ := h
  obtain ⟨a0, cc0, rfl, _⟩ := h.len
  obtain ⟨c0, c1, c2⟩ := h.cells
  have f2 := h.free 2
  have hm := h.setRunMv true
  have h1 := h.setRun true
  have HU := mkHid (munmark h1.ph h1.cells.1)
  have HM := mkHid hm
  have H1 := mkHid h1
  clear h hm h1 c1
  go_enter Try.func30, Try.ntmps30
  go_wp2_with fail
  refine HU.out.mono ?_
  rintro e w1 ⟨rfl, m1, p1⟩
  obtain ⟨hh1, own2, m2, h2⟩ := H1.out.reset m1 p1
  have f1 := frozen_of_row w1 M 1 _ _ hh1
  have d1 : w1.cell? ⟨M, 1, none⟩ = some (.slice a0 s.2.length cc0) := cell_of_row w1 M 1 _ _ _ hh1
  have e0 := h2.cells.1
  have M2 := mkHid (HM.out.trans m2)
  have H2 := mkHid h2
  have HWA := mkHid (hWatch_mk (M := M) h2.ph)
  clear m1 p1 hh1 m2 h2 c0 c2 f2
  go_wp2_with fail
  refine HWA.out.mono ?_
  rintro e w3 ⟨rfl, rfl⟩
  obtain ⟨own3, m3, h3⟩ := H2.out.watch (mkW M)
  have M3 := mkHid (M2.out.trans m3)
  have H3 : Hid (MS own3 _ i cap slots rt (mkW M) M true (offO s.1, [])) := ⟨oh, _, h3⟩
  clear m3 h3 f1 d1 e0
  generalize (w1.setCell ⟨M, 1, none⟩ (.slice none 0 0)).setCell ⟨i.H, 18, none⟩ (mkW M) = W3 at M3 H3 ⊢
  go_wp2_with fail
  have HRL := mkHid H3.out.rlen
  go_loopw [27] (fun y wr => ∃ (j : Nat) (own4 : Nat → Prop), y = .int .i64 j ∧ j ≤ 16 ∧ Mv own own4 w wr ∧ MS own4 wr i cap slots rt (mkW M) M true (putAll (offO s.1, []) (rt.take j))) (fun y _ => 16 - (intOf y).toNat)
  case atStart => exact ⟨0, own3, rfl, Nat.zero_le _, M3.out, by simpa [putAll] using H3.out⟩
  case round =>
    clear M3 H3
    obtain ⟨j, own4, rfl, hj, m4, h4⟩ := hrel
    by_cases hlt : j < 16
    · have hr := mRoot h4 hlt
      have hyl := h4.root j
      have hpt := putAll_take (offO s.1, []) rt (j := j) (by rw [HRL.out]; exact hlt)
      obtain ⟨y, hy⟩ : ∃ y, y = rt.getD j 0 := ⟨_, rfl⟩
      rw [← hy] at hr hyl hpt
      have HRF := mkHid hr
      have HPU := mkHid (fun (v : World) (hv : Below wr.heap.size wr v) => mput (h4.below hv) y hyl)
      have HPT := mkHid hpt
      have HM4 := mkHid m4
      have d0 := h4.cell0
      clear hr hyl hpt hy m4 h4
      go_wp2_with fail
      refine HRF.out.mono ?_
      rintro e w5 ⟨rfl, b5⟩
      have HPU5 := mkHid (HPU.out w5 b5)
      have HM5 := mkHid (HM4.out.trans (Mv.of_below b5))
      clear b5 d0
      go_wp2_with fail
      refine HPU5.out.mono ?_
      rintro e w6 ⟨rfl, own6, m6, h6⟩
      have M6 := mkHid (HM5.out.trans m6)
      rw [← HPT.out] at h6
      have H6 := mkHid h6
      clear m6 h6
      go_wp2_with fail
      go_roundw
      case rel => exact ⟨j + 1, own6, by go_num, by omega, M6.out, H6.out⟩
      case measure => simp [intOf]; omega
    · obtain rfl : j = 16 := by omega
      rw [List.take_of_length_le (by rw [HRL.out]; exact Nat.le_refl _)] at h4
      have H4 := mkHid h4
      have M4 := mkHid m4
      clear h4 m4
      go_wp2_with fail
      go_ret
      exact ⟨rfl, own4, M4.out, H4.out⟩
theorem mStart_no (h : MS own w i cap slots rt wv M true s) : Calls Try.prog 30 #[.pointer (some ⟨M, 0, none⟩)] w fun e w' => e = .returned (.int .i64 16) ∧ w' = w := by
  obtain ⟨oh, sv, h⟩ := h
  obtain ⟨c0, c1, c2⟩ := h.cells
  clear h c1
  go_enter Try.func30, Try.ntmps30
  go_wp2_with fail
  go_ret
  exact ⟨rfl, rfl⟩
theorem mNew {Os : List Ob} (h : PH own w i cap slots Os rt wv) : Calls Try.prog 29 #[.pointer (some ⟨i.H, 0, none⟩)] w fun e w' => ∃ M, e = .returned (.pointer (some ⟨M, 0, none⟩)) ∧ ∃ own', Mv own own' w w' ∧ MS own' w' i cap slots rt wv M false (Os, []) := by
  have HH := mkHid h
  clear h
  go_enter Try.func29, Try.ntmps29
  go_wp2_with fail
  go_ret
  have b1 : Below w.heap.size w (w.alloc (.cells #[.pointer (some ⟨i.H, 0, none⟩), .slice none 0 0, .bool false] 127)) := (Below.refl _ _).alloc (Nat.le_refl _) _
  refine ⟨w.heap.size, rfl, fun k => own k ∨ k = w.heap.size, ⟨Chg.of_below b1, fun k hk => hk.imp id (fun e => by rw [e]; exact Nat.le_refl _)⟩, own, .slice none 0 0, HP.below HH.out b1, heap_alloc_new _ _, fun e => ?_, Rw.nil _ _ _ _, (fun e => by cases e), fun k => ?_, ⟨(fun k hk => by cases hk), Nat.zero_le _⟩⟩
  · have := HP.lt HH.out e
    omega
  · constructor
    · rintro (hk | hk)
      · exact Or.inl hk
      · exact Or.inr (Or.inl hk)
    · rintro (hk | hk | hk)
      · exact Or.inl hk
      · exact Or.inr hk
      · cases hk
end
end Go.Proofs.Ythkoapkdmomlfaa

/- The document's own heap in memory: rows that are never changed once they are made; At. -/
namespace Go.Proofs.Ythkoapkdmomlfaa
open Go.RowKit

/-- A cell that is none of the heap's. -/
def Im (own : Nat → Prop) (w : World) (b o : Nat) (v : Value) : Prop := w.cell? ⟨b, o, none⟩ = some v ∧ b < w.heap.size ∧ ¬ own b
theorem Im.mv {own own' : Nat → Prop} {w w' : World} {b o : Nat} {v : Value} (h : Im own w b o v) (m : Mv own own' w w') : Im own' w' b o v := by
  refine ⟨?_, Nat.lt_of_lt_of_le h.2.1 m.chg.size, fun e => ?_⟩
  · rw [World.cell?_of_block (a := ⟨b, o, none⟩) (m.chg.block b h.2.1 h.2.2)]; exact h.1
  · rcases m.sub b e with e | e
    · exact h.2.2 e
    · have := h.2.1; omega
theorem Im.below {own : Nat → Prop} {w w' : World} {b o : Nat} {v : Value} (h : Im own w b o v) (m : Below w.heap.size w w') : Im own w' b o v := h.mv (Mv.of_below m)
/-- A row of words. -/
def RI (own : Nat → Prop) (w : World) (a : Option Addr) (xs : List Nat) : Prop := xs = [] ∨ ∃ b, a = some ⟨b, 0, none⟩ ∧ ∀ j, j < xs.length → Im own w b j (.int .u64 ((xs.getD j 0 : Nat) : Int))
theorem RI.mv {own own' : Nat → Prop} {w w' : World} {a : Option Addr} {xs : List Nat} (h : RI own w a xs) (m : Mv own own' w w') : RI own' w' a xs := by
  rcases h with h | ⟨b, e, h⟩
  · exact Or.inl h
  · exact Or.inr ⟨b, e, fun j hj => (h j hj).mv m⟩
def wordsO (o : Ob) : List Nat := o.ws.drop o.refs
/-- Where an object's two rows lie. -/
structure OD where
  ar : Option Addr
  cr : Nat
  aw : Option Addr
  cw : Nat
/-- The k-th object's four cells. -/
def ocell (k : Nat) (o : Ob) (d : OD) : List Value := [.int .u64 ((hnd k 1 : Nat) : Int), .int .i64 (o.tag : Int), .slice d.ar (refsO o).length d.cr, .slice d.aw (wordsO o).length d.cw]
def ocells (Os : List Ob) (D : Nat → OD) : List Value := (List.range Os.length).flatMap fun k => ocell k (oat Os k) (D k)
theorem flat4 (f : Nat → List Value) (hf : ∀ k, (f k).length = 4) : ∀ n, ((List.range n).flatMap f).length = n * 4
  | 0 => rfl
  | n + 1 => by rw [List.range_succ, List.flatMap_append, List.length_append, flat4 f hf n]; simp [hf]; omega
theorem flat4_at (f : Nat → List Value) (hf : ∀ k, (f k).length = 4) : ∀ n k c, k < n → c < 4 → ((List.range n).flatMap f)[k * 4 + c]? = (f k)[c]?
  | 0, _, _, h, _ => absurd h (Nat.not_lt_zero _)
  | n + 1, k, c, h, hc => by
    rw [List.range_succ, List.flatMap_append]
    have hl := flat4 f hf n
    rcases Nat.lt_or_ge k n with hk | hk
    · rw [List.getElem?_append_left (by rw [hl]; omega)]
      exact flat4_at f hf n k c hk hc
    · obtain rfl : k = n := by omega
      rw [List.getElem?_append_right (by rw [hl]; omega), hl, show k * 4 + c - k * 4 = c by omega]
      simp
theorem ocells_len (Os : List Ob) (D : Nat → OD) : (ocells Os D).length = Os.length * 4 := flat4 _ (fun _ => rfl) _
theorem ocells_at (Os : List Ob) (D : Nat → OD) {k c : Nat} (hk : k < Os.length) (hc : c < 4) : (ocells Os D)[k * 4 + c]? = (ocell k (oat Os k) (D k))[c]? := flat4_at _ (fun _ => rfl) _ k c hk hc
/-- The row of objects, with its rows. -/
structure MHd (own : Nat → Prop) (w : World) (b : Nat) (Os : List Ob) (D : Nat → OD) : Prop where
  row : ∀ (j : Nat) (v : Value), (ocells Os D)[j]? = some v → Im own w b j v
  refs : ∀ k, k < Os.length → RI own w (D k).ar (refsO (oat Os k))
  words : ∀ k, k < Os.length → RI own w (D k).aw (wordsO (oat Os k))
theorem MHd.mv {own own' : Nat → Prop} {w w' : World} {b : Nat} {Os : List Ob} {D : Nat → OD} (h : MHd own w b Os D) (m : Mv own own' w w') : MHd own' w' b Os D := ⟨fun j v hj => (h.row j v hj).mv m, fun k hk => (h.refs k hk).mv m, fun k hk => (h.words k hk).mv m⟩
theorem MHd.at_ {own : Nat → Prop} {w : World} {b : Nat} {Os : List Ob} {D : Nat → OD} (h : MHd own w b Os D) {k : Nat} (hk : k < Os.length) : w.cell? ⟨b, k * 4, none⟩ = some (.int .u64 ((hnd k 1 : Nat) : Int)) ∧ w.cell? ⟨b, k * 4 + 1, none⟩ = some (.int .i64 ((oat Os k).tag : Int)) ∧ w.cell? ⟨b, k * 4 + 2, none⟩ = some (.slice (D k).ar (refsO (oat Os k)).length (D k).cr) ∧ w.cell? ⟨b, k * 4 + 3, none⟩ = some (.slice (D k).aw (wordsO (oat Os k)).length (D k).cw) :=
  ⟨(h.row (k * 4) _ (ocells_at Os D (c := 0) hk (by omega))).1, (h.row (k * 4 + 1) _ (ocells_at Os D (c := 1) hk (by omega))).1, (h.row (k * 4 + 2) _ (ocells_at Os D (c := 2) hk (by omega))).1, (h.row (k * 4 + 3) _ (ocells_at Os D (c := 3) hk (by omega))).1⟩
def MH (own : Nat → Prop) (w : World) (a : Option Addr) (Os : List Ob) : Prop := Os = [] ∨ ∃ b D, a = some ⟨b, 0, none⟩ ∧ MHd own w b Os D
theorem MH.mv {own own' : Nat → Prop} {w w' : World} {a : Option Addr} {Os : List Ob} (h : MH own w a Os) (m : Mv own own' w w') : MH own' w' a Os := by
  rcases h with h | ⟨b, D, e, h⟩
  · exact Or.inl h
  · exact Or.inr ⟨b, D, e, h.mv m⟩
theorem MH.below {own : Nat → Prop} {w w' : World} {a : Option Addr} {Os : List Ob} (h : MH own w a Os) (m : Below w.heap.size w w') : MH own w' a Os := h.mv (Mv.of_below m)
theorem MH.open {own : Nat → Prop} {w : World} {a : Option Addr} {Os : List Ob} (h : MH own w a Os) (h0 : 0 < Os.length) : ∃ b D, a = some ⟨b, 0, none⟩ ∧ MHd own w b Os D := by
  rcases h with h | h
  · rw [h] at h0; exact absurd h0 (Nat.not_lt_zero _)
  · exact h
/-- The document's heap as a value. -/
def mhV (a : Option Addr) (n c : Nat) (rt : List Nat) : Value := .agg (Value.slice a n c :: rt.map (fun x : Nat => Value.int .u64 (x : Int))).toArray
/-- At's answer. -/
def atI : Option Nat → Int
  | some k => (k : Int)
  | none => -1
def atX (Os : List Ob) (x : Nat) : Int := atI (look (plL 0 Os) x)
theorem atX_hit {Os : List Ob} {k x : Nat} (hk : k < Os.length) (hb : Os.length ≤ 1048576) (hx : x = hnd k 1) : atX Os x = (k : Int) := by
  subst hx
  exact congrArg atI (look_pl hk hb)
theorem atX_none {Os : List Ob} {x : Nat} (h : look (plL 0 Os) x = none) : atX Os x = -1 := congrArg atI h
theorem atX_some {Os : List Ob} {x k : Nat} (h : look (plL 0 Os) x = some k) : atX Os x = (k : Int) := congrArg atI h
theorem look_miss {Os : List Ob} {x : Nat} (h : ∀ k, k < Os.length → hnd k 1 ≠ x) : look (plL 0 Os) x = none := by
  rcases e : look (plL 0 Os) x with _ | k
  · rfl
  · have := look_pl_some e
    exact absurd this.2.symm (h k this.1)
section
variable {own : Nat → Prop} {w : World}
theorem rhAt {a : Option Addr} {Os : List Ob} (h : MH own w a Os) (hb : Os.length ≤ 1048576) (c : Nat) (l : List Value) (x : Nat) : Calls Try.prog 21 #[.agg (Value.slice a Os.length c :: l).toArray, .int .u64 x] w fun e w' => e = .returned (.int .i64 (atX Os x)) ∧ Below w.heap.size w w' := by
  obtain ⟨n, hn⟩ : ∃ n, n = Os.length := ⟨_, rfl⟩
  rw [← hn]
  have HN := mkHid hn
  have hb0 : Below w.heap.size w (w.alloc (.cells (Value.slice a n c :: l).toArray 30)) := (Below.refl _ _).alloc (Nat.le_refl _) _
  have c0 : (w.alloc (.cells (Value.slice a n c :: l).toArray 30)).cell? ⟨w.heap.size, 0, none⟩ = some (.slice a n c) := by
    rw [cell_of_row _ _ 0 _ _ _ (heap_alloc_new w _)]; simp
  obtain ⟨W, hW⟩ : ∃ W, W = w.alloc (.cells (Value.slice a n c :: l).toArray 30) := ⟨_, rfl⟩
  have HW := mkHid hW
  have H := mkHid (h.below hb0)
  have hnb : n ≤ 1048576 := by omega
  rw [← hW] at c0 H hb0
  have HB0 := mkHid hb0
  clear h hb hn hW hb0
  go_enter Try.func21, Try.ntmps21
  go_wp2_with fail
  rw [← HW.out]
  go_loopw [5] (fun y wr => ∃ j : Nat, y = .int .i64 j ∧ j ≤ n ∧ (∀ k, k < j → hnd k 1 ≠ x) ∧ Below W.heap.size W wr) (fun y _ => n - (intOf y).toNat)
  case atStart => exact ⟨0, rfl, Nat.zero_le _, fun k hk => absurd hk (Nat.not_lt_zero _), Below.refl _ _⟩
  case round =>
    obtain ⟨j, rfl, hj, hne, hb⟩ := hrel
    have c0' : wr.cell? ⟨w.heap.size, 0, none⟩ = some (.slice a n c) := by
      rw [hb.cell (p := ⟨w.heap.size, 0, none⟩) (by have := HB0.out.size; rw [HW.out]; simp)]; exact c0
    by_cases hlt : j < n
    · obtain ⟨b, D, rfl, hO⟩ := (H.out.below hb).open (by rw [← HN.out]; omega)
      have ch := (hO.at_ (k := j) (by rw [← HN.out]; exact hlt)).1
      obtain ⟨y, hy⟩ : ∃ y, y = hnd j 1 := ⟨_, rfl⟩
      rw [← hy] at ch
      have HY := mkHid hy
      have HB := mkHid hb
      have HNE := mkHid hne
      have hj0 : (0 : Int) ≤ (j : Int) := by omega
      have hj1 : (j : Int) < (n : Int) := by omega
      clear hO hb hne hy
      by_cases hxy : y = x
      · subst hxy
        go_wp2_with fail
        go_ret
        refine ⟨?_, HB0.out.trans (HB.out.mono HB0.out.size)⟩
        rw [atX_hit (by rw [← HN.out]; exact hlt) (by rw [← HN.out]; exact hnb) HY.out]
        rfl
      · have hxy2 : ((y : Int) == (x : Int)) = false := beq_eq_false_iff_ne.2 (fun e => hxy (by omega))
        have HXY := mkHid hxy
        go_wp2_with fail
        go_roundw
        case rel =>
          refine ⟨j + 1, by go_num, by omega, fun k hk => ?_, HB.out⟩
          rcases Nat.lt_or_ge k j with h | h
          · exact HNE.out k h
          · obtain rfl : k = j := by omega
            rw [← HY.out]; exact HXY.out
        case measure => simp [intOf]; omega
    · obtain rfl : n = j := by omega
      have HB := mkHid hb
      have HNE := mkHid hne
      clear hb hne
      go_wp2_with fail
      go_ret
      refine ⟨?_, HB0.out.trans (HB.out.mono HB0.out.size)⟩
      rw [atX_none (look_miss (fun k hk => HNE.out k (by rw [HN.out]; exact hk)))]
      rfl
end
end Go.Proofs.Ythkoapkdmomlfaa

/- number, pick. -/
namespace Go.Proofs.Ythkoapkdmomlfaa
open Go.RowKit

/-- number's answer. -/
def fstI : List Nat → Nat → Nat → Int
  | [], _, _ => -1
  | y :: r, x, k => if y = x then (k : Int) else fstI r x (k + 1)
def numI (xs : List Nat) (x : Nat) : Int := fstI xs x 0
theorem fstI_hit : ∀ (xs : List Nat) (x j k : Nat), j < xs.length → xs.getD j 0 = x → (∀ t, t < j → xs.getD t 0 ≠ x) → fstI xs x k = ((k + j : Nat) : Int)
  | [], _, _, _, h, _, _ => absurd h (Nat.not_lt_zero _)
  | y :: r, x, 0, k, _, hx, _ => by
    have : y = x := by simpa using hx
    simp [fstI, this]
  | y :: r, x, j + 1, k, h, hx, hne => by
    have h0 : y ≠ x := by have := hne 0 (by omega); simpa using this
    simp only [fstI, if_neg h0]
    rw [fstI_hit r x j (k + 1) (by simpa using h) (by simpa using hx) (fun t ht => by have := hne (t + 1) (by omega); simpa using this)]
    congr 1; omega
theorem fstI_miss : ∀ (xs : List Nat) (x k : Nat), (∀ t, t < xs.length → xs.getD t 0 ≠ x) → fstI xs x k = -1
  | [], _, _, _ => rfl
  | y :: r, x, k, hne => by
    have h0 : y ≠ x := by have := hne 0 (by simp); simpa using this
    simp only [fstI, if_neg h0]
    exact fstI_miss r x (k + 1) (fun t ht => by have := hne (t + 1) (by simpa using ht); simpa using this)
theorem numI_hit {xs : List Nat} {x j : Nat} (hj : j < xs.length) (hx : xs.getD j 0 = x) (hne : ∀ k, k < j → xs.getD k 0 ≠ x) : numI xs x = (j : Int) := by
  have := fstI_hit xs x j 0 hj hx hne
  rw [Nat.zero_add] at this
  exact this
theorem numI_miss {xs : List Nat} {x : Nat} (hne : ∀ k, k < xs.length → xs.getD k 0 ≠ x) : numI xs x = -1 := fstI_miss xs x 0 hne
section
variable {own : Nat → Prop} {w : World}
theorem rhNumber {a : Option Addr} {xs : List Nat} (h : RI own w a xs) (hb : xs.length ≤ 1048576) (c : Nat) (x : Nat) : Calls Try.prog 72 #[.slice a xs.length c, .int .u64 x] w fun e w' => e = .returned (.int .i64 (numI xs x)) ∧ w' = w := by
  obtain ⟨n, hn⟩ : ∃ n, n = xs.length := ⟨_, rfl⟩
  rw [← hn]
  have HN := mkHid hn
  have H := mkHid h
  have hnb : n ≤ 1048576 := by omega
  clear h hb hn
  go_enter Try.func72, Try.ntmps72
  go_wp2_with fail
  go_loopw [5] (fun y wr => ∃ j : Nat, y = .int .i64 j ∧ j ≤ n ∧ (∀ k, k < j → xs.getD k 0 ≠ x) ∧ wr = w) (fun y _ => n - (intOf y).toNat)
  case atStart => exact ⟨0, rfl, Nat.zero_le _, fun k hk => absurd hk (Nat.not_lt_zero _), rfl⟩
  case round =>
    obtain ⟨j, rfl, hj, hne, rfl⟩ := hrel
    by_cases hlt : j < n
    · obtain ⟨b, rfl, hO⟩ : ∃ b, a = some ⟨b, 0, none⟩ ∧ ∀ j, j < xs.length → Im own wr b j (.int .u64 ((xs.getD j 0 : Nat) : Int)) := by
        rcases H.out with h | h
        · have := HN.out; rw [h] at this; simp at this; omega
        · exact h
      have ch := (hO j (by rw [← HN.out]; exact hlt)).1
      obtain ⟨y, hy⟩ : ∃ y, y = xs.getD j 0 := ⟨_, rfl⟩
      rw [← hy] at ch
      have HY := mkHid hy
      have HNE := mkHid hne
      have hj0 : (0 : Int) ≤ (j : Int) := by omega
      have hj1 : (j : Int) < (n : Int) := by omega
      clear hO hne hy
      by_cases hxy : y = x
      · subst hxy
        go_wp2_with fail
        go_ret
        refine ⟨?_, rfl⟩
        rw [numI_hit (by rw [← HN.out]; exact hlt) HY.out.symm HNE.out]
        rfl
      · have hxy2 : ((y : Int) == (x : Int)) = false := beq_eq_false_iff_ne.2 (fun e => hxy (by omega))
        have HXY := mkHid hxy
        go_wp2_with fail
        go_roundw
        case rel =>
          refine ⟨j + 1, by go_num, by omega, fun k hk => ?_, trivial⟩
          rcases Nat.lt_or_ge k j with h | h
          · exact HNE.out k h
          · obtain rfl : k = j := by omega
            rw [← HY.out]; exact HXY.out
        case measure => simp [intOf]; omega
    · obtain rfl : n = j := by omega
      have HNE := mkHid hne
      clear hne
      go_wp2_with fail
      go_ret
      refine ⟨?_, rfl⟩
      rw [numI_miss (fun k hk => HNE.out k (by rw [HN.out]; exact hk))]
      rfl
/-- pick's answer. -/
def pickX (n : Nat) (i : Int) : Nat := if 0 ≤ i ∧ 0 < n then hnd (i.toNat % n) 1 else 0
theorem rhPick {a : Option Addr} {n : Nat} (h : RI own w a (hs1 n)) (c : Nat) (i : Int) : Calls Try.prog 20 #[.slice a n c, .int .i64 i] w fun e w' => e = .returned (.int .u64 (pickX n i : Nat)) ∧ w' = w := by
  unfold pickX
  by_cases h0 : i < 0
  · rw [if_neg (by omega)]
    clear h
    go_enter Try.func20, Try.ntmps20
    go_wp2_with fail
    go_ret
    exact ⟨rfl, rfl⟩
  · rcases Nat.eq_zero_or_pos n with hn | hn
    · rw [if_neg (by omega)]
      subst hn
      clear h
      go_enter Try.func20, Try.ntmps20
      go_wp2_with fail
      go_ret
      exact ⟨rfl, rfl⟩
    · rw [if_pos (by omega)]
      obtain ⟨t, ht⟩ : ∃ t, t = i.toNat % n := ⟨_, rfl⟩
      rw [← ht]
      have htn : t < n := by rw [ht]; exact Nat.mod_lt _ hn
      have hrem : Int.tmod i (n : Int) = (t : Int) := by
        rw [ht, Int.tmod_eq_emod_of_nonneg (by omega), Int.natCast_emod, Int.toNat_of_nonneg (by omega)]
      obtain ⟨b, rfl, hO⟩ : ∃ b, a = some ⟨b, 0, none⟩ ∧ ∀ j, j < (hs1 n).length → Im own w b j (.int .u64 (((hs1 n).getD j 0 : Nat) : Int)) := by
        rcases h with h | h
        · have := hs1_len n; rw [h] at this; simp at this; omega
        · exact h
      have ch := (hO t (by rw [hs1_len]; exact htn)).1
      rw [hs1_at htn] at ch
      generalize hnd t 1 = y at ch ⊢
      have hnz : ¬ n = 0 := by omega
      have ht0 : (0 : Int) ≤ (t : Int) := by omega
      have ht1 : (t : Int) < (n : Int) := by omega
      clear h hO ht
      go_enter Try.func20, Try.ntmps20
      go_wp2_with fail
      go_ret
      exact ⟨rfl, rfl⟩
end
end Go.Proofs.Ythkoapkdmomlfaa
