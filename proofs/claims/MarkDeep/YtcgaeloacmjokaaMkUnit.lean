/- A unit of a marking, and Step. -/
import Derived.Test.YtcgaeloacmjokaaMkObj
namespace Go.Proofs.Ytcgaeloacmjokaa
open Go.RowKit

section
variable {own oh : Nat → Prop} {w w' : World} {i : HId} {cap slots : Nat} {rt : List Nat} {wv : Value} {M : Nat} {rn : Bool} {s : List Ob × List Nat} {sv : Value}
theorem putAll_take (s : List Ob × List Nat) (ys : List Nat) {j : Nat} (hj : j < ys.length) : putAll s (ys.take (j + 1)) = putX (putAll s (ys.take j)) (ys.getD j 0) := by
  unfold putAll
  rw [List.take_add_one, List.foldl_append]
  simp [hj]
theorem MS.word (h : MS own w i cap slots rt wv M rn s) {k j : Nat} (hk : k < s.1.length) : (oat s.1 k).ws.getD j 0 < 18446744073709551616 := by
  obtain ⟨oh, sv, h⟩ := h
  exact (h.ph.ok hk).wlt j
theorem MS.okO (h : MS own w i cap slots rt wv M rn s) {k : Nat} (hk : k < s.1.length) : (oat s.1 k).ok := by
  obtain ⟨oh, sv, h⟩ := h
  exact h.ph.ok hk
theorem mHead (h : MS own w i cap slots rt wv M rn s) {k : Nat} (hk : k < s.1.length) : Calls Try.prog 64 #[.pointer (some ⟨i.H, 0, none⟩), .int .u64 (hnd k 1 : Nat)] w fun e w' => e = .returned (.tuple #[.int .i64 (oat s.1 k).tag, .int .i64 (oat s.1 k).refs, .int .i64 (oat s.1 k).ws.length, .int .i64 0]) ∧ RowKit.Below w.heap.size w w' := by
  obtain ⟨oh, sv, h⟩ := h
  exact hHead_yes h.ph (h.ph.has hk)
theorem mRef (h : MS own w i cap slots rt wv M rn s) {k j : Nat} (hk : k < s.1.length) (hj : j < (oat s.1 k).refs) : Calls Try.prog 65 #[.pointer (some ⟨i.H, 0, none⟩), .int .u64 (hnd k 1 : Nat), .int .i64 j] w fun e w' => e = .returned (.tuple #[.int .u64 ((oat s.1 k).ws.getD j 0 : Nat), .int .i64 0]) ∧ RowKit.Below w.heap.size w w' := by
  obtain ⟨oh, sv, h⟩ := h
  exact ph_Ref h.ph hk hj
theorem MS.cell0 (h : MS own w i cap slots rt wv M rn s) : w.cell? ⟨M, 0, none⟩ = some (.pointer (some ⟨i.H, 0, none⟩)) := by
  obtain ⟨oh, sv, h⟩ := h
  exact h.cells.1
set_option maxHeartbeats 4000000 in
set_option maxRecDepth 1000000 in
theorem munit (h : MS own w i cap slots rt wv M rn s) (h0 : 0 < s.2.length) : Calls Try.prog 27 #[.pointer (some ⟨M, 0, none⟩)] w fun e w' => e = .returned (.tuple #[]) ∧ ∃ own', Mv own own' w w' ∧ MS own' w' i cap slots rt wv M rn (unitX s) := by
  obtain ⟨Os, K⟩ := s
  have hK : K ≠ [] := fun e => by rw [e] at h0; simp at h0
  obtain ⟨K', k, rfl⟩ : ∃ K' k, K = K' ++ [k] := ⟨K.dropLast, K.getLast hK, (List.dropLast_concat_getLast hK).symm⟩
  have hun : unitX (Os, K' ++ [k]) = putAll (Os, K') (refsO (oat Os k)) := by unfold unitX; simp
  rw [hun]
  have hk : k < Os.length := h.stk.lt k (by simp)
  have hstk : Stk1 (Os, K') := by have := h.stk.pop; simpa using this
  have hfew := h.few
  obtain ⟨oh, sv, h⟩ := h
  obtain ⟨a, c, rfl, hg⟩ := h.len
  obtain ⟨g, rfl⟩ := hg (by simp)
  have hlen : ((Os, K' ++ [k]) : List Ob × List Nat).2.length = K'.length + 1 := by simp
  rw [hlen] at h
  obtain ⟨c0, c1, c2⟩ := h.cells
  have f1 := h.free 1
  have q1 : w.cell? ⟨g, K'.length, none⟩ = some (.int .u64 ((hnd k 1 : Nat) : Int)) := h.row.at_ (by simp [ucells])
  have hcap : K'.length + 1 ≤ c := by
    obtain ⟨g', c', e', h1, _⟩ := h.row.cells (by simp [ucells])
    have hu : (ucells (((Os, K' ++ [k]) : List Ob × List Nat).2.map fun k => hnd k 1)).length = K'.length + 1 := by simp [ucells]
    rw [hu] at e' h1
    cases e'
    exact h1
  have hN : K'.length ≤ 1048576 := by simp at hfew; omega
  have HH := mkHid h
  have HSTK := mkHid hstk
  have HKL := mkHid hk
  obtain ⟨x, hx⟩ : ∃ x, x = hnd k 1 := ⟨_, rfl⟩
  rw [← hx] at q1
  have HX := mkHid hx
  generalize hNN : K'.length = N at *
  have HN := mkHid hNN
  have hwN : wrap64 ((N : Int) + 1 - 1) = (N : Int) := by unfold wrap64; omega
  have hNc : (N : Int) ≤ (c : Int) := by omega
  clear h hstk hk hx hNN h0 hK hun hfew hlen hg
  go_enter Try.func27, Try.ntmps27
  go_wp2_with fail
  have hrow : Rw oh w 0 24 (.slice (some ⟨g, 0, none⟩) N c) (ucells (K'.map fun k => hnd k 1)) := by
    have := HH.out.row.dropLast
    have e1 : (ucells (((Os, K' ++ [k]) : List Ob × List Nat).2.map fun k => hnd k 1)).dropLast = ucells (K'.map fun k => hnd k 1) := by simp [ucells]
    rw [e1] at this
    exact this
  obtain ⟨own1, m1, h1⟩ := HH.out.push (K := K') (Chg.refl _ w) hrow (fun k hk => Or.inl hk) HSTK.out
  have hms : MS own1 _ i cap slots rt wv M rn (Os, K') := ⟨oh, _, h1⟩
  have HHD := mkHid (mHead hms (k := k) HKL.out)
  have HMS := mkHid hms
  have M1 := mkHid m1
  have hok : (oat Os k).ok := hms.okO (k := k) HKL.out
  have HRL := mkHid (show (oat Os k).refs ≤ (oat Os k).ws.length from hok.r)
  have hr12 : (oat Os k).refs ≤ 4096 := by have := hok.r; have := hok.s; omega
  rw [← HX.out] at HHD
  obtain ⟨t, ht⟩ : ∃ t, t = (oat Os k).tag := ⟨_, rfl⟩
  obtain ⟨r, hr⟩ : ∃ r, r = (oat Os k).refs := ⟨_, rfl⟩
  obtain ⟨z, hz⟩ : ∃ z, z = (oat Os k).ws.length := ⟨_, rfl⟩
  have HHD2 : Hid (Calls Try.prog 64 #[.pointer (some ⟨i.H, 0, none⟩), .int .u64 (x : Int)] (w.setCell ⟨M, 1, none⟩ (.slice (some ⟨g, 0, none⟩) N c)) fun e w' => e = .returned (.tuple #[.int .i64 t, .int .i64 r, .int .i64 z, .int .i64 0]) ∧ RowKit.Below (w.setCell ⟨M, 1, none⟩ (.slice (some ⟨g, 0, none⟩) N c)).heap.size (w.setCell ⟨M, 1, none⟩ (.slice (some ⟨g, 0, none⟩) N c)) w') := by
    rw [ht, hr, hz]
    exact HHD.out
  have HR := mkHid hr
  rw [← hr] at hr12
  clear HHD hms m1 h1 hrow ht hr hz hok c0 c1 c2 f1 q1
  refine HHD2.out.mono ?_
  rintro e w2 ⟨rfl, b2⟩
  have M2 := mkHid (M1.out.trans (Mv.of_below b2))
  have H2 := mkHid (HMS.out.below b2)
  clear b2 HHD2 HMS M1
  go_wp2_with fail
  go_loopw [45] (fun y wr => ∃ (j : Nat) (own2 : Nat → Prop), y = .int .i64 j ∧ j ≤ r ∧ Mv own own2 w wr ∧ MS own2 wr i cap slots rt wv M rn (putAll (Os, K') ((refsO (oat Os k)).take j))) (fun y _ => r - (intOf y).toNat)
  case atStart => exact ⟨0, own1, rfl, Nat.zero_le _, M2.out, by simpa [putAll] using H2.out⟩
  case round =>
    clear M2 H2
    obtain ⟨j, own2, rfl, hj, m2, h2⟩ := hrel
    by_cases hlt : j < r
    · have hlk := like_putAll ((refsO (oat Os k)).take j) (Os, K')
      have hkl : k < (putAll (Os, K') ((refsO (oat Os k)).take j)).1.length := by rw [hlk.1]; exact HKL.out
      have hl2 := hlk.2 k
      have hrf := mRef h2 (k := k) (j := j) hkl (by rw [hl2.2.1]; show j < (oat Os k).refs; rw [← HR.out]; exact hlt)
      rw [hl2.2.2.2, ← HX.out] at hrf
      have hlen : (refsO (oat Os k)).length = (oat Os k).refs := by unfold refsO; rw [List.length_take]; have := HRL.out; omega
      have hgd : (oat Os k).ws.getD j 0 = (refsO (oat Os k)).getD j 0 := by unfold refsO; rw [List.getD_eq_getElem?_getD, List.getD_eq_getElem?_getD, List.getElem?_take_of_lt (by rw [← HR.out]; exact hlt)]
      have hyl := h2.word (k := k) (j := j) hkl
      rw [hl2.2.2.2] at hyl
      have hpt := putAll_take (Os, K') (refsO (oat Os k)) (j := j) (by rw [hlen, ← HR.out]; exact hlt)
      obtain ⟨y, hy⟩ : ∃ y, y = (oat Os k).ws.getD j 0 := ⟨_, rfl⟩
      have hrf2 : Calls Try.prog 65 #[.pointer (some ⟨i.H, 0, none⟩), .int .u64 (x : Int), .int .i64 j] wr fun e w' => e = .returned (.tuple #[.int .u64 (y : Int), .int .i64 0]) ∧ RowKit.Below wr.heap.size wr w' := by rw [hy]; exact hrf
      have hyl2 : y < 18446744073709551616 := by rw [hy]; exact hyl
      rw [← hgd, ← hy] at hpt
      have HRF := mkHid hrf2
      have HPU := mkHid (fun (v : World) (hv : RowKit.Below wr.heap.size wr v) => mput (h2.below hv) y hyl2)
      have HPT := mkHid hpt
      have HM2 := mkHid m2
      have HH2 := mkHid h2
      have d0 := h2.cell0
      clear hlk hkl hl2 hrf hlen hgd hyl hpt hrf2 hyl2 hy m2 h2
      go_wp2_with fail
      refine HRF.out.mono ?_
      rintro e w3 ⟨rfl, b3⟩
      have HPU3 := mkHid (HPU.out w3 b3)
      have HM3 := mkHid (HM2.out.trans (Mv.of_below b3))
      clear b3 d0
      go_wp2_with fail
      refine HPU3.out.mono ?_
      rintro e w4 ⟨rfl, own4, m4, h4⟩
      have M4 := mkHid (HM3.out.trans m4)
      rw [← HPT.out] at h4
      have H4 := mkHid h4
      clear m4 h4
      go_wp2_with fail
      go_roundw
      case rel => exact ⟨j + 1, own4, by go_num, by omega, M4.out, H4.out⟩
      case measure => simp [intOf]; omega
    · obtain rfl : r = j := by omega
      have hlen : (refsO (oat Os k)).length = (oat Os k).refs := by unfold refsO; rw [List.length_take]; have := HRL.out; omega
      have hall : (refsO (oat Os k)).take r = refsO (oat Os k) := by rw [List.take_of_length_le]; rw [hlen, ← HR.out]; exact Nat.le_refl _
      rw [hall] at h2
      have H2 := mkHid h2
      have M2 := mkHid m2
      clear hall hlen h2 m2
      go_wp2_with fail
      go_returns
      exact ⟨rfl, own2, M2.out, H2.out⟩
end
end Go.Proofs.Ytcgaeloacmjokaa
