/- The document's own take, Take and Get, of any bytes. -/
import Derived.Test.YtfnmmpakejdlgaaDoorZCRDoc
import Derived.Test.YtfnmmpakejdlgaaDoorZCRGet
import Derived.Test.YtfnmmpakejdlgaaDoorZCMath
namespace Go.Proofs.YtfnmmpakejdlgaaDoor
open Go.RowKit

theorem rtake_any : ∀ (d ab : Nat), ab + d = 8 → ∀ (a : Option Addr) (c p : Nat) (l : List UInt8) (w : World), Byts w a l → p ≤ l.length → l.length ≤ 140737488355328 → l.length ≤ c → c ≤ maxLen →
    Calls Tryd.prog 50 #[.slice a l.length c, .int .i64 p, .int .i64 ab] w fun e w' => RTSay w l (takeR l d p) p e w' := by
  intro d
  induction d with
  | zero =>
    intro ab hab a c p l w hB hp hl hlc hcm
    by_cases hpe : p = l.length
    · refine rtake_end a c p ab l _ w hl hpe ?_
      rw [takeR_head, headR, if_pos (by omega)]
    · have hpl : p < l.length := by omega
      have hd := takeR_head l 0 p
      rw [head_at hpl] at hd
      have hx : byteN l p = (l.getD p 0).toNat := rfl
      have hx256 : byteN l p < 256 := UInt8.toNat_lt _
      by_cases h1 : byteN l p = 1
      · exact rtake_null a c p ab l _ w _ hB hl hpl hx h1 (by rw [hd, if_pos h1])
      by_cases h2 : byteN l p = 2
      · exact rtake_bool a c p ab l _ w _ hB hl hpl hx h2 (by rw [hd, if_neg h1, if_pos h2])
      by_cases h3 : byteN l p = 3
      · exact rtake_int a c p ab l _ w _ hB hl hpl hx h3 (by rw [hd, if_neg h1, if_neg h2, if_pos h3])
      by_cases h4 : byteN l p = 4
      · exact rtake_text a c p ab l _ w _ hB hl hpl hx h4 hlc hcm (by rw [hd, if_neg h1, if_neg h2, if_neg h3, if_pos h4])
      by_cases h5 : byteN l p = 5
      · exact rtake_deep a c p ab l _ w _ hB hl hpl hx (Or.inl h5) (by omega) (by omega) (by rw [hd, if_neg h1, if_neg h2, if_neg h3, if_neg h4, if_pos h5]; rfl)
      by_cases h6 : byteN l p = 6
      · exact rtake_deep a c p ab l _ w _ hB hl hpl hx (Or.inr h6) (by omega) (by omega) (by rw [hd, if_neg h1, if_neg h2, if_neg h3, if_neg h4, if_neg h5, if_pos h6]; rfl)
      · exact rtake_bad a c p ab l _ w _ hB hl hpl hx (by omega) (by rw [hd, if_neg h1, if_neg h2, if_neg h3, if_neg h4, if_neg h5, if_neg h6])
  | succ d ih =>
    intro ab hab a c p l w hB hp hl hlc hcm
    by_cases hpe : p = l.length
    · refine rtake_end a c p ab l _ w hl hpe ?_
      rw [takeR_head, headR, if_pos (by omega)]
    · have hpl : p < l.length := by omega
      have hd := takeR_head l (d + 1) p
      rw [head_at hpl] at hd
      have hx : byteN l p = (l.getD p 0).toNat := rfl
      have hx256 : byteN l p < 256 := UInt8.toNat_lt _
      have hIH : ∀ (u : World) (q : Nat), RowKit.Below w.heap.size w u → q ≤ l.length → Calls Tryd.prog 50 #[.slice a l.length c, .int .i64 q, .int .i64 ((ab : Int) + 1)] u fun e w' => RTSay u l (takeR l d q) q e w' := by
        intro u q hu hq
        have h := ih (ab + 1) (by omega) a c q l u (hB.below hu) hq hl hlc hcm
        rw [show ((ab + 1 : Nat) : Int) = (ab : Int) + 1 by simp] at h
        exact h
      by_cases h1 : byteN l p = 1
      · exact rtake_null a c p ab l _ w _ hB hl hpl hx h1 (by rw [hd, if_pos h1])
      by_cases h2 : byteN l p = 2
      · exact rtake_bool a c p ab l _ w _ hB hl hpl hx h2 (by rw [hd, if_neg h1, if_pos h2])
      by_cases h3 : byteN l p = 3
      · exact rtake_int a c p ab l _ w _ hB hl hpl hx h3 (by rw [hd, if_neg h1, if_neg h2, if_pos h3])
      by_cases h4 : byteN l p = 4
      · exact rtake_text a c p ab l _ w _ hB hl hpl hx h4 hlc hcm (by rw [hd, if_neg h1, if_neg h2, if_neg h3, if_pos h4])
      by_cases h5 : byteN l p = 5
      · exact rtake_list a c p ab d l _ w _ hB hl hpl hx h5 hlc hcm (by omega) (by rw [hd, if_neg h1, if_neg h2, if_neg h3, if_neg h4, if_pos h5, if_neg (by omega)]; rfl) hIH
      by_cases h6 : byteN l p = 6
      · exact rtake_doc a c p ab d l _ w _ hB hl hpl hx h6 hlc hcm (by omega) (by rw [hd, if_neg h1, if_neg h2, if_neg h3, if_neg h4, if_neg h5, if_pos h6, if_neg (by omega)]; rfl) hIH
      · exact rtake_bad a c p ab l _ w _ hB hl hpl hx (by omega) (by rw [hd, if_neg h1, if_neg h2, if_neg h3, if_neg h4, if_neg h5, if_neg h6])

theorem rtakeIs : RTakeIs := fun a c p l w h1 h2 h3 h4 h5 => rtake_any 8 0 (by omega) a c p l w h1 h2 h3 h4 h5
theorem rTake_all (a : Option Addr) (c p : Nat) (l : List UInt8) (w : World) (hB : Byts w a l) (hp : p ≤ l.length) (hl : l.length ≤ 140737488355328) (hlc : l.length ≤ c) (hcm : c ≤ maxLen) :
    Calls Tryd.prog 30 #[.slice a l.length c, .int .i64 p] w fun e w' => RTSay w l (valR l p) p e w' := rTake_any rtakeIs a c p l w hB hp hl hlc hcm

/-- What the document's Get tells, as Get's own. -/
def RGSay (w : World) (l : List UInt8) (e : Ending) (w' : World) : Prop :=
  RowKit.Below w.heap.size w w' ∧ (((getR l).2 = 0 ∧ ∃ v, e = .returned (.tuple #[v, .int .i64 0]) ∧ Lies w' (getR l).1 v) ∨ ((getR l).2 ≠ 0 ∧ e = .returned (.tuple #[.agg #[.int .i64 0, .int .i64 0, .string ⟨#[]⟩, .slice none 0 0, .slice none 0 0], .int .i64 (getR l).2])))

set_option maxHeartbeats 2000000 in
set_option maxRecDepth 1000000 in
theorem rGet_any (a : Option Addr) (c : Nat) (l : List UInt8) (w : World) (hB : Byts w a l) (hl : l.length ≤ 140737488355328) (hlc : l.length ≤ c) (hcm : c ≤ maxLen) :
    Calls Tryd.prog 25 #[.slice a l.length c] w fun e w' => RGSay w l e w' := by
  have hml : maxLen = 9223372036854775807 := rfl
  have b0 := (RowKit.Below.refl _ w).alloc (Nat.le_refl _) (.cells #[.int .i64 0, .int .i64 0, .string ⟨#[]⟩, .slice none 0 0, .slice none 0 0] 29)
  obtain ⟨r, hr⟩ : ∃ r, r = valR l 0 := ⟨_, rfl⟩
  obtain ⟨n, hn⟩ : ∃ n, n = l.length := ⟨_, rfl⟩
  have HT : Hid (Calls Tryd.prog 30 #[.slice a n c, .int .i64 0] (w.alloc (.cells #[.int .i64 0, .int .i64 0, .string ⟨#[]⟩, .slice none 0 0, .slice none 0 0] 29)) fun e w' => RowKit.Below (w.heap.size + 1) (w.alloc (.cells #[.int .i64 0, .int .i64 0, .string ⟨#[]⟩, .slice none 0 0, .slice none 0 0] 29)) w' ∧ ((r.2.2 = 0 ∧ ∃ kk n' s la ln lc fa fn fc, e = .returned (.tuple #[.agg #[.int .i64 kk, .int .i64 n', .string s, .slice la ln lc, .slice fa fn fc], .int .i64 (r.2.1 : Int), .int .i64 0]) ∧ r.2.1 ≤ n ∧ From (w.heap.size + 1) w' r.1 (.agg #[.int .i64 kk, .int .i64 n', .string s, .slice la ln lc, .slice fa fn fc])) ∨ (r.2.2 ≠ 0 ∧ e = .returned (.tuple #[.agg #[.int .i64 0, .int .i64 0, .string ⟨#[]⟩, .slice none 0 0, .slice none 0 0], .int .i64 0, .int .i64 r.2.2])))) := by
    have h := rTake_all a c 0 l _ (hB.below b0) (by omega) hl hlc hcm
    rw [← hn] at h
    refine h.mono ?_
    rintro e w' ⟨h1, h2⟩
    have es : (w.alloc (.cells #[.int .i64 0, .int .i64 0, .string ⟨#[]⟩, .slice none 0 0, .slice none 0 0] 29)).heap.size = w.heap.size + 1 := by simp
    rw [es] at h1 h2
    rw [hr]
    rcases h2 with ⟨h2, kk, n', s, la, ln, lc, fa, fn, fc, h3, h4, _, h5⟩ | h2
    · exact ⟨h1, Or.inl ⟨h2, kk, n', s, la, ln, lc, fa, fn, fc, h3, by rw [hn]; exact h4, h5⟩⟩
    · exact ⟨h1, Or.inr h2⟩
  have HZ : Hid (Blk5 _ w.heap.size _ _ _ _ _) := Blk5.new w (.int .i64 0) (.int .i64 0) (.string ⟨#[]⟩) (.slice none 0 0) (.slice none 0 0)
  have HB0 := mkHid b0
  obtain ⟨Q, hQ⟩ : ∃ Q : Ending → World → Prop, Q = fun e w' => RGSay w l e w' := ⟨_, rfl⟩
  have HQ1 : Hid (∀ w' v, RowKit.Below w.heap.size w w' → r.2.2 = 0 → r.2.1 = n → Lies w' r.1 v → Q (.returned (.tuple #[v, .int .i64 0])) w') := by
    intro w' v h1 h2 h3 h4
    have e : getR l = (r.1, 0) := by unfold getR; rw [← hr, ← hn, if_neg (by simpa using h2), if_neg (by omega)]
    rw [hQ]
    refine ⟨h1, Or.inl ?_⟩
    rw [e]
    exact ⟨rfl, v, rfl, h4⟩
  have HQ2 : Hid (∀ w' er, RowKit.Below w.heap.size w w' → ((r.2.2 ≠ 0 ∧ er = r.2.2) ∨ (r.2.2 = 0 ∧ r.2.1 < n ∧ er = 4)) → Q (.returned (.tuple #[.agg #[.int .i64 0, .int .i64 0, .string ⟨#[]⟩, .slice none 0 0, .slice none 0 0], .int .i64 er])) w') := by
    intro w' er h1 h2
    have e : getR l = (.nil, er) := by
      unfold getR
      rw [← hr, ← hn]
      rcases h2 with ⟨h2, h3⟩ | ⟨h2, h3, h4⟩
      · rw [if_pos h2, h3]
      · rw [if_neg (by simpa using h2), if_pos h3, h4]
    have e0 : er ≠ 0 := by
      rcases h2 with ⟨h2, h3⟩ | ⟨_, _, h4⟩
      · rw [h3]; exact h2
      · rw [h4]; decide
    rw [hQ]
    refine ⟨h1, Or.inr ?_⟩
    rw [e]
    exact ⟨e0, rfl⟩
  rw [← hn] at hl hlc ⊢
  rw [← hQ]
  clear b0 hB hr hQ hn
  go_enter Tryd.func25, Tryd.ntmps25
  go_wp2_with fail
  refine HT.out.mono ?_
  rintro e w1 ⟨b1, h1⟩
  have hs1 := b1.size
  simp at hs1
  rcases h1 with ⟨h0, kk, n', s, la, ln, lc, fa, fn, fc, rfl, hle, hfr⟩ | ⟨h0, rfl⟩
  · obtain ⟨q, hq⟩ : ∃ q, q = r.2.1 := ⟨_, rfl⟩
    rw [← hq] at hle
    have a1 := (RowKit.Below.refl _ w1).alloc (Nat.le_refl _) (.cells #[.int .i64 kk, .int .i64 n', .string s, .slice la ln lc, .slice fa fn fc] 29)
    have z1 := (HZ.out.below (b1.mono (by simp))).below a1
    obtain ⟨f0, f1, f2, f3, f4⟩ := z1.free
    obtain ⟨e0, e1, e2, e3, e4⟩ := z1.cells
    have B1 := mkHid ((HB0.out.trans (b1.mono (by omega))).alloc (by omega) (.cells #[.int .i64 kk, .int .i64 n', .string s, .slice la ln lc, .slice fa fn fc] 29))
    have HFR := mkHid (hfr.below a1)
    have H0 := mkHid h0
    have HQQ := mkHid hq
    rw [← HQQ.out]
    clear a1 z1 b1 hfr h0 hq
    by_cases hlt : q = n
    · have hl1 : ((q : Int) == (n : Int)) = true := by simp; omega
      go_wp2_with fail
      refine bodyPost_ret (v := .tuple #[.agg #[.int .i64 kk, .int .i64 n', .string s, .slice la ln lc, .slice fa fn fc], .int .i64 0]) ?_ rfl ?_
      · have hres : Tryd.f25.results = #[.cell 2 29, .tmp 3] := by kernel_rfl
        simp only [results, hres]
        go_simp
      · refine HQ1.out _ _ ?_ H0.out (by rw [← HQQ.out]; exact hlt) ?_
        · repeat (first | with_reducible exact B1.out | apply RowKit.Below.drew | refine RowKit.Below.setCell ?_ (by simp) _)
        · refine From.lies (B := w.heap.size + 1) (HFR.out.keep fun b o u hb hc => ?_)
          have hne : b ≠ w.heap.size := by omega
          first
            | (rw [cell_setCell_other hne, cell_setCell_other hne, cell_setCell_other hne, cell_setCell_other hne, cell_setCell_other hne]; exact hc)
            | (show World.cell? (World.setCell _ _ _) _ = _; rw [cell_setCell_other hne, cell_setCell_other hne, cell_setCell_other hne, cell_setCell_other hne, cell_setCell_other hne]; exact hc)
    · have hl1 : ((q : Int) == (n : Int)) = false := by simp; omega
      have hne2 : ¬ ((q : Int) = (n : Int)) := by omega
      go_wp2_with fail
      refine bodyPost_ret (v := .tuple #[.agg #[.int .i64 0, .int .i64 0, .string ⟨#[]⟩, .slice none 0 0, .slice none 0 0], .int .i64 4]) ?_ rfl ?_
      · have hres : Tryd.f25.results = #[.cell 2 29, .tmp 3] := by kernel_rfl
        simp only [results, hres]
        go_simp
      · refine HQ2.out _ 4 ?_ (Or.inr ⟨H0.out, by rw [← HQQ.out]; omega, rfl⟩)
        repeat (first | with_reducible exact B1.out | apply RowKit.Below.drew | refine RowKit.Below.setCell ?_ (by simp) _)
  · have a1 := (RowKit.Below.refl _ w1).alloc (Nat.le_refl _) (.cells #[.int .i64 0, .int .i64 0, .string ⟨#[]⟩, .slice none 0 0, .slice none 0 0] 29)
    have z1 := (HZ.out.below (b1.mono (by simp))).below a1
    obtain ⟨f0, f1, f2, f3, f4⟩ := z1.free
    obtain ⟨e0, e1, e2, e3, e4⟩ := z1.cells
    have B1 := mkHid ((HB0.out.trans (b1.mono (by omega))).alloc (by omega) (.cells #[.int .i64 0, .int .i64 0, .string ⟨#[]⟩, .slice none 0 0, .slice none 0 0] 29))
    obtain ⟨er, her⟩ : ∃ er, er = r.2.2 := ⟨_, rfl⟩
    rw [← her]
    have heb : (er == 0) = false := by simp; rw [her]; exact h0
    have H0 := mkHid h0
    have HER := mkHid her
    clear a1 z1 b1 h0 her
    go_wp2_with fail
    refine bodyPost_ret (v := .tuple #[.agg #[.int .i64 0, .int .i64 0, .string ⟨#[]⟩, .slice none 0 0, .slice none 0 0], .int .i64 er]) ?_ rfl ?_
    · have hres : Tryd.f25.results = #[.cell 2 29, .tmp 3] := by kernel_rfl
      simp only [results, hres]
      go_simp
    · refine HQ2.out _ er ?_ (Or.inl ⟨H0.out, HER.out⟩)
      repeat (first | with_reducible exact B1.out | apply RowKit.Below.drew | refine RowKit.Below.setCell ?_ (by simp) _)
end Go.Proofs.YtfnmmpakejdlgaaDoor
