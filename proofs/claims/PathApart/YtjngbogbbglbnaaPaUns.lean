/- Contract of path.Unset, of any value and any path. -/
import Derived.Test.YtjngbogbbglbnaaPaSet
namespace Go.Proofs.Ytjngbogbbglbnaa
open Go.RowKit

set_option maxHeartbeats 1500000 in
set_option maxRecDepth 1000000 in
theorem unset_any (g : GV) (p : ByteArray) (v : Value) (w : World) (hL : Lies w g v) (hN : g.nodes ≤ 6000) (hp : p.size ≤ 140737488355328) :
    Calls Try.prog 15 #[v, .string p] w fun e w' => OutSay w.heap.size w' (unsetR g p) e ∧ Below w.heap.size w w' := by
  obtain ⟨R, hR⟩ : ∃ R, R = unsetR g p := ⟨_, rfl⟩
  rw [← hR]
  unfold unsetR at hR
  obtain ⟨k, n, s, la, ln, lc, fa, fn, fc, rfl⟩ := hL.agg
  have hbx : Below w.heap.size w ((w.alloc (.cells #[.int .i64 k, .int .i64 n, .string s, .slice la ln lc, .slice fa fn fc] 25)).alloc (.cells #[.int .i64 0, .int .i64 0, .string ⟨#[]⟩, .slice none 0 0, .slice none 0 0] 25)) := ((Below.refl w.heap.size w).alloc (Nat.le_refl _) _).alloc (by simp) _
  have hbs : ((w.alloc (.cells #[.int .i64 k, .int .i64 n, .string s, .slice la ln lc, .slice fa fn fc] 25)).alloc (.cells #[.int .i64 0, .int .i64 0, .string ⟨#[]⟩, .slice none 0 0, .slice none 0 0] 25)).heap.size = w.heap.size + 2 := by simp
  have hBB := box2_cells (Below.refl _ ((w.alloc (.cells #[.int .i64 k, .int .i64 n, .string s, .slice la ln lc, .slice fa fn fc] 25)).alloc (.cells #[.int .i64 0, .int .i64 0, .string ⟨#[]⟩, .slice none 0 0, .slice none 0 0] 25)))
  have HP : Hid (Blk5 ((w.alloc (.cells #[.int .i64 k, .int .i64 n, .string s, .slice la ln lc, .slice fa fn fc] 25)).alloc (.cells #[.int .i64 0, .int .i64 0, .string ⟨#[]⟩, .slice none 0 0, .slice none 0 0] 25)) w.heap.size (.int .i64 k) (.int .i64 n) (.string s) (.slice la ln lc) (.slice fa fn fc)) := hBB.1
  have HQ : Hid (Blk5 ((w.alloc (.cells #[.int .i64 k, .int .i64 n, .string s, .slice la ln lc, .slice fa fn fc] 25)).alloc (.cells #[.int .i64 0, .int .i64 0, .string ⟨#[]⟩, .slice none 0 0, .slice none 0 0] 25)) (w.heap.size + 1) (.int .i64 0) (.int .i64 0) (.string ⟨#[]⟩) (.slice none 0 0) (.slice none 0 0)) := hBB.2
  clear hBB
  have HBG : Hid (Calls Try.prog 34 #[.agg #[.int .i64 k, .int .i64 n, .string s, .slice la ln lc, .slice fa fn fc], .string p, .slice none 0 0] ((w.alloc (.cells #[.int .i64 k, .int .i64 n, .string s, .slice la ln lc, .slice fa fn fc] 25)).alloc (.cells #[.int .i64 0, .int .i64 0, .string ⟨#[]⟩, .slice none 0 0, .slice none 0 0] 25)) fun e w' => BegSay w' (begR g p 0 fun _ => .nil) e ∧ Below ((w.alloc (.cells #[.int .i64 k, .int .i64 n, .string s, .slice la ln lc, .slice fa fn fc] 25)).alloc (.cells #[.int .i64 0, .int .i64 0, .string ⟨#[]⟩, .slice none 0 0, .slice none 0 0] 25)).heap.size ((w.alloc (.cells #[.int .i64 k, .int .i64 n, .string s, .slice la ln lc, .slice fa fn fc] 25)).alloc (.cells #[.int .i64 0, .int .i64 0, .string ⟨#[]⟩, .slice none 0 0, .slice none 0 0] 25)) w') := hidI (begin_any g _ p none 0 0 (fun _ => .nil) ((w.alloc (.cells #[.int .i64 k, .int .i64 n, .string s, .slice la ln lc, .slice fa fn fc] 25)).alloc (.cells #[.int .i64 0, .int .i64 0, .string ⟨#[]⟩, .slice none 0 0, .slice none 0 0] 25)) (hL.below hbx) (by omega) hp (vals_no _ _ _) (by omega) (by omega) (by unfold maxLen; omega) (fun h => by omega))
  have HL : Hid (Lies w g _) := hL
  clear hL
  cases hbe : begR g p 0 (fun _ => .nil) with
  | error er =>
    rw [hbe] at hR
    have HR : Hid (R = .error er) := hR
    go_enter Try.func15, Try.ntmps15
    go_wp2_with fail
    refine HBG.out.mono ?_
    rintro e w1 ⟨h1, b1⟩
    obtain ⟨rfl, hne⟩ : e = .returned (.tuple #[.slice none 0 0, .int .i64 er]) ∧ er ≠ 0 := by
      rcases h1 with ⟨er', h, h2, h3⟩ | ⟨_, _, _, h, _⟩
      · rw [hbe] at h; cases h; exact ⟨h3, h2⟩
      · rw [hbe] at h; cases h
    have heb : (er != 0) = true := by rw [bne_iff_ne]; exact hne
    have HNE : Hid (er ≠ 0) := hne
    obtain ⟨z0, z1, z2, z3, z4⟩ := Blk5.cells (Blk5.below HQ.out b1)
    obtain ⟨q0, q1, q2, q3, q4⟩ := Blk5.free (Blk5.below HQ.out b1)
    have HB : Hid (Below w.heap.size w w1) := hidI (hbx.trans (b1.mono hbx.size))
    have hrb : w.heap.size ≤ w.heap.size + 1 := by omega
    clear h1 hR hbe hne b1 hbx
    go_wp2_with fail
    refine bodyPost_ret (v := .tuple #[vZ, .int .i64 er]) ?_ rfl ⟨Or.inl ⟨er, HR.out, HNE.out, rfl⟩, ?_⟩
    · have hres : Try.f15.results = #[.cell 4 25, .tmp 5] := by kernel_rfl
      simp only [results, hres]
      go_simp
      rfl
    · exact ((((HB.out.setCell hrb _).setCell hrb _).setCell hrb _).setCell hrb _).setCell hrb _
  | ok l =>
    rw [hbe] at hR
    simp only at hR
    go_enter Try.func15, Try.ntmps15
    go_wp2_with fail
    refine HBG.out.mono ?_
    rintro e w1 ⟨h1, b1⟩
    obtain ⟨sa, sc, rfl, hsc1, hsc2, hstr⟩ : ∃ sa sc, e = .returned (.tuple #[.slice sa l.length sc, .int .i64 0]) ∧ l.length ≤ sc ∧ sc ≤ maxLen ∧ Strs w1 sa l := by
      rcases h1 with ⟨er', h, _⟩ | ⟨l', sa, sc, h, h2⟩
      · rw [hbe] at h; cases h
      · rw [hbe] at h; cases h; exact ⟨sa, sc, h2⟩
    have HSTR : Hid (Strs w1 sa l) := hstr
    have HSC : Hid (l.length ≤ sc ∧ sc ≤ maxLen) := hidI ⟨hsc1, hsc2⟩
    obtain ⟨hge, hso, hxe⟩ := beg_ok hbe
    have hsa := steps_all hso
    have HST : Hid (∀ s ∈ l, isStepB s.data.toList = true) := hsa.1
    have HLN : Hid (1 ≤ l.length ∧ l.length ≤ 8) := hidI ⟨hsa.2.2.1, hsa.2.1⟩
    have hlne : l ≠ [] := fun h => by have := HLN.out.1; rw [h] at this; simp at this
    have HLNE : Hid (l ≠ []) := hlne
    have HFIT : Hid g.fit := hidI ⟨err_every hge, by omega⟩
    have hb1 := b1
    have hbw1 : Below w.heap.size w w1 := hbx.trans (hb1.mono hbx.size)
    have hbw1' := hbw1
    have HGE : Hid (g.err = 0) := hge
    have HLD : Hid (Calls Try.prog 35 #[.agg #[.int .i64 k, .int .i64 n, .string s, .slice la ln lc, .slice fa fn fc], .slice sa l.length sc] w1 fun e w' => LeadSay w (g.lead l) e ∧ Below w1.heap.size w1 w') := hidI (lead_any g l sa sc _ w w1 HL.out (below_keeps hbw1) HFIT.out HSTR.out HST.out hsc1 hsc2)
    obtain ⟨c0, c1, c2, c3, c4⟩ := Blk5.cells (Blk5.below HP.out hb1)
    have HB1 : Hid (Below ((w.alloc (.cells #[.int .i64 k, .int .i64 n, .string s, .slice la ln lc, .slice fa fn fc] 25)).alloc (.cells #[.int .i64 0, .int .i64 0, .string ⟨#[]⟩, .slice none 0 0, .slice none 0 0] 25)).heap.size ((w.alloc (.cells #[.int .i64 k, .int .i64 n, .string s, .slice la ln lc, .slice fa fn fc] 25)).alloc (.cells #[.int .i64 0, .int .i64 0, .string ⟨#[]⟩, .slice none 0 0, .slice none 0 0] 25)) w1) := hb1
    clear h1 hbe hge hso hxe hsa hlne hstr hsc1 hsc2 b1 hb1 hbw1
    cases hy : g.lead l with
    | none =>
      rw [hy] at hR
      have HR : Hid (R = .ok g) := hR
      go_wp2_with fail
      refine HLD.out.mono ?_
      rintro e w2 ⟨h2, b2⟩
      obtain rfl : e = .returned (.tuple #[.agg #[.int .i64 0, .int .i64 0, .string ⟨#[]⟩, .slice none 0 0, .slice none 0 0], .bool false]) := by
        rcases h2 with ⟨_, h⟩ | ⟨_, _, h, _⟩
        · exact h
        · rw [hy] at h; cases h
      have hbw2 := hbw1'.trans (b2.mono hbw1'.size)
      have hbw3 : Below w.heap.size w (w2.alloc (.cells #[.int .i64 0, .int .i64 0, .string ⟨#[]⟩, .slice none 0 0, .slice none 0 0] 25)) := hbw2.alloc hbw2.size _
      have HFR : Hid (Calls Try.prog 36 #[.agg #[.int .i64 k, .int .i64 n, .string s, .slice la ln lc, .slice fa fn fc]] (w2.alloc (.cells #[.int .i64 0, .int .i64 0, .string ⟨#[]⟩, .slice none 0 0, .slice none 0 0] 25)) fun e w' => ∃ v', e = .returned v' ∧ From (w2.alloc (.cells #[.int .i64 0, .int .i64 0, .string ⟨#[]⟩, .slice none 0 0, .slice none 0 0] 25)).heap.size w' g v' ∧ Top (w2.alloc (.cells #[.int .i64 0, .int .i64 0, .string ⟨#[]⟩, .slice none 0 0, .slice none 0 0] 25)).heap.size w' v' ∧ Below (w2.alloc (.cells #[.int .i64 0, .int .i64 0, .string ⟨#[]⟩, .slice none 0 0, .slice none 0 0] 25)).heap.size (w2.alloc (.cells #[.int .i64 0, .int .i64 0, .string ⟨#[]⟩, .slice none 0 0, .slice none 0 0] 25)) w') := hidI (fresh_any g _ (w2.alloc (.cells #[.int .i64 0, .int .i64 0, .string ⟨#[]⟩, .slice none 0 0, .slice none 0 0] 25)) (HL.out.below hbw3) (by omega))
      have hb2 : Below ((w.alloc (.cells #[.int .i64 k, .int .i64 n, .string s, .slice la ln lc, .slice fa fn fc] 25)).alloc (.cells #[.int .i64 0, .int .i64 0, .string ⟨#[]⟩, .slice none 0 0, .slice none 0 0] 25)).heap.size ((w.alloc (.cells #[.int .i64 k, .int .i64 n, .string s, .slice la ln lc, .slice fa fn fc] 25)).alloc (.cells #[.int .i64 0, .int .i64 0, .string ⟨#[]⟩, .slice none 0 0, .slice none 0 0] 25)) (w2.alloc (.cells #[.int .i64 0, .int .i64 0, .string ⟨#[]⟩, .slice none 0 0, .slice none 0 0] 25)) := HB1.out.trans ((b2.alloc b2.size _).mono HB1.out.size)
      have HB2 : Hid (Below ((w.alloc (.cells #[.int .i64 k, .int .i64 n, .string s, .slice la ln lc, .slice fa fn fc] 25)).alloc (.cells #[.int .i64 0, .int .i64 0, .string ⟨#[]⟩, .slice none 0 0, .slice none 0 0] 25)).heap.size ((w.alloc (.cells #[.int .i64 k, .int .i64 n, .string s, .slice la ln lc, .slice fa fn fc] 25)).alloc (.cells #[.int .i64 0, .int .i64 0, .string ⟨#[]⟩, .slice none 0 0, .slice none 0 0] 25)) (w2.alloc (.cells #[.int .i64 0, .int .i64 0, .string ⟨#[]⟩, .slice none 0 0, .slice none 0 0] 25))) := hb2
      have hw2s := hb2.size
      rw [hbs] at hw2s
      clear c0 c1 c2 c3 c4
      obtain ⟨c0, c1, c2, c3, c4⟩ := Blk5.cells (Blk5.below HP.out hb2)
      clear b2 hbw2 hbw3 hb2 h2 hy hR
      go_wp2_with fail
      refine HFR.out.mono ?_
      rintro e w3 ⟨v3, rfl, hF3, _, b3⟩
      obtain ⟨k3, n3, s3, la3, ln3, lc3, fa3, fn3, fc3, rfl⟩ := hF3.lies.agg
      have HF3 : Hid (From (w2.alloc (.cells #[.int .i64 0, .int .i64 0, .string ⟨#[]⟩, .slice none 0 0, .slice none 0 0] 25)).heap.size w3 g _) := hF3
      have hb3 := HB2.out.trans (b3.mono HB2.out.size)
      obtain ⟨z0, z1, z2, z3, z4⟩ := Blk5.cells (Blk5.below HQ.out hb3)
      obtain ⟨q0, q1, q2, q3, q4⟩ := Blk5.free (Blk5.below HQ.out hb3)
      have HB : Hid (Below w.heap.size w w3) := hidI (hbx.trans (hb3.mono hbx.size))
      have hrb : w.heap.size ≤ w.heap.size + 1 := by omega
      clear b3 hb3 hF3 c0 c1 c2 c3 c4
      go_wp2_with fail
      refine bodyPost_ret (v := .tuple #[.agg #[.int .i64 k3, .int .i64 n3, .string s3, .slice la3 ln3 lc3, .slice fa3 fn3 fc3], .int .i64 0]) ?_ rfl ⟨Or.inr ⟨g, _, HR.out, rfl, ?_, HGE.out⟩, ?_⟩
      · have hres : Try.f15.results = #[.cell 4 25, .tmp 5] := by kernel_rfl
        simp only [results, hres]
        go_simp
      · exact From.le (((((From.setCell HF3.out (by omega) _).setCell (by omega) _).setCell (by omega) _).setCell (by omega) _).setCell (by omega) _) (by omega)
      · exact ((((HB.out.setCell hrb _).setCell hrb _).setCell hrb _).setCell hrb _).setCell hrb _
    | some y =>
      rw [hy] at hR
      simp only at hR
      go_wp2_with fail
      refine HLD.out.mono ?_
      rintro e w2 ⟨h2, b2⟩
      obtain ⟨v2, rfl, hL2, hf2⟩ : ∃ v2, e = .returned (.tuple #[v2, .bool true]) ∧ Lies w y v2 ∧ y.fit := by
        rcases h2 with ⟨h, _⟩ | ⟨_, v2, h, h2, h3, h4⟩
        · rw [hy] at h; cases h
        · rw [hy] at h; cases h; exact ⟨v2, h2, h3, h4⟩
      obtain ⟨k2, n2, s2, la2, ln2, lc2, fa2, fn2, fc2, rfl⟩ := hL2.agg
      have HL2 : Hid (Lies w y _) := hL2
      clear hL2 hf2
      have hbw2 := hbw1'.trans (b2.mono hbw1'.size)
      have hbw3 : Below w.heap.size w (w2.alloc (.cells #[.int .i64 k2, .int .i64 n2, .string s2, .slice la2 ln2 lc2, .slice fa2 fn2 fc2] 25)) := hbw2.alloc hbw2.size _
      have HPT : Hid (Calls Try.prog 39 #[.agg #[.int .i64 k, .int .i64 n, .string s, .slice la ln lc, .slice fa fn fc], .slice sa l.length sc, .slice none 0 0] (w2.alloc (.cells #[.int .i64 k2, .int .i64 n2, .string s2, .slice la2 ln2 lc2, .slice fa2 fn2 fc2] 25)) fun e w' => PutEnd (w2.alloc (.cells #[.int .i64 k2, .int .i64 n2, .string s2, .slice la2 ln2 lc2, .slice fa2 fn2 fc2] 25)).heap.size (w2.alloc (.cells #[.int .i64 k2, .int .i64 n2, .string s2, .slice la2 ln2 lc2, .slice fa2 fn2 fc2] 25)).heap.size w' (GV.put l g 0 (fun _ => .nil)) e ∧ Below (w2.alloc (.cells #[.int .i64 k2, .int .i64 n2, .string s2, .slice la2 ln2 lc2, .slice fa2 fn2 fc2] 25)).heap.size (w2.alloc (.cells #[.int .i64 k2, .int .i64 n2, .string s2, .slice la2 ln2 lc2, .slice fa2 fn2 fc2] 25)) w') := hidI (put_any l HLNE.out g _ (w2.alloc (.cells #[.int .i64 k2, .int .i64 n2, .string s2, .slice la2 ln2 lc2, .slice fa2 fn2 fc2] 25)) (w2.alloc (.cells #[.int .i64 k2, .int .i64 n2, .string s2, .slice la2 ln2 lc2, .slice fa2 fn2 fc2] 25)).heap.size sa sc none 0 0 (fun _ => .nil) (Nat.le_refl _) (lies_all (HL.out.below hbw3)) HFIT.out (HSTR.out.below (b2.alloc b2.size _)) HST.out HSC.out.1 HSC.out.2 (vals_no _ _ _) (by omega) (by omega) (by unfold maxLen; omega))
      have hb2' : Below ((w.alloc (.cells #[.int .i64 k, .int .i64 n, .string s, .slice la ln lc, .slice fa fn fc] 25)).alloc (.cells #[.int .i64 0, .int .i64 0, .string ⟨#[]⟩, .slice none 0 0, .slice none 0 0] 25)).heap.size ((w.alloc (.cells #[.int .i64 k, .int .i64 n, .string s, .slice la ln lc, .slice fa fn fc] 25)).alloc (.cells #[.int .i64 0, .int .i64 0, .string ⟨#[]⟩, .slice none 0 0, .slice none 0 0] 25)) (w2.alloc (.cells #[.int .i64 k2, .int .i64 n2, .string s2, .slice la2 ln2 lc2, .slice fa2 fn2 fc2] 25)) := HB1.out.trans ((b2.alloc b2.size _).mono HB1.out.size)
      have HB2 : Hid (Below ((w.alloc (.cells #[.int .i64 k, .int .i64 n, .string s, .slice la ln lc, .slice fa fn fc] 25)).alloc (.cells #[.int .i64 0, .int .i64 0, .string ⟨#[]⟩, .slice none 0 0, .slice none 0 0] 25)).heap.size ((w.alloc (.cells #[.int .i64 k, .int .i64 n, .string s, .slice la ln lc, .slice fa fn fc] 25)).alloc (.cells #[.int .i64 0, .int .i64 0, .string ⟨#[]⟩, .slice none 0 0, .slice none 0 0] 25)) (w2.alloc (.cells #[.int .i64 k2, .int .i64 n2, .string s2, .slice la2 ln2 lc2, .slice fa2 fn2 fc2] 25))) := hb2'
      clear c0 c1 c2 c3 c4
      obtain ⟨c0, c1, c2, c3, c4⟩ := Blk5.cells (Blk5.below HP.out hb2')
      clear b2 hbw2 hbw3 hb2' h2 hy
      go_wp2_with fail
      refine HPT.out.mono ?_
      rintro e w4 ⟨hE2, b2⟩
      have hb2 := HB2.out.trans (b2.mono HB2.out.size)
      clear b2 c0 c1 c2 c3 c4
      cases hput : GV.put l g 0 (fun _ => .nil) with
      | error er =>
        rw [hput] at hR
        obtain ⟨rfl, hne⟩ : e = .returned (.tuple #[vZ, .int .i64 er]) ∧ er ≠ 0 := by
          rcases hE2 with ⟨er', h, h2, h3⟩ | ⟨_, _, h, _⟩
          · rw [hput] at h; cases h; exact ⟨h3, by omega⟩
          · rw [hput] at h; cases h
        have HR : Hid (R = .error er) := hR
        have HNE : Hid (er ≠ 0) := hne
        have hT := told_bad er w4 hne
        have HT : Hid (Calls Try.prog 38 #[.agg #[.int .i64 0, .int .i64 0, .string ⟨#[]⟩, .slice none 0 0, .slice none 0 0], .int .i64 er] w4 fun e w' => e = .returned (.tuple #[.agg #[.int .i64 0, .int .i64 0, .string ⟨#[]⟩, .slice none 0 0, .slice none 0 0], .int .i64 er]) ∧ Below w4.heap.size w4 w') := hT
        clear hR hE2 hne hT
        unfold vZ
        go_wp2_with fail
        refine HT.out.mono ?_
        rintro e w3 ⟨rfl, b3⟩
        have hb3 := hb2.trans (b3.mono hb2.size)
        obtain ⟨z0, z1, z2, z3, z4⟩ := Blk5.cells (Blk5.below HQ.out hb3)
        obtain ⟨q0, q1, q2, q3, q4⟩ := Blk5.free (Blk5.below HQ.out hb3)
        have HB : Hid (Below w.heap.size w w3) := hidI (hbx.trans (hb3.mono hbx.size))
        have hrb : w.heap.size ≤ w.heap.size + 1 := by omega
        clear b3 hb3 hb2
        go_wp2_with fail
        refine bodyPost_ret (v := .tuple #[vZ, .int .i64 er]) ?_ rfl ⟨Or.inl ⟨er, HR.out, HNE.out, rfl⟩, ?_⟩
        · have hres : Try.f15.results = #[.cell 4 25, .tmp 5] := by kernel_rfl
          simp only [results, hres]
          go_simp
          rfl
        · exact ((((HB.out.setCell hrb _).setCell hrb _).setCell hrb _).setCell hrb _).setCell hrb _
      | ok y =>
        rw [hput] at hR
        obtain ⟨v2, rfl, hL2⟩ : ∃ v2, e = .returned (.tuple #[v2, .int .i64 0]) ∧ Lies w4 y v2 := by
          rcases hE2 with ⟨er', h, _⟩ | ⟨y', v', h, h2, h3⟩
          · rw [hput] at h; cases h
          · rw [hput] at h; cases h; exact ⟨v', h2, lies_veil h3⟩
        obtain ⟨k5, n5, s2, la2, ln5, lc2, fa2, fn5, fc2, rfl⟩ := hL2.agg
        have hyn := put_nodes _ _ _ _ _ hput
        rw [sumG_0] at hyn
        have hLN := HLN.out
        have HT : Hid (Calls Try.prog 38 #[.agg #[.int .i64 k5, .int .i64 n5, .string s2, .slice la2 ln5 lc2, .slice fa2 fn5 fc2], .int .i64 0] w4 fun e w' => OutSay w4.heap.size w' (toldR (.ok y)) e ∧ Below w4.heap.size w4 w') := hidI (told_ok y _ w4 hL2 (by omega))
        clear hE2 hyn hL2 hput
        have hw4s := hb2.size
        rw [hbs] at hw4s
        go_wp2_with fail
        refine HT.out.mono ?_
        rintro e w3 ⟨h3, b3⟩
        have hb3 := hb2.trans (b3.mono hb2.size)
        obtain ⟨z0, z1, z2, z3, z4⟩ := Blk5.cells (Blk5.below HQ.out hb3)
        obtain ⟨q0, q1, q2, q3, q4⟩ := Blk5.free (Blk5.below HQ.out hb3)
        have HB : Hid (Below w.heap.size w w3) := hidI (hbx.trans (hb3.mono hbx.size))
        have hrb : w.heap.size ≤ w.heap.size + 1 := by omega
        rcases h3 with ⟨er, h4, hne, rfl⟩ | ⟨y', v3, h4, rfl, hF3, he3⟩
        · have HR : Hid (R = .error er) := hidI (by rw [hR]; exact h4)
          have HNE : Hid (er ≠ 0) := hne
          clear b3 hb3 hb2 h4 hne hR
          unfold vZ
          go_wp2_with fail
          refine bodyPost_ret (v := .tuple #[vZ, .int .i64 er]) ?_ rfl ⟨Or.inl ⟨er, HR.out, HNE.out, rfl⟩, ?_⟩
          · have hres : Try.f15.results = #[.cell 4 25, .tmp 5] := by kernel_rfl
            simp only [results, hres]
            go_simp
            rfl
          · exact ((((HB.out.setCell hrb _).setCell hrb _).setCell hrb _).setCell hrb _).setCell hrb _
        · have HR : Hid (R = .ok y') := hidI (by rw [hR]; exact h4)
          obtain ⟨k3, n3, s3, la3, ln3, lc3, fa3, fn3, fc3, rfl⟩ := hF3.lies.agg
          have HF3 : Hid (From w4.heap.size w3 y' _) := hF3
          have HE3 : Hid (y'.err = 0) := he3
          clear b3 hb3 hb2 h4 hR hF3 he3
          go_wp2_with fail
          refine bodyPost_ret (v := .tuple #[.agg #[.int .i64 k3, .int .i64 n3, .string s3, .slice la3 ln3 lc3, .slice fa3 fn3 fc3], .int .i64 0]) ?_ rfl ⟨Or.inr ⟨y', _, HR.out, rfl, ?_, HE3.out⟩, ?_⟩
          · have hres : Try.f15.results = #[.cell 4 25, .tmp 5] := by kernel_rfl
            simp only [results, hres]
            go_simp
          · exact From.le (((((From.setCell HF3.out (by omega) _).setCell (by omega) _).setCell (by omega) _).setCell (by omega) _).setCell (by omega) _) (by omega)
          · exact ((((HB.out.setCell hrb _).setCell hrb _).setCell hrb _).setCell hrb _).setCell hrb _
end Go.Proofs.Ytjngbogbbglbnaa
