/- key.Back: the value of a key. -/
import Derived.Test.YticbcoklpgfkhaaKySplit
namespace Go.Proofs.Yticbcoklpgfkhaa
open Go.RowKit

/-- What Back tells. -/
def BackSay (l : List UInt8) (w : World) (e : Ending) (w' : World) : Prop :=
  RowKit.Below w.heap.size w w' ∧ ((∃ f : Fl, f.g.err = 0 ∧ l = f.g.key ∧ e = .returned (.tuple #[f.val, .int .i64 0]) ∧ From w.heap.size w' f.g f.val) ∨ ((∀ g : GV, g.err = 0 → g.every GV.nOk = true → l ≠ g.key) ∧ e = .returned (.tuple #[.agg #[.int .i64 0, .int .i64 0, .string ⟨#[]⟩, .slice none 0 0, .slice none 0 0], .int .i64 4])))

set_option maxHeartbeats 4000000 in
set_option maxRecDepth 1000000 in
theorem Back_any (a : Option Addr) (c : Nat) (l : List UInt8) (w : World) (hB : Byts w a l) (hlc : l.length ≤ c) (hcm : c ≤ maxLen) (hl : l.length ≤ 1000000000000) :
    Calls Try.prog 9 #[.slice a l.length c] w fun e w' => BackSay l w e w' := by
  have hml : maxLen = 9223372036854775807 := rfl
  have hb1 := (RowKit.Below.refl w.heap.size w).alloc (Nat.le_refl _) (.cells #[.int .i64 0, .int .i64 0, .string ⟨#[]⟩, .slice none 0 0, .slice none 0 0] 25)
  have HS : Hid (Calls Try.prog 10 #[.slice a l.length c, .int .i64 1] (w.alloc (.cells #[.int .i64 0, .int .i64 0, .string ⟨#[]⟩, .slice none 0 0, .slice none 0 0] 25)) fun e w' => SplitSay l 1 (w.alloc (.cells #[.int .i64 0, .int .i64 0, .string ⟨#[]⟩, .slice none 0 0, .slice none 0 0] 25)) e w') := Split_any a c l 1 _ (hB.below hb1) hlc hcm (by omega) hl
  have HZ : Hid (Blk5 (w.alloc (.cells #[.int .i64 0, .int .i64 0, .string ⟨#[]⟩, .slice none 0 0, .slice none 0 0] 25)) w.heap.size (.int .i64 0) (.int .i64 0) (.string ⟨#[]⟩) (.slice none 0 0) (.slice none 0 0)) := Blk5.new w _ _ _ _ _
  have HB1 := mkHid hb1
  obtain ⟨N, hN⟩ : ∃ N, N = l.length := ⟨_, rfl⟩
  rw [← hN] at HS ⊢
  clear hB hb1 hN hlc
  go_enter Try.func9, Try.ntmps9
  go_wp2_with fail
  refine HS.out.mono ?_
  rintro e w2 ⟨hb2, ⟨v, fs, hfs, hlk, hsp, rfl⟩ | ⟨hno, rfl⟩⟩
  · obtain ⟨f, rfl⟩ : ∃ f, fs = [f] := by
      match fs, hfs with
      | [f], _ => exact ⟨f, rfl⟩
    have hz := HZ.out.below hb2
    obtain ⟨e0, e1, e2, e3, e4⟩ := hz.cells
    obtain ⟨f0, f1, f2, f3, f4⟩ := hz.free
    obtain ⟨g0, vc, rfl, hg0, hgB⟩ := own_form (n := 0) hsp.own
    have hcell : ∀ j, j < 5 → w2.cell? ⟨g0, j, none⟩ = f.val.cells.toList[j]? := by
      intro j hj
      have h := hsp.own.cellAt j (by simpa using hj)
      rw [h]
      simp [valCells]
    obtain ⟨nm, kk, n2, s, la, ln, lc, fa, fn, fc, gg⟩ := f
    have q0 : w2.cell? ⟨g0, 0, none⟩ = some (.int .i64 kk) := hcell 0 (by omega)
    have q1 : w2.cell? ⟨g0, 1, none⟩ = some (.int .i64 n2) := hcell 1 (by omega)
    have q2 : w2.cell? ⟨g0, 2, none⟩ = some (.string s) := hcell 2 (by omega)
    have q3 : w2.cell? ⟨g0, 3, none⟩ = some (.slice la ln lc) := hcell 3 (by omega)
    have q4 : w2.cell? ⟨g0, 4, none⟩ = some (.slice fa fn fc) := hcell 4 (by omega)
    have hT := (hsp.trees _ (List.mem_singleton.2 rfl))
    have HFR : Hid (From (w.heap.size + 1) w2 gg (.agg #[.int .i64 kk, .int .i64 n2, .string s, .slice la ln lc, .slice fa fn fc])) := by
      have := off_from hT.1
      simp only [World.alloc, Array.size_push, Fl.val] at this
      exact this
    have HE : Hid (gg.err = 0) := hT.2
    have HLK : Hid (l = gg.key) := by
      show l = gg.key
      rw [hlk]
      simp [keysF]
    have HB2 := mkHid (HB1.out.trans (hb2.mono HB1.out.size))
    clear hb2 hlk hsp hz hcell hT hfs
    go_wp2_with fail
    refine bodyPost_ret (v := .tuple #[.agg #[.int .i64 kk, .int .i64 n2, .string s, .slice la ln lc, .slice fa fn fc], .int .i64 0]) ?_ rfl ⟨?_, Or.inl ⟨⟨nm, kk, n2, s, la, ln, lc, fa, fn, fc, gg⟩, HE.out, HLK.out, rfl, ?_⟩⟩
    · have hres : Try.f9.results = #[.cell 2 25, .tmp 3] := by kernel_rfl
      simp only [results, hres]
      go_simp
    · repeat (first | with_reducible exact HB2.out | apply RowKit.Below.drew | refine RowKit.Below.setCell ?_ (by simp) _)
    · exact (((((HFR.out.setCell (by omega) _).setCell (by omega) _).setCell (by omega) _).setCell (by omega) _).setCell (by omega) _).le (by omega)
  · have hz := HZ.out.below hb2
    obtain ⟨e0, e1, e2, e3, e4⟩ := hz.cells
    obtain ⟨f0, f1, f2, f3, f4⟩ := hz.free
    have HNO : Hid (∀ g : GV, g.err = 0 → g.every GV.nOk = true → l ≠ g.key) := by
      intro g h1 h2 h3
      refine hno [g] ⟨rfl, ?_, by simpa using h3⟩
      intro x hx
      obtain rfl : x = g := by simpa using hx
      exact ⟨h1, h2⟩
    have HB2 := mkHid (HB1.out.trans (hb2.mono HB1.out.size))
    clear hb2 hno hz
    go_wp2_with fail
    refine bodyPost_ret (v := .tuple #[.agg #[.int .i64 0, .int .i64 0, .string ⟨#[]⟩, .slice none 0 0, .slice none 0 0], .int .i64 4]) ?_ rfl ⟨?_, Or.inr ⟨HNO.out, rfl⟩⟩
    · have hres : Try.f9.results = #[.cell 2 25, .tmp 3] := by kernel_rfl
      simp only [results, hres]
      go_simp
    · repeat (first | with_reducible exact HB2.out | apply RowKit.Below.drew | refine RowKit.Below.setCell ?_ (by simp) _)
end Go.Proofs.Yticbcoklpgfkhaa
