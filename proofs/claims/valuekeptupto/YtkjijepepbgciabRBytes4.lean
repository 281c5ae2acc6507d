/- The walk of the document's own 'Bytes', of a Text. -/
import Derived.Test.YtkjijepepbgciabRBytes5
namespace Go.Proofs.Ytkjijepepbgciab
open Go.RowKit

theorem keepB {w u w1 : World} {s : ByteArray} {B : Nat} {a : World} (hb : Below u.heap.size u w1) (hB : B ≤ u.heap.size) (h : u.cell? ⟨w.heap.size, 2, none⟩ = some (.string s) ∧ Below B a u) : w1.cell? ⟨w.heap.size, 2, none⟩ = some (.string s) ∧ Below B a w1 :=
  ⟨below_keeps hb _ _ _ h.1, h.2.trans (hb.mono hB)⟩

theorem keepG {w u w1 : World} {s : ByteArray} {a : World} {r : Option Nat} (hg : u.grownBy w1 r) (hB : w.heap.size + 1 ≤ u.heap.size) (hr : ∀ k, r = some k → w.heap.size + 1 ≤ k) (h : u.cell? ⟨w.heap.size, 2, none⟩ = some (.string s) ∧ Below (w.heap.size + 1) a u) : w1.cell? ⟨w.heap.size, 2, none⟩ = some (.string s) ∧ Below (w.heap.size + 1) a w1 := by
  have hb : Below (w.heap.size + 1) u w1 := (Below.refl _ u).grown hg hB hr
  refine ⟨?_, h.2.trans hb⟩
  rw [hb.cell (p := ⟨w.heap.size, 2, none⟩) (by show w.heap.size < _; omega)]
  exact h.1

set_option maxHeartbeats 4000000 in
set_option maxRecDepth 1000000 in
theorem bytes_k4 (n : Int) (s : ByteArray) (ln : Nat) (l : Nat → GV) (fn : Nat) (nm : Nat → ByteArray) (f : Nat → GV) (la fa : Option Addr) (lc fc : Nat) (w : World) (hs : s.size ≤ 4194304) : Calls Try.prog 48 #[.agg #[.int .i64 4, .int .i64 n, .string s, .slice la ln lc, .slice fa fn fc]] w fun e w' => BytesSay w (GV.mk 4 n s ln l fn nm f).enc e w' := by
  obtain ⟨i0, hi, hz0, hz1, hz2⟩ := info_parts infoU8
  have hml : maxLen = 9223372036854775807 := rfl
  have hbx : Below w.heap.size w (w.alloc (.cells #[.int .i64 4, .int .i64 n, .string s, .slice la ln lc, .slice fa fn fc] 26)) := (Below.refl w.heap.size w).alloc (Nat.le_refl _) _
  have HB1 : Hid (Below (w.heap.size + 1) (w.alloc (.cells #[.int .i64 4, .int .i64 n, .string s, .slice la ln lc, .slice fa fn fc] 26)) ((w.alloc (.cells #[.int .i64 4, .int .i64 n, .string s, .slice la ln lc, .slice fa fn fc] 26)).alloc (.cells #[.int .u8 4] 5))) := (Below.refl _ _).alloc (by simp) _
  have HO1 : Hid (((w.alloc (.cells #[.int .i64 4, .int .i64 n, .string s, .slice la ln lc, .slice fa fn fc] 26)).alloc (.cells #[.int .u8 4] 5)).ownsRow (w.heap.size + 1) 5 1 (.slice (some ⟨w.heap.size + 1, 0, none⟩) 1 1) 1 [.int .u8 4]) := by
    have := World.ownsRow_lit (base := w.heap.size + 1) (e := 5) (size := 1) (w.alloc (.cells #[.int .i64 4, .int .i64 n, .string s, .slice la ln lc, .slice fa fn fc] 26)) #[.int .u8 4] 1 (by simp) (by decide) rfl
    show World.ownsRow _ _ _ _ _ _ _
    simpa using this
  have hten := varint_ten (n := s.size) (by omega)
  have hpos := varint_pos s.size
  obtain ⟨lv, hlv⟩ : ∃ lv, varint s.size = lv := ⟨_, rfl⟩
  have HV : Hid (varint s.size = lv) := hlv
  rw [hlv] at hten hpos
  rw [enc_k4, hlv]
  clear hlv
  have HVC : Hid (∀ u, Calls Try.prog 73 #[.int .u64 (IntKind.u64.wrap (s.size : Int))] u fun e w' => ∃ v, e = .returned v ∧ w'.ownsRow u.heap.size 5 1 v lv.length (Lib.byteCells lv) ∧ Below u.heap.size u w') := by
    intro u
    have := rvarint_any s.size u (by omega)
    rw [HV.out] at this
    rw [show IntKind.u64.wrap (s.size : Int) = (s.size : Int) by rw [u64_wrap]; omega]
    exact this
  have q2 : ((w.alloc (.cells #[.int .i64 4, .int .i64 n, .string s, .slice la ln lc, .slice fa fn fc] 26)).alloc (.cells #[.int .u8 4] 5)).cell? ⟨w.heap.size, 2, none⟩ = some (.string s) := by simp
  go_enter Try.func48, Try.ntmps48
  go_wp2_with fail
  go_region_held3 (fun w' => w'.cell? ⟨w.heap.size, 2, none⟩ = some (.string s) ∧ Below (w.heap.size + 1) (w.alloc (.cells #[.int .i64 4, .int .i64 n, .string s, .slice la ln lc, .slice fa fn fc] 26)) w') (first | exact hS | exact ⟨q2, HB1.out.drew⟩) (first
    | (go_at_call 73; refine (HVC.out _).mono ?_; rintro e w2 ⟨v2, rfl, hv2, hb2⟩; obtain ⟨g2, c2, rfl, hc2⟩ := own_some hv2 hpos; have hb2s := hb2.size; simp at hb2s; have hown2 := own_below (own_drew HO1.out) hb2; have hS := keepB (B := w.heap.size + 1) hb2 (by simp <;> omega) (by assumption))
    | (have _t := hown3; refine step_append_own_string rfl (.tmp 36) (.tmp 38) 68 9 rfl (w.heap.size + 1) 5 i0 Try.underlying68 Try.underlying9 hi hz0 hz1 hz2 v3 _ _ (by simp [Act.eval]) hown3 s (by simp [Act.eval]) (by omega) (by omega) (by omega) ?_; intro v4 w4 hown4 hgrow4; have hS := keepG hgrow4 (by omega) (fun k hk => (hown3.lt k hk).1) hS)
    | (have _t := hown2; refine step_append_own rfl (.tmp 30) (.tmp 35) 68 rfl (w.heap.size + 1) 5 i0 (.int .u8 0) 1 1 Try.underlying68 hi hz0 hz1 hz2 rfl (by decide) (.slice (some ⟨w.heap.size + 1, 0, none⟩) 1 1) _ _ (by simp [Act.eval]) hown2 ⟨g2, 0, none⟩ lv.length c2 (Lib.byteCells lv) (by simp [Act.eval]) (byteLen _) hc2 (byteOne _) (by omega) (by omega) (by omega) ?_; intro v3 w3 hown3 hgrow3; have hw3 := hgrow3.size; have hS := keepG hgrow3 (by omega) (fun k hk => (hown2.lt k hk).1) hS))
  all_goals
    have B4 := hS.2
    have HOWN : Hid (w4.ownsRow (w.heap.size + 1) 5 1 v4 (1 + lv.length + s.size) (([.int .u8 4] ++ Lib.byteCells lv) ++ Lib.strCells s)) := hown4
    clear hown4 hgrow4 hown3 hgrow3 hown2 hv2 hc2 hS
    go_wp2_with fail
    go_ret
    refine ⟨_, rfl, own_lit (own_base HOWN.out (by omega)) ?_ ?_, hbx.trans (B4.mono (by omega))⟩
    · simp only [List.length_cons, List.length_append, Array.length_toList]
      have : s.data.size = s.size := rfl
      omega
    · rw [Lib.strCells_eq, List.append_assoc, ← Lib.byteCells_append]
      rfl
end Go.Proofs.Ytkjijepepbgciab
