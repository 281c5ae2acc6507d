/- The walk of the statement HeapKnown. -/
import Derived.Test.YtfknheljheggkaaEGraph3
import Derived.Test.YtfknheljheggkaaELive
import Derived.Test.YtfknheljheggkaaEPlainC
namespace Go.Proofs.Ytfknheljheggkaa
open Go.RowKit

def knR : List Nat := [0, 0, 0, 4294967297, 0, 0, 0, 0, 0, 0, 0, 0, 0, 0, 0, 0]
def knS : HS := plainS 100 10 aw3 knR
def knZ : List Int := [-1, -1, -1, 0, -1, -1, -1, -1, -1, -1, -1, -1, -1, -1, -1, -1]
def knN : List (Nat × List Int × List Nat) := [(1, [1], [0]), (2, [], [0])]
theorem kn_l0 : (bfsK knS (mRoots knS) 0).M.length = 1 := by decide +kernel
theorem kn_l1 : (bfsK knS (mRoots knS) 1).M.length = 2 := by decide +kernel
theorem kn_l2 : (bfsK knS (mRoots knS) 2).M.length = 2 := by decide +kernel
theorem kn_M : (bfsK knS (mRoots knS) 2).M = [0, 3] := by decide +kernel
theorem kn_Z : knS.rt.map (numX knS (bfsK knS (mRoots knS) 2)) = knZ := by decide +kernel
theorem kn_N : (bfsK knS (mRoots knS) 2).M.map (nodeOf knS (bfsK knS (mRoots knS) 2)) = knN := by decide +kernel
theorem kn_W : sumW knS (bfsK knS (mRoots knS) 2).M = 5 := by decide +kernel
theorem kn_K {K : Nat} (h1 : K = (bfsK knS (mRoots knS) K).M.length) (h2 : ∀ j, j < K → j < (bfsK knS (mRoots knS) j).M.length) : K = 2 := by
  rcases Nat.lt_or_ge 2 K with h | h
  · have := h2 2 h
    rw [kn_l2] at this
    omega
  · rcases Nat.eq_zero_or_pos K with h0 | h0
    · rw [h0, kn_l0] at h1
      omega
    · rcases Nat.lt_or_ge 1 K with h3 | h3
      · omega
      · have e : K = 1 := by omega
        rw [e, kn_l1] at h1
        omega
section
variable {own : Nat → Prop} {w : World} {i : HId}
theorem kn_root (h : PH own w i 100 10 aw3 rt0 .nilIface) : Calls Try.prog 13 #[.pointer (some ⟨i.H, 0, none⟩), .int .i64 3, .int .u64 4294967297] w fun e w' => e = .returned (.int .i64 0) ∧ Mv own own w w' ∧ PH own w' i 100 10 aw3 knR .nilIface := ph_SetRoot h (k := 3) (y := 0) (by decide) (by decide)
theorem kn_graph (h : PH own w i 100 10 aw3 knR .nilIface) : Calls Try.prog 14 #[.pointer (some ⟨i.H, 0, none⟩)] w fun e w' => ∃ v, e = .returned v ∧ RowKit.Below w.heap.size w w' ∧ GraphV w' w.heap.size v knZ knN := by
  refine (Graph_any (s := knS) h (plain_snd h)).mono ?_
  rintro e w' ⟨v, rfl, hb, K, h1, h2, hg⟩
  obtain rfl := kn_K h1 h2
  rw [kn_Z, kn_N] at hg
  exact ⟨v, rfl, hb, hg⟩
theorem kn_live (h : PH own w i 100 10 aw3 knR .nilIface) : Calls Try.prog 15 #[.pointer (some ⟨i.H, 0, none⟩)] w fun e w' => e = .returned (.tuple #[.int .i64 2, .int .i64 5]) ∧ RowKit.Below w.heap.size w w' := by
  refine (Live_heap (s := knS) h (plain_snd h)).mono ?_
  rintro e w' ⟨K, rfl, hb, h1, h2⟩
  obtain rfl := kn_K h1 h2
  rw [kn_W]
  exact ⟨rfl, hb⟩
theorem kn_refarg (h : PH own w i 100 10 aw3 knR .nilIface) : Calls Try.prog 16 #[.pointer (some ⟨i.H, 0, none⟩), .int .u64 4294967298, .int .i64 0] w fun e w' => e = .returned (.tuple #[.int .u64 0, .int .i64 1]) ∧ RowKit.Below w.heap.size w w' := Ref_arg h (h.has (k := 1) (by decide)) 0 (by decide)
theorem kn_stale (h : PH own w i 100 10 aw3 knR .nilIface) : Calls Try.prog 12 #[.pointer (some ⟨i.H, 0, none⟩), .int .u64 4294967297, .int .i64 0, .int .u64 99] w fun e w' => e = .returned (.int .i64 6) ∧ RowKit.Below w.heap.size w w' := SetRef_stale h (h.has (k := 0) (by decide)) (k := 0) (by decide) 99 (by decide) (by decide)
theorem kn_make0 (w : World) (H : Nat) : Calls Try.prog 11 #[.pointer (some ⟨H, 0, none⟩), .int .i64 0, .int .i64 0, .int .i64 0] w fun e w' => e = .returned (.tuple #[.int .u64 0, .int .i64 1]) ∧ w' = w := Make_arg2 0 0 0 w H (by decide)
theorem kn_check (h : PH own w i 100 10 aw3 knR .nilIface) : Calls Try.prog 17 #[.pointer (some ⟨i.H, 0, none⟩)] w fun e w' => e = .returned (.int .i64 0) ∧ RowKit.Below w.heap.size w w' := by
  refine ph_Check h (fun k hk => ?_) (fun k hk j hj => ?_) (fun k => ?_)
  · match k, hk with
    | 0, _ => rfl
    | 1, _ => rfl
  · match k, hk, j, hj with
    | 0, _, 0, _ => exact Or.inr ⟨1, by decide, by decide⟩
    | 1, _, j, hj => exact absurd hj (Nat.not_lt_zero _)
  · match k with
    | 3 => exact Or.inr ⟨0, by decide, by decide⟩
    | 0 | 1 | 2 | 4 | 5 | 6 | 7 | 8 | 9 | 10 | 11 | 12 | 13 | 14 | 15 => exact Or.inl rfl
    | k + 16 => exact Or.inl (by simp [knR])
end
/-- The graph's cells. -/
structure KG (w : World) (gr gn a1 a2 b1 b2 : Nat) : Prop where
  r0 : w.cell? ⟨gr, 0, none⟩ = some (.int .i64 (-1))
  r3 : w.cell? ⟨gr, 3, none⟩ = some (.int .i64 0)
  n0 : w.cell? ⟨gn, 0, none⟩ = some (.int .i64 1)
  n1 : w.cell? ⟨gn, 1, none⟩ = some (.slice (some ⟨a1, 0, none⟩) 1 1)
  n2 : w.cell? ⟨gn, 2, none⟩ = some (.slice (some ⟨a2, 0, none⟩) 1 1)
  n3 : w.cell? ⟨gn, 3, none⟩ = some (.int .i64 2)
  n4 : w.cell? ⟨gn, 4, none⟩ = some (.slice (some ⟨b1, 0, none⟩) 0 0)
  n5 : w.cell? ⟨gn, 5, none⟩ = some (.slice (some ⟨b2, 0, none⟩) 1 1)
  x1 : w.cell? ⟨a1, 0, none⟩ = some (.int .i64 1)
theorem kg_of {w w' : World} {B : Nat} {v : Value} (h : GraphV w B v knZ knN) (hb : ∀ k, k < w.heap.size → w'.heap[k]? = w.heap[k]?) : ∃ gr cr gn cn a1 a2 b1 b2, v = .agg #[.slice (some ⟨gr, 0, none⟩) 16 cr, .slice (some ⟨gn, 0, none⟩) 2 cn] ∧ KG w' gr gn a1 a2 b1 b2 := by
  obtain ⟨u1, u2, cs, rfl, h1, h2, h3⟩ := h
  have hl := h3.len
  match cs, hl, h3 with
  | [c0, c1, c2, c3, c4, c5], _, h3 =>
    obtain ⟨⟨a1, a2, e0, e1, e2, _, _, m1, m2⟩, ⟨b1, b2, e3, e4, e5, _, _, m3, m4⟩, _⟩ := h3
    rcases h1.2 with ⟨_, h0⟩ | ⟨gr, cr, cur, rfl, _, hg, _, _, _, hx⟩
    · cases h0
    · rcases h2.2 with ⟨_, h0⟩ | ⟨gn, cn, cur2, rfl, _, hg2, _, _, _, hx2⟩
      · cases h0
      · have cr1 : ∀ (j : Nat) (y : Value), (zcells knZ)[j]? = some y → w'.cell? ⟨gr, j, none⟩ = some y := fun j y hj => by
          have hlt := (List.getElem?_eq_some_iff.1 hj).1
          rw [World.cell?_of_block (a := ⟨gr, j, none⟩) (hb gr (Array.getElem?_eq_some_iff.1 hg).1), cell_of_row w gr j _ _ _ hg, ← hj, ← hx, List.getElem?_take_of_lt (by simpa [zcells] using hlt)]
          simp
        have cn1 : ∀ (j : Nat) (y : Value), [c0, c1, c2, c3, c4, c5][j]? = some y → w'.cell? ⟨gn, j, none⟩ = some y := fun j y hj => by
          have hlt := (List.getElem?_eq_some_iff.1 hj).1
          rw [World.cell?_of_block (a := ⟨gn, j, none⟩) (hb gn (Array.getElem?_eq_some_iff.1 hg2).1), cell_of_row w gn j _ _ _ hg2, ← hj, ← hx2, List.getElem?_take_of_lt (by simpa [knN] using hlt)]
          simp
        refine ⟨gr, cr, gn, cn, a1, a2, b1, b2, rfl, cr1 0 _ rfl, cr1 3 _ rfl, ?_, ?_, ?_, ?_, ?_, ?_, ?_⟩
        · rw [cn1 0 c0 rfl, e0]; rfl
        · rw [cn1 1 c1 rfl, e1]; rfl
        · rw [cn1 2 c2 rfl, e2]; rfl
        · rw [cn1 3 c3 rfl, e3]; rfl
        · rw [cn1 4 c4 rfl, e4]; rfl
        · rw [cn1 5 c5 rfl, e5]; rfl
        · rw [World.cell?_of_block (a := ⟨a1, 0, none⟩) (hb a1 m1.lt)]
          exact m1.cell (by decide)
theorem cell_lt {w : World} {b o : Nat} {v : Value} (h : w.cell? ⟨b, o, none⟩ = some v) : b < w.heap.size := by
  rcases Nat.lt_or_ge b w.heap.size with hlt | hge
  · exact hlt
  · simp [World.cell?, Array.getElem?_eq_none hge] at h
theorem KG.below {w w' : World} {gr gn a1 a2 b1 b2 : Nat} (h : KG w gr gn a1 a2 b1 b2) (hb : RowKit.Below w.heap.size w w') : KG w' gr gn a1 a2 b1 b2 := by
  have kp : ∀ {b o : Nat} {v : Value}, w.cell? ⟨b, o, none⟩ = some v → w'.cell? ⟨b, o, none⟩ = some v := fun {b o v} hc => by
    rw [hb.cell (p := ⟨b, o, none⟩) (cell_lt hc)]; exact hc
  exact ⟨kp h.r0, kp h.r3, kp h.n0, kp h.n1, kp h.n2, kp h.n3, kp h.n4, kp h.n5, kp h.x1⟩
set_option maxHeartbeats 4000000 in
set_option maxRecDepth 1000000 in
theorem hknown_any (w : World) : Calls Try.prog 3 #[] w fun e w' => e = .returned (.bool true) ∧ RowKit.Below w.heap.size w w' := by
  go_enter Try.func3, Try.ntmps3
  go_wp2_with fail
  refine (awake9 _).mono ?_
  rintro e w0 ⟨rfl, b0⟩
  have B0 := mkHid b0
  clear b0
  go_wp2_with fail
  refine (fresh_100 _).mono ?_
  rintro e w1 ⟨i, own, rfl, b1, ho, h1⟩
  have B1 := mkHid (B0.out.trans (b1.mono B0.out.size))
  have HO : Hid (∀ k, own k → w.heap.size ≤ k) := fun k hk => Nat.le_trans B0.out.size (ho k hk)
  have H1 := mkHid h1
  clear b1 ho h1
  go_wp2_with fail
  refine (aw_make1 H1.out).mono ?_
  rintro e w2 ⟨rfl, own2, m2, h2⟩
  have M2 := mkHid m2
  have H2 := mkHid h2
  clear m2 h2
  go_wp2_with fail
  refine (aw_make2 H2.out).mono ?_
  rintro e w3 ⟨rfl, own3, m3, h3⟩
  have M3 := mkHid m3
  have H3 := mkHid h3
  clear m3 h3
  go_wp2_with fail
  refine (aw_ref H3.out).mono ?_
  rintro e w4 ⟨rfl, m4, h4⟩
  have M4 := mkHid m4
  have H4 := mkHid h4
  clear m4 h4
  go_wp2_with fail
  refine (kn_root H4.out).mono ?_
  rintro e w5 ⟨rfl, m5, h5⟩
  have B5 : Hid (RowKit.Below w.heap.size w w5) := B1.out.trans (((M2.out.trans M3.out).trans (M4.out.trans m5)).below HO.out B1.out.size).1
  have H5 := mkHid h5
  clear m5 h5 M2 M3 M4
  go_wp2_with fail
  refine (kn_graph H5.out).mono ?_
  rintro e w6 ⟨v, rfl, b6, hg⟩
  obtain ⟨gr, cr, gn, cn, a1, a2, b1, b2, rfl, hkg⟩ := kg_of hg (fun _ _ => rfl)
  have B6 := mkHid (B5.out.trans (b6.mono B5.out.size))
  have bx : RowKit.Below w6.heap.size w6 (w6.alloc (.cells #[.slice (some ⟨gr, 0, none⟩) 16 cr, .slice (some ⟨gn, 0, none⟩) 2 cn] 34)) := (RowKit.Below.refl _ w6).alloc (Nat.le_refl _) _
  have H6 := mkHid ((H5.out.below b6).below bx)
  have K6 := mkHid (hkg.below bx)
  have B7 := mkHid (B6.out.trans (bx.mono B6.out.size))
  have X6 : Hid ((w6.alloc (.cells #[.slice (some ⟨gr, 0, none⟩) 16 cr, .slice (some ⟨gn, 0, none⟩) 2 cn] 34)).cell? ⟨w6.heap.size, 0, none⟩ = some (.slice (some ⟨gr, 0, none⟩) 16 cr) ∧ (w6.alloc (.cells #[.slice (some ⟨gr, 0, none⟩) 16 cr, .slice (some ⟨gn, 0, none⟩) 2 cn] 34)).cell? ⟨w6.heap.size, 1, none⟩ = some (.slice (some ⟨gn, 0, none⟩) 2 cn)) := ⟨cell_of_row _ _ 0 _ _ _ (heap_alloc_new w6 _), cell_of_row _ _ 1 _ _ _ (heap_alloc_new w6 _)⟩
  clear b6 hg hkg bx
  go_wp2_with fail
  refine (kn_live H6.out).mono ?_
  rintro e w7 ⟨rfl, b7⟩
  have H7 := mkHid (H6.out.below b7)
  have B8 := mkHid b7
  clear b7
  go_wp2_with fail
  refine (kn_refarg H7.out).mono ?_
  rintro e w8 ⟨rfl, b8⟩
  have H8 := mkHid (H7.out.below b8)
  have B9 := mkHid (B8.out.trans (b8.mono B8.out.size))
  clear b8
  go_wp2_with fail
  refine (kn_stale H8.out).mono ?_
  rintro e w9 ⟨rfl, b9⟩
  have H9 := mkHid (H8.out.below b9)
  have B10 := mkHid (B9.out.trans (b9.mono B9.out.size))
  clear b9
  go_wp2_with fail
  refine (kn_make0 _ _).mono ?_
  rintro e w10 ⟨rfl, rfl⟩
  have hk := K6.out.below B10.out
  have t0 : w10.cell? ⟨w6.heap.size, 0, none⟩ = some (.slice (some ⟨gr, 0, none⟩) 16 cr) := by
    rw [B10.out.cell (p := ⟨w6.heap.size, 0, none⟩) (cell_lt X6.out.1)]; exact X6.out.1
  have t1 : w10.cell? ⟨w6.heap.size, 1, none⟩ = some (.slice (some ⟨gn, 0, none⟩) 2 cn) := by
    rw [B10.out.cell (p := ⟨w6.heap.size, 1, none⟩) (cell_lt X6.out.2)]; exact X6.out.2
  obtain ⟨r0, r3, n0, n1, n2, n3, n4, n5, x1⟩ := hk
  go_wp2_with fail
  refine (kn_check H9.out).mono ?_
  rintro e w11 ⟨rfl, b11⟩
  go_wp2_with fail
  go_ret
  have hb := B7.out.trans (B10.out.mono B7.out.size)
  exact ⟨rfl, hb.trans (b11.mono hb.size)⟩
end Go.Proofs.Ytfknheljheggkaa
