/- What is set at a path: the plain functions; contract of path.Set, of any values and any path. -/
import Derived.Test.YtjngbogbbglbnaaPaTold2
import Derived.Test.YtjngbogbbglbnaaPaNodes
namespace Go.Proofs.Ytjngbogbbglbnaa
open Go.RowKit

def setR (g : GV) (p : ByteArray) (gx : GV) : Except Int GV := match begR g p 1 (fun _ => gx) with
  | .error e => .error e
  | .ok l => toldR (GV.put l g 1 fun _ => gx)
def getR (g : GV) (p : ByteArray) : Option GV := match begR g p 0 (fun _ => .nil) with
  | .error _ => none
  | .ok l => g.lead l
def unsetR (g : GV) (p : ByteArray) : Except Int GV := match begR g p 0 (fun _ => .nil) with
  | .error e => .error e
  | .ok l => match g.lead l with
    | none => .ok g
    | some _ => toldR (GV.put l g 0 fun _ => .nil)
/-- A List with one value more. -/
def GV.more : GV → GV → GV
  | .nil, _ => .nil
  | .mk k n s ln l fn nm f, x => .mk k n s (ln - 0 + 1) (Go.Proofs.Ytjngbogbbglbnaa.spl l ln 0 1 fun _ => x) fn nm f
def pushR (g : GV) (p : ByteArray) (gx : GV) : Except Int GV := match begR g p 1 (fun _ => gx) with
  | .error e => .error e
  | .ok l => match ledR g l 5 with
    | .error e => .error e
    | .ok y => toldR (GV.put l g 1 fun _ => y.more gx)
def GV.num : GV → Int
  | .nil => 0
  | .mk _ n _ _ _ _ _ _ => n
def GV.withN : GV → Int → GV
  | .nil, _ => .nil
  | .mk k _ s ln l fn nm f, n => .mk k n s ln l fn nm f
def addO (g : GV) (l : List ByteArray) (y : GV) (a n m : Int) : Except Int GV :=
  if (0 < n ∧ m < a) ∨ (n < 0 ∧ a < m) then .error 12 else toldR (GV.put l g 1 fun _ => y.withN m)
def addR (g : GV) (p : ByteArray) (n : Int) : Except Int GV := match begR g p 0 (fun _ => .nil) with
  | .error e => .error e
  | .ok l => match ledR g l 3 with
    | .error e => .error e
    | .ok y => addO g l y y.num n (IntKind.i64.wrap (y.num + n))

theorem err_every {g : GV} (h : g.err = 0) : g.every GV.formed = true := by
  cases hf : g.every GV.formed with
  | true => rfl
  | false => have := (err_1 hf).1; omega
theorem beg_ok {g : GV} {p : ByteArray} {c : Nat} {x : Nat → GV} {l : List ByteArray} (h : begR g p c x = .ok l) : g.err = 0 ∧ stepsR p.data.toList = some l ∧ (c = 1 → (x 0).err = 0) := by
  unfold begR at h
  by_cases h1 : g.err ≠ 0
  · rw [if_pos h1] at h; cases h
  · rw [if_neg h1] at h
    cases hs : stepsR p.data.toList with
    | none => rw [hs] at h; cases h
    | some l' =>
      rw [hs] at h
      simp only at h
      by_cases h2 : c = 1 ∧ (x 0).err ≠ 0
      · rw [if_pos h2] at h; cases h
      · rw [if_neg h2] at h
        injection h with h
        exact ⟨by omega, by rw [h], fun h3 => by omega⟩
theorem lies_all {w : World} {g : GV} {v : Value} (h : Lies w g v) : Lies (veil w.heap.size w.heap.size w) g v :=
  Lies.mono (fun _ _ _ hc => veil_cell.2 ⟨fun h1 => by omega, hc⟩) h
theorem vals_all {w : World} {a : Option Addr} {n : Nat} {l : Nat → GV} (h : Vals w a n l) : Vals (veil w.heap.size w.heap.size w) a n l :=
  Vals.mono h (fun _ _ _ hc => veil_cell.2 ⟨fun h1 => by omega, hc⟩)
theorem vals_no (w : World) (a : Option Addr) (l : Nat → GV) : Vals w a 0 l := fun _ hi => absurd hi (Nat.not_lt_zero _)

set_option maxHeartbeats 1500000 in
set_option maxRecDepth 1000000 in
theorem set_any (g gx : GV) (p : ByteArray) (v vx : Value) (w : World) (hL : Lies w g v) (hX : Lies w gx vx) (hN : g.nodes ≤ 6000) (hNx : gx.nodes ≤ 6000) (hp : p.size ≤ 140737488355328) :
    Calls Try.prog 13 #[v, .string p, vx] w fun e w' => OutSay w.heap.size w' (setR g p gx) e ∧ Below w.heap.size w w' := by
  obtain ⟨R, hR⟩ : ∃ R, R = setR g p gx := ⟨_, rfl⟩
  rw [← hR]
  unfold setR at hR
  obtain ⟨k, n, s, la, ln, lc, fa, fn, fc, rfl⟩ := hL.agg
  obtain ⟨kx, nx, sx, lax, lnx, lcx, fax, fnx, fcx, rfl⟩ := hX.agg
  have hbx : Below w.heap.size w (((w.alloc (.cells #[.int .i64 k, .int .i64 n, .string s, .slice la ln lc, .slice fa fn fc] 25)).alloc (.cells #[.int .i64 kx, .int .i64 nx, .string sx, .slice lax lnx lcx, .slice fax fnx fcx] 25)).alloc (.cells #[.int .i64 0, .int .i64 0, .string ⟨#[]⟩, .slice none 0 0, .slice none 0 0] 25)) := (((Below.refl w.heap.size w).alloc (Nat.le_refl _) _).alloc (by simp) _).alloc (by simp; omega) _
  have hbs : (((w.alloc (.cells #[.int .i64 k, .int .i64 n, .string s, .slice la ln lc, .slice fa fn fc] 25)).alloc (.cells #[.int .i64 kx, .int .i64 nx, .string sx, .slice lax lnx lcx, .slice fax fnx fcx] 25)).alloc (.cells #[.int .i64 0, .int .i64 0, .string ⟨#[]⟩, .slice none 0 0, .slice none 0 0] 25)).heap.size = w.heap.size + 3 := by simp
  have hBB := box3_cells (Below.refl _ (((w.alloc (.cells #[.int .i64 k, .int .i64 n, .string s, .slice la ln lc, .slice fa fn fc] 25)).alloc (.cells #[.int .i64 kx, .int .i64 nx, .string sx, .slice lax lnx lcx, .slice fax fnx fcx] 25)).alloc (.cells #[.int .i64 0, .int .i64 0, .string ⟨#[]⟩, .slice none 0 0, .slice none 0 0] 25)))
  have HP : Hid (Blk5 (((w.alloc (.cells #[.int .i64 k, .int .i64 n, .string s, .slice la ln lc, .slice fa fn fc] 25)).alloc (.cells #[.int .i64 kx, .int .i64 nx, .string sx, .slice lax lnx lcx, .slice fax fnx fcx] 25)).alloc (.cells #[.int .i64 0, .int .i64 0, .string ⟨#[]⟩, .slice none 0 0, .slice none 0 0] 25)) w.heap.size (.int .i64 k) (.int .i64 n) (.string s) (.slice la ln lc) (.slice fa fn fc)) := hBB.1
  have HQ : Hid (Blk5 (((w.alloc (.cells #[.int .i64 k, .int .i64 n, .string s, .slice la ln lc, .slice fa fn fc] 25)).alloc (.cells #[.int .i64 kx, .int .i64 nx, .string sx, .slice lax lnx lcx, .slice fax fnx fcx] 25)).alloc (.cells #[.int .i64 0, .int .i64 0, .string ⟨#[]⟩, .slice none 0 0, .slice none 0 0] 25)) (w.heap.size + 2) (.int .i64 0) (.int .i64 0) (.string ⟨#[]⟩) (.slice none 0 0) (.slice none 0 0)) := hBB.2.2
  have HXB : Hid (Blk5 (((w.alloc (.cells #[.int .i64 k, .int .i64 n, .string s, .slice la ln lc, .slice fa fn fc] 25)).alloc (.cells #[.int .i64 kx, .int .i64 nx, .string sx, .slice lax lnx lcx, .slice fax fnx fcx] 25)).alloc (.cells #[.int .i64 0, .int .i64 0, .string ⟨#[]⟩, .slice none 0 0, .slice none 0 0] 25)) (w.heap.size + 1) (.int .i64 kx) (.int .i64 nx) (.string sx) (.slice lax lnx lcx) (.slice fax fnx fcx)) := hBB.2.1
  clear hBB
  have hU1 : Below (((w.alloc (.cells #[.int .i64 k, .int .i64 n, .string s, .slice la ln lc, .slice fa fn fc] 25)).alloc (.cells #[.int .i64 kx, .int .i64 nx, .string sx, .slice lax lnx lcx, .slice fax fnx fcx] 25)).alloc (.cells #[.int .i64 0, .int .i64 0, .string ⟨#[]⟩, .slice none 0 0, .slice none 0 0] 25)).heap.size (((w.alloc (.cells #[.int .i64 k, .int .i64 n, .string s, .slice la ln lc, .slice fa fn fc] 25)).alloc (.cells #[.int .i64 kx, .int .i64 nx, .string sx, .slice lax lnx lcx, .slice fax fnx fcx] 25)).alloc (.cells #[.int .i64 0, .int .i64 0, .string ⟨#[]⟩, .slice none 0 0, .slice none 0 0] 25)) ((((w.alloc (.cells #[.int .i64 k, .int .i64 n, .string s, .slice la ln lc, .slice fa fn fc] 25)).alloc (.cells #[.int .i64 kx, .int .i64 nx, .string sx, .slice lax lnx lcx, .slice fax fnx fcx] 25)).alloc (.cells #[.int .i64 0, .int .i64 0, .string ⟨#[]⟩, .slice none 0 0, .slice none 0 0] 25)).alloc (.cells #[.int .i64 kx, .int .i64 nx, .string sx, .slice lax lnx lcx, .slice fax fnx fcx] 25)) := (Below.refl _ _).alloc (Nat.le_refl _) _
  have HBG : Hid (Calls Try.prog 34 #[.agg #[.int .i64 k, .int .i64 n, .string s, .slice la ln lc, .slice fa fn fc], .string p, .slice (some ⟨w.heap.size + 3, 0, none⟩) 1 1] ((((w.alloc (.cells #[.int .i64 k, .int .i64 n, .string s, .slice la ln lc, .slice fa fn fc] 25)).alloc (.cells #[.int .i64 kx, .int .i64 nx, .string sx, .slice lax lnx lcx, .slice fax fnx fcx] 25)).alloc (.cells #[.int .i64 0, .int .i64 0, .string ⟨#[]⟩, .slice none 0 0, .slice none 0 0] 25)).alloc (.cells #[.int .i64 kx, .int .i64 nx, .string sx, .slice lax lnx lcx, .slice fax fnx fcx] 25)) fun e w' => BegSay w' (begR g p 1 fun _ => gx) e ∧ Below ((((w.alloc (.cells #[.int .i64 k, .int .i64 n, .string s, .slice la ln lc, .slice fa fn fc] 25)).alloc (.cells #[.int .i64 kx, .int .i64 nx, .string sx, .slice lax lnx lcx, .slice fax fnx fcx] 25)).alloc (.cells #[.int .i64 0, .int .i64 0, .string ⟨#[]⟩, .slice none 0 0, .slice none 0 0] 25)).alloc (.cells #[.int .i64 kx, .int .i64 nx, .string sx, .slice lax lnx lcx, .slice fax fnx fcx] 25)).heap.size ((((w.alloc (.cells #[.int .i64 k, .int .i64 n, .string s, .slice la ln lc, .slice fa fn fc] 25)).alloc (.cells #[.int .i64 kx, .int .i64 nx, .string sx, .slice lax lnx lcx, .slice fax fnx fcx] 25)).alloc (.cells #[.int .i64 0, .int .i64 0, .string ⟨#[]⟩, .slice none 0 0, .slice none 0 0] 25)).alloc (.cells #[.int .i64 kx, .int .i64 nx, .string sx, .slice lax lnx lcx, .slice fax fnx fcx] 25)) w') := hidI (by
    have hv := vals1 (w := (((w.alloc (.cells #[.int .i64 k, .int .i64 n, .string s, .slice la ln lc, .slice fa fn fc] 25)).alloc (.cells #[.int .i64 kx, .int .i64 nx, .string sx, .slice lax lnx lcx, .slice fax fnx fcx] 25)).alloc (.cells #[.int .i64 0, .int .i64 0, .string ⟨#[]⟩, .slice none 0 0, .slice none 0 0] 25))) (t := 25) (cs := #[.int .i64 kx, .int .i64 nx, .string sx, .slice lax lnx lcx, .slice fax fnx fcx]) (hX.below hbx) rfl
    rw [hbs] at hv
    exact begin_any g _ p (some ⟨w.heap.size + 3, 0, none⟩) 1 1 (fun _ => gx) ((((w.alloc (.cells #[.int .i64 k, .int .i64 n, .string s, .slice la ln lc, .slice fa fn fc] 25)).alloc (.cells #[.int .i64 kx, .int .i64 nx, .string sx, .slice lax lnx lcx, .slice fax fnx fcx] 25)).alloc (.cells #[.int .i64 0, .int .i64 0, .string ⟨#[]⟩, .slice none 0 0, .slice none 0 0] 25)).alloc (.cells #[.int .i64 kx, .int .i64 nx, .string sx, .slice lax lnx lcx, .slice fax fnx fcx] 25)) (hL.below (hbx.trans (hU1.mono hbx.size))) (by omega) hp hv (by omega) (by omega) (by unfold maxLen; omega) (fun _ => by omega))
  have hbx1 : Below w.heap.size w ((((w.alloc (.cells #[.int .i64 k, .int .i64 n, .string s, .slice la ln lc, .slice fa fn fc] 25)).alloc (.cells #[.int .i64 kx, .int .i64 nx, .string sx, .slice lax lnx lcx, .slice fax fnx fcx] 25)).alloc (.cells #[.int .i64 0, .int .i64 0, .string ⟨#[]⟩, .slice none 0 0, .slice none 0 0] 25)).alloc (.cells #[.int .i64 kx, .int .i64 nx, .string sx, .slice lax lnx lcx, .slice fax fnx fcx] 25)) := hbx.trans (hU1.mono hbx.size)
  have HL : Hid (Lies w g _) := hL
  have HX : Hid (Lies w gx _) := hX
  clear hL hX
  cases hbe : begR g p 1 (fun _ => gx) with
  | error er =>
    rw [hbe] at hR
    have HR : Hid (R = .error er) := hR
    go_enter Try.func13, Try.ntmps13
    go_wp2_with fail
    refine HBG.out.mono ?_
    rintro e w1 ⟨h1, b1⟩
    obtain ⟨rfl, hne⟩ : e = .returned (.tuple #[.slice none 0 0, .int .i64 er]) ∧ er ≠ 0 := by
      rcases h1 with ⟨er', h, h2, h3⟩ | ⟨_, _, _, h, _⟩
      · rw [hbe] at h; cases h; exact ⟨h3, h2⟩
      · rw [hbe] at h; cases h
    have heb : (er != 0) = true := by rw [bne_iff_ne]; exact hne
    have HNE : Hid (er ≠ 0) := hne
    have hb3 := hU1.trans (b1.mono hU1.size)
    obtain ⟨z0, z1, z2, z3, z4⟩ := Blk5.cells (Blk5.below HQ.out hb3)
    obtain ⟨q0, q1, q2, q3, q4⟩ := Blk5.free (Blk5.below HQ.out hb3)
    have HB : Hid (Below w.heap.size w w1) := hidI (hbx.trans (hb3.mono hbx.size))
    have hrb : w.heap.size ≤ w.heap.size + 2 := by omega
    clear h1 hR hbe hne b1 hb3 hU1 hbx1 hbx
    go_wp2_with fail
    refine bodyPost_ret (v := .tuple #[vZ, .int .i64 er]) ?_ rfl ⟨Or.inl ⟨er, HR.out, HNE.out, rfl⟩, ?_⟩
    · have hres : Try.f13.results = #[.cell 6 25, .tmp 7] := by kernel_rfl
      simp only [results, hres]
      go_simp
      rfl
    · exact ((((HB.out.setCell hrb _).setCell hrb _).setCell hrb _).setCell hrb _).setCell hrb _
  | ok l =>
    rw [hbe] at hR
    simp only at hR
    go_enter Try.func13, Try.ntmps13
    go_wp2_with fail
    refine HBG.out.mono ?_
    rintro e w1 ⟨h1, b1⟩
    obtain ⟨sa, sc, rfl, hsc1, hsc2, hstr⟩ : ∃ sa sc, e = .returned (.tuple #[.slice sa l.length sc, .int .i64 0]) ∧ l.length ≤ sc ∧ sc ≤ maxLen ∧ Strs w1 sa l := by
      rcases h1 with ⟨er', h, _⟩ | ⟨l', sa, sc, h, h2⟩
      · rw [hbe] at h; cases h
      · rw [hbe] at h; cases h; exact ⟨sa, sc, h2⟩
    have HSTR : Hid (Strs w1 sa l) := hstr
    have HSC : Hid (l.length ≤ sc ∧ sc ≤ maxLen) := hidI ⟨hsc1, hsc2⟩
    obtain ⟨hge, hso, hxe⟩ := beg_ok hbe
    have hsa := steps_all hso
    have HST : Hid (∀ s ∈ l, isStepB s.data.toList = true) := hsa.1
    have HLN : Hid (1 ≤ l.length ∧ l.length ≤ 8) := hidI ⟨hsa.2.2.1, hsa.2.1⟩
    have hlne : l ≠ [] := fun h => by have := HLN.out.1; rw [h] at this; simp at this
    have HLNE : Hid (l ≠ []) := hlne
    have HFIT : Hid g.fit := hidI ⟨err_every hge, by omega⟩
    have hb1 := hU1.trans (b1.mono hU1.size)
    have hbw1 : Below w.heap.size w w1 := hbx.trans (hb1.mono hbx.size)
    have hu2 : Below w1.heap.size w1 (w1.alloc (.cells #[.int .i64 kx, .int .i64 nx, .string sx, .slice lax lnx lcx, .slice fax fnx fcx] 25)) := (Below.refl _ _).alloc (Nat.le_refl _) _
    have hwu2 : Below w.heap.size w (w1.alloc (.cells #[.int .i64 kx, .int .i64 nx, .string sx, .slice lax lnx lcx, .slice fax fnx fcx] 25)) := hbw1.trans (hu2.mono hbw1.size)
    have HPT : Hid (Calls Try.prog 39 #[.agg #[.int .i64 k, .int .i64 n, .string s, .slice la ln lc, .slice fa fn fc], .slice sa l.length sc, .slice (some ⟨w1.heap.size, 0, none⟩) 1 1] (w1.alloc (.cells #[.int .i64 kx, .int .i64 nx, .string sx, .slice lax lnx lcx, .slice fax fnx fcx] 25)) fun e w' => PutEnd (w1.alloc (.cells #[.int .i64 kx, .int .i64 nx, .string sx, .slice lax lnx lcx, .slice fax fnx fcx] 25)).heap.size (w1.alloc (.cells #[.int .i64 kx, .int .i64 nx, .string sx, .slice lax lnx lcx, .slice fax fnx fcx] 25)).heap.size w' (GV.put l g 1 fun _ => gx) e ∧ Below (w1.alloc (.cells #[.int .i64 kx, .int .i64 nx, .string sx, .slice lax lnx lcx, .slice fax fnx fcx] 25)).heap.size (w1.alloc (.cells #[.int .i64 kx, .int .i64 nx, .string sx, .slice lax lnx lcx, .slice fax fnx fcx] 25)) w') := hidI (put_any l hlne g _ (w1.alloc (.cells #[.int .i64 kx, .int .i64 nx, .string sx, .slice lax lnx lcx, .slice fax fnx fcx] 25)) (w1.alloc (.cells #[.int .i64 kx, .int .i64 nx, .string sx, .slice lax lnx lcx, .slice fax fnx fcx] 25)).heap.size sa sc (some ⟨w1.heap.size, 0, none⟩) 1 1 (fun _ => gx) (Nat.le_refl _) (lies_all (HL.out.below hwu2)) HFIT.out (HSTR.out.below hu2) HST.out hsc1 hsc2 (vals_all (vals1 (HX.out.below hbw1) rfl)) (Nat.le_refl _) (Nat.le_refl _) (by unfold maxLen; omega))
    obtain ⟨c0, c1, c2, c3, c4⟩ := Blk5.cells (Blk5.below HP.out hb1)
    obtain ⟨x0, x1, x2, x3, x4⟩ := Blk5.cells (Blk5.below HXB.out hb1)
    have hbu2 : Below (((w.alloc (.cells #[.int .i64 k, .int .i64 n, .string s, .slice la ln lc, .slice fa fn fc] 25)).alloc (.cells #[.int .i64 kx, .int .i64 nx, .string sx, .slice lax lnx lcx, .slice fax fnx fcx] 25)).alloc (.cells #[.int .i64 0, .int .i64 0, .string ⟨#[]⟩, .slice none 0 0, .slice none 0 0] 25)).heap.size (((w.alloc (.cells #[.int .i64 k, .int .i64 n, .string s, .slice la ln lc, .slice fa fn fc] 25)).alloc (.cells #[.int .i64 kx, .int .i64 nx, .string sx, .slice lax lnx lcx, .slice fax fnx fcx] 25)).alloc (.cells #[.int .i64 0, .int .i64 0, .string ⟨#[]⟩, .slice none 0 0, .slice none 0 0] 25)) (w1.alloc (.cells #[.int .i64 kx, .int .i64 nx, .string sx, .slice lax lnx lcx, .slice fax fnx fcx] 25)) := hb1.trans (hu2.mono hb1.size)
    have HBU2 : Hid (Below (((w.alloc (.cells #[.int .i64 k, .int .i64 n, .string s, .slice la ln lc, .slice fa fn fc] 25)).alloc (.cells #[.int .i64 kx, .int .i64 nx, .string sx, .slice lax lnx lcx, .slice fax fnx fcx] 25)).alloc (.cells #[.int .i64 0, .int .i64 0, .string ⟨#[]⟩, .slice none 0 0, .slice none 0 0] 25)).heap.size (((w.alloc (.cells #[.int .i64 k, .int .i64 n, .string s, .slice la ln lc, .slice fa fn fc] 25)).alloc (.cells #[.int .i64 kx, .int .i64 nx, .string sx, .slice lax lnx lcx, .slice fax fnx fcx] 25)).alloc (.cells #[.int .i64 0, .int .i64 0, .string ⟨#[]⟩, .slice none 0 0, .slice none 0 0] 25)) (w1.alloc (.cells #[.int .i64 kx, .int .i64 nx, .string sx, .slice lax lnx lcx, .slice fax fnx fcx] 25))) := hbu2
    clear h1 hbe hge hso hxe hsa hlne hstr hsc1 hsc2 b1 hb1 hbw1 hu2 hwu2 hU1 hbx1 hbu2
    go_wp2_with fail
    refine HPT.out.mono ?_
    rintro e w2 ⟨hE2, b2⟩
    have hb2 := HBU2.out.trans (b2.mono HBU2.out.size)
    clear b2 c0 c1 c2 c3 c4 x0 x1 x2 x3 x4
    cases hput : GV.put l g 1 (fun _ => gx) with
    | error er =>
      rw [hput] at hR
      obtain ⟨rfl, hne⟩ : e = .returned (.tuple #[vZ, .int .i64 er]) ∧ er ≠ 0 := by
        rcases hE2 with ⟨er', h, h2, h3⟩ | ⟨_, _, h, _⟩
        · rw [hput] at h; cases h; exact ⟨h3, by omega⟩
        · rw [hput] at h; cases h
      have HR : Hid (R = .error er) := hR
      have HNE : Hid (er ≠ 0) := hne
      have hT := told_bad er w2 hne
      have HT : Hid (Calls Try.prog 38 #[.agg #[.int .i64 0, .int .i64 0, .string ⟨#[]⟩, .slice none 0 0, .slice none 0 0], .int .i64 er] w2 fun e w' => e = .returned (.tuple #[.agg #[.int .i64 0, .int .i64 0, .string ⟨#[]⟩, .slice none 0 0, .slice none 0 0], .int .i64 er]) ∧ Below w2.heap.size w2 w') := hT
      clear hR hE2 hne hT
      unfold vZ
      go_wp2_with fail
      refine HT.out.mono ?_
      rintro e w3 ⟨rfl, b3⟩
      have hb3 := hb2.trans (b3.mono hb2.size)
      obtain ⟨z0, z1, z2, z3, z4⟩ := Blk5.cells (Blk5.below HQ.out hb3)
      obtain ⟨q0, q1, q2, q3, q4⟩ := Blk5.free (Blk5.below HQ.out hb3)
      have HB : Hid (Below w.heap.size w w3) := hidI (hbx.trans (hb3.mono hbx.size))
      have hrb : w.heap.size ≤ w.heap.size + 2 := by omega
      clear b3 hb3 hb2
      go_wp2_with fail
      refine bodyPost_ret (v := .tuple #[vZ, .int .i64 er]) ?_ rfl ⟨Or.inl ⟨er, HR.out, HNE.out, rfl⟩, ?_⟩
      · have hres : Try.f13.results = #[.cell 6 25, .tmp 7] := by kernel_rfl
        simp only [results, hres]
        go_simp
        rfl
      · exact ((((HB.out.setCell hrb _).setCell hrb _).setCell hrb _).setCell hrb _).setCell hrb _
    | ok y =>
      rw [hput] at hR
      obtain ⟨v2, rfl, hL2⟩ : ∃ v2, e = .returned (.tuple #[v2, .int .i64 0]) ∧ Lies w2 y v2 := by
        rcases hE2 with ⟨er', h, _⟩ | ⟨y', v', h, h2, h3⟩
        · rw [hput] at h; cases h
        · rw [hput] at h; cases h; exact ⟨v', h2, lies_veil h3⟩
      obtain ⟨k2, n2, s2, la2, ln2, lc2, fa2, fn2, fc2, rfl⟩ := hL2.agg
      have hyn := put_nodes _ _ _ _ _ hput
      rw [sumG_1] at hyn
      have hLN := HLN.out
      have HT : Hid (Calls Try.prog 38 #[.agg #[.int .i64 k2, .int .i64 n2, .string s2, .slice la2 ln2 lc2, .slice fa2 fn2 fc2], .int .i64 0] w2 fun e w' => OutSay w2.heap.size w' (toldR (.ok y)) e ∧ Below w2.heap.size w2 w') := hidI (told_ok y _ w2 hL2 (by omega))
      clear hE2 hyn hL2 hput
      have hw2s := hb2.size
      rw [hbs] at hw2s
      go_wp2_with fail
      refine HT.out.mono ?_
      rintro e w3 ⟨h3, b3⟩
      have hb3 := hb2.trans (b3.mono hb2.size)
      obtain ⟨z0, z1, z2, z3, z4⟩ := Blk5.cells (Blk5.below HQ.out hb3)
      obtain ⟨q0, q1, q2, q3, q4⟩ := Blk5.free (Blk5.below HQ.out hb3)
      have HB : Hid (Below w.heap.size w w3) := hidI (hbx.trans (hb3.mono hbx.size))
      have hrb : w.heap.size ≤ w.heap.size + 2 := by omega
      rcases h3 with ⟨er, h4, hne, rfl⟩ | ⟨y', v3, h4, rfl, hF3, he3⟩
      · have HR : Hid (R = .error er) := hidI (by rw [hR]; exact h4)
        have HNE : Hid (er ≠ 0) := hne
        clear b3 hb3 hb2 h4 hne hR
        unfold vZ
        go_wp2_with fail
        refine bodyPost_ret (v := .tuple #[vZ, .int .i64 er]) ?_ rfl ⟨Or.inl ⟨er, HR.out, HNE.out, rfl⟩, ?_⟩
        · have hres : Try.f13.results = #[.cell 6 25, .tmp 7] := by kernel_rfl
          simp only [results, hres]
          go_simp
          rfl
        · exact ((((HB.out.setCell hrb _).setCell hrb _).setCell hrb _).setCell hrb _).setCell hrb _
      · have HR : Hid (R = .ok y') := hidI (by rw [hR]; exact h4)
        obtain ⟨k3, n3, s3, la3, ln3, lc3, fa3, fn3, fc3, rfl⟩ := hF3.lies.agg
        have HF3 : Hid (From w2.heap.size w3 y' _) := hF3
        have HE3 : Hid (y'.err = 0) := he3
        clear b3 hb3 hb2 h4 hR hF3 he3
        go_wp2_with fail
        refine bodyPost_ret (v := .tuple #[.agg #[.int .i64 k3, .int .i64 n3, .string s3, .slice la3 ln3 lc3, .slice fa3 fn3 fc3], .int .i64 0]) ?_ rfl ⟨Or.inr ⟨y', _, HR.out, rfl, ?_, HE3.out⟩, ?_⟩
        · have hres : Try.f13.results = #[.cell 6 25, .tmp 7] := by kernel_rfl
          simp only [results, hres]
          go_simp
        · exact From.le (((((From.setCell HF3.out (by omega) _).setCell (by omega) _).setCell (by omega) _).setCell (by omega) _).setCell (by omega) _) (by omega)
        · exact ((((HB.out.setCell hrb _).setCell hrb _).setCell hrb _).setCell hrb _).setCell hrb _
end Go.Proofs.Ytjngbogbbglbnaa
