/- Some texts in one: each opens with its own remark. -/
import Derived.Test.YtjngbogbbglbnaaK11
import Derived.Test.YtjngbogbbglbnaaZPaNodes
/- What is set at a path: the plain functions; contract of path.Set, of any values and any path. -/
namespace Go.Proofs.Ytjngbogbbglbnaa
open Go.RowKit

def setR (g : GV) (p : ByteArray) (gx : GV) : Except Int GV := match begR g p 1 (fun _ => gx) with
 | .error e => .error e
 | .ok l => toldR (GV.put l g 1 fun _ => gx)
def getR (g : GV) (p : ByteArray) : Option GV := match begR g p 0 (fun _ => .nil) with
 | .error _ => none
 | .ok l => g.lead l
def unsetR (g : GV) (p : ByteArray) : Except Int GV := match begR g p 0 (fun _ => .nil) with
 | .error e => .error e
 | .ok l => match g.lead l with
  | none => .ok g
  | some _ => toldR (GV.put l g 0 fun _ => .nil)
/-- A List with one value more. -/
def GV.more : GV → GV → GV
 | .nil, _ => .nil
 | .mk k n s ln l fn nm f, x => .mk k n s (ln - 0 + 1) (Go.Proofs.Ytjngbogbbglbnaa.spl l ln 0 1 fun _ => x) fn nm f
def pushR (g : GV) (p : ByteArray) (gx : GV) : Except Int GV := match begR g p 1 (fun _ => gx) with
 | .error e => .error e
 | .ok l => match ledR g l 5 with
  | .error e => .error e
  | .ok y => toldR (GV.put l g 1 fun _ => y.more gx)
def GV.num : GV → Int
 | .nil => 0
 | .mk _ n _ _ _ _ _ _ => n
def GV.withN : GV → Int → GV
 | .nil, _ => .nil
 | .mk k _ s ln l fn nm f, n => .mk k n s ln l fn nm f
def addO (g : GV) (l : List ByteArray) (y : GV) (a n m : Int) : Except Int GV :=
 if (0 < n ∧ m < a) ∨ (n < 0 ∧ a < m) then .error 12 else toldR (GV.put l g 1 fun _ => y.withN m)
def addR (g : GV) (p : ByteArray) (n : Int) : Except Int GV := match begR g p 0 (fun _ => .nil) with
 | .error e => .error e
 | .ok l => match ledR g l 3 with
  | .error e => .error e
  | .ok y => addO g l y y.num n (IntKind.i64.wrap (y.num + n))

theorem err_every {g : GV} (h : g.err = 0) : g.every GV.formed = true := by
 cases hf : g.every GV.formed with
 | true => rfl
 | false => have := (err_1 hf).1; omega
theorem beg_ok {g : GV} {p : ByteArray} {c : Nat} {x : Nat → GV} {l : List ByteArray} (h : begR g p c x = .ok l) : g.err = 0 ∧ stepsR p.data.toList = some l ∧ (c = 1 → (x 0).err = 0) := by
 unfold begR at h
 by_cases h1 : g.err ≠ 0
 ·rw [if_pos h1] at h; cases h
 ·rw [if_neg h1] at h
  cases hs : stepsR p.data.toList with
  | none => rw [hs] at h; cases h
  | some l' =>
   rw [hs] at h;simp only at h
   by_cases h2 : c = 1 ∧ (x 0).err ≠ 0
   ·rw [if_pos h2] at h; cases h
   ·rw [if_neg h2] at h;injection h with h
    exact ⟨by omega, by rw [h], fun h3 => by omega⟩
theorem lies_all {w : World} {g : GV} {v : Value} (h : Lies w g v) : Lies (veil w.heap.size w.heap.size w) g v :=
 Lies.mono (fun _ _ _ hc => veil_cell.2 ⟨fun h1 => by omega, hc⟩) h
theorem vals_all {w : World} {a : Option Addr} {n : Nat} {l : Nat → GV} (h : Vals w a n l) : Vals (veil w.heap.size w.heap.size w) a n l :=
 Vals.mono h (fun _ _ _ hc => veil_cell.2 ⟨fun h1 => by omega, hc⟩)
theorem vals_no (w : World) (a : Option Addr) (l : Nat → GV) : Vals w a 0 l := fun _ hi => absurd hi (Nat.not_lt_zero _)

set_option maxHeartbeats 1500000 in
set_option maxRecDepth 1000000 in
theorem set_anyL (g gx : GV) (p : ByteArray) (v vx : Value) (w : World) (hL : Lies w g v) (hX : Lies w gx vx) (hN : g.nodes ≤ 6000) (hNx : gx.nodes ≤ 6000) (hp : p.size ≤ 9223372036854775807) :
  Calls Try.prog 13 #[v, .string p, vx] w fun e w' => OutSay w.heap.size w' (setR g p gx) e ∧ Below w.heap.size w w' := by
 obtain ⟨R, hR⟩ : ∃ R, R = setR g p gx := ⟨_, rfl⟩;rw [← hR];unfold setR at hR;obtain ⟨k, n, s, la, ln, lc, fa, fn, fc, rfl⟩ := hL.agg;obtain ⟨kx, nx, sx, lax, lnx, lcx, fax, fnx, fcx, rfl⟩ := hX.agg;have hbx : Below w.heap.size w (((w.alloc (.cells #[.int .i64 k, .int .i64 n, .string s, .slice la ln lc, .slice fa fn fc] 25)).alloc (.cells #[.int .i64 kx, .int .i64 nx, .string sx, .slice lax lnx lcx, .slice fax fnx fcx] 25)).alloc (.cells #[.int .i64 0, .int .i64 0, .string ⟨#[]⟩, .slice none 0 0, .slice none 0 0] 25)) := (((Below.refl w.heap.size w).alloc (Nat.le_refl _) _).alloc (by simp) _).alloc (by simp; omega) _;have hbs : (((w.alloc (.cells #[.int .i64 k, .int .i64 n, .string s, .slice la ln lc, .slice fa fn fc] 25)).alloc (.cells #[.int .i64 kx, .int .i64 nx, .string sx, .slice lax lnx lcx, .slice fax fnx fcx] 25)).alloc (.cells #[.int .i64 0, .int .i64 0, .string ⟨#[]⟩, .slice none 0 0, .slice none 0 0] 25)).heap.size = w.heap.size + 3 := by simp
 have hBB := box3_cells (Below.refl _ (((w.alloc (.cells #[.int .i64 k, .int .i64 n, .string s, .slice la ln lc, .slice fa fn fc] 25)).alloc (.cells #[.int .i64 kx, .int .i64 nx, .string sx, .slice lax lnx lcx, .slice fax fnx fcx] 25)).alloc (.cells #[.int .i64 0, .int .i64 0, .string ⟨#[]⟩, .slice none 0 0, .slice none 0 0] 25)));have HP : Hid (Blk5 (((w.alloc (.cells #[.int .i64 k, .int .i64 n, .string s, .slice la ln lc, .slice fa fn fc] 25)).alloc (.cells #[.int .i64 kx, .int .i64 nx, .string sx, .slice lax lnx lcx, .slice fax fnx fcx] 25)).alloc (.cells #[.int .i64 0, .int .i64 0, .string ⟨#[]⟩, .slice none 0 0, .slice none 0 0] 25)) w.heap.size (.int .i64 k) (.int .i64 n) (.string s) (.slice la ln lc) (.slice fa fn fc)) := hBB.1;have HQ : Hid (Blk5 (((w.alloc (.cells #[.int .i64 k, .int .i64 n, .string s, .slice la ln lc, .slice fa fn fc] 25)).alloc (.cells #[.int .i64 kx, .int .i64 nx, .string sx, .slice lax lnx lcx, .slice fax fnx fcx] 25)).alloc (.cells #[.int .i64 0, .int .i64 0, .string ⟨#[]⟩, .slice none 0 0, .slice none 0 0] 25)) (w.heap.size + 2) (.int .i64 0) (.int .i64 0) (.string ⟨#[]⟩) (.slice none 0 0) (.slice none 0 0)) := hBB.2.2;have HXB : Hid (Blk5 (((w.alloc (.cells #[.int .i64 k, .int .i64 n, .string s, .slice la ln lc, .slice fa fn fc] 25)).alloc (.cells #[.int .i64 kx, .int .i64 nx, .string sx, .slice lax lnx lcx, .slice fax fnx fcx] 25)).alloc (.cells #[.int .i64 0, .int .i64 0, .string ⟨#[]⟩, .slice none 0 0, .slice none 0 0] 25)) (w.heap.size + 1) (.int .i64 kx) (.int .i64 nx) (.string sx) (.slice lax lnx lcx) (.slice fax fnx fcx)) := hBB.2.1;clear hBB;have hU1 : Below (((w.alloc (.cells #[.int .i64 k, .int .i64 n, .string s, .slice la ln lc, .slice fa fn fc] 25)).alloc (.cells #[.int .i64 kx, .int .i64 nx, .string sx, .slice lax lnx lcx, .slice fax fnx fcx] 25)).alloc (.cells #[.int .i64 0, .int .i64 0, .string ⟨#[]⟩, .slice none 0 0, .slice none 0 0] 25)).heap.size (((w.alloc (.cells #[.int .i64 k, .int .i64 n, .string s, .slice la ln lc, .slice fa fn fc] 25)).alloc (.cells #[.int .i64 kx, .int .i64 nx, .string sx, .slice lax lnx lcx, .slice fax fnx fcx] 25)).alloc (.cells #[.int .i64 0, .int .i64 0, .string ⟨#[]⟩, .slice none 0 0, .slice none 0 0] 25)) ((((w.alloc (.cells #[.int .i64 k, .int .i64 n, .string s, .slice la ln lc, .slice fa fn fc] 25)).alloc (.cells #[.int .i64 kx, .int .i64 nx, .string sx, .slice lax lnx lcx, .slice fax fnx fcx] 25)).alloc (.cells #[.int .i64 0, .int .i64 0, .string ⟨#[]⟩, .slice none 0 0, .slice none 0 0] 25)).alloc (.cells #[.int .i64 kx, .int .i64 nx, .string sx, .slice lax lnx lcx, .slice fax fnx fcx] 25)) := (Below.refl _ _).alloc (Nat.le_refl _) _
 have HBG : Hid (Calls Try.prog 34 #[.agg #[.int .i64 k, .int .i64 n, .string s, .slice la ln lc, .slice fa fn fc], .string p, .slice (some ⟨w.heap.size + 3, 0, none⟩) 1 1] ((((w.alloc (.cells #[.int .i64 k, .int .i64 n, .string s, .slice la ln lc, .slice fa fn fc] 25)).alloc (.cells #[.int .i64 kx, .int .i64 nx, .string sx, .slice lax lnx lcx, .slice fax fnx fcx] 25)).alloc (.cells #[.int .i64 0, .int .i64 0, .string ⟨#[]⟩, .slice none 0 0, .slice none 0 0] 25)).alloc (.cells #[.int .i64 kx, .int .i64 nx, .string sx, .slice lax lnx lcx, .slice fax fnx fcx] 25)) fun e w' => BegSay w' (begR g p 1 fun _ => gx) e ∧ Below ((((w.alloc (.cells #[.int .i64 k, .int .i64 n, .string s, .slice la ln lc, .slice fa fn fc] 25)).alloc (.cells #[.int .i64 kx, .int .i64 nx, .string sx, .slice lax lnx lcx, .slice fax fnx fcx] 25)).alloc (.cells #[.int .i64 0, .int .i64 0, .string ⟨#[]⟩, .slice none 0 0, .slice none 0 0] 25)).alloc (.cells #[.int .i64 kx, .int .i64 nx, .string sx, .slice lax lnx lcx, .slice fax fnx fcx] 25)).heap.size ((((w.alloc (.cells #[.int .i64 k, .int .i64 n, .string s, .slice la ln lc, .slice fa fn fc] 25)).alloc (.cells #[.int .i64 kx, .int .i64 nx, .string sx, .slice lax lnx lcx, .slice fax fnx fcx] 25)).alloc (.cells #[.int .i64 0, .int .i64 0, .string ⟨#[]⟩, .slice none 0 0, .slice none 0 0] 25)).alloc (.cells #[.int .i64 kx, .int .i64 nx, .string sx, .slice lax lnx lcx, .slice fax fnx fcx] 25)) w') := hidI (by
  have hv := vals1 (w := (((w.alloc (.cells #[.int .i64 k, .int .i64 n, .string s, .slice la ln lc, .slice fa fn fc] 25)).alloc (.cells #[.int .i64 kx, .int .i64 nx, .string sx, .slice lax lnx lcx, .slice fax fnx fcx] 25)).alloc (.cells #[.int .i64 0, .int .i64 0, .string ⟨#[]⟩, .slice none 0 0, .slice none 0 0] 25))) (t := 25) (cs := #[.int .i64 kx, .int .i64 nx, .string sx, .slice lax lnx lcx, .slice fax fnx fcx]) (hX.below hbx) rfl;rw [hbs] at hv;exact begin_anyL g _ p (some ⟨w.heap.size + 3, 0, none⟩) 1 1 (fun _ => gx) ((((w.alloc (.cells #[.int .i64 k, .int .i64 n, .string s, .slice la ln lc, .slice fa fn fc] 25)).alloc (.cells #[.int .i64 kx, .int .i64 nx, .string sx, .slice lax lnx lcx, .slice fax fnx fcx] 25)).alloc (.cells #[.int .i64 0, .int .i64 0, .string ⟨#[]⟩, .slice none 0 0, .slice none 0 0] 25)).alloc (.cells #[.int .i64 kx, .int .i64 nx, .string sx, .slice lax lnx lcx, .slice fax fnx fcx] 25)) (hL.below (hbx.trans (hU1.mono hbx.size))) (by omega) hp hv (by omega) (by omega) (by unfold maxLen; omega) (fun _ => by omega))
 have hbx1 : Below w.heap.size w ((((w.alloc (.cells #[.int .i64 k, .int .i64 n, .string s, .slice la ln lc, .slice fa fn fc] 25)).alloc (.cells #[.int .i64 kx, .int .i64 nx, .string sx, .slice lax lnx lcx, .slice fax fnx fcx] 25)).alloc (.cells #[.int .i64 0, .int .i64 0, .string ⟨#[]⟩, .slice none 0 0, .slice none 0 0] 25)).alloc (.cells #[.int .i64 kx, .int .i64 nx, .string sx, .slice lax lnx lcx, .slice fax fnx fcx] 25)) := hbx.trans (hU1.mono hbx.size);have HL : Hid (Lies w g _) := hL;have HX : Hid (Lies w gx _) := hX;clear hL hX
 cases hbe : begR g p 1 (fun _ => gx) with
 | error er =>
  rw [hbe] at hR;have HR : Hid (R = .error er) := hR
  go_enter Try.func13, Try.ntmps13
  go_wp2_with fail;refine HBG.out.mono ?_;rintro e w1 ⟨h1, b1⟩
  obtain ⟨rfl, hne⟩ : e = .returned (.tuple #[.slice none 0 0, .int .i64 er]) ∧ er ≠ 0 := by
   rcases h1 with ⟨er', h, h2, h3⟩ | ⟨_, _, _, h, _⟩
   ·rw [hbe] at h; cases h; exact ⟨h3, h2⟩
   ·rw [hbe] at h; cases h
  have heb : (er != 0) = true := by rw [bne_iff_ne]; exact hne
  have HNE : Hid (er ≠ 0) := hne;have hb3 := hU1.trans (b1.mono hU1.size);obtain ⟨z0, z1, z2, z3, z4⟩ := Blk5.cells (Blk5.below HQ.out hb3);obtain ⟨q0, q1, q2, q3, q4⟩ := Blk5.free (Blk5.below HQ.out hb3);have HB : Hid (Below w.heap.size w w1) := hidI (hbx.trans (hb3.mono hbx.size));have hrb : w.heap.size ≤ w.heap.size + 2 := by omega
  clear h1 hR hbe hne b1 hb3 hU1 hbx1 hbx;go_wp2_with fail
  refine bodyPost_ret (v := .tuple #[vZ, .int .i64 er]) ?_ rfl ⟨Or.inl ⟨er, HR.out, HNE.out, rfl⟩, ?_⟩
  ·have hres : Try.f13.results = #[.cell 6 25, .tmp 7] := by kernel_rfl
   simp only [results, hres];go_simp
   rfl
  ·exact ((((HB.out.setCell hrb _).setCell hrb _).setCell hrb _).setCell hrb _).setCell hrb _
 | ok l =>
  rw [hbe] at hR;simp only at hR
  go_enter Try.func13, Try.ntmps13
  go_wp2_with fail;refine HBG.out.mono ?_;rintro e w1 ⟨h1, b1⟩
  obtain ⟨sa, sc, rfl, hsc1, hsc2, hstr⟩ : ∃ sa sc, e = .returned (.tuple #[.slice sa l.length sc, .int .i64 0]) ∧ l.length ≤ sc ∧ sc ≤ maxLen ∧ Strs w1 sa l := by
   rcases h1 with ⟨er', h, _⟩ | ⟨l', sa, sc, h, h2⟩
   ·rw [hbe] at h; cases h
   ·rw [hbe] at h; cases h; exact ⟨sa, sc, h2⟩
  have HSTR : Hid (Strs w1 sa l) := hstr;have HSC : Hid (l.length ≤ sc ∧ sc ≤ maxLen) := hidI ⟨hsc1, hsc2⟩;obtain ⟨hge, hso, hxe⟩ := beg_ok hbe;have hsa := steps_all hso;have HST : Hid (∀ s ∈ l, isStepB s.data.toList = true) := hsa.1;have HLN : Hid (1 ≤ l.length ∧ l.length ≤ 8) := hidI ⟨hsa.2.2.1, hsa.2.1⟩;have hlne : l ≠ [] := fun h => by have := HLN.out.1; rw [h] at this; simp at this
  have HLNE : Hid (l ≠ []) := hlne;have HFIT : Hid g.fit := hidI ⟨err_every hge, by omega⟩;have hb1 := hU1.trans (b1.mono hU1.size);have hbw1 : Below w.heap.size w w1 := hbx.trans (hb1.mono hbx.size);have hu2 : Below w1.heap.size w1 (w1.alloc (.cells #[.int .i64 kx, .int .i64 nx, .string sx, .slice lax lnx lcx, .slice fax fnx fcx] 25)) := (Below.refl _ _).alloc (Nat.le_refl _) _;have hwu2 : Below w.heap.size w (w1.alloc (.cells #[.int .i64 kx, .int .i64 nx, .string sx, .slice lax lnx lcx, .slice fax fnx fcx] 25)) := hbw1.trans (hu2.mono hbw1.size);have HPT : Hid (Calls Try.prog 39 #[.agg #[.int .i64 k, .int .i64 n, .string s, .slice la ln lc, .slice fa fn fc], .slice sa l.length sc, .slice (some ⟨w1.heap.size, 0, none⟩) 1 1] (w1.alloc (.cells #[.int .i64 kx, .int .i64 nx, .string sx, .slice lax lnx lcx, .slice fax fnx fcx] 25)) fun e w' => PutEnd (w1.alloc (.cells #[.int .i64 kx, .int .i64 nx, .string sx, .slice lax lnx lcx, .slice fax fnx fcx] 25)).heap.size (w1.alloc (.cells #[.int .i64 kx, .int .i64 nx, .string sx, .slice lax lnx lcx, .slice fax fnx fcx] 25)).heap.size w' (GV.put l g 1 fun _ => gx) e ∧ Below (w1.alloc (.cells #[.int .i64 kx, .int .i64 nx, .string sx, .slice lax lnx lcx, .slice fax fnx fcx] 25)).heap.size (w1.alloc (.cells #[.int .i64 kx, .int .i64 nx, .string sx, .slice lax lnx lcx, .slice fax fnx fcx] 25)) w') := hidI (put_any l hlne g _ (w1.alloc (.cells #[.int .i64 kx, .int .i64 nx, .string sx, .slice lax lnx lcx, .slice fax fnx fcx] 25)) (w1.alloc (.cells #[.int .i64 kx, .int .i64 nx, .string sx, .slice lax lnx lcx, .slice fax fnx fcx] 25)).heap.size sa sc (some ⟨w1.heap.size, 0, none⟩) 1 1 (fun _ => gx) (Nat.le_refl _) (lies_all (HL.out.below hwu2)) HFIT.out (HSTR.out.below hu2) HST.out hsc1 hsc2 (vals_all (vals1 (HX.out.below hbw1) rfl)) (Nat.le_refl _) (Nat.le_refl _) (by unfold maxLen; omega));obtain ⟨c0, c1, c2, c3, c4⟩ := Blk5.cells (Blk5.below HP.out hb1);obtain ⟨x0, x1, x2, x3, x4⟩ := Blk5.cells (Blk5.below HXB.out hb1);have hbu2 : Below (((w.alloc (.cells #[.int .i64 k, .int .i64 n, .string s, .slice la ln lc, .slice fa fn fc] 25)).alloc (.cells #[.int .i64 kx, .int .i64 nx, .string sx, .slice lax lnx lcx, .slice fax fnx fcx] 25)).alloc (.cells #[.int .i64 0, .int .i64 0, .string ⟨#[]⟩, .slice none 0 0, .slice none 0 0] 25)).heap.size (((w.alloc (.cells #[.int .i64 k, .int .i64 n, .string s, .slice la ln lc, .slice fa fn fc] 25)).alloc (.cells #[.int .i64 kx, .int .i64 nx, .string sx, .slice lax lnx lcx, .slice fax fnx fcx] 25)).alloc (.cells #[.int .i64 0, .int .i64 0, .string ⟨#[]⟩, .slice none 0 0, .slice none 0 0] 25)) (w1.alloc (.cells #[.int .i64 kx, .int .i64 nx, .string sx, .slice lax lnx lcx, .slice fax fnx fcx] 25)) := hb1.trans (hu2.mono hb1.size);have HBU2 : Hid (Below (((w.alloc (.cells #[.int .i64 k, .int .i64 n, .string s, .slice la ln lc, .slice fa fn fc] 25)).alloc (.cells #[.int .i64 kx, .int .i64 nx, .string sx, .slice lax lnx lcx, .slice fax fnx fcx] 25)).alloc (.cells #[.int .i64 0, .int .i64 0, .string ⟨#[]⟩, .slice none 0 0, .slice none 0 0] 25)).heap.size (((w.alloc (.cells #[.int .i64 k, .int .i64 n, .string s, .slice la ln lc, .slice fa fn fc] 25)).alloc (.cells #[.int .i64 kx, .int .i64 nx, .string sx, .slice lax lnx lcx, .slice fax fnx fcx] 25)).alloc (.cells #[.int .i64 0, .int .i64 0, .string ⟨#[]⟩, .slice none 0 0, .slice none 0 0] 25)) (w1.alloc (.cells #[.int .i64 kx, .int .i64 nx, .string sx, .slice lax lnx lcx, .slice fax fnx fcx] 25))) := hbu2
  clear h1 hbe hge hso hxe hsa hlne hstr hsc1 hsc2 b1 hb1 hbw1 hu2 hwu2 hU1 hbx1 hbu2;go_wp2_with fail;refine HPT.out.mono ?_;rintro e w2 ⟨hE2, b2⟩;have hb2 := HBU2.out.trans (b2.mono HBU2.out.size);clear b2 c0 c1 c2 c3 c4 x0 x1 x2 x3 x4
  cases hput : GV.put l g 1 (fun _ => gx) with
  | error er =>
   rw [hput] at hR
   obtain ⟨rfl, hne⟩ : e = .returned (.tuple #[vZ, .int .i64 er]) ∧ er ≠ 0 := by
    rcases hE2 with ⟨er', h, h2, h3⟩ | ⟨_, _, h, _⟩
    ·rw [hput] at h; cases h; exact ⟨h3, by omega⟩
    ·rw [hput] at h; cases h
   have HR : Hid (R = .error er) := hR;have HNE : Hid (er ≠ 0) := hne;have hT := told_bad er w2 hne;have HT : Hid (Calls Try.prog 38 #[.agg #[.int .i64 0, .int .i64 0, .string ⟨#[]⟩, .slice none 0 0, .slice none 0 0], .int .i64 er] w2 fun e w' => e = .returned (.tuple #[.agg #[.int .i64 0, .int .i64 0, .string ⟨#[]⟩, .slice none 0 0, .slice none 0 0], .int .i64 er]) ∧ Below w2.heap.size w2 w') := hT;clear hR hE2 hne hT;unfold vZ;go_wp2_with fail;refine HT.out.mono ?_;rintro e w3 ⟨rfl, b3⟩;have hb3 := hb2.trans (b3.mono hb2.size);obtain ⟨z0, z1, z2, z3, z4⟩ := Blk5.cells (Blk5.below HQ.out hb3);obtain ⟨q0, q1, q2, q3, q4⟩ := Blk5.free (Blk5.below HQ.out hb3);have HB : Hid (Below w.heap.size w w3) := hidI (hbx.trans (hb3.mono hbx.size));have hrb : w.heap.size ≤ w.heap.size + 2 := by omega
   clear b3 hb3 hb2;go_wp2_with fail
   refine bodyPost_ret (v := .tuple #[vZ, .int .i64 er]) ?_ rfl ⟨Or.inl ⟨er, HR.out, HNE.out, rfl⟩, ?_⟩
   ·have hres : Try.f13.results = #[.cell 6 25, .tmp 7] := by kernel_rfl
    simp only [results, hres];go_simp
    rfl
   ·exact ((((HB.out.setCell hrb _).setCell hrb _).setCell hrb _).setCell hrb _).setCell hrb _
  | ok y =>
   rw [hput] at hR
   obtain ⟨v2, rfl, hL2⟩ : ∃ v2, e = .returned (.tuple #[v2, .int .i64 0]) ∧ Lies w2 y v2 := by
    rcases hE2 with ⟨er', h, _⟩ | ⟨y', v', h, h2, h3⟩
    ·rw [hput] at h; cases h
    ·rw [hput] at h; cases h; exact ⟨v', h2, lies_veil h3⟩
   obtain ⟨k2, n2, s2, la2, ln2, lc2, fa2, fn2, fc2, rfl⟩ := hL2.agg;have hyn := put_nodes _ _ _ _ _ hput;rw [sumG_1] at hyn;have hLN := HLN.out;have HT : Hid (Calls Try.prog 38 #[.agg #[.int .i64 k2, .int .i64 n2, .string s2, .slice la2 ln2 lc2, .slice fa2 fn2 fc2], .int .i64 0] w2 fun e w' => OutSay w2.heap.size w' (toldR (.ok y)) e ∧ Below w2.heap.size w2 w') := hidI (told_ok y _ w2 hL2 (by omega));clear hE2 hyn hL2 hput;have hw2s := hb2.size;rw [hbs] at hw2s;go_wp2_with fail;refine HT.out.mono ?_;rintro e w3 ⟨h3, b3⟩;have hb3 := hb2.trans (b3.mono hb2.size);obtain ⟨z0, z1, z2, z3, z4⟩ := Blk5.cells (Blk5.below HQ.out hb3);obtain ⟨q0, q1, q2, q3, q4⟩ := Blk5.free (Blk5.below HQ.out hb3);have HB : Hid (Below w.heap.size w w3) := hidI (hbx.trans (hb3.mono hbx.size));have hrb : w.heap.size ≤ w.heap.size + 2 := by omega
   rcases h3 with ⟨er, h4, hne, rfl⟩ | ⟨y', v3, h4, rfl, hF3, he3⟩
   ·have HR : Hid (R = .error er) := hidI (by rw [hR]; exact h4);have HNE : Hid (er ≠ 0) := hne;clear b3 hb3 hb2 h4 hne hR;unfold vZ;go_wp2_with fail
    refine bodyPost_ret (v := .tuple #[vZ, .int .i64 er]) ?_ rfl ⟨Or.inl ⟨er, HR.out, HNE.out, rfl⟩, ?_⟩
    ·have hres : Try.f13.results = #[.cell 6 25, .tmp 7] := by kernel_rfl
     simp only [results, hres];go_simp
     rfl
    ·exact ((((HB.out.setCell hrb _).setCell hrb _).setCell hrb _).setCell hrb _).setCell hrb _
   ·have HR : Hid (R = .ok y') := hidI (by rw [hR]; exact h4);obtain ⟨k3, n3, s3, la3, ln3, lc3, fa3, fn3, fc3, rfl⟩ := hF3.lies.agg;have HF3 : Hid (From w2.heap.size w3 y' _) := hF3;have HE3 : Hid (y'.err = 0) := he3;clear b3 hb3 hb2 h4 hR hF3 he3;go_wp2_with fail
    refine bodyPost_ret (v := .tuple #[.agg #[.int .i64 k3, .int .i64 n3, .string s3, .slice la3 ln3 lc3, .slice fa3 fn3 fc3], .int .i64 0]) ?_ rfl ⟨Or.inr ⟨y', _, HR.out, rfl, ?_, HE3.out⟩, ?_⟩
    ·have hres : Try.f13.results = #[.cell 6 25, .tmp 7] := by kernel_rfl
     simp only [results, hres];go_simp
    ·exact From.le (((((From.setCell HF3.out (by omega) _).setCell (by omega) _).setCell (by omega) _).setCell (by omega) _).setCell (by omega) _) (by omega)
    ·exact ((((HB.out.setCell hrb _).setCell hrb _).setCell hrb _).setCell hrb _).setCell hrb _
theorem set_any (g gx : GV) (p : ByteArray) (v vx : Value) (w : World) (hL : Lies w g v) (hX : Lies w gx vx) (hN : g.nodes ≤ 6000) (hNx : gx.nodes ≤ 6000) (hp : p.size ≤ 140737488355328) :
  Calls Try.prog 13 #[v, .string p, vx] w fun e w' => OutSay w.heap.size w' (setR g p gx) e ∧ Below w.heap.size w w' :=
 set_anyL g gx p v vx w hL hX hN hNx (by omega)
end Go.Proofs.Ytjngbogbbglbnaa

/- Contract of path.Push, of any values and any path. -/
namespace Go.Proofs.Ytjngbogbbglbnaa
open Go.RowKit

theorem crow_new (w : World) (x0 x1 x2 x3 x4 : Value) : CRow (w.alloc (.cells #[x0, x1, x2, x3, x4] 25)) (some ⟨w.heap.size, 0, none⟩) (valCells [.agg #[x0, x1, x2, x3, x4]]) :=
 Or.inr ⟨w.heap.size, 0, rfl, fun k u hk => by
  rw [Nat.zero_add, cell_of_row _ _ _ _ _ _ (Blk5.new w x0 x1 x2 x3 x4)];simpa [valCells, Value.cells] using hk⟩
theorem one_lies {w : World} {g : GV} {v : Value} (h : Lies w g v) : ∀ i (hi : i < [v].length), Lies w g ([v][i]'hi) := fun i hi => by
 obtain rfl : i = 0 := by simpa using hi
 exact h
theorem led_is {g y : GV} {l : List ByteArray} {k : Int} (h : ledR g l k = .ok y) : g.lead l = some y ∧ y.kind = k := by
 unfold ledR at h
 cases hl : g.lead l with
 | none => rw [hl] at h; cases h
 | some z =>
  rw [hl] at h;simp only at h
  by_cases hk : z.kind = k
  ·rw [if_pos hk] at h;injection h with h
   subst h;exact ⟨rfl, hk⟩
  ·rw [if_neg hk] at h; cases h
set_option maxHeartbeats 1500000 in
set_option maxRecDepth 1000000 in
theorem push_any (g gx : GV) (p : ByteArray) (v vx : Value) (w : World) (hL : Lies w g v) (hX : Lies w gx vx) (hN : g.nodes ≤ 5000) (hNx : gx.nodes ≤ 5000) (hp : p.size ≤ 140737488355328) :
  Calls Try.prog 16 #[v, .string p, vx] w fun e w' => OutSay w.heap.size w' (pushR g p gx) e ∧ Below w.heap.size w w' := by
 obtain ⟨R, hR⟩ : ∃ R, R = pushR g p gx := ⟨_, rfl⟩;rw [← hR];unfold pushR at hR;obtain ⟨k, n, s, la, ln, lc, fa, fn, fc, rfl⟩ := hL.agg;obtain ⟨kx, nx, sx, lax, lnx, lcx, fax, fnx, fcx, rfl⟩ := hX.agg;have hbx : Below w.heap.size w (((w.alloc (.cells #[.int .i64 k, .int .i64 n, .string s, .slice la ln lc, .slice fa fn fc] 25)).alloc (.cells #[.int .i64 kx, .int .i64 nx, .string sx, .slice lax lnx lcx, .slice fax fnx fcx] 25)).alloc (.cells #[.int .i64 0, .int .i64 0, .string ⟨#[]⟩, .slice none 0 0, .slice none 0 0] 25)) := (((Below.refl w.heap.size w).alloc (Nat.le_refl _) _).alloc (by simp) _).alloc (by simp; omega) _;have hbs : (((w.alloc (.cells #[.int .i64 k, .int .i64 n, .string s, .slice la ln lc, .slice fa fn fc] 25)).alloc (.cells #[.int .i64 kx, .int .i64 nx, .string sx, .slice lax lnx lcx, .slice fax fnx fcx] 25)).alloc (.cells #[.int .i64 0, .int .i64 0, .string ⟨#[]⟩, .slice none 0 0, .slice none 0 0] 25)).heap.size = w.heap.size + 3 := by simp
 have hBB := box3_cells (Below.refl _ (((w.alloc (.cells #[.int .i64 k, .int .i64 n, .string s, .slice la ln lc, .slice fa fn fc] 25)).alloc (.cells #[.int .i64 kx, .int .i64 nx, .string sx, .slice lax lnx lcx, .slice fax fnx fcx] 25)).alloc (.cells #[.int .i64 0, .int .i64 0, .string ⟨#[]⟩, .slice none 0 0, .slice none 0 0] 25)));have HP : Hid (Blk5 (((w.alloc (.cells #[.int .i64 k, .int .i64 n, .string s, .slice la ln lc, .slice fa fn fc] 25)).alloc (.cells #[.int .i64 kx, .int .i64 nx, .string sx, .slice lax lnx lcx, .slice fax fnx fcx] 25)).alloc (.cells #[.int .i64 0, .int .i64 0, .string ⟨#[]⟩, .slice none 0 0, .slice none 0 0] 25)) w.heap.size (.int .i64 k) (.int .i64 n) (.string s) (.slice la ln lc) (.slice fa fn fc)) := hBB.1;have HQ : Hid (Blk5 (((w.alloc (.cells #[.int .i64 k, .int .i64 n, .string s, .slice la ln lc, .slice fa fn fc] 25)).alloc (.cells #[.int .i64 kx, .int .i64 nx, .string sx, .slice lax lnx lcx, .slice fax fnx fcx] 25)).alloc (.cells #[.int .i64 0, .int .i64 0, .string ⟨#[]⟩, .slice none 0 0, .slice none 0 0] 25)) (w.heap.size + 2) (.int .i64 0) (.int .i64 0) (.string ⟨#[]⟩) (.slice none 0 0) (.slice none 0 0)) := hBB.2.2;have HXB : Hid (Blk5 (((w.alloc (.cells #[.int .i64 k, .int .i64 n, .string s, .slice la ln lc, .slice fa fn fc] 25)).alloc (.cells #[.int .i64 kx, .int .i64 nx, .string sx, .slice lax lnx lcx, .slice fax fnx fcx] 25)).alloc (.cells #[.int .i64 0, .int .i64 0, .string ⟨#[]⟩, .slice none 0 0, .slice none 0 0] 25)) (w.heap.size + 1) (.int .i64 kx) (.int .i64 nx) (.string sx) (.slice lax lnx lcx) (.slice fax fnx fcx)) := hBB.2.1;clear hBB;have hU1 : Below (((w.alloc (.cells #[.int .i64 k, .int .i64 n, .string s, .slice la ln lc, .slice fa fn fc] 25)).alloc (.cells #[.int .i64 kx, .int .i64 nx, .string sx, .slice lax lnx lcx, .slice fax fnx fcx] 25)).alloc (.cells #[.int .i64 0, .int .i64 0, .string ⟨#[]⟩, .slice none 0 0, .slice none 0 0] 25)).heap.size (((w.alloc (.cells #[.int .i64 k, .int .i64 n, .string s, .slice la ln lc, .slice fa fn fc] 25)).alloc (.cells #[.int .i64 kx, .int .i64 nx, .string sx, .slice lax lnx lcx, .slice fax fnx fcx] 25)).alloc (.cells #[.int .i64 0, .int .i64 0, .string ⟨#[]⟩, .slice none 0 0, .slice none 0 0] 25)) ((((w.alloc (.cells #[.int .i64 k, .int .i64 n, .string s, .slice la ln lc, .slice fa fn fc] 25)).alloc (.cells #[.int .i64 kx, .int .i64 nx, .string sx, .slice lax lnx lcx, .slice fax fnx fcx] 25)).alloc (.cells #[.int .i64 0, .int .i64 0, .string ⟨#[]⟩, .slice none 0 0, .slice none 0 0] 25)).alloc (.cells #[.int .i64 kx, .int .i64 nx, .string sx, .slice lax lnx lcx, .slice fax fnx fcx] 25)) := (Below.refl _ _).alloc (Nat.le_refl _) _
 have HBG : Hid (Calls Try.prog 34 #[.agg #[.int .i64 k, .int .i64 n, .string s, .slice la ln lc, .slice fa fn fc], .string p, .slice (some ⟨w.heap.size + 3, 0, none⟩) 1 1] ((((w.alloc (.cells #[.int .i64 k, .int .i64 n, .string s, .slice la ln lc, .slice fa fn fc] 25)).alloc (.cells #[.int .i64 kx, .int .i64 nx, .string sx, .slice lax lnx lcx, .slice fax fnx fcx] 25)).alloc (.cells #[.int .i64 0, .int .i64 0, .string ⟨#[]⟩, .slice none 0 0, .slice none 0 0] 25)).alloc (.cells #[.int .i64 kx, .int .i64 nx, .string sx, .slice lax lnx lcx, .slice fax fnx fcx] 25)) fun e w' => BegSay w' (begR g p 1 fun _ => gx) e ∧ Below ((((w.alloc (.cells #[.int .i64 k, .int .i64 n, .string s, .slice la ln lc, .slice fa fn fc] 25)).alloc (.cells #[.int .i64 kx, .int .i64 nx, .string sx, .slice lax lnx lcx, .slice fax fnx fcx] 25)).alloc (.cells #[.int .i64 0, .int .i64 0, .string ⟨#[]⟩, .slice none 0 0, .slice none 0 0] 25)).alloc (.cells #[.int .i64 kx, .int .i64 nx, .string sx, .slice lax lnx lcx, .slice fax fnx fcx] 25)).heap.size ((((w.alloc (.cells #[.int .i64 k, .int .i64 n, .string s, .slice la ln lc, .slice fa fn fc] 25)).alloc (.cells #[.int .i64 kx, .int .i64 nx, .string sx, .slice lax lnx lcx, .slice fax fnx fcx] 25)).alloc (.cells #[.int .i64 0, .int .i64 0, .string ⟨#[]⟩, .slice none 0 0, .slice none 0 0] 25)).alloc (.cells #[.int .i64 kx, .int .i64 nx, .string sx, .slice lax lnx lcx, .slice fax fnx fcx] 25)) w') := hidI (by
  have hv := vals1 (w := (((w.alloc (.cells #[.int .i64 k, .int .i64 n, .string s, .slice la ln lc, .slice fa fn fc] 25)).alloc (.cells #[.int .i64 kx, .int .i64 nx, .string sx, .slice lax lnx lcx, .slice fax fnx fcx] 25)).alloc (.cells #[.int .i64 0, .int .i64 0, .string ⟨#[]⟩, .slice none 0 0, .slice none 0 0] 25))) (t := 25) (cs := #[.int .i64 kx, .int .i64 nx, .string sx, .slice lax lnx lcx, .slice fax fnx fcx]) (hX.below hbx) rfl;rw [hbs] at hv;exact begin_any g _ p (some ⟨w.heap.size + 3, 0, none⟩) 1 1 (fun _ => gx) ((((w.alloc (.cells #[.int .i64 k, .int .i64 n, .string s, .slice la ln lc, .slice fa fn fc] 25)).alloc (.cells #[.int .i64 kx, .int .i64 nx, .string sx, .slice lax lnx lcx, .slice fax fnx fcx] 25)).alloc (.cells #[.int .i64 0, .int .i64 0, .string ⟨#[]⟩, .slice none 0 0, .slice none 0 0] 25)).alloc (.cells #[.int .i64 kx, .int .i64 nx, .string sx, .slice lax lnx lcx, .slice fax fnx fcx] 25)) (hL.below (hbx.trans (hU1.mono hbx.size))) (by omega) hp hv (by omega) (by omega) (by unfold maxLen; omega) (fun _ => by omega))
 have hbx1 : Below w.heap.size w ((((w.alloc (.cells #[.int .i64 k, .int .i64 n, .string s, .slice la ln lc, .slice fa fn fc] 25)).alloc (.cells #[.int .i64 kx, .int .i64 nx, .string sx, .slice lax lnx lcx, .slice fax fnx fcx] 25)).alloc (.cells #[.int .i64 0, .int .i64 0, .string ⟨#[]⟩, .slice none 0 0, .slice none 0 0] 25)).alloc (.cells #[.int .i64 kx, .int .i64 nx, .string sx, .slice lax lnx lcx, .slice fax fnx fcx] 25)) := hbx.trans (hU1.mono hbx.size);have HL : Hid (Lies w g _) := hL;have HX : Hid (Lies w gx _) := hX;clear hL hX
 cases hbe : begR g p 1 (fun _ => gx) with
 | error er =>
  rw [hbe] at hR;have HR : Hid (R = .error er) := hR
  go_enter Try.func16, Try.ntmps16
  go_wp2_with fail;refine HBG.out.mono ?_;rintro e w1 ⟨h1, b1⟩
  obtain ⟨rfl, hne⟩ : e = .returned (.tuple #[.slice none 0 0, .int .i64 er]) ∧ er ≠ 0 := by
   rcases h1 with ⟨er', h, h2, h3⟩ | ⟨_, _, _, h, _⟩
   ·rw [hbe] at h; cases h; exact ⟨h3, h2⟩
   ·rw [hbe] at h; cases h
  have heb : (er != 0) = true := by rw [bne_iff_ne]; exact hne
  have HNE : Hid (er ≠ 0) := hne;have hb3 := hU1.trans (b1.mono hU1.size);obtain ⟨z0, z1, z2, z3, z4⟩ := Blk5.cells (Blk5.below HQ.out hb3);obtain ⟨q0, q1, q2, q3, q4⟩ := Blk5.free (Blk5.below HQ.out hb3);have HB : Hid (Below w.heap.size w w1) := hidI (hbx.trans (hb3.mono hbx.size));have hrb : w.heap.size ≤ w.heap.size + 2 := by omega
  clear h1 hR hbe hne b1 hb3 hU1 hbx1 hbx;go_wp2_with fail
  refine bodyPost_ret (v := .tuple #[vZ, .int .i64 er]) ?_ rfl ⟨Or.inl ⟨er, HR.out, HNE.out, rfl⟩, ?_⟩
  ·have hres : Try.f16.results = #[.cell 6 25, .tmp 7] := by kernel_rfl
   simp only [results, hres];go_simp
   rfl
  ·exact ((((HB.out.setCell hrb _).setCell hrb _).setCell hrb _).setCell hrb _).setCell hrb _
 | ok l =>
  rw [hbe] at hR;simp only at hR
  go_enter Try.func16, Try.ntmps16
  go_wp2_with fail;refine HBG.out.mono ?_;rintro e w1 ⟨h1, b1⟩
  obtain ⟨sa, sc, rfl, hsc1, hsc2, hstr⟩ : ∃ sa sc, e = .returned (.tuple #[.slice sa l.length sc, .int .i64 0]) ∧ l.length ≤ sc ∧ sc ≤ maxLen ∧ Strs w1 sa l := by
   rcases h1 with ⟨er', h, _⟩ | ⟨l', sa, sc, h, h2⟩
   ·rw [hbe] at h; cases h
   ·rw [hbe] at h; cases h; exact ⟨sa, sc, h2⟩
  have HSTR : Hid (Strs w1 sa l) := hstr;have HSC : Hid (l.length ≤ sc ∧ sc ≤ maxLen) := hidI ⟨hsc1, hsc2⟩;obtain ⟨hge, hso, hxe⟩ := beg_ok hbe;have hsa := steps_all hso;have HST : Hid (∀ s ∈ l, isStepB s.data.toList = true) := hsa.1;have HLN : Hid (1 ≤ l.length ∧ l.length ≤ 8) := hidI ⟨hsa.2.2.1, hsa.2.1⟩;have hlne : l ≠ [] := fun h => by have := HLN.out.1; rw [h] at this; simp at this
  have HLNE : Hid (l ≠ []) := hlne;have HFIT : Hid g.fit := hidI ⟨err_every hge, by omega⟩;have hb1 := hU1.trans (b1.mono hU1.size);have hbw1 : Below w.heap.size w w1 := hbx.trans (hb1.mono hbx.size);obtain ⟨c0, c1, c2, c3, c4⟩ := Blk5.cells (Blk5.below HP.out hb1);have HLD : Hid (Calls Try.prog 40 #[.agg #[.int .i64 k, .int .i64 n, .string s, .slice la ln lc, .slice fa fn fc], .slice sa l.length sc, .int .i64 5] w1 fun e w' => LedSay w (ledR g l 5) e ∧ Below w1.heap.size w1 w') := hidI (leadTo_any g l sa sc 5 _ w w1 HL.out (below_keeps hbw1) HFIT.out HSTR.out HST.out hsc1 hsc2);have HB1 : Hid (Below (((w.alloc (.cells #[.int .i64 k, .int .i64 n, .string s, .slice la ln lc, .slice fa fn fc] 25)).alloc (.cells #[.int .i64 kx, .int .i64 nx, .string sx, .slice lax lnx lcx, .slice fax fnx fcx] 25)).alloc (.cells #[.int .i64 0, .int .i64 0, .string ⟨#[]⟩, .slice none 0 0, .slice none 0 0] 25)).heap.size (((w.alloc (.cells #[.int .i64 k, .int .i64 n, .string s, .slice la ln lc, .slice fa fn fc] 25)).alloc (.cells #[.int .i64 kx, .int .i64 nx, .string sx, .slice lax lnx lcx, .slice fax fnx fcx] 25)).alloc (.cells #[.int .i64 0, .int .i64 0, .string ⟨#[]⟩, .slice none 0 0, .slice none 0 0] 25)) w1) := hb1;have HBW1 : Hid (Below w.heap.size w w1) := hbw1;clear h1 hbe hge hso hxe hsa hlne hstr hsc1 hsc2 b1 hb1 hbw1 hU1 hbx1 
  cases hy : ledR g l 5 with
  | error er =>
   rw [hy] at hR;have HR : Hid (R = .error er) := hR;go_wp2_with fail;refine HLD.out.mono ?_;rintro e w2 ⟨h2, b2⟩
   obtain ⟨rfl, hne⟩ : e = .returned (.tuple #[.agg #[.int .i64 0, .int .i64 0, .string ⟨#[]⟩, .slice none 0 0, .slice none 0 0], .int .i64 er]) ∧ er ≠ 0 := by
    rcases h2 with ⟨er', h, h3, h4⟩ | ⟨_, _, h, _⟩
    ·rw [hy] at h; cases h; exact ⟨h4, h3⟩
    ·rw [hy] at h; cases h
   have heb : (er != 0) = true := by rw [bne_iff_ne]; exact hne
   have HNE : Hid (er ≠ 0) := hne;have hb2 : Below (((w.alloc (.cells #[.int .i64 k, .int .i64 n, .string s, .slice la ln lc, .slice fa fn fc] 25)).alloc (.cells #[.int .i64 kx, .int .i64 nx, .string sx, .slice lax lnx lcx, .slice fax fnx fcx] 25)).alloc (.cells #[.int .i64 0, .int .i64 0, .string ⟨#[]⟩, .slice none 0 0, .slice none 0 0] 25)).heap.size (((w.alloc (.cells #[.int .i64 k, .int .i64 n, .string s, .slice la ln lc, .slice fa fn fc] 25)).alloc (.cells #[.int .i64 kx, .int .i64 nx, .string sx, .slice lax lnx lcx, .slice fax fnx fcx] 25)).alloc (.cells #[.int .i64 0, .int .i64 0, .string ⟨#[]⟩, .slice none 0 0, .slice none 0 0] 25)) (w2.alloc (.cells #[.int .i64 0, .int .i64 0, .string ⟨#[]⟩, .slice none 0 0, .slice none 0 0] 25)) := HB1.out.trans ((b2.alloc b2.size _).mono HB1.out.size);obtain ⟨z0, z1, z2, z3, z4⟩ := Blk5.cells (Blk5.below HQ.out hb2);obtain ⟨q0, q1, q2, q3, q4⟩ := Blk5.free (Blk5.below HQ.out hb2);have HB : Hid (Below w.heap.size w (w2.alloc (.cells #[.int .i64 0, .int .i64 0, .string ⟨#[]⟩, .slice none 0 0, .slice none 0 0] 25))) := hidI (hbx.trans (hb2.mono hbx.size));have hrb : w.heap.size ≤ w.heap.size + 2 := by omega
   clear h2 hR hy hne b2 hb2 hbx c0 c1 c2 c3 c4;go_wp2_with fail
   refine bodyPost_ret (v := .tuple #[vZ, .int .i64 er]) ?_ rfl ⟨Or.inl ⟨er, HR.out, HNE.out, rfl⟩, ?_⟩
   ·have hres : Try.f16.results = #[.cell 6 25, .tmp 7] := by kernel_rfl
    simp only [results, hres];go_simp
    rfl
   ·exact ((((HB.out.setCell hrb _).setCell hrb _).setCell hrb _).setCell hrb _).setCell hrb _
  | ok y =>
   rw [hy] at hR;simp only at hR;go_wp2_with fail;refine HLD.out.mono ?_;rintro e w2 ⟨h2, b2⟩
   obtain ⟨v2, rfl, hL2, hf2⟩ : ∃ v2, e = .returned (.tuple #[v2, .int .i64 0]) ∧ Lies w y v2 ∧ y.fit := by
    rcases h2 with ⟨er', h, _⟩ | ⟨_, v2, h, h2, h3, h4⟩
    ·rw [hy] at h; cases h
    ·rw [hy] at h; cases h; exact ⟨v2, h2, h3, h4⟩
   obtain ⟨hlead, hkd⟩ := led_is hy;have hyn2 := lead_nodes _ _ _ hlead
   obtain ⟨k2, n2, s2, ln2, l2, fn2, nm2, f2, rfl⟩ : ∃ k2 n2 s2 ln2 l2 fn2 nm2 f2, y = .mk k2 n2 s2 ln2 l2 fn2 nm2 f2 := by
    cases y with
    | nil => exact False.elim hL2
    | mk k2 n2 s2 ln2 l2 fn2 nm2 f2 => exact ⟨_, _, _, _, _, _, _, _, rfl⟩
   obtain rfl : k2 = 5 := hkd;have hfew2 := lies_few hL2 hf2.2;obtain ⟨la2, lc2, fa2, fc2, rfl, hk2, hn2, hs2, h42, h52, h62, h72, hvl2, hvf2⟩ := hL2;have hbw2 := HBW1.out.trans (b2.mono HBW1.out.size);have hbu : Below w2.heap.size w2 (w2.alloc (.cells #[.int .i64 5, .int .i64 n2, .string s2, .slice la2 ln2 lc2, .slice fa2 fn2 fc2] 25)) := (Below.refl _ _).alloc (Nat.le_refl _) _;have hbux : Below w2.heap.size w2 ((w2.alloc (.cells #[.int .i64 5, .int .i64 n2, .string s2, .slice la2 ln2 lc2, .slice fa2 fn2 fc2] 25)).alloc (.cells #[.int .i64 kx, .int .i64 nx, .string sx, .slice lax lnx lcx, .slice fax fnx fcx] 25)) := hbu.alloc hbu.size _;have hbwu := hbw2.trans (hbux.mono hbw2.size);have hu2s : (w2.alloc (.cells #[.int .i64 5, .int .i64 n2, .string s2, .slice la2 ln2 lc2, .slice fa2 fn2 fc2] 25)).heap.size = w2.heap.size + 1 := by simp
   have huxs : ((w2.alloc (.cells #[.int .i64 5, .int .i64 n2, .string s2, .slice la2 ln2 lc2, .slice fa2 fn2 fc2] 25)).alloc (.cells #[.int .i64 kx, .int .i64 nx, .string sx, .slice lax lnx lcx, .slice fax fnx fcx] 25)).heap.size = w2.heap.size + 2 := by simp
   have HI : Hid (Blk5 (w2.alloc (.cells #[.int .i64 5, .int .i64 n2, .string s2, .slice la2 ln2 lc2, .slice fa2 fn2 fc2] 25)) w2.heap.size (.int .i64 5) (.int .i64 n2) (.string s2) (.slice la2 ln2 lc2) (.slice fa2 fn2 fc2)) := Blk5.new w2 _ _ _ _ _;obtain ⟨vs, hvl, hvs, hcv⟩ := vals_crow hvl2;have hxx := crow_new (w2.alloc (.cells #[.int .i64 5, .int .i64 n2, .string s2, .slice la2 ln2 lc2, .slice fa2 fn2 fc2] 25)) (.int .i64 kx) (.int .i64 nx) (.string sx) (.slice lax lnx lcx) (.slice fax fnx fcx);rw [hu2s] at hxx;obtain ⟨nF, hnF⟩ : ∃ nF, nF = ln2 - 0 + 1 := ⟨_, rfl⟩;have hCH := changedV (valCells vs) (valCells [.agg #[.int .i64 kx, .int .i64 nx, .string sx, .slice lax lnx lcx, .slice fax fnx fcx]]) la2 (some ⟨w2.heap.size + 1, 0, none⟩) ln2 lc2 1 1 ln2 0 ((w2.alloc (.cells #[.int .i64 5, .int .i64 n2, .string s2, .slice la2 ln2 lc2, .slice fa2 fn2 fc2] 25)).alloc (.cells #[.int .i64 kx, .int .i64 nx, .string sx, .slice lax lnx lcx, .slice fax fnx fcx] 25)) (by rw [valCells_length _ (five_all hvs), hvl]) rfl (hcv.below hbwu) hxx (one_cells hvs) (one_cells (w := w) (l := fun _ => gx) (one_lies HX.out)) h42 h52 (by omega) (by unfold maxLen; omega) (by omega) (by have := hfew2.1; omega) (by omega);rw [← hnF] at hCH;have HCH := hidI hCH;have HNF : Hid (nF = ln2 - 0 + 1) := hnF;have HVS : Hid (vs.length = ln2 ∧ (∀ i (hi : i < vs.length), Lies w (l2 i) (vs[i]'hi))) := hidI ⟨hvl, hvs⟩;have HP2 : Hid (Int64 5 ∧ Int64 n2 ∧ s2.size ≤ 140737488355328 ∧ Flds w fa2 fn2 nm2 f2 ∧ fn2 ≤ fc2 ∧ fc2 ≤ maxLen) := hidI ⟨hk2, hn2, hs2, hvf2, h62, h72⟩;have hbT : Below (((w.alloc (.cells #[.int .i64 k, .int .i64 n, .string s, .slice la ln lc, .slice fa fn fc] 25)).alloc (.cells #[.int .i64 kx, .int .i64 nx, .string sx, .slice lax lnx lcx, .slice fax fnx fcx] 25)).alloc (.cells #[.int .i64 0, .int .i64 0, .string ⟨#[]⟩, .slice none 0 0, .slice none 0 0] 25)).heap.size (((w.alloc (.cells #[.int .i64 k, .int .i64 n, .string s, .slice la ln lc, .slice fa fn fc] 25)).alloc (.cells #[.int .i64 kx, .int .i64 nx, .string sx, .slice lax lnx lcx, .slice fax fnx fcx] 25)).alloc (.cells #[.int .i64 0, .int .i64 0, .string ⟨#[]⟩, .slice none 0 0, .slice none 0 0] 25)) ((w2.alloc (.cells #[.int .i64 5, .int .i64 n2, .string s2, .slice la2 ln2 lc2, .slice fa2 fn2 fc2] 25)).alloc (.cells #[.int .i64 kx, .int .i64 nx, .string sx, .slice lax lnx lcx, .slice fax fnx fcx] 25)) := HB1.out.trans ((b2.trans (hbux.mono b2.size)).mono HB1.out.size);have HBT : Hid (Below (((w.alloc (.cells #[.int .i64 k, .int .i64 n, .string s, .slice la ln lc, .slice fa fn fc] 25)).alloc (.cells #[.int .i64 kx, .int .i64 nx, .string sx, .slice lax lnx lcx, .slice fax fnx fcx] 25)).alloc (.cells #[.int .i64 0, .int .i64 0, .string ⟨#[]⟩, .slice none 0 0, .slice none 0 0] 25)).heap.size (((w.alloc (.cells #[.int .i64 k, .int .i64 n, .string s, .slice la ln lc, .slice fa fn fc] 25)).alloc (.cells #[.int .i64 kx, .int .i64 nx, .string sx, .slice lax lnx lcx, .slice fax fnx fcx] 25)).alloc (.cells #[.int .i64 0, .int .i64 0, .string ⟨#[]⟩, .slice none 0 0, .slice none 0 0] 25)) ((w2.alloc (.cells #[.int .i64 5, .int .i64 n2, .string s2, .slice la2 ln2 lc2, .slice fa2 fn2 fc2] 25)).alloc (.cells #[.int .i64 kx, .int .i64 nx, .string sx, .slice lax lnx lcx, .slice fax fnx fcx] 25))) := hbT
   have HBWU : Hid (Below w.heap.size w ((w2.alloc (.cells #[.int .i64 5, .int .i64 n2, .string s2, .slice la2 ln2 lc2, .slice fa2 fn2 fc2] 25)).alloc (.cells #[.int .i64 kx, .int .i64 nx, .string sx, .slice lax lnx lcx, .slice fax fnx fcx] 25))) := hbwu;have HYN : Hid ((GV.mk 5 n2 s2 ln2 l2 fn2 nm2 f2).nodes ≤ g.nodes) := hyn2;have hw2n : w1.heap.size ≤ w2.heap.size := b2.size;have hw1n := HB1.out.size;rw [hbs] at hw1n;obtain ⟨d0, d1, d2, d3, d4⟩ := Blk5.cells HI.out;obtain ⟨x0, x1, x2, x3, x4⟩ := Blk5.cells (Blk5.below HXB.out (HB1.out.trans ((b2.trans (hbu.mono b2.size)).mono HB1.out.size)));have HB12 : Hid (Below w1.heap.size w1 ((w2.alloc (.cells #[.int .i64 5, .int .i64 n2, .string s2, .slice la2 ln2 lc2, .slice fa2 fn2 fc2] 25)).alloc (.cells #[.int .i64 kx, .int .i64 nx, .string sx, .slice lax lnx lcx, .slice fax fnx fcx] 25))) := hidI (b2.trans (hbux.mono b2.size));clear hbw2 hbu hbux hbwu hu2s hvl hvs hcv hxx hCH hnF hk2 hn2 hs2 hvf2 hvl2 hbT hf2 hlead hyn2 b2 h2 hy c0 c1 c2 c3 c4;go_wp2_with fail;refine HCH.out.mono ?_;rintro e wC ⟨xs, hxs, rfl, oC, bC⟩;obtain ⟨gN, hgN⟩ : ∃ gN, gN = ((w2.alloc (.cells #[.int .i64 5, .int .i64 n2, .string s2, .slice la2 ln2 lc2, .slice fa2 fn2 fc2] 25)).alloc (.cells #[.int .i64 kx, .int .i64 nx, .string sx, .slice lax lnx lcx, .slice fax fnx fcx] 25)).heap.size := ⟨_, rfl⟩;rw [← hgN] at oC bC ⊢;have hgN2 : w2.heap.size + 2 ≤ gN := by rw [hgN, huxs]; omega
   have HOC : Hid (wC.ownsRow gN 25 5 (.slice (some ⟨gN, 0, none⟩) nF nF) nF ((valCells vs).take (ln2 * 5) ++ (valCells [.agg #[.int .i64 kx, .int .i64 nx, .string sx, .slice lax lnx lcx, .slice fax fnx fcx]] ++ (valCells vs).drop ((ln2 + 0) * 5)))) := hidI (hxs ▸ oC);have bC' : Below ((w2.alloc (.cells #[.int .i64 5, .int .i64 n2, .string s2, .slice la2 ln2 lc2, .slice fa2 fn2 fc2] 25)).alloc (.cells #[.int .i64 kx, .int .i64 nx, .string sx, .slice lax lnx lcx, .slice fax fnx fcx] 25)).heap.size ((w2.alloc (.cells #[.int .i64 5, .int .i64 n2, .string s2, .slice la2 ln2 lc2, .slice fa2 fn2 fc2] 25)).alloc (.cells #[.int .i64 kx, .int .i64 nx, .string sx, .slice lax lnx lcx, .slice fax fnx fcx] 25)) wC := hgN ▸ bC;have HUC : Hid (Below ((w2.alloc (.cells #[.int .i64 5, .int .i64 n2, .string s2, .slice la2 ln2 lc2, .slice fa2 fn2 fc2] 25)).alloc (.cells #[.int .i64 kx, .int .i64 nx, .string sx, .slice lax lnx lcx, .slice fax fnx fcx] 25)).heap.size ((w2.alloc (.cells #[.int .i64 5, .int .i64 n2, .string s2, .slice la2 ln2 lc2, .slice fa2 fn2 fc2] 25)).alloc (.cells #[.int .i64 kx, .int .i64 nx, .string sx, .slice lax lnx lcx, .slice fax fnx fcx] 25)) wC) := bC';have hIC := Blk5.below (Blk5.below HI.out ((Below.refl _ _).alloc (Nat.le_refl _) _)) bC';obtain ⟨e0, e1, e2, e3, e4⟩ := Blk5.cells hIC;obtain ⟨r0, r1, r2, r3, r4⟩ := Blk5.free hIC;have hI5 := hIC.set3 (u := .slice (some ⟨gN, 0, none⟩) nF nF);have hBXC : Below (((w.alloc (.cells #[.int .i64 k, .int .i64 n, .string s, .slice la ln lc, .slice fa fn fc] 25)).alloc (.cells #[.int .i64 kx, .int .i64 nx, .string sx, .slice lax lnx lcx, .slice fax fnx fcx] 25)).alloc (.cells #[.int .i64 0, .int .i64 0, .string ⟨#[]⟩, .slice none 0 0, .slice none 0 0] 25)).heap.size (((w.alloc (.cells #[.int .i64 k, .int .i64 n, .string s, .slice la ln lc, .slice fa fn fc] 25)).alloc (.cells #[.int .i64 kx, .int .i64 nx, .string sx, .slice lax lnx lcx, .slice fax fnx fcx] 25)).alloc (.cells #[.int .i64 0, .int .i64 0, .string ⟨#[]⟩, .slice none 0 0, .slice none 0 0] 25)) (wC.setCell ⟨w2.heap.size, 3, none⟩ (.slice (some ⟨gN, 0, none⟩) nF nF)) := (HBT.out.trans (HUC.out.mono HBT.out.size)).setCell (show _ ≤ w2.heap.size by omega) _;have hbwC : Below w.heap.size w (wC.setCell ⟨w2.heap.size, 3, none⟩ (.slice (some ⟨gN, 0, none⟩) nF nF)) := (HBWU.out.trans (HUC.out.mono HBWU.out.size)).setCell (show _ ≤ w2.heap.size by omega) _
   have hLM : Lies (wC.setCell ⟨w2.heap.size, 3, none⟩ (.slice (some ⟨gN, 0, none⟩) nF nF)) ((GV.mk 5 n2 s2 ln2 l2 fn2 nm2 f2).more gx) (.agg #[.int .i64 5, .int .i64 n2, .string s2, .slice (some ⟨gN, 0, none⟩) nF nF, .slice fa2 fn2 fc2]) := by
    obtain ⟨hv1, hv2⟩ := HVS.out;obtain ⟨i1, i2, i3, i4, i5, i6⟩ := HP2.out;obtain ⟨a9, c9, e9, h91, h92, hF9⟩ := vals_spl (w := (wC.setCell ⟨w2.heap.size, 3, none⟩ (.slice (some ⟨gN, 0, none⟩) nF nF))) (vs := vs) (ms := [.agg #[.int .i64 kx, .int .i64 nx, .string sx, .slice lax lnx lcx, .slice fax fnx fcx]]) (l := l2) (x := fun _ => gx) (at' := ln2) (gone := 0) (n := nF) (ownsRow_setCell_below (a := ⟨w2.heap.size, 3, none⟩) HOC.out (by show w2.heap.size < gN; omega) _) (by rw [hv1]; exact HNF.out) (by omega) (fun i hi => (hv2 i hi).below hbwC) (one_lies (HX.out.below hbwC))
    cases e9
    show Lies (wC.setCell ⟨w2.heap.size, 3, none⟩ (.slice (some ⟨gN, 0, none⟩) nF nF)) (.mk 5 n2 s2 (ln2 - 0 + 1) (spl l2 ln2 0 1 fun _ => gx) fn2 nm2 f2) _;rw [← HNF.out];exact ⟨_, _, fa2, fc2, rfl, i1, i2, i3, h91, h92, i5, i6, hF9, i4.below hbwC⟩
   have hu8 : Below (wC.setCell ⟨w2.heap.size, 3, none⟩ (.slice (some ⟨gN, 0, none⟩) nF nF)).heap.size (wC.setCell ⟨w2.heap.size, 3, none⟩ (.slice (some ⟨gN, 0, none⟩) nF nF)) ((wC.setCell ⟨w2.heap.size, 3, none⟩ (.slice (some ⟨gN, 0, none⟩) nF nF)).alloc (.cells #[.int .i64 5, .int .i64 n2, .string s2, .slice (some ⟨gN, 0, none⟩) nF nF, .slice fa2 fn2 fc2] 25)) := (Below.refl _ _).alloc (Nat.le_refl _) _;have hw5s : (wC.setCell ⟨w2.heap.size, 3, none⟩ (.slice (some ⟨gN, 0, none⟩) nF nF)).heap.size = wC.heap.size := by simp
   have hvm := vals1 (w := (wC.setCell ⟨w2.heap.size, 3, none⟩ (.slice (some ⟨gN, 0, none⟩) nF nF))) (t := 25) (cs := #[.int .i64 5, .int .i64 n2, .string s2, .slice (some ⟨gN, 0, none⟩) nF nF, .slice fa2 fn2 fc2]) hLM rfl;rw [hw5s] at hvm;have hwu8 : Below w.heap.size w ((wC.setCell ⟨w2.heap.size, 3, none⟩ (.slice (some ⟨gN, 0, none⟩) nF nF)).alloc (.cells #[.int .i64 5, .int .i64 n2, .string s2, .slice (some ⟨gN, 0, none⟩) nF nF, .slice fa2 fn2 fc2] 25)) := hbwC.trans (hu8.mono hbwC.size);have HSTR8 : Hid (Strs ((wC.setCell ⟨w2.heap.size, 3, none⟩ (.slice (some ⟨gN, 0, none⟩) nF nF)).alloc (.cells #[.int .i64 5, .int .i64 n2, .string s2, .slice (some ⟨gN, 0, none⟩) nF nF, .slice fa2 fn2 fc2] 25)) sa l) := hidI (HSTR.out.below (((HB12.out.trans (HUC.out.mono HB12.out.size)).setCell (show _ ≤ w2.heap.size by omega) _).trans (hu8.mono (by have := HUC.out.size; simp at this ⊢; omega))));have HPT : Hid (Calls Try.prog 39 #[.agg #[.int .i64 k, .int .i64 n, .string s, .slice la ln lc, .slice fa fn fc], .slice sa l.length sc, .slice (some ⟨wC.heap.size, 0, none⟩) 1 1] ((wC.setCell ⟨w2.heap.size, 3, none⟩ (.slice (some ⟨gN, 0, none⟩) nF nF)).alloc (.cells #[.int .i64 5, .int .i64 n2, .string s2, .slice (some ⟨gN, 0, none⟩) nF nF, .slice fa2 fn2 fc2] 25)) fun e w' => PutEnd ((wC.setCell ⟨w2.heap.size, 3, none⟩ (.slice (some ⟨gN, 0, none⟩) nF nF)).alloc (.cells #[.int .i64 5, .int .i64 n2, .string s2, .slice (some ⟨gN, 0, none⟩) nF nF, .slice fa2 fn2 fc2] 25)).heap.size ((wC.setCell ⟨w2.heap.size, 3, none⟩ (.slice (some ⟨gN, 0, none⟩) nF nF)).alloc (.cells #[.int .i64 5, .int .i64 n2, .string s2, .slice (some ⟨gN, 0, none⟩) nF nF, .slice fa2 fn2 fc2] 25)).heap.size w' (GV.put l g 1 (fun _ => (GV.mk 5 n2 s2 ln2 l2 fn2 nm2 f2).more gx)) e ∧ Below ((wC.setCell ⟨w2.heap.size, 3, none⟩ (.slice (some ⟨gN, 0, none⟩) nF nF)).alloc (.cells #[.int .i64 5, .int .i64 n2, .string s2, .slice (some ⟨gN, 0, none⟩) nF nF, .slice fa2 fn2 fc2] 25)).heap.size ((wC.setCell ⟨w2.heap.size, 3, none⟩ (.slice (some ⟨gN, 0, none⟩) nF nF)).alloc (.cells #[.int .i64 5, .int .i64 n2, .string s2, .slice (some ⟨gN, 0, none⟩) nF nF, .slice fa2 fn2 fc2] 25)) w') := hidI (put_any l HLNE.out g _ ((wC.setCell ⟨w2.heap.size, 3, none⟩ (.slice (some ⟨gN, 0, none⟩) nF nF)).alloc (.cells #[.int .i64 5, .int .i64 n2, .string s2, .slice (some ⟨gN, 0, none⟩) nF nF, .slice fa2 fn2 fc2] 25)) ((wC.setCell ⟨w2.heap.size, 3, none⟩ (.slice (some ⟨gN, 0, none⟩) nF nF)).alloc (.cells #[.int .i64 5, .int .i64 n2, .string s2, .slice (some ⟨gN, 0, none⟩) nF nF, .slice fa2 fn2 fc2] 25)).heap.size sa sc (some ⟨wC.heap.size, 0, none⟩) 1 1 (fun _ => (GV.mk 5 n2 s2 ln2 l2 fn2 nm2 f2).more gx) (Nat.le_refl _) (lies_all (HL.out.below hwu8)) HFIT.out HSTR8.out HST.out HSC.out.1 HSC.out.2 (vals_all hvm) (Nat.le_refl _) (Nat.le_refl _) (by unfold maxLen; omega));have hbu2 : Below (((w.alloc (.cells #[.int .i64 k, .int .i64 n, .string s, .slice la ln lc, .slice fa fn fc] 25)).alloc (.cells #[.int .i64 kx, .int .i64 nx, .string sx, .slice lax lnx lcx, .slice fax fnx fcx] 25)).alloc (.cells #[.int .i64 0, .int .i64 0, .string ⟨#[]⟩, .slice none 0 0, .slice none 0 0] 25)).heap.size (((w.alloc (.cells #[.int .i64 k, .int .i64 n, .string s, .slice la ln lc, .slice fa fn fc] 25)).alloc (.cells #[.int .i64 kx, .int .i64 nx, .string sx, .slice lax lnx lcx, .slice fax fnx fcx] 25)).alloc (.cells #[.int .i64 0, .int .i64 0, .string ⟨#[]⟩, .slice none 0 0, .slice none 0 0] 25)) ((wC.setCell ⟨w2.heap.size, 3, none⟩ (.slice (some ⟨gN, 0, none⟩) nF nF)).alloc (.cells #[.int .i64 5, .int .i64 n2, .string s2, .slice (some ⟨gN, 0, none⟩) nF nF, .slice fa2 fn2 fc2] 25)) := hBXC.trans (hu8.mono hBXC.size)
   have HBU2 : Hid (Below (((w.alloc (.cells #[.int .i64 k, .int .i64 n, .string s, .slice la ln lc, .slice fa fn fc] 25)).alloc (.cells #[.int .i64 kx, .int .i64 nx, .string sx, .slice lax lnx lcx, .slice fax fnx fcx] 25)).alloc (.cells #[.int .i64 0, .int .i64 0, .string ⟨#[]⟩, .slice none 0 0, .slice none 0 0] 25)).heap.size (((w.alloc (.cells #[.int .i64 k, .int .i64 n, .string s, .slice la ln lc, .slice fa fn fc] 25)).alloc (.cells #[.int .i64 kx, .int .i64 nx, .string sx, .slice lax lnx lcx, .slice fax fnx fcx] 25)).alloc (.cells #[.int .i64 0, .int .i64 0, .string ⟨#[]⟩, .slice none 0 0, .slice none 0 0] 25)) ((wC.setCell ⟨w2.heap.size, 3, none⟩ (.slice (some ⟨gN, 0, none⟩) nF nF)).alloc (.cells #[.int .i64 5, .int .i64 n2, .string s2, .slice (some ⟨gN, 0, none⟩) nF nF, .slice fa2 fn2 fc2] 25))) := hbu2;obtain ⟨c0, c1, c2, c3, c4⟩ := Blk5.cells (Blk5.below HP.out hBXC);obtain ⟨y0, y1, y2, y3, y4⟩ := Blk5.cells hI5;clear oC bC bC' hIC hI5 hBXC hbwC hLM hu8 hvm hwu8 hbu2 hxs hgN HOC HUC HSTR8 huxs d0 d1 d2 d3 d4 x0 x1 x2 x3 x4;go_wp2_with fail;refine HPT.out.mono ?_;rintro e w4 ⟨hE2, b4⟩;have hb2 := HBU2.out.trans (b4.mono HBU2.out.size)
   have hmn : ((GV.mk 5 n2 s2 ln2 l2 fn2 nm2 f2).more gx).nodes ≤ g.nodes + gx.nodes := by
    have h1 := nodes_spl5 (k := 5) (n := n2) (s' := s2) (ln := ln2) (l := l2) (fn := fn2) (nm := nm2) (f := f2) (p := ln2) (q := 0) (c := 1) (s := ⟨#[]⟩) (x := fun _ => gx) (by decide) (by omega);rw [sumG_0, sumG_1] at h1;have h2 := HYN.out;show (GV.mk 5 n2 s2 (ln2 - 0 + 1) (spl l2 ln2 0 1 fun _ => gx) fn2 nm2 f2).nodes ≤ _;have h3 : (GV.mk 5 n2 s2 ln2 l2 fn2 nm2 f2).spl ln2 0 ⟨#[]⟩ 1 (fun _ => gx) = GV.mk 5 n2 s2 (ln2 - 0 + 1) (spl l2 ln2 0 1 fun _ => gx) fn2 nm2 f2 := by simp [GV.spl]
    rw [h3] at h1;omega
   clear b4 c0 c1 c2 c3 c4 y0 y1 y2 y3 y4 e0 e1 e2 e3 e4 r0 r1 r2 r3 r4
   cases hput : GV.put l g 1 (fun _ => (GV.mk 5 n2 s2 ln2 l2 fn2 nm2 f2).more gx) with
   | error er =>
    rw [hput] at hR
    obtain ⟨rfl, hne⟩ : e = .returned (.tuple #[vZ, .int .i64 er]) ∧ er ≠ 0 := by
     rcases hE2 with ⟨er', h, h2, h3⟩ | ⟨_, _, h, _⟩
     ·rw [hput] at h; cases h; exact ⟨h3, by omega⟩
     ·rw [hput] at h; cases h
    have HR : Hid (R = .error er) := hR;have HNE : Hid (er ≠ 0) := hne;have hT := told_bad er w4 hne;have HT : Hid (Calls Try.prog 38 #[.agg #[.int .i64 0, .int .i64 0, .string ⟨#[]⟩, .slice none 0 0, .slice none 0 0], .int .i64 er] w4 fun e w' => e = .returned (.tuple #[.agg #[.int .i64 0, .int .i64 0, .string ⟨#[]⟩, .slice none 0 0, .slice none 0 0], .int .i64 er]) ∧ Below w4.heap.size w4 w') := hT;clear hR hE2 hne hT;unfold vZ;go_wp2_with fail;refine HT.out.mono ?_;rintro e w3 ⟨rfl, b3⟩;have hb3 := hb2.trans (b3.mono hb2.size);obtain ⟨z0, z1, z2, z3, z4⟩ := Blk5.cells (Blk5.below HQ.out hb3);obtain ⟨q0, q1, q2, q3, q4⟩ := Blk5.free (Blk5.below HQ.out hb3);have HB : Hid (Below w.heap.size w w3) := hidI (hbx.trans (hb3.mono hbx.size));have hrb : w.heap.size ≤ w.heap.size + 2 := by omega
    clear b3 hb3 hb2;go_wp2_with fail
    refine bodyPost_ret (v := .tuple #[vZ, .int .i64 er]) ?_ rfl ⟨Or.inl ⟨er, HR.out, HNE.out, rfl⟩, ?_⟩
    ·have hres : Try.f16.results = #[.cell 6 25, .tmp 7] := by kernel_rfl
     simp only [results, hres];go_simp
     rfl
    ·exact ((((HB.out.setCell hrb _).setCell hrb _).setCell hrb _).setCell hrb _).setCell hrb _
   | ok y =>
    rw [hput] at hR
    obtain ⟨v2, rfl, hL2⟩ : ∃ v2, e = .returned (.tuple #[v2, .int .i64 0]) ∧ Lies w4 y v2 := by
     rcases hE2 with ⟨er', h, _⟩ | ⟨y', v', h, h2, h3⟩
     ·rw [hput] at h; cases h
     ·rw [hput] at h; cases h; exact ⟨v', h2, lies_veil h3⟩
    obtain ⟨k5, n5, s5, la5, ln5, lc5, fa5, fn5, fc5, rfl⟩ := hL2.agg;have hyn := put_nodes _ _ _ _ _ hput;rw [sumG_1] at hyn;have hLN := HLN.out;have HT : Hid (Calls Try.prog 38 #[.agg #[.int .i64 k5, .int .i64 n5, .string s5, .slice la5 ln5 lc5, .slice fa5 fn5 fc5], .int .i64 0] w4 fun e w' => OutSay w4.heap.size w' (toldR (.ok y)) e ∧ Below w4.heap.size w4 w') := hidI (told_ok y _ w4 hL2 (by omega));clear hE2 hyn hL2 hput;have hw4s := hb2.size;rw [hbs] at hw4s;go_wp2_with fail;refine HT.out.mono ?_;rintro e w3 ⟨h3, b3⟩;have hb3 := hb2.trans (b3.mono hb2.size);obtain ⟨z0, z1, z2, z3, z4⟩ := Blk5.cells (Blk5.below HQ.out hb3);obtain ⟨q0, q1, q2, q3, q4⟩ := Blk5.free (Blk5.below HQ.out hb3);have HB : Hid (Below w.heap.size w w3) := hidI (hbx.trans (hb3.mono hbx.size));have hrb : w.heap.size ≤ w.heap.size + 2 := by omega
    rcases h3 with ⟨er, h4, hne, rfl⟩ | ⟨y', v3, h4, rfl, hF3, he3⟩
    ·have HR : Hid (R = .error er) := hidI (by rw [hR]; exact h4);have HNE : Hid (er ≠ 0) := hne;clear b3 hb3 hb2 h4 hne hR;unfold vZ;go_wp2_with fail
     refine bodyPost_ret (v := .tuple #[vZ, .int .i64 er]) ?_ rfl ⟨Or.inl ⟨er, HR.out, HNE.out, rfl⟩, ?_⟩
     ·have hres : Try.f16.results = #[.cell 6 25, .tmp 7] := by kernel_rfl
      simp only [results, hres];go_simp
      rfl
     ·exact ((((HB.out.setCell hrb _).setCell hrb _).setCell hrb _).setCell hrb _).setCell hrb _
    ·have HR : Hid (R = .ok y') := hidI (by rw [hR]; exact h4);obtain ⟨k3, n3, s3, la3, ln3, lc3, fa3, fn3, fc3, rfl⟩ := hF3.lies.agg;have HF3 : Hid (From w4.heap.size w3 y' _) := hF3;have HE3 : Hid (y'.err = 0) := he3;clear b3 hb3 hb2 h4 hR hF3 he3;go_wp2_with fail
     refine bodyPost_ret (v := .tuple #[.agg #[.int .i64 k3, .int .i64 n3, .string s3, .slice la3 ln3 lc3, .slice fa3 fn3 fc3], .int .i64 0]) ?_ rfl ⟨Or.inr ⟨y', _, HR.out, rfl, ?_, HE3.out⟩, ?_⟩
     ·have hres : Try.f16.results = #[.cell 6 25, .tmp 7] := by kernel_rfl
      simp only [results, hres];go_simp
     ·exact From.le (((((From.setCell HF3.out (by omega) _).setCell (by omega) _).setCell (by omega) _).setCell (by omega) _).setCell (by omega) _) (by omega)
     ·exact ((((HB.out.setCell hrb _).setCell hrb _).setCell hrb _).setCell hrb _).setCell hrb _
end Go.Proofs.Ytjngbogbbglbnaa

/- Contract of path.Add, of any value and any path. -/
namespace Go.Proofs.Ytjngbogbbglbnaa
open Go.RowKit

theorem wrap_range (x : Int) : Int64 (IntKind.i64.wrap x) := by
 unfold Int64;rw [IntKind.wrap_i64];omega
set_option maxHeartbeats 1500000 in
set_option maxRecDepth 1000000 in
theorem add_any (g : GV) (p : ByteArray) (nd : Int) (v : Value) (w : World) (hL : Lies w g v) (hN : g.nodes ≤ 5000) (hp : p.size ≤ 140737488355328) (_hnd : Int64 nd) :
  Calls Try.prog 17 #[v, .string p, .int .i64 nd] w fun e w' => OutSay w.heap.size w' (addR g p nd) e ∧ Below w.heap.size w w' := by
 obtain ⟨R, hR⟩ : ∃ R, R = addR g p nd := ⟨_, rfl⟩;rw [← hR];unfold addR at hR;obtain ⟨k, n, s, la, ln, lc, fa, fn, fc, rfl⟩ := hL.agg;have hbx : Below w.heap.size w ((w.alloc (.cells #[.int .i64 k, .int .i64 n, .string s, .slice la ln lc, .slice fa fn fc] 25)).alloc (.cells #[.int .i64 0, .int .i64 0, .string ⟨#[]⟩, .slice none 0 0, .slice none 0 0] 25)) := ((Below.refl w.heap.size w).alloc (Nat.le_refl _) _).alloc (by simp) _;have hbs : ((w.alloc (.cells #[.int .i64 k, .int .i64 n, .string s, .slice la ln lc, .slice fa fn fc] 25)).alloc (.cells #[.int .i64 0, .int .i64 0, .string ⟨#[]⟩, .slice none 0 0, .slice none 0 0] 25)).heap.size = w.heap.size + 2 := by simp
 have hBB := box2_cells (Below.refl _ ((w.alloc (.cells #[.int .i64 k, .int .i64 n, .string s, .slice la ln lc, .slice fa fn fc] 25)).alloc (.cells #[.int .i64 0, .int .i64 0, .string ⟨#[]⟩, .slice none 0 0, .slice none 0 0] 25)));have HP : Hid (Blk5 ((w.alloc (.cells #[.int .i64 k, .int .i64 n, .string s, .slice la ln lc, .slice fa fn fc] 25)).alloc (.cells #[.int .i64 0, .int .i64 0, .string ⟨#[]⟩, .slice none 0 0, .slice none 0 0] 25)) w.heap.size (.int .i64 k) (.int .i64 n) (.string s) (.slice la ln lc) (.slice fa fn fc)) := hBB.1;have HQ : Hid (Blk5 ((w.alloc (.cells #[.int .i64 k, .int .i64 n, .string s, .slice la ln lc, .slice fa fn fc] 25)).alloc (.cells #[.int .i64 0, .int .i64 0, .string ⟨#[]⟩, .slice none 0 0, .slice none 0 0] 25)) (w.heap.size + 1) (.int .i64 0) (.int .i64 0) (.string ⟨#[]⟩) (.slice none 0 0) (.slice none 0 0)) := hBB.2;clear hBB;have HBG : Hid (Calls Try.prog 34 #[.agg #[.int .i64 k, .int .i64 n, .string s, .slice la ln lc, .slice fa fn fc], .string p, .slice none 0 0] ((w.alloc (.cells #[.int .i64 k, .int .i64 n, .string s, .slice la ln lc, .slice fa fn fc] 25)).alloc (.cells #[.int .i64 0, .int .i64 0, .string ⟨#[]⟩, .slice none 0 0, .slice none 0 0] 25)) fun e w' => BegSay w' (begR g p 0 fun _ => .nil) e ∧ Below ((w.alloc (.cells #[.int .i64 k, .int .i64 n, .string s, .slice la ln lc, .slice fa fn fc] 25)).alloc (.cells #[.int .i64 0, .int .i64 0, .string ⟨#[]⟩, .slice none 0 0, .slice none 0 0] 25)).heap.size ((w.alloc (.cells #[.int .i64 k, .int .i64 n, .string s, .slice la ln lc, .slice fa fn fc] 25)).alloc (.cells #[.int .i64 0, .int .i64 0, .string ⟨#[]⟩, .slice none 0 0, .slice none 0 0] 25)) w') := hidI (begin_any g _ p none 0 0 (fun _ => .nil) ((w.alloc (.cells #[.int .i64 k, .int .i64 n, .string s, .slice la ln lc, .slice fa fn fc] 25)).alloc (.cells #[.int .i64 0, .int .i64 0, .string ⟨#[]⟩, .slice none 0 0, .slice none 0 0] 25)) (hL.below hbx) (by omega) hp (vals_no _ _ _) (by omega) (by omega) (by unfold maxLen; omega) (fun h => by omega));have HL : Hid (Lies w g _) := hL;clear hL
 cases hbe : begR g p 0 (fun _ => .nil) with
 | error er =>
  rw [hbe] at hR;have HR : Hid (R = .error er) := hR
  go_enter Try.func17, Try.ntmps17
  go_wp2_with fail;refine HBG.out.mono ?_;rintro e w1 ⟨h1, b1⟩
  obtain ⟨rfl, hne⟩ : e = .returned (.tuple #[.slice none 0 0, .int .i64 er]) ∧ er ≠ 0 := by
   rcases h1 with ⟨er', h, h2, h3⟩ | ⟨_, _, _, h, _⟩
   ·rw [hbe] at h; cases h; exact ⟨h3, h2⟩
   ·rw [hbe] at h; cases h
  have heb : (er != 0) = true := by rw [bne_iff_ne]; exact hne
  have HNE : Hid (er ≠ 0) := hne;have hb3 := b1;obtain ⟨z0, z1, z2, z3, z4⟩ := Blk5.cells (Blk5.below HQ.out hb3);obtain ⟨q0, q1, q2, q3, q4⟩ := Blk5.free (Blk5.below HQ.out hb3);have HB : Hid (Below w.heap.size w w1) := hidI (hbx.trans (hb3.mono hbx.size));have hrb : w.heap.size ≤ w.heap.size + 1 := by omega
  clear h1 hR hbe hne b1 hb3 hbx;go_wp2_with fail
  refine bodyPost_ret (v := .tuple #[vZ, .int .i64 er]) ?_ rfl ⟨Or.inl ⟨er, HR.out, HNE.out, rfl⟩, ?_⟩
  ·have hres : Try.f17.results = #[.cell 6 25, .tmp 7] := by kernel_rfl
   simp only [results, hres];go_simp
   rfl
  ·exact ((((HB.out.setCell hrb _).setCell hrb _).setCell hrb _).setCell hrb _).setCell hrb _
 | ok l =>
  rw [hbe] at hR;simp only at hR
  go_enter Try.func17, Try.ntmps17
  go_wp2_with fail;refine HBG.out.mono ?_;rintro e w1 ⟨h1, b1⟩
  obtain ⟨sa, sc, rfl, hsc1, hsc2, hstr⟩ : ∃ sa sc, e = .returned (.tuple #[.slice sa l.length sc, .int .i64 0]) ∧ l.length ≤ sc ∧ sc ≤ maxLen ∧ Strs w1 sa l := by
   rcases h1 with ⟨er', h, _⟩ | ⟨l', sa, sc, h, h2⟩
   ·rw [hbe] at h; cases h
   ·rw [hbe] at h; cases h; exact ⟨sa, sc, h2⟩
  have HSTR : Hid (Strs w1 sa l) := hstr;have HSC : Hid (l.length ≤ sc ∧ sc ≤ maxLen) := hidI ⟨hsc1, hsc2⟩;obtain ⟨hge, hso, hxe⟩ := beg_ok hbe;have hsa := steps_all hso;have HST : Hid (∀ s ∈ l, isStepB s.data.toList = true) := hsa.1;have HLN : Hid (1 ≤ l.length ∧ l.length ≤ 8) := hidI ⟨hsa.2.2.1, hsa.2.1⟩;have hlne : l ≠ [] := fun h => by have := HLN.out.1; rw [h] at this; simp at this
  have HLNE : Hid (l ≠ []) := hlne;have HFIT : Hid g.fit := hidI ⟨err_every hge, by omega⟩;have hb1 := b1;have hbw1 : Below w.heap.size w w1 := hbx.trans (hb1.mono hbx.size);obtain ⟨c0, c1, c2, c3, c4⟩ := Blk5.cells (Blk5.below HP.out hb1);have HLD : Hid (Calls Try.prog 40 #[.agg #[.int .i64 k, .int .i64 n, .string s, .slice la ln lc, .slice fa fn fc], .slice sa l.length sc, .int .i64 3] w1 fun e w' => LedSay w (ledR g l 3) e ∧ Below w1.heap.size w1 w') := hidI (leadTo_any g l sa sc 3 _ w w1 HL.out (below_keeps hbw1) HFIT.out HSTR.out HST.out hsc1 hsc2);have HB1 : Hid (Below ((w.alloc (.cells #[.int .i64 k, .int .i64 n, .string s, .slice la ln lc, .slice fa fn fc] 25)).alloc (.cells #[.int .i64 0, .int .i64 0, .string ⟨#[]⟩, .slice none 0 0, .slice none 0 0] 25)).heap.size ((w.alloc (.cells #[.int .i64 k, .int .i64 n, .string s, .slice la ln lc, .slice fa fn fc] 25)).alloc (.cells #[.int .i64 0, .int .i64 0, .string ⟨#[]⟩, .slice none 0 0, .slice none 0 0] 25)) w1) := hb1;have HBW1 : Hid (Below w.heap.size w w1) := hbw1;clear h1 hbe hge hso hxe hsa hlne hstr hsc1 hsc2 b1 hb1 hbw1 
  cases hy : ledR g l 3 with
  | error er =>
   rw [hy] at hR;have HR : Hid (R = .error er) := hR;go_wp2_with fail;refine HLD.out.mono ?_;rintro e w2 ⟨h2, b2⟩
   obtain ⟨rfl, hne⟩ : e = .returned (.tuple #[.agg #[.int .i64 0, .int .i64 0, .string ⟨#[]⟩, .slice none 0 0, .slice none 0 0], .int .i64 er]) ∧ er ≠ 0 := by
    rcases h2 with ⟨er', h, h3, h4⟩ | ⟨_, _, h, _⟩
    ·rw [hy] at h; cases h; exact ⟨h4, h3⟩
    ·rw [hy] at h; cases h
   have heb : (er != 0) = true := by rw [bne_iff_ne]; exact hne
   have HNE : Hid (er ≠ 0) := hne;have hb2 : Below ((w.alloc (.cells #[.int .i64 k, .int .i64 n, .string s, .slice la ln lc, .slice fa fn fc] 25)).alloc (.cells #[.int .i64 0, .int .i64 0, .string ⟨#[]⟩, .slice none 0 0, .slice none 0 0] 25)).heap.size ((w.alloc (.cells #[.int .i64 k, .int .i64 n, .string s, .slice la ln lc, .slice fa fn fc] 25)).alloc (.cells #[.int .i64 0, .int .i64 0, .string ⟨#[]⟩, .slice none 0 0, .slice none 0 0] 25)) (w2.alloc (.cells #[.int .i64 0, .int .i64 0, .string ⟨#[]⟩, .slice none 0 0, .slice none 0 0] 25)) := HB1.out.trans ((b2.alloc b2.size _).mono HB1.out.size);obtain ⟨z0, z1, z2, z3, z4⟩ := Blk5.cells (Blk5.below HQ.out hb2);obtain ⟨q0, q1, q2, q3, q4⟩ := Blk5.free (Blk5.below HQ.out hb2);have HB : Hid (Below w.heap.size w (w2.alloc (.cells #[.int .i64 0, .int .i64 0, .string ⟨#[]⟩, .slice none 0 0, .slice none 0 0] 25))) := hidI (hbx.trans (hb2.mono hbx.size));have hrb : w.heap.size ≤ w.heap.size + 1 := by omega
   clear h2 hR hy hne b2 hb2 hbx c0 c1 c2 c3 c4;go_wp2_with fail
   refine bodyPost_ret (v := .tuple #[vZ, .int .i64 er]) ?_ rfl ⟨Or.inl ⟨er, HR.out, HNE.out, rfl⟩, ?_⟩
   ·have hres : Try.f17.results = #[.cell 6 25, .tmp 7] := by kernel_rfl
    simp only [results, hres];go_simp
    rfl
   ·exact ((((HB.out.setCell hrb _).setCell hrb _).setCell hrb _).setCell hrb _).setCell hrb _
  | ok y =>
   rw [hy] at hR;simp only at hR;go_wp2_with fail;refine HLD.out.mono ?_;rintro e w2 ⟨h2, b2⟩
   obtain ⟨v2, rfl, hL2, hf2⟩ : ∃ v2, e = .returned (.tuple #[v2, .int .i64 0]) ∧ Lies w y v2 ∧ y.fit := by
    rcases h2 with ⟨er', h, _⟩ | ⟨_, v2, h, h2, h3, h4⟩
    ·rw [hy] at h; cases h
    ·rw [hy] at h; cases h; exact ⟨v2, h2, h3, h4⟩
   obtain ⟨hlead, hkd⟩ := led_is hy;have hyn2 := lead_nodes _ _ _ hlead
   obtain ⟨k2, n2, s2, ln2, l2, fn2, nm2, f2, rfl⟩ : ∃ k2 n2 s2 ln2 l2 fn2 nm2 f2, y = .mk k2 n2 s2 ln2 l2 fn2 nm2 f2 := by
    cases y with
    | nil => exact False.elim hL2
    | mk k2 n2 s2 ln2 l2 fn2 nm2 f2 => exact ⟨_, _, _, _, _, _, _, _, rfl⟩
   obtain rfl : k2 = 3 := hkd;have hfew2 := lies_few hL2 hf2.2;obtain ⟨la2, lc2, fa2, fc2, rfl, hk2, hn2, hs2, h42, h52, h62, h72, hvl2, hvf2⟩ := hL2;obtain ⟨m, hm⟩ : ∃ m, IntKind.i64.wrap (n2 + nd) = m := ⟨_, rfl⟩;change R = addO g l (.mk 3 n2 s2 ln2 l2 fn2 nm2 f2) n2 nd (IntKind.i64.wrap (n2 + nd)) at hR;rw [hm] at hR;unfold addO at hR;have hmr : Int64 m := by rw [← hm]; exact wrap_range _
   have hbw2 := HBW1.out.trans (b2.mono HBW1.out.size);have hLM : Lies w ((GV.mk 3 n2 s2 ln2 l2 fn2 nm2 f2).withN m) (.agg #[.int .i64 3, .int .i64 m, .string s2, .slice la2 ln2 lc2, .slice fa2 fn2 fc2]) := ⟨la2, lc2, fa2, fc2, rfl, hk2, hmr, hs2, h42, h52, h62, h72, hvl2, hvf2⟩;have HLM := hidI hLM
   have HYN : Hid (((GV.mk 3 n2 s2 ln2 l2 fn2 nm2 f2).withN m).nodes ≤ g.nodes) := hidI (by
    have : ((GV.mk 3 n2 s2 ln2 l2 fn2 nm2 f2).withN m).nodes = (GV.mk 3 n2 s2 ln2 l2 fn2 nm2 f2).nodes := rfl
    omega)
   have HI : Hid (Blk5 (w2.alloc (.cells #[.int .i64 3, .int .i64 n2, .string s2, .slice la2 ln2 lc2, .slice fa2 fn2 fc2] 25)) w2.heap.size (.int .i64 3) (.int .i64 n2) (.string s2) (.slice la2 ln2 lc2) (.slice fa2 fn2 fc2)) := Blk5.new w2 _ _ _ _ _;have HBW2 : Hid (Below w.heap.size w w2) := hbw2;have HB2' : Hid (Below ((w.alloc (.cells #[.int .i64 k, .int .i64 n, .string s, .slice la ln lc, .slice fa fn fc] 25)).alloc (.cells #[.int .i64 0, .int .i64 0, .string ⟨#[]⟩, .slice none 0 0, .slice none 0 0] 25)).heap.size ((w.alloc (.cells #[.int .i64 k, .int .i64 n, .string s, .slice la ln lc, .slice fa fn fc] 25)).alloc (.cells #[.int .i64 0, .int .i64 0, .string ⟨#[]⟩, .slice none 0 0, .slice none 0 0] 25)) w2) := hidI (HB1.out.trans (b2.mono HB1.out.size));have HSTR2 : Hid (Strs w2 sa l) := hidI (HSTR.out.below b2);have hw1n := HB2'.out.size;rw [hbs] at hw1n;clear hbw2 hlead hyn2 b2 h2 hy hf2 hfew2 hk2 hn2 hs2 h42 h52 h62 h72 hvl2 hvf2 hLM c0 c1 c2 c3 c4 hmr
   by_cases hp1 : 0 < nd
   ·have hp2 : ¬ nd < 0 := by omega
    by_cases hp3 : m < n2
    ·have HR : Hid (R = .error 12) := hidI (by rw [hR, if_pos (Or.inl ⟨hp1, hp3⟩)]);have hb2 : Below ((w.alloc (.cells #[.int .i64 k, .int .i64 n, .string s, .slice la ln lc, .slice fa fn fc] 25)).alloc (.cells #[.int .i64 0, .int .i64 0, .string ⟨#[]⟩, .slice none 0 0, .slice none 0 0] 25)).heap.size ((w.alloc (.cells #[.int .i64 k, .int .i64 n, .string s, .slice la ln lc, .slice fa fn fc] 25)).alloc (.cells #[.int .i64 0, .int .i64 0, .string ⟨#[]⟩, .slice none 0 0, .slice none 0 0] 25)) (w2.alloc (.cells #[.int .i64 3, .int .i64 m, .string s2, .slice la2 ln2 lc2, .slice fa2 fn2 fc2] 25)) := HB2'.out.alloc HB2'.out.size _;obtain ⟨z0, z1, z2, z3, z4⟩ := Blk5.cells (Blk5.below HQ.out hb2);obtain ⟨q0, q1, q2, q3, q4⟩ := Blk5.free (Blk5.below HQ.out hb2);have HB : Hid (Below w.heap.size w (w2.alloc (.cells #[.int .i64 3, .int .i64 m, .string s2, .slice la2 ln2 lc2, .slice fa2 fn2 fc2] 25))) := hidI (hbx.trans (hb2.mono hbx.size));have hrb : w.heap.size ≤ w.heap.size + 1 := by omega
     clear hR hb2 hbx;go_wp2_with fail
     refine bodyPost_ret (v := .tuple #[vZ, .int .i64 12]) ?_ rfl ⟨Or.inl ⟨12, HR.out, (by decide), rfl⟩, ?_⟩
     ·have hres : Try.f17.results = #[.cell 6 25, .tmp 7] := by kernel_rfl
      simp only [results, hres];go_simp
      rfl
     ·exact ((((HB.out.setCell hrb _).setCell hrb _).setCell hrb _).setCell hrb _).setCell hrb _
    ·rw [if_neg (fun h => by omega)] at hR;have hbwC : Below w.heap.size w (w2.alloc (.cells #[.int .i64 3, .int .i64 m, .string s2, .slice la2 ln2 lc2, .slice fa2 fn2 fc2] 25)) := HBW2.out.alloc HBW2.out.size _;have hBXC : Below ((w.alloc (.cells #[.int .i64 k, .int .i64 n, .string s, .slice la ln lc, .slice fa fn fc] 25)).alloc (.cells #[.int .i64 0, .int .i64 0, .string ⟨#[]⟩, .slice none 0 0, .slice none 0 0] 25)).heap.size ((w.alloc (.cells #[.int .i64 k, .int .i64 n, .string s, .slice la ln lc, .slice fa fn fc] 25)).alloc (.cells #[.int .i64 0, .int .i64 0, .string ⟨#[]⟩, .slice none 0 0, .slice none 0 0] 25)) (w2.alloc (.cells #[.int .i64 3, .int .i64 m, .string s2, .slice la2 ln2 lc2, .slice fa2 fn2 fc2] 25)) := HB2'.out.alloc HB2'.out.size _;have hu8 : Below (w2.alloc (.cells #[.int .i64 3, .int .i64 m, .string s2, .slice la2 ln2 lc2, .slice fa2 fn2 fc2] 25)).heap.size (w2.alloc (.cells #[.int .i64 3, .int .i64 m, .string s2, .slice la2 ln2 lc2, .slice fa2 fn2 fc2] 25)) ((w2.alloc (.cells #[.int .i64 3, .int .i64 m, .string s2, .slice la2 ln2 lc2, .slice fa2 fn2 fc2] 25)).alloc (.cells #[.int .i64 3, .int .i64 m, .string s2, .slice la2 ln2 lc2, .slice fa2 fn2 fc2] 25)) := (Below.refl _ _).alloc (Nat.le_refl _) _;have hw5s : (w2.alloc (.cells #[.int .i64 3, .int .i64 m, .string s2, .slice la2 ln2 lc2, .slice fa2 fn2 fc2] 25)).heap.size = w2.heap.size + 1 := by simp
     have hvm := vals1 (w := (w2.alloc (.cells #[.int .i64 3, .int .i64 m, .string s2, .slice la2 ln2 lc2, .slice fa2 fn2 fc2] 25))) (t := 25) (cs := #[.int .i64 3, .int .i64 m, .string s2, .slice la2 ln2 lc2, .slice fa2 fn2 fc2]) (HLM.out.below hbwC) rfl;rw [hw5s] at hvm;have hwu8 : Below w.heap.size w ((w2.alloc (.cells #[.int .i64 3, .int .i64 m, .string s2, .slice la2 ln2 lc2, .slice fa2 fn2 fc2] 25)).alloc (.cells #[.int .i64 3, .int .i64 m, .string s2, .slice la2 ln2 lc2, .slice fa2 fn2 fc2] 25)) := hbwC.trans (hu8.mono hbwC.size);have HPT : Hid (Calls Try.prog 39 #[.agg #[.int .i64 k, .int .i64 n, .string s, .slice la ln lc, .slice fa fn fc], .slice sa l.length sc, .slice (some ⟨w2.heap.size + 1, 0, none⟩) 1 1] ((w2.alloc (.cells #[.int .i64 3, .int .i64 m, .string s2, .slice la2 ln2 lc2, .slice fa2 fn2 fc2] 25)).alloc (.cells #[.int .i64 3, .int .i64 m, .string s2, .slice la2 ln2 lc2, .slice fa2 fn2 fc2] 25)) fun e w' => PutEnd ((w2.alloc (.cells #[.int .i64 3, .int .i64 m, .string s2, .slice la2 ln2 lc2, .slice fa2 fn2 fc2] 25)).alloc (.cells #[.int .i64 3, .int .i64 m, .string s2, .slice la2 ln2 lc2, .slice fa2 fn2 fc2] 25)).heap.size ((w2.alloc (.cells #[.int .i64 3, .int .i64 m, .string s2, .slice la2 ln2 lc2, .slice fa2 fn2 fc2] 25)).alloc (.cells #[.int .i64 3, .int .i64 m, .string s2, .slice la2 ln2 lc2, .slice fa2 fn2 fc2] 25)).heap.size w' (GV.put l g 1 (fun _ => (GV.mk 3 n2 s2 ln2 l2 fn2 nm2 f2).withN m)) e ∧ Below ((w2.alloc (.cells #[.int .i64 3, .int .i64 m, .string s2, .slice la2 ln2 lc2, .slice fa2 fn2 fc2] 25)).alloc (.cells #[.int .i64 3, .int .i64 m, .string s2, .slice la2 ln2 lc2, .slice fa2 fn2 fc2] 25)).heap.size ((w2.alloc (.cells #[.int .i64 3, .int .i64 m, .string s2, .slice la2 ln2 lc2, .slice fa2 fn2 fc2] 25)).alloc (.cells #[.int .i64 3, .int .i64 m, .string s2, .slice la2 ln2 lc2, .slice fa2 fn2 fc2] 25)) w') := hidI (put_any l HLNE.out g _ ((w2.alloc (.cells #[.int .i64 3, .int .i64 m, .string s2, .slice la2 ln2 lc2, .slice fa2 fn2 fc2] 25)).alloc (.cells #[.int .i64 3, .int .i64 m, .string s2, .slice la2 ln2 lc2, .slice fa2 fn2 fc2] 25)) ((w2.alloc (.cells #[.int .i64 3, .int .i64 m, .string s2, .slice la2 ln2 lc2, .slice fa2 fn2 fc2] 25)).alloc (.cells #[.int .i64 3, .int .i64 m, .string s2, .slice la2 ln2 lc2, .slice fa2 fn2 fc2] 25)).heap.size sa sc (some ⟨w2.heap.size + 1, 0, none⟩) 1 1 (fun _ => (GV.mk 3 n2 s2 ln2 l2 fn2 nm2 f2).withN m) (Nat.le_refl _) (lies_all (HL.out.below hwu8)) HFIT.out ((HSTR2.out.below ((Below.refl _ w2).alloc (Nat.le_refl _) _)).below hu8) HST.out HSC.out.1 HSC.out.2 (vals_all hvm) (Nat.le_refl _) (Nat.le_refl _) (by unfold maxLen; omega));have hbu2 : Below ((w.alloc (.cells #[.int .i64 k, .int .i64 n, .string s, .slice la ln lc, .slice fa fn fc] 25)).alloc (.cells #[.int .i64 0, .int .i64 0, .string ⟨#[]⟩, .slice none 0 0, .slice none 0 0] 25)).heap.size ((w.alloc (.cells #[.int .i64 k, .int .i64 n, .string s, .slice la ln lc, .slice fa fn fc] 25)).alloc (.cells #[.int .i64 0, .int .i64 0, .string ⟨#[]⟩, .slice none 0 0, .slice none 0 0] 25)) ((w2.alloc (.cells #[.int .i64 3, .int .i64 m, .string s2, .slice la2 ln2 lc2, .slice fa2 fn2 fc2] 25)).alloc (.cells #[.int .i64 3, .int .i64 m, .string s2, .slice la2 ln2 lc2, .slice fa2 fn2 fc2] 25)) := hBXC.trans (hu8.mono hBXC.size)
     have HBU2 : Hid (Below ((w.alloc (.cells #[.int .i64 k, .int .i64 n, .string s, .slice la ln lc, .slice fa fn fc] 25)).alloc (.cells #[.int .i64 0, .int .i64 0, .string ⟨#[]⟩, .slice none 0 0, .slice none 0 0] 25)).heap.size ((w.alloc (.cells #[.int .i64 k, .int .i64 n, .string s, .slice la ln lc, .slice fa fn fc] 25)).alloc (.cells #[.int .i64 0, .int .i64 0, .string ⟨#[]⟩, .slice none 0 0, .slice none 0 0] 25)) ((w2.alloc (.cells #[.int .i64 3, .int .i64 m, .string s2, .slice la2 ln2 lc2, .slice fa2 fn2 fc2] 25)).alloc (.cells #[.int .i64 3, .int .i64 m, .string s2, .slice la2 ln2 lc2, .slice fa2 fn2 fc2] 25))) := hbu2;obtain ⟨c0, c1, c2, c3, c4⟩ := Blk5.cells (Blk5.below HP.out hBXC);clear hbwC hBXC hu8 hw5s hvm hwu8 hbu2;go_wp2_with fail;refine HPT.out.mono ?_;rintro e w4 ⟨hE2, b4⟩;have hb2 := HBU2.out.trans (b4.mono HBU2.out.size);have hmn := HYN.out;clear b4 c0 c1 c2 c3 c4
     cases hput : GV.put l g 1 (fun _ => (GV.mk 3 n2 s2 ln2 l2 fn2 nm2 f2).withN m) with
     | error er =>
      rw [hput] at hR
      obtain ⟨rfl, hne⟩ : e = .returned (.tuple #[vZ, .int .i64 er]) ∧ er ≠ 0 := by
       rcases hE2 with ⟨er', h, h2, h3⟩ | ⟨_, _, h, _⟩
       ·rw [hput] at h; cases h; exact ⟨h3, by omega⟩
       ·rw [hput] at h; cases h
      have HR : Hid (R = .error er) := hR;have HNE : Hid (er ≠ 0) := hne;have hT := told_bad er w4 hne;have HT : Hid (Calls Try.prog 38 #[.agg #[.int .i64 0, .int .i64 0, .string ⟨#[]⟩, .slice none 0 0, .slice none 0 0], .int .i64 er] w4 fun e w' => e = .returned (.tuple #[.agg #[.int .i64 0, .int .i64 0, .string ⟨#[]⟩, .slice none 0 0, .slice none 0 0], .int .i64 er]) ∧ Below w4.heap.size w4 w') := hT;clear hR hE2 hne hT;unfold vZ;go_wp2_with fail;refine HT.out.mono ?_;rintro e w3 ⟨rfl, b3⟩;have hb3 := hb2.trans (b3.mono hb2.size);obtain ⟨z0, z1, z2, z3, z4⟩ := Blk5.cells (Blk5.below HQ.out hb3);obtain ⟨q0, q1, q2, q3, q4⟩ := Blk5.free (Blk5.below HQ.out hb3);have HB : Hid (Below w.heap.size w w3) := hidI (hbx.trans (hb3.mono hbx.size));have hrb : w.heap.size ≤ w.heap.size + 1 := by omega
      clear b3 hb3 hb2;go_wp2_with fail
      refine bodyPost_ret (v := .tuple #[vZ, .int .i64 er]) ?_ rfl ⟨Or.inl ⟨er, HR.out, HNE.out, rfl⟩, ?_⟩
      ·have hres : Try.f17.results = #[.cell 6 25, .tmp 7] := by kernel_rfl
       simp only [results, hres];go_simp
       rfl
      ·exact ((((HB.out.setCell hrb _).setCell hrb _).setCell hrb _).setCell hrb _).setCell hrb _
     | ok y =>
      rw [hput] at hR
      obtain ⟨v2, rfl, hL2⟩ : ∃ v2, e = .returned (.tuple #[v2, .int .i64 0]) ∧ Lies w4 y v2 := by
       rcases hE2 with ⟨er', h, _⟩ | ⟨y', v', h, h2, h3⟩
       ·rw [hput] at h; cases h
       ·rw [hput] at h; cases h; exact ⟨v', h2, lies_veil h3⟩
      obtain ⟨k5, n5, s5, la5, ln5, lc5, fa5, fn5, fc5, rfl⟩ := hL2.agg;have hyn := put_nodes _ _ _ _ _ hput;rw [sumG_1] at hyn;have hLN := HLN.out;have HT : Hid (Calls Try.prog 38 #[.agg #[.int .i64 k5, .int .i64 n5, .string s5, .slice la5 ln5 lc5, .slice fa5 fn5 fc5], .int .i64 0] w4 fun e w' => OutSay w4.heap.size w' (toldR (.ok y)) e ∧ Below w4.heap.size w4 w') := hidI (told_ok y _ w4 hL2 (by omega));clear hE2 hyn hL2 hput;have hw4s := hb2.size;rw [hbs] at hw4s;go_wp2_with fail;refine HT.out.mono ?_;rintro e w3 ⟨h3, b3⟩;have hb3 := hb2.trans (b3.mono hb2.size);obtain ⟨z0, z1, z2, z3, z4⟩ := Blk5.cells (Blk5.below HQ.out hb3);obtain ⟨q0, q1, q2, q3, q4⟩ := Blk5.free (Blk5.below HQ.out hb3);have HB : Hid (Below w.heap.size w w3) := hidI (hbx.trans (hb3.mono hbx.size));have hrb : w.heap.size ≤ w.heap.size + 1 := by omega
      rcases h3 with ⟨er, h4, hne, rfl⟩ | ⟨y', v3, h4, rfl, hF3, he3⟩
      ·have HR : Hid (R = .error er) := hidI (by rw [hR]; exact h4);have HNE : Hid (er ≠ 0) := hne;clear b3 hb3 hb2 h4 hne hR;unfold vZ;go_wp2_with fail
       refine bodyPost_ret (v := .tuple #[vZ, .int .i64 er]) ?_ rfl ⟨Or.inl ⟨er, HR.out, HNE.out, rfl⟩, ?_⟩
       ·have hres : Try.f17.results = #[.cell 6 25, .tmp 7] := by kernel_rfl
        simp only [results, hres];go_simp
        rfl
       ·exact ((((HB.out.setCell hrb _).setCell hrb _).setCell hrb _).setCell hrb _).setCell hrb _
      ·have HR : Hid (R = .ok y') := hidI (by rw [hR]; exact h4);obtain ⟨k3, n3, s3, la3, ln3, lc3, fa3, fn3, fc3, rfl⟩ := hF3.lies.agg;have HF3 : Hid (From w4.heap.size w3 y' _) := hF3;have HE3 : Hid (y'.err = 0) := he3;clear b3 hb3 hb2 h4 hR hF3 he3;go_wp2_with fail
       refine bodyPost_ret (v := .tuple #[.agg #[.int .i64 k3, .int .i64 n3, .string s3, .slice la3 ln3 lc3, .slice fa3 fn3 fc3], .int .i64 0]) ?_ rfl ⟨Or.inr ⟨y', _, HR.out, rfl, ?_, HE3.out⟩, ?_⟩
       ·have hres : Try.f17.results = #[.cell 6 25, .tmp 7] := by kernel_rfl
        simp only [results, hres];go_simp
       ·exact From.le (((((From.setCell HF3.out (by omega) _).setCell (by omega) _).setCell (by omega) _).setCell (by omega) _).setCell (by omega) _) (by omega)
       ·exact ((((HB.out.setCell hrb _).setCell hrb _).setCell hrb _).setCell hrb _).setCell hrb _
   ·by_cases hp2 : nd < 0
    ·by_cases hp3 : n2 < m
     ·have HR : Hid (R = .error 12) := hidI (by rw [hR, if_pos (Or.inr ⟨hp2, hp3⟩)]);have hb2 : Below ((w.alloc (.cells #[.int .i64 k, .int .i64 n, .string s, .slice la ln lc, .slice fa fn fc] 25)).alloc (.cells #[.int .i64 0, .int .i64 0, .string ⟨#[]⟩, .slice none 0 0, .slice none 0 0] 25)).heap.size ((w.alloc (.cells #[.int .i64 k, .int .i64 n, .string s, .slice la ln lc, .slice fa fn fc] 25)).alloc (.cells #[.int .i64 0, .int .i64 0, .string ⟨#[]⟩, .slice none 0 0, .slice none 0 0] 25)) (w2.alloc (.cells #[.int .i64 3, .int .i64 m, .string s2, .slice la2 ln2 lc2, .slice fa2 fn2 fc2] 25)) := HB2'.out.alloc HB2'.out.size _;obtain ⟨z0, z1, z2, z3, z4⟩ := Blk5.cells (Blk5.below HQ.out hb2);obtain ⟨q0, q1, q2, q3, q4⟩ := Blk5.free (Blk5.below HQ.out hb2);have HB : Hid (Below w.heap.size w (w2.alloc (.cells #[.int .i64 3, .int .i64 m, .string s2, .slice la2 ln2 lc2, .slice fa2 fn2 fc2] 25))) := hidI (hbx.trans (hb2.mono hbx.size));have hrb : w.heap.size ≤ w.heap.size + 1 := by omega
      clear hR hb2 hbx;go_wp2_with fail
      refine bodyPost_ret (v := .tuple #[vZ, .int .i64 12]) ?_ rfl ⟨Or.inl ⟨12, HR.out, (by decide), rfl⟩, ?_⟩
      ·have hres : Try.f17.results = #[.cell 6 25, .tmp 7] := by kernel_rfl
       simp only [results, hres];go_simp
       rfl
      ·exact ((((HB.out.setCell hrb _).setCell hrb _).setCell hrb _).setCell hrb _).setCell hrb _
     ·rw [if_neg (fun h => by omega)] at hR;have hbwC : Below w.heap.size w (w2.alloc (.cells #[.int .i64 3, .int .i64 m, .string s2, .slice la2 ln2 lc2, .slice fa2 fn2 fc2] 25)) := HBW2.out.alloc HBW2.out.size _;have hBXC : Below ((w.alloc (.cells #[.int .i64 k, .int .i64 n, .string s, .slice la ln lc, .slice fa fn fc] 25)).alloc (.cells #[.int .i64 0, .int .i64 0, .string ⟨#[]⟩, .slice none 0 0, .slice none 0 0] 25)).heap.size ((w.alloc (.cells #[.int .i64 k, .int .i64 n, .string s, .slice la ln lc, .slice fa fn fc] 25)).alloc (.cells #[.int .i64 0, .int .i64 0, .string ⟨#[]⟩, .slice none 0 0, .slice none 0 0] 25)) (w2.alloc (.cells #[.int .i64 3, .int .i64 m, .string s2, .slice la2 ln2 lc2, .slice fa2 fn2 fc2] 25)) := HB2'.out.alloc HB2'.out.size _;have hu8 : Below (w2.alloc (.cells #[.int .i64 3, .int .i64 m, .string s2, .slice la2 ln2 lc2, .slice fa2 fn2 fc2] 25)).heap.size (w2.alloc (.cells #[.int .i64 3, .int .i64 m, .string s2, .slice la2 ln2 lc2, .slice fa2 fn2 fc2] 25)) ((w2.alloc (.cells #[.int .i64 3, .int .i64 m, .string s2, .slice la2 ln2 lc2, .slice fa2 fn2 fc2] 25)).alloc (.cells #[.int .i64 3, .int .i64 m, .string s2, .slice la2 ln2 lc2, .slice fa2 fn2 fc2] 25)) := (Below.refl _ _).alloc (Nat.le_refl _) _;have hw5s : (w2.alloc (.cells #[.int .i64 3, .int .i64 m, .string s2, .slice la2 ln2 lc2, .slice fa2 fn2 fc2] 25)).heap.size = w2.heap.size + 1 := by simp
      have hvm := vals1 (w := (w2.alloc (.cells #[.int .i64 3, .int .i64 m, .string s2, .slice la2 ln2 lc2, .slice fa2 fn2 fc2] 25))) (t := 25) (cs := #[.int .i64 3, .int .i64 m, .string s2, .slice la2 ln2 lc2, .slice fa2 fn2 fc2]) (HLM.out.below hbwC) rfl;rw [hw5s] at hvm;have hwu8 : Below w.heap.size w ((w2.alloc (.cells #[.int .i64 3, .int .i64 m, .string s2, .slice la2 ln2 lc2, .slice fa2 fn2 fc2] 25)).alloc (.cells #[.int .i64 3, .int .i64 m, .string s2, .slice la2 ln2 lc2, .slice fa2 fn2 fc2] 25)) := hbwC.trans (hu8.mono hbwC.size);have HPT : Hid (Calls Try.prog 39 #[.agg #[.int .i64 k, .int .i64 n, .string s, .slice la ln lc, .slice fa fn fc], .slice sa l.length sc, .slice (some ⟨w2.heap.size + 1, 0, none⟩) 1 1] ((w2.alloc (.cells #[.int .i64 3, .int .i64 m, .string s2, .slice la2 ln2 lc2, .slice fa2 fn2 fc2] 25)).alloc (.cells #[.int .i64 3, .int .i64 m, .string s2, .slice la2 ln2 lc2, .slice fa2 fn2 fc2] 25)) fun e w' => PutEnd ((w2.alloc (.cells #[.int .i64 3, .int .i64 m, .string s2, .slice la2 ln2 lc2, .slice fa2 fn2 fc2] 25)).alloc (.cells #[.int .i64 3, .int .i64 m, .string s2, .slice la2 ln2 lc2, .slice fa2 fn2 fc2] 25)).heap.size ((w2.alloc (.cells #[.int .i64 3, .int .i64 m, .string s2, .slice la2 ln2 lc2, .slice fa2 fn2 fc2] 25)).alloc (.cells #[.int .i64 3, .int .i64 m, .string s2, .slice la2 ln2 lc2, .slice fa2 fn2 fc2] 25)).heap.size w' (GV.put l g 1 (fun _ => (GV.mk 3 n2 s2 ln2 l2 fn2 nm2 f2).withN m)) e ∧ Below ((w2.alloc (.cells #[.int .i64 3, .int .i64 m, .string s2, .slice la2 ln2 lc2, .slice fa2 fn2 fc2] 25)).alloc (.cells #[.int .i64 3, .int .i64 m, .string s2, .slice la2 ln2 lc2, .slice fa2 fn2 fc2] 25)).heap.size ((w2.alloc (.cells #[.int .i64 3, .int .i64 m, .string s2, .slice la2 ln2 lc2, .slice fa2 fn2 fc2] 25)).alloc (.cells #[.int .i64 3, .int .i64 m, .string s2, .slice la2 ln2 lc2, .slice fa2 fn2 fc2] 25)) w') := hidI (put_any l HLNE.out g _ ((w2.alloc (.cells #[.int .i64 3, .int .i64 m, .string s2, .slice la2 ln2 lc2, .slice fa2 fn2 fc2] 25)).alloc (.cells #[.int .i64 3, .int .i64 m, .string s2, .slice la2 ln2 lc2, .slice fa2 fn2 fc2] 25)) ((w2.alloc (.cells #[.int .i64 3, .int .i64 m, .string s2, .slice la2 ln2 lc2, .slice fa2 fn2 fc2] 25)).alloc (.cells #[.int .i64 3, .int .i64 m, .string s2, .slice la2 ln2 lc2, .slice fa2 fn2 fc2] 25)).heap.size sa sc (some ⟨w2.heap.size + 1, 0, none⟩) 1 1 (fun _ => (GV.mk 3 n2 s2 ln2 l2 fn2 nm2 f2).withN m) (Nat.le_refl _) (lies_all (HL.out.below hwu8)) HFIT.out ((HSTR2.out.below ((Below.refl _ w2).alloc (Nat.le_refl _) _)).below hu8) HST.out HSC.out.1 HSC.out.2 (vals_all hvm) (Nat.le_refl _) (Nat.le_refl _) (by unfold maxLen; omega));have hbu2 : Below ((w.alloc (.cells #[.int .i64 k, .int .i64 n, .string s, .slice la ln lc, .slice fa fn fc] 25)).alloc (.cells #[.int .i64 0, .int .i64 0, .string ⟨#[]⟩, .slice none 0 0, .slice none 0 0] 25)).heap.size ((w.alloc (.cells #[.int .i64 k, .int .i64 n, .string s, .slice la ln lc, .slice fa fn fc] 25)).alloc (.cells #[.int .i64 0, .int .i64 0, .string ⟨#[]⟩, .slice none 0 0, .slice none 0 0] 25)) ((w2.alloc (.cells #[.int .i64 3, .int .i64 m, .string s2, .slice la2 ln2 lc2, .slice fa2 fn2 fc2] 25)).alloc (.cells #[.int .i64 3, .int .i64 m, .string s2, .slice la2 ln2 lc2, .slice fa2 fn2 fc2] 25)) := hBXC.trans (hu8.mono hBXC.size)
      have HBU2 : Hid (Below ((w.alloc (.cells #[.int .i64 k, .int .i64 n, .string s, .slice la ln lc, .slice fa fn fc] 25)).alloc (.cells #[.int .i64 0, .int .i64 0, .string ⟨#[]⟩, .slice none 0 0, .slice none 0 0] 25)).heap.size ((w.alloc (.cells #[.int .i64 k, .int .i64 n, .string s, .slice la ln lc, .slice fa fn fc] 25)).alloc (.cells #[.int .i64 0, .int .i64 0, .string ⟨#[]⟩, .slice none 0 0, .slice none 0 0] 25)) ((w2.alloc (.cells #[.int .i64 3, .int .i64 m, .string s2, .slice la2 ln2 lc2, .slice fa2 fn2 fc2] 25)).alloc (.cells #[.int .i64 3, .int .i64 m, .string s2, .slice la2 ln2 lc2, .slice fa2 fn2 fc2] 25))) := hbu2;obtain ⟨c0, c1, c2, c3, c4⟩ := Blk5.cells (Blk5.below HP.out hBXC);clear hbwC hBXC hu8 hw5s hvm hwu8 hbu2;go_wp2_with fail;refine HPT.out.mono ?_;rintro e w4 ⟨hE2, b4⟩;have hb2 := HBU2.out.trans (b4.mono HBU2.out.size);have hmn := HYN.out;clear b4 c0 c1 c2 c3 c4
      cases hput : GV.put l g 1 (fun _ => (GV.mk 3 n2 s2 ln2 l2 fn2 nm2 f2).withN m) with
      | error er =>
       rw [hput] at hR
       obtain ⟨rfl, hne⟩ : e = .returned (.tuple #[vZ, .int .i64 er]) ∧ er ≠ 0 := by
        rcases hE2 with ⟨er', h, h2, h3⟩ | ⟨_, _, h, _⟩
        ·rw [hput] at h; cases h; exact ⟨h3, by omega⟩
        ·rw [hput] at h; cases h
       have HR : Hid (R = .error er) := hR;have HNE : Hid (er ≠ 0) := hne;have hT := told_bad er w4 hne;have HT : Hid (Calls Try.prog 38 #[.agg #[.int .i64 0, .int .i64 0, .string ⟨#[]⟩, .slice none 0 0, .slice none 0 0], .int .i64 er] w4 fun e w' => e = .returned (.tuple #[.agg #[.int .i64 0, .int .i64 0, .string ⟨#[]⟩, .slice none 0 0, .slice none 0 0], .int .i64 er]) ∧ Below w4.heap.size w4 w') := hT;clear hR hE2 hne hT;unfold vZ;go_wp2_with fail;refine HT.out.mono ?_;rintro e w3 ⟨rfl, b3⟩;have hb3 := hb2.trans (b3.mono hb2.size);obtain ⟨z0, z1, z2, z3, z4⟩ := Blk5.cells (Blk5.below HQ.out hb3);obtain ⟨q0, q1, q2, q3, q4⟩ := Blk5.free (Blk5.below HQ.out hb3);have HB : Hid (Below w.heap.size w w3) := hidI (hbx.trans (hb3.mono hbx.size));have hrb : w.heap.size ≤ w.heap.size + 1 := by omega
       clear b3 hb3 hb2;go_wp2_with fail
       refine bodyPost_ret (v := .tuple #[vZ, .int .i64 er]) ?_ rfl ⟨Or.inl ⟨er, HR.out, HNE.out, rfl⟩, ?_⟩
       ·have hres : Try.f17.results = #[.cell 6 25, .tmp 7] := by kernel_rfl
        simp only [results, hres];go_simp
        rfl
       ·exact ((((HB.out.setCell hrb _).setCell hrb _).setCell hrb _).setCell hrb _).setCell hrb _
      | ok y =>
       rw [hput] at hR
       obtain ⟨v2, rfl, hL2⟩ : ∃ v2, e = .returned (.tuple #[v2, .int .i64 0]) ∧ Lies w4 y v2 := by
        rcases hE2 with ⟨er', h, _⟩ | ⟨y', v', h, h2, h3⟩
        ·rw [hput] at h; cases h
        ·rw [hput] at h; cases h; exact ⟨v', h2, lies_veil h3⟩
       obtain ⟨k5, n5, s5, la5, ln5, lc5, fa5, fn5, fc5, rfl⟩ := hL2.agg;have hyn := put_nodes _ _ _ _ _ hput;rw [sumG_1] at hyn;have hLN := HLN.out;have HT : Hid (Calls Try.prog 38 #[.agg #[.int .i64 k5, .int .i64 n5, .string s5, .slice la5 ln5 lc5, .slice fa5 fn5 fc5], .int .i64 0] w4 fun e w' => OutSay w4.heap.size w' (toldR (.ok y)) e ∧ Below w4.heap.size w4 w') := hidI (told_ok y _ w4 hL2 (by omega));clear hE2 hyn hL2 hput;have hw4s := hb2.size;rw [hbs] at hw4s;go_wp2_with fail;refine HT.out.mono ?_;rintro e w3 ⟨h3, b3⟩;have hb3 := hb2.trans (b3.mono hb2.size);obtain ⟨z0, z1, z2, z3, z4⟩ := Blk5.cells (Blk5.below HQ.out hb3);obtain ⟨q0, q1, q2, q3, q4⟩ := Blk5.free (Blk5.below HQ.out hb3);have HB : Hid (Below w.heap.size w w3) := hidI (hbx.trans (hb3.mono hbx.size));have hrb : w.heap.size ≤ w.heap.size + 1 := by omega
       rcases h3 with ⟨er, h4, hne, rfl⟩ | ⟨y', v3, h4, rfl, hF3, he3⟩
       ·have HR : Hid (R = .error er) := hidI (by rw [hR]; exact h4);have HNE : Hid (er ≠ 0) := hne;clear b3 hb3 hb2 h4 hne hR;unfold vZ;go_wp2_with fail
        refine bodyPost_ret (v := .tuple #[vZ, .int .i64 er]) ?_ rfl ⟨Or.inl ⟨er, HR.out, HNE.out, rfl⟩, ?_⟩
        ·have hres : Try.f17.results = #[.cell 6 25, .tmp 7] := by kernel_rfl
         simp only [results, hres];go_simp
         rfl
        ·exact ((((HB.out.setCell hrb _).setCell hrb _).setCell hrb _).setCell hrb _).setCell hrb _
       ·have HR : Hid (R = .ok y') := hidI (by rw [hR]; exact h4);obtain ⟨k3, n3, s3, la3, ln3, lc3, fa3, fn3, fc3, rfl⟩ := hF3.lies.agg;have HF3 : Hid (From w4.heap.size w3 y' _) := hF3;have HE3 : Hid (y'.err = 0) := he3;clear b3 hb3 hb2 h4 hR hF3 he3;go_wp2_with fail
        refine bodyPost_ret (v := .tuple #[.agg #[.int .i64 k3, .int .i64 n3, .string s3, .slice la3 ln3 lc3, .slice fa3 fn3 fc3], .int .i64 0]) ?_ rfl ⟨Or.inr ⟨y', _, HR.out, rfl, ?_, HE3.out⟩, ?_⟩
        ·have hres : Try.f17.results = #[.cell 6 25, .tmp 7] := by kernel_rfl
         simp only [results, hres];go_simp
        ·exact From.le (((((From.setCell HF3.out (by omega) _).setCell (by omega) _).setCell (by omega) _).setCell (by omega) _).setCell (by omega) _) (by omega)
        ·exact ((((HB.out.setCell hrb _).setCell hrb _).setCell hrb _).setCell hrb _).setCell hrb _
    ·rw [if_neg (fun h => by omega)] at hR;have hbwC : Below w.heap.size w (w2.alloc (.cells #[.int .i64 3, .int .i64 m, .string s2, .slice la2 ln2 lc2, .slice fa2 fn2 fc2] 25)) := HBW2.out.alloc HBW2.out.size _;have hBXC : Below ((w.alloc (.cells #[.int .i64 k, .int .i64 n, .string s, .slice la ln lc, .slice fa fn fc] 25)).alloc (.cells #[.int .i64 0, .int .i64 0, .string ⟨#[]⟩, .slice none 0 0, .slice none 0 0] 25)).heap.size ((w.alloc (.cells #[.int .i64 k, .int .i64 n, .string s, .slice la ln lc, .slice fa fn fc] 25)).alloc (.cells #[.int .i64 0, .int .i64 0, .string ⟨#[]⟩, .slice none 0 0, .slice none 0 0] 25)) (w2.alloc (.cells #[.int .i64 3, .int .i64 m, .string s2, .slice la2 ln2 lc2, .slice fa2 fn2 fc2] 25)) := HB2'.out.alloc HB2'.out.size _;have hu8 : Below (w2.alloc (.cells #[.int .i64 3, .int .i64 m, .string s2, .slice la2 ln2 lc2, .slice fa2 fn2 fc2] 25)).heap.size (w2.alloc (.cells #[.int .i64 3, .int .i64 m, .string s2, .slice la2 ln2 lc2, .slice fa2 fn2 fc2] 25)) ((w2.alloc (.cells #[.int .i64 3, .int .i64 m, .string s2, .slice la2 ln2 lc2, .slice fa2 fn2 fc2] 25)).alloc (.cells #[.int .i64 3, .int .i64 m, .string s2, .slice la2 ln2 lc2, .slice fa2 fn2 fc2] 25)) := (Below.refl _ _).alloc (Nat.le_refl _) _;have hw5s : (w2.alloc (.cells #[.int .i64 3, .int .i64 m, .string s2, .slice la2 ln2 lc2, .slice fa2 fn2 fc2] 25)).heap.size = w2.heap.size + 1 := by simp
     have hvm := vals1 (w := (w2.alloc (.cells #[.int .i64 3, .int .i64 m, .string s2, .slice la2 ln2 lc2, .slice fa2 fn2 fc2] 25))) (t := 25) (cs := #[.int .i64 3, .int .i64 m, .string s2, .slice la2 ln2 lc2, .slice fa2 fn2 fc2]) (HLM.out.below hbwC) rfl;rw [hw5s] at hvm;have hwu8 : Below w.heap.size w ((w2.alloc (.cells #[.int .i64 3, .int .i64 m, .string s2, .slice la2 ln2 lc2, .slice fa2 fn2 fc2] 25)).alloc (.cells #[.int .i64 3, .int .i64 m, .string s2, .slice la2 ln2 lc2, .slice fa2 fn2 fc2] 25)) := hbwC.trans (hu8.mono hbwC.size);have HPT : Hid (Calls Try.prog 39 #[.agg #[.int .i64 k, .int .i64 n, .string s, .slice la ln lc, .slice fa fn fc], .slice sa l.length sc, .slice (some ⟨w2.heap.size + 1, 0, none⟩) 1 1] ((w2.alloc (.cells #[.int .i64 3, .int .i64 m, .string s2, .slice la2 ln2 lc2, .slice fa2 fn2 fc2] 25)).alloc (.cells #[.int .i64 3, .int .i64 m, .string s2, .slice la2 ln2 lc2, .slice fa2 fn2 fc2] 25)) fun e w' => PutEnd ((w2.alloc (.cells #[.int .i64 3, .int .i64 m, .string s2, .slice la2 ln2 lc2, .slice fa2 fn2 fc2] 25)).alloc (.cells #[.int .i64 3, .int .i64 m, .string s2, .slice la2 ln2 lc2, .slice fa2 fn2 fc2] 25)).heap.size ((w2.alloc (.cells #[.int .i64 3, .int .i64 m, .string s2, .slice la2 ln2 lc2, .slice fa2 fn2 fc2] 25)).alloc (.cells #[.int .i64 3, .int .i64 m, .string s2, .slice la2 ln2 lc2, .slice fa2 fn2 fc2] 25)).heap.size w' (GV.put l g 1 (fun _ => (GV.mk 3 n2 s2 ln2 l2 fn2 nm2 f2).withN m)) e ∧ Below ((w2.alloc (.cells #[.int .i64 3, .int .i64 m, .string s2, .slice la2 ln2 lc2, .slice fa2 fn2 fc2] 25)).alloc (.cells #[.int .i64 3, .int .i64 m, .string s2, .slice la2 ln2 lc2, .slice fa2 fn2 fc2] 25)).heap.size ((w2.alloc (.cells #[.int .i64 3, .int .i64 m, .string s2, .slice la2 ln2 lc2, .slice fa2 fn2 fc2] 25)).alloc (.cells #[.int .i64 3, .int .i64 m, .string s2, .slice la2 ln2 lc2, .slice fa2 fn2 fc2] 25)) w') := hidI (put_any l HLNE.out g _ ((w2.alloc (.cells #[.int .i64 3, .int .i64 m, .string s2, .slice la2 ln2 lc2, .slice fa2 fn2 fc2] 25)).alloc (.cells #[.int .i64 3, .int .i64 m, .string s2, .slice la2 ln2 lc2, .slice fa2 fn2 fc2] 25)) ((w2.alloc (.cells #[.int .i64 3, .int .i64 m, .string s2, .slice la2 ln2 lc2, .slice fa2 fn2 fc2] 25)).alloc (.cells #[.int .i64 3, .int .i64 m, .string s2, .slice la2 ln2 lc2, .slice fa2 fn2 fc2] 25)).heap.size sa sc (some ⟨w2.heap.size + 1, 0, none⟩) 1 1 (fun _ => (GV.mk 3 n2 s2 ln2 l2 fn2 nm2 f2).withN m) (Nat.le_refl _) (lies_all (HL.out.below hwu8)) HFIT.out ((HSTR2.out.below ((Below.refl _ w2).alloc (Nat.le_refl _) _)).below hu8) HST.out HSC.out.1 HSC.out.2 (vals_all hvm) (Nat.le_refl _) (Nat.le_refl _) (by unfold maxLen; omega));have hbu2 : Below ((w.alloc (.cells #[.int .i64 k, .int .i64 n, .string s, .slice la ln lc, .slice fa fn fc] 25)).alloc (.cells #[.int .i64 0, .int .i64 0, .string ⟨#[]⟩, .slice none 0 0, .slice none 0 0] 25)).heap.size ((w.alloc (.cells #[.int .i64 k, .int .i64 n, .string s, .slice la ln lc, .slice fa fn fc] 25)).alloc (.cells #[.int .i64 0, .int .i64 0, .string ⟨#[]⟩, .slice none 0 0, .slice none 0 0] 25)) ((w2.alloc (.cells #[.int .i64 3, .int .i64 m, .string s2, .slice la2 ln2 lc2, .slice fa2 fn2 fc2] 25)).alloc (.cells #[.int .i64 3, .int .i64 m, .string s2, .slice la2 ln2 lc2, .slice fa2 fn2 fc2] 25)) := hBXC.trans (hu8.mono hBXC.size)
     have HBU2 : Hid (Below ((w.alloc (.cells #[.int .i64 k, .int .i64 n, .string s, .slice la ln lc, .slice fa fn fc] 25)).alloc (.cells #[.int .i64 0, .int .i64 0, .string ⟨#[]⟩, .slice none 0 0, .slice none 0 0] 25)).heap.size ((w.alloc (.cells #[.int .i64 k, .int .i64 n, .string s, .slice la ln lc, .slice fa fn fc] 25)).alloc (.cells #[.int .i64 0, .int .i64 0, .string ⟨#[]⟩, .slice none 0 0, .slice none 0 0] 25)) ((w2.alloc (.cells #[.int .i64 3, .int .i64 m, .string s2, .slice la2 ln2 lc2, .slice fa2 fn2 fc2] 25)).alloc (.cells #[.int .i64 3, .int .i64 m, .string s2, .slice la2 ln2 lc2, .slice fa2 fn2 fc2] 25))) := hbu2;obtain ⟨c0, c1, c2, c3, c4⟩ := Blk5.cells (Blk5.below HP.out hBXC);clear hbwC hBXC hu8 hw5s hvm hwu8 hbu2;go_wp2_with fail;refine HPT.out.mono ?_;rintro e w4 ⟨hE2, b4⟩;have hb2 := HBU2.out.trans (b4.mono HBU2.out.size);have hmn := HYN.out;clear b4 c0 c1 c2 c3 c4
     cases hput : GV.put l g 1 (fun _ => (GV.mk 3 n2 s2 ln2 l2 fn2 nm2 f2).withN m) with
     | error er =>
      rw [hput] at hR
      obtain ⟨rfl, hne⟩ : e = .returned (.tuple #[vZ, .int .i64 er]) ∧ er ≠ 0 := by
       rcases hE2 with ⟨er', h, h2, h3⟩ | ⟨_, _, h, _⟩
       ·rw [hput] at h; cases h; exact ⟨h3, by omega⟩
       ·rw [hput] at h; cases h
      have HR : Hid (R = .error er) := hR;have HNE : Hid (er ≠ 0) := hne;have hT := told_bad er w4 hne;have HT : Hid (Calls Try.prog 38 #[.agg #[.int .i64 0, .int .i64 0, .string ⟨#[]⟩, .slice none 0 0, .slice none 0 0], .int .i64 er] w4 fun e w' => e = .returned (.tuple #[.agg #[.int .i64 0, .int .i64 0, .string ⟨#[]⟩, .slice none 0 0, .slice none 0 0], .int .i64 er]) ∧ Below w4.heap.size w4 w') := hT;clear hR hE2 hne hT;unfold vZ;go_wp2_with fail;refine HT.out.mono ?_;rintro e w3 ⟨rfl, b3⟩;have hb3 := hb2.trans (b3.mono hb2.size);obtain ⟨z0, z1, z2, z3, z4⟩ := Blk5.cells (Blk5.below HQ.out hb3);obtain ⟨q0, q1, q2, q3, q4⟩ := Blk5.free (Blk5.below HQ.out hb3);have HB : Hid (Below w.heap.size w w3) := hidI (hbx.trans (hb3.mono hbx.size));have hrb : w.heap.size ≤ w.heap.size + 1 := by omega
      clear b3 hb3 hb2;go_wp2_with fail
      refine bodyPost_ret (v := .tuple #[vZ, .int .i64 er]) ?_ rfl ⟨Or.inl ⟨er, HR.out, HNE.out, rfl⟩, ?_⟩
      ·have hres : Try.f17.results = #[.cell 6 25, .tmp 7] := by kernel_rfl
       simp only [results, hres];go_simp
       rfl
      ·exact ((((HB.out.setCell hrb _).setCell hrb _).setCell hrb _).setCell hrb _).setCell hrb _
     | ok y =>
      rw [hput] at hR
      obtain ⟨v2, rfl, hL2⟩ : ∃ v2, e = .returned (.tuple #[v2, .int .i64 0]) ∧ Lies w4 y v2 := by
       rcases hE2 with ⟨er', h, _⟩ | ⟨y', v', h, h2, h3⟩
       ·rw [hput] at h; cases h
       ·rw [hput] at h; cases h; exact ⟨v', h2, lies_veil h3⟩
      obtain ⟨k5, n5, s5, la5, ln5, lc5, fa5, fn5, fc5, rfl⟩ := hL2.agg;have hyn := put_nodes _ _ _ _ _ hput;rw [sumG_1] at hyn;have hLN := HLN.out;have HT : Hid (Calls Try.prog 38 #[.agg #[.int .i64 k5, .int .i64 n5, .string s5, .slice la5 ln5 lc5, .slice fa5 fn5 fc5], .int .i64 0] w4 fun e w' => OutSay w4.heap.size w' (toldR (.ok y)) e ∧ Below w4.heap.size w4 w') := hidI (told_ok y _ w4 hL2 (by omega));clear hE2 hyn hL2 hput;have hw4s := hb2.size;rw [hbs] at hw4s;go_wp2_with fail;refine HT.out.mono ?_;rintro e w3 ⟨h3, b3⟩;have hb3 := hb2.trans (b3.mono hb2.size);obtain ⟨z0, z1, z2, z3, z4⟩ := Blk5.cells (Blk5.below HQ.out hb3);obtain ⟨q0, q1, q2, q3, q4⟩ := Blk5.free (Blk5.below HQ.out hb3);have HB : Hid (Below w.heap.size w w3) := hidI (hbx.trans (hb3.mono hbx.size));have hrb : w.heap.size ≤ w.heap.size + 1 := by omega
      rcases h3 with ⟨er, h4, hne, rfl⟩ | ⟨y', v3, h4, rfl, hF3, he3⟩
      ·have HR : Hid (R = .error er) := hidI (by rw [hR]; exact h4);have HNE : Hid (er ≠ 0) := hne;clear b3 hb3 hb2 h4 hne hR;unfold vZ;go_wp2_with fail
       refine bodyPost_ret (v := .tuple #[vZ, .int .i64 er]) ?_ rfl ⟨Or.inl ⟨er, HR.out, HNE.out, rfl⟩, ?_⟩
       ·have hres : Try.f17.results = #[.cell 6 25, .tmp 7] := by kernel_rfl
        simp only [results, hres];go_simp
        rfl
       ·exact ((((HB.out.setCell hrb _).setCell hrb _).setCell hrb _).setCell hrb _).setCell hrb _
      ·have HR : Hid (R = .ok y') := hidI (by rw [hR]; exact h4);obtain ⟨k3, n3, s3, la3, ln3, lc3, fa3, fn3, fc3, rfl⟩ := hF3.lies.agg;have HF3 : Hid (From w4.heap.size w3 y' _) := hF3;have HE3 : Hid (y'.err = 0) := he3;clear b3 hb3 hb2 h4 hR hF3 he3;go_wp2_with fail
       refine bodyPost_ret (v := .tuple #[.agg #[.int .i64 k3, .int .i64 n3, .string s3, .slice la3 ln3 lc3, .slice fa3 fn3 fc3], .int .i64 0]) ?_ rfl ⟨Or.inr ⟨y', _, HR.out, rfl, ?_, HE3.out⟩, ?_⟩
       ·have hres : Try.f17.results = #[.cell 6 25, .tmp 7] := by kernel_rfl
        simp only [results, hres];go_simp
       ·exact From.le (((((From.setCell HF3.out (by omega) _).setCell (by omega) _).setCell (by omega) _).setCell (by omega) _).setCell (by omega) _) (by omega)
       ·exact ((((HB.out.setCell hrb _).setCell hrb _).setCell hrb _).setCell hrb _).setCell hrb _
end Go.Proofs.Ytjngbogbbglbnaa

/- Contract of path.Unset, of any value and any path. -/
namespace Go.Proofs.Ytjngbogbbglbnaa
open Go.RowKit

set_option maxHeartbeats 1500000 in
set_option maxRecDepth 1000000 in
theorem unset_any (g : GV) (p : ByteArray) (v : Value) (w : World) (hL : Lies w g v) (hN : g.nodes ≤ 6000) (hp : p.size ≤ 140737488355328) :
  Calls Try.prog 15 #[v, .string p] w fun e w' => OutSay w.heap.size w' (unsetR g p) e ∧ Below w.heap.size w w' := by
 obtain ⟨R, hR⟩ : ∃ R, R = unsetR g p := ⟨_, rfl⟩;rw [← hR];unfold unsetR at hR;obtain ⟨k, n, s, la, ln, lc, fa, fn, fc, rfl⟩ := hL.agg;have hbx : Below w.heap.size w ((w.alloc (.cells #[.int .i64 k, .int .i64 n, .string s, .slice la ln lc, .slice fa fn fc] 25)).alloc (.cells #[.int .i64 0, .int .i64 0, .string ⟨#[]⟩, .slice none 0 0, .slice none 0 0] 25)) := ((Below.refl w.heap.size w).alloc (Nat.le_refl _) _).alloc (by simp) _;have hbs : ((w.alloc (.cells #[.int .i64 k, .int .i64 n, .string s, .slice la ln lc, .slice fa fn fc] 25)).alloc (.cells #[.int .i64 0, .int .i64 0, .string ⟨#[]⟩, .slice none 0 0, .slice none 0 0] 25)).heap.size = w.heap.size + 2 := by simp
 have hBB := box2_cells (Below.refl _ ((w.alloc (.cells #[.int .i64 k, .int .i64 n, .string s, .slice la ln lc, .slice fa fn fc] 25)).alloc (.cells #[.int .i64 0, .int .i64 0, .string ⟨#[]⟩, .slice none 0 0, .slice none 0 0] 25)));have HP : Hid (Blk5 ((w.alloc (.cells #[.int .i64 k, .int .i64 n, .string s, .slice la ln lc, .slice fa fn fc] 25)).alloc (.cells #[.int .i64 0, .int .i64 0, .string ⟨#[]⟩, .slice none 0 0, .slice none 0 0] 25)) w.heap.size (.int .i64 k) (.int .i64 n) (.string s) (.slice la ln lc) (.slice fa fn fc)) := hBB.1;have HQ : Hid (Blk5 ((w.alloc (.cells #[.int .i64 k, .int .i64 n, .string s, .slice la ln lc, .slice fa fn fc] 25)).alloc (.cells #[.int .i64 0, .int .i64 0, .string ⟨#[]⟩, .slice none 0 0, .slice none 0 0] 25)) (w.heap.size + 1) (.int .i64 0) (.int .i64 0) (.string ⟨#[]⟩) (.slice none 0 0) (.slice none 0 0)) := hBB.2;clear hBB;have HBG : Hid (Calls Try.prog 34 #[.agg #[.int .i64 k, .int .i64 n, .string s, .slice la ln lc, .slice fa fn fc], .string p, .slice none 0 0] ((w.alloc (.cells #[.int .i64 k, .int .i64 n, .string s, .slice la ln lc, .slice fa fn fc] 25)).alloc (.cells #[.int .i64 0, .int .i64 0, .string ⟨#[]⟩, .slice none 0 0, .slice none 0 0] 25)) fun e w' => BegSay w' (begR g p 0 fun _ => .nil) e ∧ Below ((w.alloc (.cells #[.int .i64 k, .int .i64 n, .string s, .slice la ln lc, .slice fa fn fc] 25)).alloc (.cells #[.int .i64 0, .int .i64 0, .string ⟨#[]⟩, .slice none 0 0, .slice none 0 0] 25)).heap.size ((w.alloc (.cells #[.int .i64 k, .int .i64 n, .string s, .slice la ln lc, .slice fa fn fc] 25)).alloc (.cells #[.int .i64 0, .int .i64 0, .string ⟨#[]⟩, .slice none 0 0, .slice none 0 0] 25)) w') := hidI (begin_any g _ p none 0 0 (fun _ => .nil) ((w.alloc (.cells #[.int .i64 k, .int .i64 n, .string s, .slice la ln lc, .slice fa fn fc] 25)).alloc (.cells #[.int .i64 0, .int .i64 0, .string ⟨#[]⟩, .slice none 0 0, .slice none 0 0] 25)) (hL.below hbx) (by omega) hp (vals_no _ _ _) (by omega) (by omega) (by unfold maxLen; omega) (fun h => by omega));have HL : Hid (Lies w g _) := hL;clear hL
 cases hbe : begR g p 0 (fun _ => .nil) with
 | error er =>
  rw [hbe] at hR;have HR : Hid (R = .error er) := hR
  go_enter Try.func15, Try.ntmps15
  go_wp2_with fail;refine HBG.out.mono ?_;rintro e w1 ⟨h1, b1⟩
  obtain ⟨rfl, hne⟩ : e = .returned (.tuple #[.slice none 0 0, .int .i64 er]) ∧ er ≠ 0 := by
   rcases h1 with ⟨er', h, h2, h3⟩ | ⟨_, _, _, h, _⟩
   ·rw [hbe] at h; cases h; exact ⟨h3, h2⟩
   ·rw [hbe] at h; cases h
  have heb : (er != 0) = true := by rw [bne_iff_ne]; exact hne
  have HNE : Hid (er ≠ 0) := hne;obtain ⟨z0, z1, z2, z3, z4⟩ := Blk5.cells (Blk5.below HQ.out b1);obtain ⟨q0, q1, q2, q3, q4⟩ := Blk5.free (Blk5.below HQ.out b1);have HB : Hid (Below w.heap.size w w1) := hidI (hbx.trans (b1.mono hbx.size));have hrb : w.heap.size ≤ w.heap.size + 1 := by omega
  clear h1 hR hbe hne b1 hbx;go_wp2_with fail
  refine bodyPost_ret (v := .tuple #[vZ, .int .i64 er]) ?_ rfl ⟨Or.inl ⟨er, HR.out, HNE.out, rfl⟩, ?_⟩
  ·have hres : Try.f15.results = #[.cell 4 25, .tmp 5] := by kernel_rfl
   simp only [results, hres];go_simp
   rfl
  ·exact ((((HB.out.setCell hrb _).setCell hrb _).setCell hrb _).setCell hrb _).setCell hrb _
 | ok l =>
  rw [hbe] at hR;simp only at hR
  go_enter Try.func15, Try.ntmps15
  go_wp2_with fail;refine HBG.out.mono ?_;rintro e w1 ⟨h1, b1⟩
  obtain ⟨sa, sc, rfl, hsc1, hsc2, hstr⟩ : ∃ sa sc, e = .returned (.tuple #[.slice sa l.length sc, .int .i64 0]) ∧ l.length ≤ sc ∧ sc ≤ maxLen ∧ Strs w1 sa l := by
   rcases h1 with ⟨er', h, _⟩ | ⟨l', sa, sc, h, h2⟩
   ·rw [hbe] at h; cases h
   ·rw [hbe] at h; cases h; exact ⟨sa, sc, h2⟩
  have HSTR : Hid (Strs w1 sa l) := hstr;have HSC : Hid (l.length ≤ sc ∧ sc ≤ maxLen) := hidI ⟨hsc1, hsc2⟩;obtain ⟨hge, hso, hxe⟩ := beg_ok hbe;have hsa := steps_all hso;have HST : Hid (∀ s ∈ l, isStepB s.data.toList = true) := hsa.1;have HLN : Hid (1 ≤ l.length ∧ l.length ≤ 8) := hidI ⟨hsa.2.2.1, hsa.2.1⟩;have hlne : l ≠ [] := fun h => by have := HLN.out.1; rw [h] at this; simp at this
  have HLNE : Hid (l ≠ []) := hlne;have HFIT : Hid g.fit := hidI ⟨err_every hge, by omega⟩;have hb1 := b1;have hbw1 : Below w.heap.size w w1 := hbx.trans (hb1.mono hbx.size);have hbw1' := hbw1;have HGE : Hid (g.err = 0) := hge;have HLD : Hid (Calls Try.prog 35 #[.agg #[.int .i64 k, .int .i64 n, .string s, .slice la ln lc, .slice fa fn fc], .slice sa l.length sc] w1 fun e w' => LeadSay w (g.lead l) e ∧ Below w1.heap.size w1 w') := hidI (lead_any g l sa sc _ w w1 HL.out (below_keeps hbw1) HFIT.out HSTR.out HST.out hsc1 hsc2);obtain ⟨c0, c1, c2, c3, c4⟩ := Blk5.cells (Blk5.below HP.out hb1);have HB1 : Hid (Below ((w.alloc (.cells #[.int .i64 k, .int .i64 n, .string s, .slice la ln lc, .slice fa fn fc] 25)).alloc (.cells #[.int .i64 0, .int .i64 0, .string ⟨#[]⟩, .slice none 0 0, .slice none 0 0] 25)).heap.size ((w.alloc (.cells #[.int .i64 k, .int .i64 n, .string s, .slice la ln lc, .slice fa fn fc] 25)).alloc (.cells #[.int .i64 0, .int .i64 0, .string ⟨#[]⟩, .slice none 0 0, .slice none 0 0] 25)) w1) := hb1;clear h1 hbe hge hso hxe hsa hlne hstr hsc1 hsc2 b1 hb1 hbw1
  cases hy : g.lead l with
  | none =>
   rw [hy] at hR;have HR : Hid (R = .ok g) := hR;go_wp2_with fail;refine HLD.out.mono ?_;rintro e w2 ⟨h2, b2⟩
   obtain rfl : e = .returned (.tuple #[.agg #[.int .i64 0, .int .i64 0, .string ⟨#[]⟩, .slice none 0 0, .slice none 0 0], .bool false]) := by
    rcases h2 with ⟨_, h⟩ | ⟨_, _, h, _⟩
    ·exact h
    ·rw [hy] at h; cases h
   have hbw2 := hbw1'.trans (b2.mono hbw1'.size);have hbw3 : Below w.heap.size w (w2.alloc (.cells #[.int .i64 0, .int .i64 0, .string ⟨#[]⟩, .slice none 0 0, .slice none 0 0] 25)) := hbw2.alloc hbw2.size _;have HFR : Hid (Calls Try.prog 36 #[.agg #[.int .i64 k, .int .i64 n, .string s, .slice la ln lc, .slice fa fn fc]] (w2.alloc (.cells #[.int .i64 0, .int .i64 0, .string ⟨#[]⟩, .slice none 0 0, .slice none 0 0] 25)) fun e w' => ∃ v', e = .returned v' ∧ From (w2.alloc (.cells #[.int .i64 0, .int .i64 0, .string ⟨#[]⟩, .slice none 0 0, .slice none 0 0] 25)).heap.size w' g v' ∧ Top (w2.alloc (.cells #[.int .i64 0, .int .i64 0, .string ⟨#[]⟩, .slice none 0 0, .slice none 0 0] 25)).heap.size w' v' ∧ Below (w2.alloc (.cells #[.int .i64 0, .int .i64 0, .string ⟨#[]⟩, .slice none 0 0, .slice none 0 0] 25)).heap.size (w2.alloc (.cells #[.int .i64 0, .int .i64 0, .string ⟨#[]⟩, .slice none 0 0, .slice none 0 0] 25)) w') := hidI (fresh_any g _ (w2.alloc (.cells #[.int .i64 0, .int .i64 0, .string ⟨#[]⟩, .slice none 0 0, .slice none 0 0] 25)) (HL.out.below hbw3) (by omega));have hb2 : Below ((w.alloc (.cells #[.int .i64 k, .int .i64 n, .string s, .slice la ln lc, .slice fa fn fc] 25)).alloc (.cells #[.int .i64 0, .int .i64 0, .string ⟨#[]⟩, .slice none 0 0, .slice none 0 0] 25)).heap.size ((w.alloc (.cells #[.int .i64 k, .int .i64 n, .string s, .slice la ln lc, .slice fa fn fc] 25)).alloc (.cells #[.int .i64 0, .int .i64 0, .string ⟨#[]⟩, .slice none 0 0, .slice none 0 0] 25)) (w2.alloc (.cells #[.int .i64 0, .int .i64 0, .string ⟨#[]⟩, .slice none 0 0, .slice none 0 0] 25)) := HB1.out.trans ((b2.alloc b2.size _).mono HB1.out.size);have HB2 : Hid (Below ((w.alloc (.cells #[.int .i64 k, .int .i64 n, .string s, .slice la ln lc, .slice fa fn fc] 25)).alloc (.cells #[.int .i64 0, .int .i64 0, .string ⟨#[]⟩, .slice none 0 0, .slice none 0 0] 25)).heap.size ((w.alloc (.cells #[.int .i64 k, .int .i64 n, .string s, .slice la ln lc, .slice fa fn fc] 25)).alloc (.cells #[.int .i64 0, .int .i64 0, .string ⟨#[]⟩, .slice none 0 0, .slice none 0 0] 25)) (w2.alloc (.cells #[.int .i64 0, .int .i64 0, .string ⟨#[]⟩, .slice none 0 0, .slice none 0 0] 25))) := hb2;have hw2s := hb2.size;rw [hbs] at hw2s;clear c0 c1 c2 c3 c4;obtain ⟨c0, c1, c2, c3, c4⟩ := Blk5.cells (Blk5.below HP.out hb2);clear b2 hbw2 hbw3 hb2 h2 hy hR;go_wp2_with fail;refine HFR.out.mono ?_;rintro e w3 ⟨v3, rfl, hF3, _, b3⟩;obtain ⟨k3, n3, s3, la3, ln3, lc3, fa3, fn3, fc3, rfl⟩ := hF3.lies.agg;have HF3 : Hid (From (w2.alloc (.cells #[.int .i64 0, .int .i64 0, .string ⟨#[]⟩, .slice none 0 0, .slice none 0 0] 25)).heap.size w3 g _) := hF3;have hb3 := HB2.out.trans (b3.mono HB2.out.size);obtain ⟨z0, z1, z2, z3, z4⟩ := Blk5.cells (Blk5.below HQ.out hb3);obtain ⟨q0, q1, q2, q3, q4⟩ := Blk5.free (Blk5.below HQ.out hb3);have HB : Hid (Below w.heap.size w w3) := hidI (hbx.trans (hb3.mono hbx.size));have hrb : w.heap.size ≤ w.heap.size + 1 := by omega
   clear b3 hb3 hF3 c0 c1 c2 c3 c4;go_wp2_with fail
   refine bodyPost_ret (v := .tuple #[.agg #[.int .i64 k3, .int .i64 n3, .string s3, .slice la3 ln3 lc3, .slice fa3 fn3 fc3], .int .i64 0]) ?_ rfl ⟨Or.inr ⟨g, _, HR.out, rfl, ?_, HGE.out⟩, ?_⟩
   ·have hres : Try.f15.results = #[.cell 4 25, .tmp 5] := by kernel_rfl
    simp only [results, hres];go_simp
   ·exact From.le (((((From.setCell HF3.out (by omega) _).setCell (by omega) _).setCell (by omega) _).setCell (by omega) _).setCell (by omega) _) (by omega)
   ·exact ((((HB.out.setCell hrb _).setCell hrb _).setCell hrb _).setCell hrb _).setCell hrb _
  | some y =>
   rw [hy] at hR;simp only at hR;go_wp2_with fail;refine HLD.out.mono ?_;rintro e w2 ⟨h2, b2⟩
   obtain ⟨v2, rfl, hL2, hf2⟩ : ∃ v2, e = .returned (.tuple #[v2, .bool true]) ∧ Lies w y v2 ∧ y.fit := by
    rcases h2 with ⟨h, _⟩ | ⟨_, v2, h, h2, h3, h4⟩
    ·rw [hy] at h; cases h
    ·rw [hy] at h; cases h; exact ⟨v2, h2, h3, h4⟩
   obtain ⟨k2, n2, s2, la2, ln2, lc2, fa2, fn2, fc2, rfl⟩ := hL2.agg;have HL2 : Hid (Lies w y _) := hL2;clear hL2 hf2;have hbw2 := hbw1'.trans (b2.mono hbw1'.size);have hbw3 : Below w.heap.size w (w2.alloc (.cells #[.int .i64 k2, .int .i64 n2, .string s2, .slice la2 ln2 lc2, .slice fa2 fn2 fc2] 25)) := hbw2.alloc hbw2.size _;have HPT : Hid (Calls Try.prog 39 #[.agg #[.int .i64 k, .int .i64 n, .string s, .slice la ln lc, .slice fa fn fc], .slice sa l.length sc, .slice none 0 0] (w2.alloc (.cells #[.int .i64 k2, .int .i64 n2, .string s2, .slice la2 ln2 lc2, .slice fa2 fn2 fc2] 25)) fun e w' => PutEnd (w2.alloc (.cells #[.int .i64 k2, .int .i64 n2, .string s2, .slice la2 ln2 lc2, .slice fa2 fn2 fc2] 25)).heap.size (w2.alloc (.cells #[.int .i64 k2, .int .i64 n2, .string s2, .slice la2 ln2 lc2, .slice fa2 fn2 fc2] 25)).heap.size w' (GV.put l g 0 (fun _ => .nil)) e ∧ Below (w2.alloc (.cells #[.int .i64 k2, .int .i64 n2, .string s2, .slice la2 ln2 lc2, .slice fa2 fn2 fc2] 25)).heap.size (w2.alloc (.cells #[.int .i64 k2, .int .i64 n2, .string s2, .slice la2 ln2 lc2, .slice fa2 fn2 fc2] 25)) w') := hidI (put_any l HLNE.out g _ (w2.alloc (.cells #[.int .i64 k2, .int .i64 n2, .string s2, .slice la2 ln2 lc2, .slice fa2 fn2 fc2] 25)) (w2.alloc (.cells #[.int .i64 k2, .int .i64 n2, .string s2, .slice la2 ln2 lc2, .slice fa2 fn2 fc2] 25)).heap.size sa sc none 0 0 (fun _ => .nil) (Nat.le_refl _) (lies_all (HL.out.below hbw3)) HFIT.out (HSTR.out.below (b2.alloc b2.size _)) HST.out HSC.out.1 HSC.out.2 (vals_no _ _ _) (by omega) (by omega) (by unfold maxLen; omega));have hb2' : Below ((w.alloc (.cells #[.int .i64 k, .int .i64 n, .string s, .slice la ln lc, .slice fa fn fc] 25)).alloc (.cells #[.int .i64 0, .int .i64 0, .string ⟨#[]⟩, .slice none 0 0, .slice none 0 0] 25)).heap.size ((w.alloc (.cells #[.int .i64 k, .int .i64 n, .string s, .slice la ln lc, .slice fa fn fc] 25)).alloc (.cells #[.int .i64 0, .int .i64 0, .string ⟨#[]⟩, .slice none 0 0, .slice none 0 0] 25)) (w2.alloc (.cells #[.int .i64 k2, .int .i64 n2, .string s2, .slice la2 ln2 lc2, .slice fa2 fn2 fc2] 25)) := HB1.out.trans ((b2.alloc b2.size _).mono HB1.out.size);have HB2 : Hid (Below ((w.alloc (.cells #[.int .i64 k, .int .i64 n, .string s, .slice la ln lc, .slice fa fn fc] 25)).alloc (.cells #[.int .i64 0, .int .i64 0, .string ⟨#[]⟩, .slice none 0 0, .slice none 0 0] 25)).heap.size ((w.alloc (.cells #[.int .i64 k, .int .i64 n, .string s, .slice la ln lc, .slice fa fn fc] 25)).alloc (.cells #[.int .i64 0, .int .i64 0, .string ⟨#[]⟩, .slice none 0 0, .slice none 0 0] 25)) (w2.alloc (.cells #[.int .i64 k2, .int .i64 n2, .string s2, .slice la2 ln2 lc2, .slice fa2 fn2 fc2] 25))) := hb2';clear c0 c1 c2 c3 c4;obtain ⟨c0, c1, c2, c3, c4⟩ := Blk5.cells (Blk5.below HP.out hb2');clear b2 hbw2 hbw3 hb2' h2 hy;go_wp2_with fail;refine HPT.out.mono ?_;rintro e w4 ⟨hE2, b2⟩;have hb2 := HB2.out.trans (b2.mono HB2.out.size);clear b2 c0 c1 c2 c3 c4
   cases hput : GV.put l g 0 (fun _ => .nil) with
   | error er =>
    rw [hput] at hR
    obtain ⟨rfl, hne⟩ : e = .returned (.tuple #[vZ, .int .i64 er]) ∧ er ≠ 0 := by
     rcases hE2 with ⟨er', h, h2, h3⟩ | ⟨_, _, h, _⟩
     ·rw [hput] at h; cases h; exact ⟨h3, by omega⟩
     ·rw [hput] at h; cases h
    have HR : Hid (R = .error er) := hR;have HNE : Hid (er ≠ 0) := hne;have hT := told_bad er w4 hne;have HT : Hid (Calls Try.prog 38 #[.agg #[.int .i64 0, .int .i64 0, .string ⟨#[]⟩, .slice none 0 0, .slice none 0 0], .int .i64 er] w4 fun e w' => e = .returned (.tuple #[.agg #[.int .i64 0, .int .i64 0, .string ⟨#[]⟩, .slice none 0 0, .slice none 0 0], .int .i64 er]) ∧ Below w4.heap.size w4 w') := hT;clear hR hE2 hne hT;unfold vZ;go_wp2_with fail;refine HT.out.mono ?_;rintro e w3 ⟨rfl, b3⟩;have hb3 := hb2.trans (b3.mono hb2.size);obtain ⟨z0, z1, z2, z3, z4⟩ := Blk5.cells (Blk5.below HQ.out hb3);obtain ⟨q0, q1, q2, q3, q4⟩ := Blk5.free (Blk5.below HQ.out hb3);have HB : Hid (Below w.heap.size w w3) := hidI (hbx.trans (hb3.mono hbx.size));have hrb : w.heap.size ≤ w.heap.size + 1 := by omega
    clear b3 hb3 hb2;go_wp2_with fail
    refine bodyPost_ret (v := .tuple #[vZ, .int .i64 er]) ?_ rfl ⟨Or.inl ⟨er, HR.out, HNE.out, rfl⟩, ?_⟩
    ·have hres : Try.f15.results = #[.cell 4 25, .tmp 5] := by kernel_rfl
     simp only [results, hres];go_simp
     rfl
    ·exact ((((HB.out.setCell hrb _).setCell hrb _).setCell hrb _).setCell hrb _).setCell hrb _
   | ok y =>
    rw [hput] at hR
    obtain ⟨v2, rfl, hL2⟩ : ∃ v2, e = .returned (.tuple #[v2, .int .i64 0]) ∧ Lies w4 y v2 := by
     rcases hE2 with ⟨er', h, _⟩ | ⟨y', v', h, h2, h3⟩
     ·rw [hput] at h; cases h
     ·rw [hput] at h; cases h; exact ⟨v', h2, lies_veil h3⟩
    obtain ⟨k5, n5, s2, la2, ln5, lc2, fa2, fn5, fc2, rfl⟩ := hL2.agg;have hyn := put_nodes _ _ _ _ _ hput;rw [sumG_0] at hyn;have hLN := HLN.out;have HT : Hid (Calls Try.prog 38 #[.agg #[.int .i64 k5, .int .i64 n5, .string s2, .slice la2 ln5 lc2, .slice fa2 fn5 fc2], .int .i64 0] w4 fun e w' => OutSay w4.heap.size w' (toldR (.ok y)) e ∧ Below w4.heap.size w4 w') := hidI (told_ok y _ w4 hL2 (by omega));clear hE2 hyn hL2 hput;have hw4s := hb2.size;rw [hbs] at hw4s;go_wp2_with fail;refine HT.out.mono ?_;rintro e w3 ⟨h3, b3⟩;have hb3 := hb2.trans (b3.mono hb2.size);obtain ⟨z0, z1, z2, z3, z4⟩ := Blk5.cells (Blk5.below HQ.out hb3);obtain ⟨q0, q1, q2, q3, q4⟩ := Blk5.free (Blk5.below HQ.out hb3);have HB : Hid (Below w.heap.size w w3) := hidI (hbx.trans (hb3.mono hbx.size));have hrb : w.heap.size ≤ w.heap.size + 1 := by omega
    rcases h3 with ⟨er, h4, hne, rfl⟩ | ⟨y', v3, h4, rfl, hF3, he3⟩
    ·have HR : Hid (R = .error er) := hidI (by rw [hR]; exact h4);have HNE : Hid (er ≠ 0) := hne;clear b3 hb3 hb2 h4 hne hR;unfold vZ;go_wp2_with fail
     refine bodyPost_ret (v := .tuple #[vZ, .int .i64 er]) ?_ rfl ⟨Or.inl ⟨er, HR.out, HNE.out, rfl⟩, ?_⟩
     ·have hres : Try.f15.results = #[.cell 4 25, .tmp 5] := by kernel_rfl
      simp only [results, hres];go_simp
      rfl
     ·exact ((((HB.out.setCell hrb _).setCell hrb _).setCell hrb _).setCell hrb _).setCell hrb _
    ·have HR : Hid (R = .ok y') := hidI (by rw [hR]; exact h4);obtain ⟨k3, n3, s3, la3, ln3, lc3, fa3, fn3, fc3, rfl⟩ := hF3.lies.agg;have HF3 : Hid (From w4.heap.size w3 y' _) := hF3;have HE3 : Hid (y'.err = 0) := he3;clear b3 hb3 hb2 h4 hR hF3 he3;go_wp2_with fail
     refine bodyPost_ret (v := .tuple #[.agg #[.int .i64 k3, .int .i64 n3, .string s3, .slice la3 ln3 lc3, .slice fa3 fn3 fc3], .int .i64 0]) ?_ rfl ⟨Or.inr ⟨y', _, HR.out, rfl, ?_, HE3.out⟩, ?_⟩
     ·have hres : Try.f15.results = #[.cell 4 25, .tmp 5] := by kernel_rfl
      simp only [results, hres];go_simp
     ·exact From.le (((((From.setCell HF3.out (by omega) _).setCell (by omega) _).setCell (by omega) _).setCell (by omega) _).setCell (by omega) _) (by omega)
     ·exact ((((HB.out.setCell hrb _).setCell hrb _).setCell hrb _).setCell hrb _).setCell hrb _
end Go.Proofs.Ytjngbogbbglbnaa
