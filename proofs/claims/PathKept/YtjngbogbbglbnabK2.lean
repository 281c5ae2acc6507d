/- Some texts in one: each opens with its own remark. -/
import Derived.Test.YtjngbogbbglbnabK6
import Derived.Test.YtjngbogbbglbnabOpen
import Derived.Test.YtjngbogbbglbnabK10
import Derived.Test.YtjngbogbbglbnabK9
import Derived.Test.YtjngbogbbglbnabK12
import Derived.Test.YtjngbogbbglbnabZPaRSet
import Derived.Test.YtjngbogbbglbnabK14
import Derived.Test.YtjngbogbbglbnabK7
/- How much a value holds behind a change, letters counted. (No walk.) -/
namespace Go.Proofs.Ytjngbogbbglbnab
open Go.RowKit
def z6c81 := (⟨none, .move (.tmp 0), 0, "", #[⟨8, .data⟩, ⟨7, .data⟩, ⟨7, .chain⟩, ⟨0, .phase⟩, ⟨1, .phase⟩, ⟨2, .phase⟩, ⟨3, .phase⟩, ⟨4, .phase⟩, ⟨5, .phase⟩, ⟨6, .phase⟩, ⟨7, .phase⟩], none⟩ : Oper).after
def z6c82 := (⟨none, .move (.tmp 0), 0, "", #[⟨0, .phase⟩, ⟨1, .phase⟩, ⟨2, .phase⟩, ⟨3, .phase⟩, ⟨4, .phase⟩, ⟨5, .phase⟩, ⟨6, .phase⟩, ⟨7, .phase⟩], none⟩ : Oper).after

def sumQ (q : Nat → Nat) (c : Nat) : Nat := ((List.range c).map q).sum
theorem sum_splQ (h x : Nat → Nat) (n p q c : Nat) (hpq : p + q ≤ n) : sumQ (spl h p q c x) (n - q + c) + sumQ (fun i => h (p + i)) q = sumQ h n + sumQ x c := by
 obtain ⟨A, hA⟩ : ∃ A, A = (List.range n).map h := ⟨_, rfl⟩;obtain ⟨X, hX⟩ : ∃ X, X = (List.range c).map x := ⟨_, rfl⟩;have hAl : A.length = n := by rw [hA]; simp
 have hXl : X.length = c := by rw [hX]; simp
 have e1 : ((List.range (n - q + c)).map (spl h p q c x)) = A.take p ++ (X ++ A.drop (p + q)) := by
  have hs := spl_list A X h x p q (by omega) (fun i hi => by simp [hA]) (fun i hi => by simp [hX]);have hl := spl_len A X p q (by omega)
  apply List.ext_getElem
  ·rw [hl, hAl, hXl]; simp
  ·intro i h1 h2;rw [hs i h2, hXl];simp only [List.getElem_map, List.getElem_range]
 have e2 : ((List.range q).map fun i => h (p + i)) = (A.drop p).take q := by
  apply List.ext_getElem
  ·simp [hA]; omega
  ·intro i h1 h2;simp [hA]
 have e3 : A.sum = (A.take p).sum + (((A.drop p).take q).sum + (A.drop (p + q)).sum) := by
  conv => lhs; rw [← List.take_append_drop p A, List.sum_append, ← List.take_append_drop q (A.drop p), List.sum_append, List.drop_drop]
 unfold sumQ;rw [e1, e2, ← hA, ← hX, e3, List.sum_append, List.sum_append];omega
theorem mass_mkQ (k n : Int) (s : ByteArray) (ln : Nat) (l : Nat → GV) (fn : Nat) (nm : Nat → ByteArray) (f : Nat → GV) : (GV.mk k n s ln l fn nm f).mass = 1 + s.size + sumQ (fun i => (l i).mass) ln + sumQ (fun i => (nm i).size + (f i).mass) fn := by
 simp only [GV.mass]
 rfl
theorem sumQ_spl (l x : Nat → GV) (p q c n : Nat) : sumQ (fun i => (spl l p q c x i).mass) n = sumQ (spl (fun i => (l i).mass) p q c (fun i => (x i).mass)) n := by
 congr 1
 funext i
 unfold spl
 split
 ·rfl
 ·split <;> rfl
theorem sumQ_splF (nm mn : Nat → ByteArray) (l x : Nat → GV) (p q c n : Nat) : sumQ (fun i => (spl nm p q c mn i).size + (spl l p q c x i).mass) n = sumQ (spl (fun i => (nm i).size + (l i).mass) p q c (fun i => (mn i).size + (x i).mass)) n := by
 congr 1
 funext i
 unfold spl
 split
 ·rfl
 ·split <;> rfl
theorem mass_spl6 {n : Int} {s' : ByteArray} {ln : Nat} {l : Nat → GV} {fn : Nat} {nm : Nat → ByteArray} {f : Nat → GV} {p q c : Nat} {s : ByteArray} {x : Nat → GV} (hpq : p + q ≤ fn) :
  ((GV.mk 6 n s' ln l fn nm f).spl p q s c x).mass + sumQ (fun i => (nm (p + i)).size + (f (p + i)).mass) q = (GV.mk 6 n s' ln l fn nm f).mass + sumQ (fun i => s.size + (x i).mass) c := by
 have h := sum_splQ (fun i => (nm i).size + (f i).mass) (fun i => s.size + (x i).mass) fn p q c hpq;simp only [GV.spl, if_true, mass_mkQ];rw [sumQ_splF];omega
theorem mass_spl5 {k n : Int} {s' : ByteArray} {ln : Nat} {l : Nat → GV} {fn : Nat} {nm : Nat → ByteArray} {f : Nat → GV} {p q c : Nat} {s : ByteArray} {x : Nat → GV} (hk : k ≠ 6) (hpq : p + q ≤ ln) :
  ((GV.mk k n s' ln l fn nm f).spl p q s c x).mass + sumQ (fun i => (l (p + i)).mass) q = (GV.mk k n s' ln l fn nm f).mass + sumQ (fun i => (x i).mass) c := by
 have h := sum_splQ (fun i => (l i).mass) (fun i => (x i).mass) ln p q c hpq;simp only [GV.spl, if_neg hk, mass_mkQ];rw [sumQ_spl];omega
theorem sumQ_1 (x : Nat → Nat) : sumQ x 1 = x 0 := by simp [sumQ]
theorem sumQ_0 (x : Nat → Nat) : sumQ x 0 = 0 := rfl
theorem mass_E : gE.mass = 1 := by simp [gE, GV.mass]; rfl
theorem put_mass : ∀ (l : List ByteArray) (g : GV) (x y : GV), (∀ s ∈ l, s.size ≤ 24) → GV.put l g 1 (fun _ => x) = .ok y → y.mass ≤ g.mass + x.mass + l.length * 25
 | [], g, x, y, _, h => by
  simp only [GV.put] at h;injection h with h
  rw [← h];simp only [List.length_nil];omega
 | s :: r, g, x, y, hs, h => by
  simp only [GV.put] at h;have h24 := hs s (by simp);have hsr : ∀ s ∈ r, s.size ≤ 24 := fun t ht => hs t (by simp [ht])
  rw [List.length_cons]
  cases hl : g.loc s with
  | bad e => rw [hl] at h; cases h
  | miss a =>
   rw [hl] at h;simp only at h
   cases g with
   | nil => simp [GV.loc] at hl
   | mk k n s' ln l fn nm f =>
    obtain ⟨rfl, hle⟩ := miss_six hl
    have key : ∀ z : GV, z.mass ≤ x.mass + 1 + r.length * 25 → ((GV.mk 6 n s' ln l fn nm f).spl a 0 s 1 fun _ => z).mass ≤ (GV.mk 6 n s' ln l fn nm f).mass + x.mass + (r.length + 1) * 25 := fun z hz => by
     have h1 := mass_spl6 (n := n) (s' := s') (ln := ln) (l := l) (fn := fn) (nm := nm) (f := f) (p := a) (q := 0) (c := 1) (s := s) (x := fun _ => z) (by omega);rw [sumQ_0, sumQ_1] at h1;omega
    by_cases hr : r = []
    ·rw [if_pos hr] at h;injection h with h
     rw [← h];exact key x (by omega)
    ·rw [if_neg hr] at h
     cases hz : GV.put r gE 1 (fun _ => x) with
     | error e => rw [hz] at h; cases h
     | ok z =>
      rw [hz] at h;injection h with h
      rw [← h];have h2 := put_mass r gE x z hsr hz;rw [mass_E] at h2;exact key z (by omega)
  | hit i =>
   rw [hl] at h;simp only at h;have hh := loc_hit hl
   cases g with
   | nil => exact False.elim hh
   | mk k n s' ln l fn nm f =>
    have key : ∀ z : GV, z.mass ≤ ((GV.mk k n s' ln l fn nm f).part i).mass + x.mass + r.length * 25 → ((GV.mk k n s' ln l fn nm f).spl i 1 s 1 fun _ => z).mass ≤ (GV.mk k n s' ln l fn nm f).mass + x.mass + (r.length + 1) * 25 := fun z hz => by
     rcases hh with ⟨rfl, hi⟩ | ⟨rfl, hi⟩
     ·have h1 := mass_spl6 (n := n) (s' := s') (ln := ln) (l := l) (fn := fn) (nm := nm) (f := f) (p := i) (q := 1) (c := 1) (s := s) (x := fun _ => z) (by omega);rw [sumQ_1, sumQ_1] at h1;simp only [GV.part, if_true, Nat.add_zero] at h1 hz;omega
     ·have h1 := mass_spl5 (k := 5) (n := n) (s' := s') (ln := ln) (l := l) (fn := fn) (nm := nm) (f := f) (p := i) (q := 1) (c := 1) (s := s) (x := fun _ => z) (by decide) (by omega);rw [sumQ_1, sumQ_1] at h1;simp only [GV.part, show ((5 : Int) = 6) = False by decide, if_false, Nat.add_zero] at h1 hz;omega
    by_cases hr : r = []
    ·rw [if_pos hr] at h;injection h with h
     rw [← h];exact key x (by omega)
    ·rw [if_neg hr] at h
     cases hz : GV.put r ((GV.mk k n s' ln l fn nm f).part i) 1 (fun _ => x) with
     | error e => rw [hz] at h; cases h
     | ok z =>
      rw [hz] at h;injection h with h
      rw [← h];exact key z (put_mass r _ x z hsr hz)
theorem lead_mass : ∀ (l : List ByteArray) (g y : GV), g.lead l = some y → y.mass ≤ g.mass
 | [], g, y, h => by
  have : g = y := by cases g <;> (simp [GV.lead] at h; exact h)
  rw [this];exact Nat.le_refl _
 | s :: r, g, y, h => by
  rw [lead_cons] at h;unfold GV.to at h
  cases hl : g.loc s with
  | bad e => rw [hl] at h; cases h
  | miss a => rw [hl] at h; cases h
  | hit i =>
   rw [hl] at h;have h1 := lead_mass r (g.part i) y h;have hh := loc_hit hl
   cases g with
   | nil => exact False.elim hh
   | mk k n s' ln l fn nm f =>
    refine Nat.le_trans h1 ?_
    rcases hh with ⟨rfl, hi⟩ | ⟨rfl, hi⟩
    ·have h2 := mass_spl6 (n := n) (s' := s') (ln := ln) (l := l) (fn := fn) (nm := nm) (f := f) (p := i) (q := 1) (c := 0) (s := s) (x := fun _ => .nil) (by omega);rw [sumQ_1, sumQ_0] at h2;simp only [GV.part, if_true, Nat.add_zero] at h2 ⊢;omega
    ·have h2 := mass_spl5 (k := 5) (n := n) (s' := s') (ln := ln) (l := l) (fn := fn) (nm := nm) (f := f) (p := i) (q := 1) (c := 0) (s := s) (x := fun _ => .nil) (by decide) (by omega);rw [sumQ_1, sumQ_0] at h2;simp only [GV.part, show ((5 : Int) = 6) = False by decide, if_false, Nat.add_zero] at h2 ⊢;omega
theorem more_mass (g x : GV) (hk : g.kind = 5) : (g.more x).mass ≤ g.mass + x.mass := by
 cases g with
 | nil => cases hk
 | mk k n s' ln l fn nm f =>
  have h1 := sum_splQ (fun i => (l i).mass) (fun _ => x.mass) ln ln 0 1 (by omega);rw [sumQ_1, sumQ_0] at h1;simp only [GV.more, mass_mkQ];rw [sumQ_spl];omega
end Go.Proofs.Ytjngbogbbglbnab

/- The document's own asked and told (tidemarkref6). -/
namespace Go.Proofs.Ytjngbogbbglbnab
open Go.RowKit

/-- What the document's own changes tell. -/
def Out6 (w' : World) (R : Except Int GV) (e : Ending) : Prop :=
 (∃ er, R = .error er ∧ er ≠ 0 ∧ e = .returned (.tuple #[vZ, .int .i64 er])) ∨
 ∃ y v', R = .ok y ∧ e = .returned (.tuple #[v', .int .i64 0]) ∧ Lies w' y v'
theorem beg_one (g : GV) (p : ByteArray) (x : GV) : begR g p 1 (fun _ => x) = match begR g p 0 (fun _ => .nil) with | .error e => .error e | .ok l => if x.err ≠ 0 then .error x.err else .ok l := by
 unfold begR
 by_cases h1 : g.err ≠ 0
 ·rw [if_pos h1, if_pos h1]
 ·rw [if_neg h1, if_neg h1]
  cases hs : stepsR p.data.toList with
  | none => rfl
  | some l => simp

set_option maxHeartbeats 4000000 in
set_option maxRecDepth 1000000 in
theorem rasked_any (g : GV) (p : ByteArray) (v : Value) (w : World) (hL : Lies w g v) (hM : g.mass ≤ 4194304) (hp : p.size ≤ 140737488355328) :
  Calls Try.prog 30 #[v, .string p] w fun e w' => BegSay w' (begR g p 0 (fun _ => .nil)) e ∧ Below w.heap.size w w' := by
 obtain ⟨k, n, s, la, ln, lc, fa, fn, fc, rfl⟩ := hL.agg;have HP0 : Hid (∀ u, Below w.heap.size w u → Below w.heap.size w u) := hidI (fun _ h => h);have HP1 := hbox HP0 hL;have HST := hidI (fun W => rSteps_any p W hp);have HG := hidI (rgood_any g _ _ ((HP1.out _ (Below.refl _ _)).2.2) hM);clear HP0 hL hM
 go_enter Try.func30, Try.ntmps30
 go_wp2_with fail;refine HG.out.mono ?_;rintro e w1 ⟨rfl, b1⟩;have HP2 := hgrow HP1 b1;clear b1 HP1 HG
 by_cases he : g.err = 0
 ·have hr : begR g p 0 (fun _ => .nil) = match stepsR p.data.toList with | none => .error 14 | some l => .ok l := by
   unfold begR;rw [if_neg (by omega)]
   cases stepsR p.data.toList <;> simp
  have HR := hidI hr;rw [he];clear hr he;go_wp2_with fail;refine (HST.out _).mono ?_;rintro e w2 ⟨hS, b2⟩;have HE := hidI ((hgrow HP2 b2).out _ (Below.refl _ _)).1;clear b2
  rcases hS with ⟨hn, rfl⟩ | ⟨l, sa, sc, hl, rfl, hsc, hscm, hSt⟩
  ·have HN := hidI hn;clear hn;go_wp2_with fail;refine bodyPost_ret (v := .tuple #[.slice none 0 0, .int .i64 14]) ?_ rfl ⟨Or.inl ⟨14, by rw [HR.out, HN.out], by decide, rfl⟩, HE.out⟩;have hres : Try.f30.results = #[.tmp 4, .tmp 5] := by kernel_rfl
   simp only [results, hres];go_simp
  ·have HF := hidI (And.intro hl (And.intro hsc (And.intro hscm hSt)));clear hl hsc hscm hSt;go_wp2_with fail;refine bodyPost_ret (v := .tuple #[.slice sa l.length sc, .int .i64 0]) ?_ rfl ⟨Or.inr ⟨l, sa, sc, by rw [HR.out, HF.out.1], rfl, HF.out.2.1, HF.out.2.2.1, HF.out.2.2.2⟩, HE.out⟩;have hres : Try.f30.results = #[.tmp 4, .tmp 5] := by kernel_rfl
   simp only [results, hres];go_simp
 ·have hr : begR g p 0 (fun _ => .nil) = .error g.err := by
   unfold begR;rw [if_pos he]
  have HR := hidI hr;have HE := hidI (HP2.out _ (Below.refl _ _)).1;have HER := hidI he;have heb : (g.err != 0) = true := by rw [bne_iff_ne]; exact he
  obtain ⟨er, her⟩ : ∃ q, q = g.err := ⟨_, rfl⟩;rw [← her] at heb HR HER ⊢;clear hr he her;go_wp2_with fail;refine bodyPost_ret (v := .tuple #[.slice none 0 0, .int .i64 er]) ?_ rfl ⟨Or.inl ⟨er, HR.out, HER.out, rfl⟩, HE.out⟩;have hres : Try.f30.results = #[.tmp 4, .tmp 5] := by kernel_rfl
  simp only [results, hres];go_simp

set_option maxHeartbeats 4000000 in
set_option maxRecDepth 1000000 in
theorem rtold_ok (g : GV) (v : Value) (w : World) (hL : Lies w g v) (hM : g.mass ≤ 4194304) :
  Calls Try.prog 32 #[v, .int .i64 0] w fun e w' => ((g.err ≠ 0 ∧ e = .returned (.tuple #[.agg #[.int .i64 0, .int .i64 0, .string ⟨#[]⟩, .slice none 0 0, .slice none 0 0], .int .i64 g.err])) ∨ (g.err = 0 ∧ e = .returned (.tuple #[v, .int .i64 0]))) ∧ Below w.heap.size w w' := by
 obtain ⟨k, n, s, la, ln, lc, fa, fn, fc, rfl⟩ := hL.agg
 have HPB : Hid (∀ u, Below ((w.alloc (.cells #[.int .i64 k, .int .i64 n, .string s, .slice la ln lc, .slice fa fn fc] 25)).alloc (.cells #[.int .i64 0, .int .i64 0, .string ⟨#[]⟩, .slice none 0 0, .slice none 0 0] 25)).heap.size ((w.alloc (.cells #[.int .i64 k, .int .i64 n, .string s, .slice la ln lc, .slice fa fn fc] 25)).alloc (.cells #[.int .i64 0, .int .i64 0, .string ⟨#[]⟩, .slice none 0 0, .slice none 0 0] 25)) u → Below w.heap.size w u ∧ Blk5 u (w.heap.size) (.int .i64 k) (.int .i64 n) (.string s) (.slice la ln lc) (.slice fa fn fc) ∧ Blk5 u (w.heap.size + 1) (.int .i64 0) (.int .i64 0) (.string ⟨#[]⟩) (.slice none 0 0) (.slice none 0 0) ∧ Lies u g (.agg #[.int .i64 k, .int .i64 n, .string s, .slice la ln lc, .slice fa fn fc])) := hidI (fun u hu => by
  have hb := ((Below.refl w.heap.size w).alloc (Nat.le_refl _) (.cells #[.int .i64 k, .int .i64 n, .string s, .slice la ln lc, .slice fa fn fc] 25)).alloc (by simp) (.cells #[.int .i64 0, .int .i64 0, .string ⟨#[]⟩, .slice none 0 0, .slice none 0 0] 25);have h2 := box2_cells (w := w) (by simpa using hu);exact ⟨hb.trans (hu.mono hb.size), h2.1, h2.2, hL.below (hb.trans (hu.mono hb.size))⟩)
 have HG := hidI (rgood_any g _ _ ((HPB.out _ (Below.refl _ _)).2.2.2) hM);clear hL hM
 go_enter Try.func32, Try.ntmps32
 go_wp2_with fail;refine HG.out.mono ?_;rintro e w1 ⟨rfl, b1⟩;have HP2 := hgrow HPB b1;clear b1 HPB HG;obtain ⟨f0, f1, f2, f3, f4⟩ := Blk5.cells ((HP2.out _ (Below.refl _ _)).2.1);obtain ⟨z0, z1, z2, z3, z4⟩ := Blk5.cells ((HP2.out _ (Below.refl _ _)).2.2.1);obtain ⟨y0, y1, y2, y3, y4⟩ := Blk5.free ((HP2.out _ (Below.refl _ _)).2.2.1);have HB := hidI (HP2.out _ (Below.refl _ _)).1
 by_cases he : g.err = 0
 ·have HER := hidI he;rw [he];clear he;go_wp2_with fail;have hE : Below w.heap.size w (put5x w1 (w.heap.size + 1) (.int .i64 k) (.int .i64 n) (.string s) (.slice la ln lc) (.slice fa fn fc)) := below_putx HB.out (Nat.le_succ _);unfold put5x at hE;refine bodyPost_ret (v := .tuple #[.agg #[.int .i64 k, .int .i64 n, .string s, .slice la ln lc, .slice fa fn fc], .int .i64 0]) ?_ rfl ⟨Or.inr ⟨HER.out, rfl⟩, hE⟩;have hres : Try.f32.results = #[.cell 4 25, .tmp 5] := by kernel_rfl
  clear hE f0 f1 f2 f3 f4;simp only [results, hres];go_simp
 ·have HER := hidI he;have heb : (g.err != 0) = true := by rw [bne_iff_ne]; exact he
  obtain ⟨er, her⟩ : ∃ q, q = g.err := ⟨_, rfl⟩;have HQ := hidI her;rw [← her] at heb HER ⊢;clear he her;go_wp2_with fail;have hE : Below w.heap.size w (put5x w1 (w.heap.size + 1) (.int .i64 0) (.int .i64 0) (.string ⟨#[]⟩) (.slice none 0 0) (.slice none 0 0)) := below_putx HB.out (Nat.le_succ _);unfold put5x at hE;refine bodyPost_ret (v := .tuple #[.agg #[.int .i64 0, .int .i64 0, .string ⟨#[]⟩, .slice none 0 0, .slice none 0 0], .int .i64 er]) ?_ rfl ⟨Or.inl ⟨by rw [← HQ.out]; exact HER.out, by rw [← HQ.out]⟩, hE⟩;have hres : Try.f32.results = #[.cell 4 25, .tmp 5] := by kernel_rfl
  clear hE f0 f1 f2 f3 f4;simp only [results, hres]
  (go_simp) <;> rfl

set_option maxHeartbeats 4000000 in
set_option maxRecDepth 1000000 in
theorem rtold_no (g : GV) (er : Int) (v : Value) (w : World) (hL : Lies w g v) (her : er ≠ 0) :
  Calls Try.prog 32 #[v, .int .i64 er] w fun e w' => e = .returned (.tuple #[.agg #[.int .i64 0, .int .i64 0, .string ⟨#[]⟩, .slice none 0 0, .slice none 0 0], .int .i64 er]) ∧ Below w.heap.size w w' := by
 obtain ⟨k, n, s, la, ln, lc, fa, fn, fc, rfl⟩ := hL.agg;have HB : Hid (Below w.heap.size w _) := hidI (((Below.refl w.heap.size w).alloc (Nat.le_refl _) (.cells #[.int .i64 k, .int .i64 n, .string s, .slice la ln lc, .slice fa fn fc] 25)).alloc (by simp) (.cells #[.int .i64 0, .int .i64 0, .string ⟨#[]⟩, .slice none 0 0, .slice none 0 0] 25));have heb : (er != 0) = true := by rw [bne_iff_ne]; exact her
 have he2 : (er == 0) = false := by rw [beq_eq_false_iff_ne]; exact her
 clear hL her
 go_enter Try.func32, Try.ntmps32
 go_wp2_with fail
 refine bodyPost_ret (v := .tuple #[.agg #[.int .i64 0, .int .i64 0, .string ⟨#[]⟩, .slice none 0 0, .slice none 0 0], .int .i64 er]) ?_ rfl ⟨rfl, ?_⟩
 ·have hres : Try.f32.results = #[.cell 4 25, .tmp 5] := by kernel_rfl
  simp only [results, hres]
  (go_simp) <;> rfl
 ·exact HB.out
end Go.Proofs.Ytjngbogbbglbnab

/- The document's own Set (tidemarkref6). -/
namespace Go.Proofs.Ytjngbogbbglbnab
open Go.RowKit

theorem setR_beg {g x : GV} {p : ByteArray} {er : Int} (h : begR g p 0 (fun _ => .nil) = .error er) : setR g p x = .error er ∧ pushR g p x = .error er ∧ unsetR g p = .error er ∧ ∀ n, addR g p n = .error er := by
 unfold setR pushR unsetR addR;simp only [beg_one, h];exact ⟨trivial, trivial, trivial, fun _ => trivial⟩
theorem setR_bad {g x : GV} {p : ByteArray} {l : List ByteArray} (h : begR g p 0 (fun _ => .nil) = .ok l) (hx : x.err ≠ 0) : setR g p x = .error x.err ∧ pushR g p x = .error x.err := by
 unfold setR pushR;simp only [beg_one, h, if_pos hx];exact ⟨trivial, trivial⟩
theorem setR_is {g x : GV} {p : ByteArray} {l : List ByteArray} (h : begR g p 0 (fun _ => .nil) = .ok l) (hx : x.err = 0) : setR g p x = toldR (setG l g x) := by
 have hne : l ≠ [] := by
  have := (steps_all (beg_ok h).2.1).2.2.1;intro e;rw [e] at this;simp at this
 unfold setR;simp only [beg_one, h, if_neg (show ¬ x.err ≠ 0 by omega), setG_put l g x hne]
theorem setG_mass {g x y : GV} {p : ByteArray} {l : List ByteArray} (h : begR g p 0 (fun _ => .nil) = .ok l) (hy : setG l g x = .ok y) : y.mass ≤ g.mass + x.mass + 200 := by
 have ha := steps_all (beg_ok h).2.1
 have hne : l ≠ [] := by
  intro e;rw [e] at ha;simp at ha
 rw [setG_put l g x hne] at hy
 have := put_mass l g x y (fun s hs => by
  have := (isStep_len (ha.1 s hs)).2;rw [size_list] at this
  omega) hy
 omega
theorem veil_old {B C : Nat} {w u : World} {g : GV} {v : Value} (h : Lies w g v) (hb : Below w.heap.size w u) (hB : w.heap.size ≤ B) : Lies (veil B C u) g v :=
 Lies.mono (fun b o x hx => veil_cell.2 ⟨by have := lt_of_cell hx; omega, below_keeps hb b o x hx⟩) h
theorem veil2_old {X Y B C : Nat} {w u : World} {g : GV} {v : Value} (h : Lies w g v) (hb : Below w.heap.size w u) (hB : w.heap.size ≤ B) (hX : w.heap.size ≤ X) : Lies (veil2 X Y B C u) g v :=
 Lies.mono (fun b o x hx => veil2_cell.2 ⟨by have := lt_of_cell hx; omega, by have := lt_of_cell hx; omega, below_keeps hb b o x hx⟩) h
theorem veil2_fiveX {X Y B C b : Nat} {w : World} (hb : X ≤ b ∧ b < Y) {y0 y1 y2 y3 y4 : Value} {g : GV} {v : Value} (h : Lies (veil2 X Y B C w) g v) : Lies (veil2 X Y B C (put5x w b y0 y1 y2 y3 y4)) g v := by
 refine Lies.mono (fun c o u hc => ?_) h;obtain ⟨h1, h2, h3⟩ := veil2_cell.1 hc;refine veil2_cell.2 ⟨h1, h2, ?_⟩;unfold put5x;rw [put_result (by intro e; exact h1 (e ▸ hb))];exact h3

set_option maxHeartbeats 4000000 in
set_option maxRecDepth 1000000 in
theorem rSetO_any (g gx : GV) (p : ByteArray) (v vx : Value) (w : World) (hL : Lies w g v) (hX : Lies w gx vx) (hM : g.mass + gx.mass ≤ 4194000) (hnn : g.nodes ≤ 50000) (hp : p.size ≤ 140737488355328) :
  Calls Try.prog 12 #[v, .string p, vx] w fun e w' => Out6 w' (setR g p gx) e ∧ Below w.heap.size w w' := by
 obtain ⟨k, n, s, la, ln, lc, fa, fn, fc, rfl⟩ := hL.agg;obtain ⟨kx, nx, sx, lax, lnx, lcx, fax, fnx, fcx, rfl⟩ := hX.agg;have HP0 : Hid (∀ u, Below (((w.alloc (.cells #[.int .i64 k, .int .i64 n, .string s, .slice la ln lc, .slice fa fn fc] 25)).alloc (.cells #[.int .i64 kx, .int .i64 nx, .string sx, .slice lax lnx lcx, .slice fax fnx fcx] 25)).alloc (.cells #[.int .i64 0, .int .i64 0, .string ⟨#[]⟩, .slice none 0 0, .slice none 0 0] 25)).heap.size (((w.alloc (.cells #[.int .i64 k, .int .i64 n, .string s, .slice la ln lc, .slice fa fn fc] 25)).alloc (.cells #[.int .i64 kx, .int .i64 nx, .string sx, .slice lax lnx lcx, .slice fax fnx fcx] 25)).alloc (.cells #[.int .i64 0, .int .i64 0, .string ⟨#[]⟩, .slice none 0 0, .slice none 0 0] 25)) u → Below w.heap.size w u ∧ Blk5 u (w.heap.size) (.int .i64 k) (.int .i64 n) (.string s) (.slice la ln lc) (.slice fa fn fc) ∧ Blk5 u (w.heap.size + 1) (.int .i64 kx) (.int .i64 nx) (.string sx) (.slice lax lnx lcx) (.slice fax fnx fcx) ∧ Blk5 u (w.heap.size + 1 + 1) (.int .i64 0) (.int .i64 0) (.string ⟨#[]⟩) (.slice none 0 0) (.slice none 0 0)) := hidI (fun u hu => blocks3 hu);have HAS := hidI (rasked_any g p _ (((w.alloc (.cells #[.int .i64 k, .int .i64 n, .string s, .slice la ln lc, .slice fa fn fc] 25)).alloc (.cells #[.int .i64 kx, .int .i64 nx, .string sx, .slice lax lnx lcx, .slice fax fnx fcx] 25)).alloc (.cells #[.int .i64 0, .int .i64 0, .string ⟨#[]⟩, .slice none 0 0, .slice none 0 0] 25)) (hL.below ((HP0.out _ (Below.refl _ _)).1)) (by omega) hp);have HL := hidI hL;have HX := hidI hX;have HM := hidI hM;have HN := hidI hnn;clear hL hX hM hnn
 go_enter Try.func12, Try.ntmps12
 go_wp2_with fail;refine HAS.out.mono ?_;rintro e w1 ⟨hA, b1⟩;have HP1 := hgrow HP0 b1;clear b1 HAS HP0
 rcases hA with ⟨er, hR, hne, rfl⟩ | ⟨l, sa, sc, hR, rfl, hsc, hscm, hSt⟩
 ·have HRE := hidI hR;have HNE := hidI hne;have heb : (er != 0) = true := by rw [bne_iff_ne]; exact hne
  have he2 : (er == 0) = false := by rw [beq_eq_false_iff_ne]; exact hne
  clear hR hne;have HB9 := hidI ((HP1.out _ (Below.refl _ _)).1);obtain ⟨z0, z1, z2, z3, z4⟩ := Blk5.cells ((HP1.out _ (Below.refl _ _)).2.2.2);obtain ⟨y0, y1, y2, y3, y4⟩ := Blk5.free ((HP1.out _ (Below.refl _ _)).2.2.2);go_wp2_with fail;have hE : Below w.heap.size w (put5x w1 (w.heap.size + 1 + 1) (.int .i64 0) (.int .i64 0) (.string ⟨#[]⟩) (.slice none 0 0) (.slice none 0 0)) := below_putx HB9.out (by omega);unfold put5x at hE;refine bodyPost_ret (v := .tuple #[.agg #[.int .i64 0, .int .i64 0, .string ⟨#[]⟩, .slice none 0 0, .slice none 0 0], .int .i64 er]) ?_ rfl ⟨Or.inl ⟨er, ((setR_beg HRE.out).1), HNE.out, rfl⟩, hE⟩;have hres : Try.f12.results = #[.cell 6 25, .tmp 7] := by kernel_rfl
  clear hE y0 y1 y2 y3 y4;simp only [results, hres]
  (go_simp) <;> rfl
 ·have HF := hidI (And.intro hR (And.intro hsc (And.intro hscm hSt)));obtain ⟨N, hN⟩ : ∃ N, N = l.length := ⟨_, rfl⟩;have HNq := hidI hN;rw [← hN];clear hR hsc hscm hSt hN;have HG := hidI (rgood_any gx _ w1 (HX.out.below (HP1.out _ (Below.refl _ _)).1) (by have := HM.out; omega));obtain ⟨f0, f1, f2, f3, f4⟩ := Blk5.cells ((HP1.out _ (Below.refl _ _)).2.2.1);go_wp2_with fail;refine HG.out.mono ?_;rintro e w2 ⟨rfl, b2⟩;have HP2 := hgrow HP1 b2;have HB2' := hidI b2;clear b2 HG f0 f1 f2 f3 f4
  by_cases hx0 : gx.err = 0
  ·have HR : Hid (setR g p gx = toldR (setG l g gx)) := hidI (setR_is HF.out.1 hx0)
   have HMY : Hid (∀ y, setG l g gx = .ok y → y.mass ≤ 4194304) := hidI (fun y hy => by
    have := setG_mass HF.out.1 hy;have := HM.out
    omega)
   have HVB : Hid (w.heap.size ≤ w.heap.size + 1 + 1 ∧ w.heap.size + 1 + 1 < w2.heap.size) := hidI ⟨by omega, (HP2.out _ (Below.refl _ _)).2.2.2.lt⟩;have HSE0 := rset_any 0 0 l g gx (.agg #[.int .i64 k, .int .i64 n, .string s, .slice la ln lc, .slice fa fn fc]) (.agg #[.int .i64 kx, .int .i64 nx, .string sx, .slice lax lnx lcx, .slice fax fnx fcx]) sa sc w.heap.size w2 ((HP2.out _ (Below.refl _ _)).1.size) (Nat.zero_le _) (by have h := veil_old (B := w.heap.size) (C := w2.heap.size) HL.out (HP2.out _ (Below.refl _ _)).1 (Nat.le_refl _); exact Lies.mono (fun b o x hx => veil_cell.2 ⟨by omega, hx⟩) h) (err_every (beg_ok HF.out.1).1) HN.out (by have h := veil_old (B := w.heap.size) (C := w2.heap.size) HX.out (HP2.out _ (Below.refl _ _)).1 (Nat.le_refl _); exact Lies.mono (fun b o x hx => veil_cell.2 ⟨by omega, hx⟩) h) (HF.out.2.2.2.below HB2'.out) (steps_all (beg_ok HF.out.1).2.1).1 HF.out.2.1 HF.out.2.2.1;rw [← HNq.out] at HSE0;have HSE := hidI HSE0;rw [hx0];obtain ⟨f0, f1, f2, f3, f4⟩ := Blk5.cells ((HP2.out _ (Below.refl _ _)).2.1);obtain ⟨g0, g1, g2, g3, g4⟩ := Blk5.cells ((HP2.out _ (Below.refl _ _)).2.2.1);clear HSE0 hx0;go_wp2_with fail;clear f0 f1 f2 f3 f4 g0 g1 g2 g3 g4;refine HSE.out.mono ?_;rintro e w8 ⟨hS, b8⟩;have HP8 := hgrow HP2 b8;clear b8 HSE
   rcases hS with ⟨er, v8, g8, hR, hne, rfl, hL8⟩ | ⟨yy, v8, hR, rfl, hL8⟩
   ·have HT := hidI (rtold_no g8 er _ w8 hL8 hne);obtain ⟨k8, n8, s8, la8, ln8, lc8, fa8, fn8, fc8, rfl⟩ := hL8.agg;have HRE := hidI hR;have HNE := hidI hne;clear hR hne hL8;go_wp2_with fail;refine HT.out.mono ?_;rintro e w9 ⟨rfl, b9⟩;have HP9 := hgrow HP8 b9;clear b9 HP8 HT;have HB9 := hidI ((HP9.out _ (Below.refl _ _)).1);obtain ⟨z0, z1, z2, z3, z4⟩ := Blk5.cells ((HP9.out _ (Below.refl _ _)).2.2.2);obtain ⟨y0, y1, y2, y3, y4⟩ := Blk5.free ((HP9.out _ (Below.refl _ _)).2.2.2);go_wp2_with fail;have hE : Below w.heap.size w (put5x w9 (w.heap.size + 1 + 1) (.int .i64 0) (.int .i64 0) (.string ⟨#[]⟩) (.slice none 0 0) (.slice none 0 0)) := below_putx HB9.out (by omega);unfold put5x at hE;refine bodyPost_ret (v := .tuple #[.agg #[.int .i64 0, .int .i64 0, .string ⟨#[]⟩, .slice none 0 0, .slice none 0 0], .int .i64 er]) ?_ rfl ⟨Or.inl ⟨er, by rw [HR.out, HRE.out]; rfl, HNE.out, rfl⟩, hE⟩;have hres : Try.f12.results = #[.cell 6 25, .tmp 7] := by kernel_rfl
    clear hE y0 y1 y2 y3 y4;simp only [results, hres]
    (go_simp) <;> rfl
   ·have hm : yy.mass ≤ 4194304 := HMY.out yy hR;have HT := hidI (rtold_ok yy _ w8 (Lies.mono veil2_off hL8) hm);obtain ⟨k8, n8, s8, la8, ln8, lc8, fa8, fn8, fc8, rfl⟩ := hL8.agg;have HL8 := hidI hL8;have HRE := hidI hR;clear hR hL8 hm;go_wp2_with fail;refine HT.out.mono ?_;rintro e w9 ⟨hT, b9⟩;have HP9 := hgrow HP8 b9;have HL9 := hidI (Lies.mono (veil2_below b9) HL8.out);clear b9 HP8 HT
    rcases hT with ⟨hne, rfl⟩ | ⟨h0, rfl⟩
    ·have HNE := hidI hne;obtain ⟨er, her⟩ : ∃ q, q = yy.err := ⟨_, rfl⟩;have HQ := hidI her;rw [← her];clear her hne;have HB9 := hidI ((HP9.out _ (Below.refl _ _)).1);obtain ⟨z0, z1, z2, z3, z4⟩ := Blk5.cells ((HP9.out _ (Below.refl _ _)).2.2.2);obtain ⟨y0, y1, y2, y3, y4⟩ := Blk5.free ((HP9.out _ (Below.refl _ _)).2.2.2);go_wp2_with fail;have hE : Below w.heap.size w (put5x w9 (w.heap.size + 1 + 1) (.int .i64 0) (.int .i64 0) (.string ⟨#[]⟩) (.slice none 0 0) (.slice none 0 0)) := below_putx HB9.out (by omega);unfold put5x at hE;refine bodyPost_ret (v := .tuple #[.agg #[.int .i64 0, .int .i64 0, .string ⟨#[]⟩, .slice none 0 0, .slice none 0 0], .int .i64 er]) ?_ rfl ⟨Or.inl ⟨er, by rw [HR.out, HRE.out, HQ.out]; simp [toldR, HNE.out], by rw [HQ.out]; exact HNE.out, rfl⟩, hE⟩;have hres : Try.f12.results = #[.cell 6 25, .tmp 7] := by kernel_rfl
     clear hE y0 y1 y2 y3 y4;simp only [results, hres]
     (go_simp) <;> rfl
    ·have H0 := hidI h0;clear h0;have HB9 := hidI ((HP9.out _ (Below.refl _ _)).1);obtain ⟨z0, z1, z2, z3, z4⟩ := Blk5.cells ((HP9.out _ (Below.refl _ _)).2.2.2);obtain ⟨y0, y1, y2, y3, y4⟩ := Blk5.free ((HP9.out _ (Below.refl _ _)).2.2.2);go_wp2_with fail;have hE : Below w.heap.size w (put5x w9 (w.heap.size + 1 + 1) (.int .i64 k8) (.int .i64 n8) (.string s8) (.slice la8 ln8 lc8) (.slice fa8 fn8 fc8)) := below_putx HB9.out (by omega);have hLE := Lies.mono veil2_off (veil2_five (b := w.heap.size + 1 + 1) (y0 := .int .i64 k8) (y1 := .int .i64 n8) (y2 := .string s8) (y3 := .slice la8 ln8 lc8) (y4 := .slice fa8 fn8 fc8) HVB.out HL9.out);unfold put5x at hE
     try unfold put5x at hLE
     refine bodyPost_ret (v := .tuple #[.agg #[.int .i64 k8, .int .i64 n8, .string s8, .slice la8 ln8 lc8, .slice fa8 fn8 fc8], .int .i64 0]) ?_ rfl ⟨Or.inr ⟨yy, .agg #[.int .i64 k8, .int .i64 n8, .string s8, .slice la8 ln8 lc8, .slice fa8 fn8 fc8], by rw [HR.out, HRE.out]; simp [toldR, H0.out], rfl, hLE⟩, hE⟩;have hres : Try.f12.results = #[.cell 6 25, .tmp 7] := by kernel_rfl
     clear hE hLE y0 y1 y2 y3 y4;simp only [results, hres];go_simp
  ·have HRE := hidI (setR_bad HF.out.1 hx0).1;have HNE := hidI hx0;have heb : (gx.err != 0) = true := by rw [bne_iff_ne]; exact hx0
   obtain ⟨er, her⟩ : ∃ q, q = gx.err := ⟨_, rfl⟩;rw [← her] at heb HRE HNE ⊢;clear her hx0;have HB9 := hidI ((HP2.out _ (Below.refl _ _)).1);obtain ⟨z0, z1, z2, z3, z4⟩ := Blk5.cells ((HP2.out _ (Below.refl _ _)).2.2.2);obtain ⟨y0, y1, y2, y3, y4⟩ := Blk5.free ((HP2.out _ (Below.refl _ _)).2.2.2);go_wp2_with fail;have hE : Below w.heap.size w (put5x w2 (w.heap.size + 1 + 1) (.int .i64 0) (.int .i64 0) (.string ⟨#[]⟩) (.slice none 0 0) (.slice none 0 0)) := below_putx HB9.out (by omega);unfold put5x at hE;refine bodyPost_ret (v := .tuple #[.agg #[.int .i64 0, .int .i64 0, .string ⟨#[]⟩, .slice none 0 0, .slice none 0 0], .int .i64 er]) ?_ rfl ⟨Or.inl ⟨er, HRE.out, HNE.out, rfl⟩, hE⟩;have hres : Try.f12.results = #[.cell 6 25, .tmp 7] := by kernel_rfl
   clear hE y0 y1 y2 y3 y4;simp only [results, hres]
   (go_simp) <;> rfl
end Go.Proofs.Ytjngbogbbglbnab

/- The walk of the document's own unset (tidemarkref6), of any formed value and a path that leads somewhere. -/
namespace Go.Proofs.Ytjngbogbbglbnab
open Go.RowKit

theorem own_sliceU {w : World} {B t size n : Nat} {v : Value} {xs : List Value} (h : w.ownsRow B t size v n xs) : ∃ a c, v = .slice a n c ∧ n ≤ c := by
 rcases h.2 with ⟨rfl, h0⟩ | ⟨g, cap, cur, rfl, hb, hg, hnc, _⟩
 ·exact ⟨none, 0, by rw [h0], by omega⟩
 ·exact ⟨some ⟨g, 0, none⟩, cap, rfl, hnc⟩
theorem grow_keep {Y M t q : Nat} {W0 wr w3 : World} {row v0 v1 v2 v3 v4 : Value} {xs : List Value} (hown : wr.ownsRow (Y + 1) t q row M xs) (hy : Blk5 wr Y v0 v1 v2 v3 v4) (hb : Below Y W0 wr) (hsz : Y + 1 ≤ wr.heap.size) (hg : wr.grownBy w3 row.ownBlock) :
  Blk5 w3 Y v0 v1 v2 v3 v4 ∧ Below Y W0 w3 ∧ Y + 1 ≤ w3.heap.size := by
 have hs := hg.size;refine ⟨?_, hb.grown hg (by omega) (fun k hk => Nat.le_trans (Nat.le_succ _) (hown.lt k hk).1), by omega⟩;unfold Blk5;rw [hg.block Y (by omega) (fun e => by have := (hown.lt Y e.symm).1; omega)];exact hy
end Go.Proofs.Ytjngbogbbglbnab

/- The document's own Unset (tidemarkref6). -/
namespace Go.Proofs.Ytjngbogbbglbnab
open Go.RowKit

end Go.Proofs.Ytjngbogbbglbnab

/- The document's own Push (tidemarkref6). -/
namespace Go.Proofs.Ytjngbogbbglbnab
open Go.RowKit

theorem veil_ownE {B C b0 t q n : Nat} {w : World} {v : Value} {xs : List Value} (h : w.ownsRow b0 t q v n xs) (hC : C ≤ B) : (veil B C w).ownsRow b0 t q v n xs := by
 refine ⟨h.1, ?_⟩
 rcases h.2 with h1 | ⟨g, cap, cur, e, hg, hb, rest⟩
 ·exact Or.inl h1
 ·exact Or.inr ⟨g, cap, cur, e, hg, by rw [veil_block (by omega)]; exact hb, rest⟩
/-- append to a row that is nil yet, of a row that may be nil. -/
theorem step_append_nil {P : Program} {ops : Array Oper} {o : Oper} {a : Act} {w : World} {K : Act → World → Prop} {Q : Exit → Act → World → Prop} {E : Prop}
  (hg : o.guard = none) (s x : Operand) (t : TypeId) (hop : o.op = Op.call { callee := Callee.builtin Builtin.append, args := #[s, x], argTypes := #[t, t] })
  (base : Nat) (e : TypeId) (i : TypeInfo) (z : Value) (size bytes : Nat) (h1 : P.underlying t = some (.slice e)) (h2 : P.info? e = some i) (h3 : i.zero = some z) (h4 : i.size = size) (h5 : i.bytes = bytes) (h6 : z.cells.size = size) (h7 : 0 < size)
  (hs : a.eval s = .slice none 0 0) (xa : Option Addr) (m c : Nat) (news : List Value) (hx : a.eval x = .slice xa m c) (hn : news.length = m * size) (hc : news = [] ∧ xa = none ∨ ∃ ad, xa = some ad ∧ ∀ j u, news[j]? = some u → w.cell? (Addr.add ad j) = some u) (h1c : ∀ u ∈ news, u.oneCell' = true)
  (b1 : m ≤ maxLen) (b2 : m * bytes ≤ 140737488355328) (hbase : base ≤ w.heap.size)
  (hK : ∀ v' w', w'.ownsRow base e size v' m news → w.grownBy w' none → K (a.put o.dst v') w') :
  if Region.wanted o (yielded ops a.tmps) = true then Oper.wp P o a w K Q else E := by
 rcases hc with ⟨rfl, rfl⟩ | ⟨ad, rfl, hc⟩
 ·have hm : m = 0 := by
   rcases Nat.eq_zero_or_pos m with h | h
   ·exact h
   ·have := Nat.mul_pos h h7;simp at hn;omega
  subst hm;have hw : Region.wanted o (yielded ops a.tmps) = true := by simp [Region.wanted, hg]
  rw [if_pos hw]
  have hrun : (Builtin.append_ #[t, t] o.type #[.slice none 0 0, .slice none 0 c]).run P w = .ok (.slice none 0 0) w := by
   simp [Builtin.append_, run_underlying h1, sizeOf, typeInfo, h2, Builtin.lenOf, Builtin.firstCells]
  unfold Oper.wp;simp [execOp, hop, resolve, invoke, builtin, hs, hx, hrun, Result.andThen];exact hK _ _ (World.ownsRow_nil _ _ _ _) (World.grownBy.refl _ _)
 ·exact step_append_own hg s x t hop base e i z size bytes h1 h2 h3 h4 h5 h6 h7 (.slice none 0 0) 0 [] hs (World.ownsRow_nil _ _ _ _) ad m c news hx hn hc h1c (by omega) (by rw [Nat.zero_add]; exact b2) hbase (fun v' w' h8 h9 => hK v' w' (by rw [Nat.zero_add, List.nil_append] at h8; exact h8) h9)
theorem joinP {P : Program} {id : Nat} {ops : Array Oper} {b : Bool} {Q : Exit → Act → World → Prop} {a : Act} {w : World} (F : Option Addr → Nat → Nat → Option Addr → Nat → Act) (Facts : Option Addr → Nat → World → Prop)
  (h1 : (∀ a3 c3 bk ra rc W, Facts ra rc W → Q .normal (F a3 c3 bk ra rc) W) → (Code.region id ops b).wp P Q a w) (h2 : ∀ a3 c3 bk ra rc W, Facts ra rc W → Q .normal (F a3 c3 bk ra rc) W) : (Code.region id ops b).wp P Q a w := h1 h2
/-- A List with one value more. -/
theorem more_lies {W : World} {b0 : Nat} {vs : List Value} {vx : Value} {ra : Option Addr} {rc ln : Nat} {l : Nat → GV} {y : GV} {nm : Nat → ByteArray} {f : Nat → GV}
  (hown : W.ownsRow b0 25 5 (.slice ra (ln + 1) rc) (ln + 1) (valCells vs ++ valCells [vx])) (hl : vs.length = ln) (hv : ∀ i (hi : i < vs.length), Lies W (l i) (vs[i]'hi)) (hx : Lies W y vx) :
  Lies W ((GV.mk 5 0 ⟨#[]⟩ ln l 0 nm f).more y) (.agg #[.int .i64 5, .int .i64 0, .string ⟨#[]⟩, .slice ra (ln + 1) rc, .slice none 0 0]) := by
 have hcl : (valCells vs).length = ln * 5 := by rw [valCells_length vs (five_all hv), hl]
 have hown2 : W.ownsRow b0 25 5 (.slice ra (ln + 1) rc) (ln + 1) ((valCells vs).take (ln * 5) ++ (valCells [vx] ++ (valCells vs).drop ((ln + 0) * 5))) := by
  rw [List.take_of_length_le (by omega), List.drop_of_length_le (by omega), List.append_nil];exact hown
 obtain ⟨a2, c2, e, h1, h2, h3⟩ := vals_spl (x := fun _ => y) hown2 (by simp; omega) (by omega) hv (fun i hi => by
  obtain rfl : i = 0 := by simpa using hi
  exact hx)
 cases e
 simp only [GV.more, List.length_singleton] at h3 ⊢;exact ⟨ra, rc, none, 0, rfl, small64 (by omega), small64 (by omega), by decide, h1, h2, Nat.le_refl _, by unfold maxLen; omega, h3, fun i hi => absurd hi (Nat.not_lt_zero _)⟩
theorem crow_at {w w' : World} {a : Option Addr} {cs : List Value} (h : CRow w a cs) (hb : ∀ b o x, w.cell? ⟨b, o, none⟩ = some x → w'.cell? ⟨b, o, none⟩ = some x) : cs = [] ∧ a = none ∨ ∃ ad, a = some ad ∧ ∀ j u, cs[j]? = some u → w'.cell? (Addr.add ad j) = some u := by
 rcases h with h | ⟨b, o, e, h⟩
 ·cases a with
  | none => exact Or.inl ⟨h, rfl⟩
  | some ad => exact Or.inr ⟨ad, rfl, fun j u hj => by rw [h] at hj; cases hj⟩
 ·exact Or.inr ⟨⟨b, o, none⟩, e, fun j u hj => by rw [addr_add]; exact hb _ _ _ (h j u hj)⟩
theorem news_at {w : World} {b t : Nat} {x0 x1 x2 x3 x4 : Value} (h : w.heap[b]? = some (.cells #[x0, x1, x2, x3, x4] t (0, 0))) : ∀ j u, [x0, x1, x2, x3, x4][j]? = some u → w.cell? (Addr.add ⟨b, 0, none⟩ j) = some u := fun j u hj => by
 have hc : w.cell? ⟨b, j, none⟩ = #[x0, x1, x2, x3, x4][j]? := cell_of_row _ _ _ _ _ _ h;rw [addr_add, Nat.zero_add, hc, List.getElem?_toArray];exact hj
theorem push_led {g x : GV} {p : ByteArray} {l : List ByteArray} (h : begR g p 0 (fun _ => .nil) = .ok l) (hx : x.err = 0) : (g.lead l = none → pushR g p x = .error 8) ∧ (∀ y, g.lead l = some y → y.kind ≠ 5 → pushR g p x = .error 7) ∧ (∀ y, g.lead l = some y → y.kind = 5 → pushR g p x = toldR (setG l g (y.more x))) := by
 have hne : l ≠ [] := by
  have := (steps_all (beg_ok h).2.1).2.2.1;intro e;rw [e] at this;simp at this
 unfold pushR;simp only [beg_one, h, if_neg (show ¬ x.err ≠ 0 by omega), ledR];refine ⟨fun h1 => by simp only [h1], fun y h1 h2 => by simp only [h1, if_neg h2], fun y h1 h2 => by simp only [h1, if_pos h2, setG_put l g _ hne]⟩

set_option maxHeartbeats 4000000 in
set_option maxRecDepth 1000000 in
theorem rPushO_any (g gx : GV) (p : ByteArray) (v vx : Value) (w : World) (hL : Lies w g v) (hX : Lies w gx vx) (hM : 2 * g.mass + gx.mass ≤ 4194000) (hnn : g.nodes ≤ 50000) (hp : p.size ≤ 140737488355328) :
  Calls Try.prog 13 #[v, .string p, vx] w fun e w' => Out6 w' (pushR g p gx) e ∧ Below w.heap.size w w' := by
 obtain ⟨k, n, s, la, ln, lc, fa, fn, fc, rfl⟩ := hL.agg;obtain ⟨kx, nx, sx, lax, lnx, lcx, fax, fnx, fcx, rfl⟩ := hX.agg;have HP0 : Hid (∀ u, Below (((w.alloc (.cells #[.int .i64 k, .int .i64 n, .string s, .slice la ln lc, .slice fa fn fc] 25)).alloc (.cells #[.int .i64 kx, .int .i64 nx, .string sx, .slice lax lnx lcx, .slice fax fnx fcx] 25)).alloc (.cells #[.int .i64 0, .int .i64 0, .string ⟨#[]⟩, .slice none 0 0, .slice none 0 0] 25)).heap.size (((w.alloc (.cells #[.int .i64 k, .int .i64 n, .string s, .slice la ln lc, .slice fa fn fc] 25)).alloc (.cells #[.int .i64 kx, .int .i64 nx, .string sx, .slice lax lnx lcx, .slice fax fnx fcx] 25)).alloc (.cells #[.int .i64 0, .int .i64 0, .string ⟨#[]⟩, .slice none 0 0, .slice none 0 0] 25)) u → Below w.heap.size w u ∧ Blk5 u (w.heap.size) (.int .i64 k) (.int .i64 n) (.string s) (.slice la ln lc) (.slice fa fn fc) ∧ Blk5 u (w.heap.size + 1) (.int .i64 kx) (.int .i64 nx) (.string sx) (.slice lax lnx lcx) (.slice fax fnx fcx) ∧ Blk5 u (w.heap.size + 1 + 1) (.int .i64 0) (.int .i64 0) (.string ⟨#[]⟩) (.slice none 0 0) (.slice none 0 0)) := hidI (fun u hu => blocks3 hu);have HAS := hidI (rasked_any g p _ (((w.alloc (.cells #[.int .i64 k, .int .i64 n, .string s, .slice la ln lc, .slice fa fn fc] 25)).alloc (.cells #[.int .i64 kx, .int .i64 nx, .string sx, .slice lax lnx lcx, .slice fax fnx fcx] 25)).alloc (.cells #[.int .i64 0, .int .i64 0, .string ⟨#[]⟩, .slice none 0 0, .slice none 0 0] 25)) (hL.below ((HP0.out _ (Below.refl _ _)).1)) (by omega) hp);have HL := hidI hL;have HX := hidI hX;have HM := hidI hM;have HN := hidI hnn;clear hL hX hM hnn
 go_enter Try.func13, Try.ntmps13
 go_wp2_with fail;refine HAS.out.mono ?_;rintro e w1 ⟨hA, b1⟩;have HP1 := hgrow HP0 b1;clear b1 HAS HP0
 rcases hA with ⟨er, hR, hne, rfl⟩ | ⟨l, sa, sc, hR, rfl, hsc, hscm, hSt⟩
 ·have HRE := hidI hR;have HNE := hidI hne;have heb : (er != 0) = true := by rw [bne_iff_ne]; exact hne
  have he2 : (er == 0) = false := by rw [beq_eq_false_iff_ne]; exact hne
  clear hR hne;have HB9 := hidI ((HP1.out _ (Below.refl _ _)).1);obtain ⟨z0, z1, z2, z3, z4⟩ := Blk5.cells ((HP1.out _ (Below.refl _ _)).2.2.2);obtain ⟨y0, y1, y2, y3, y4⟩ := Blk5.free ((HP1.out _ (Below.refl _ _)).2.2.2);go_wp2_with fail;have hE : Below w.heap.size w (put5x w1 (w.heap.size + 1 + 1) (.int .i64 0) (.int .i64 0) (.string ⟨#[]⟩) (.slice none 0 0) (.slice none 0 0)) := below_putx HB9.out (by omega);unfold put5x at hE;refine bodyPost_ret (v := .tuple #[.agg #[.int .i64 0, .int .i64 0, .string ⟨#[]⟩, .slice none 0 0, .slice none 0 0], .int .i64 er]) ?_ rfl ⟨Or.inl ⟨er, ((setR_beg HRE.out).2.1), HNE.out, rfl⟩, hE⟩;have hres : Try.f13.results = #[.cell 6 25, .tmp 7] := by kernel_rfl
  clear hE y0 y1 y2 y3 y4;simp only [results, hres]
  (go_simp) <;> rfl
 ·have HF := hidI (And.intro hR (And.intro hsc (And.intro hscm hSt)));obtain ⟨N, hN⟩ : ∃ N, N = l.length := ⟨_, rfl⟩;have HNq := hidI hN;rw [← hN];clear hR hsc hscm hSt hN;have HG := hidI (rgood_any gx _ w1 (HX.out.below (HP1.out _ (Below.refl _ _)).1) (by have := HM.out; omega));have HGEX := hidI (fun (u : World) (hu : Below w1.heap.size w1 u) => rget_any l g (.agg #[.int .i64 k, .int .i64 n, .string s, .slice la ln lc, .slice fa fn fc]) sa sc w u HL.out (fun b o x hx => below_keeps ((HP1.out _ hu).1) b o x hx) (err_every (beg_ok HF.out.1).1) (HF.out.2.2.2.below hu) (steps_all (beg_ok HF.out.1).2.1).1 HF.out.2.1 HF.out.2.2.1);unfold RGetSay at HGEX;rw [← HNq.out] at HGEX;obtain ⟨rr, hrr⟩ : ∃ rr, (g.lead l).isSome = rr := ⟨_, rfl⟩;rw [hrr] at HGEX;obtain ⟨f0, f1, f2, f3, f4⟩ := Blk5.cells ((HP1.out _ (Below.refl _ _)).2.2.1);go_wp2_with fail;refine HG.out.mono ?_;rintro e wg ⟨rfl, bg⟩;have HPg := hgrow HP1 bg;have HBG := hidI bg;clear bg HG f0 f1 f2 f3 f4
  by_cases hx0 : gx.err = 0
  ·have HX0 := hidI hx0;rw [hx0];clear hx0;obtain ⟨f0, f1, f2, f3, f4⟩ := Blk5.cells ((HPg.out _ (Below.refl _ _)).2.1);go_wp2_with fail;refine (HGEX.out wg HBG.out).mono ?_;rintro e w2 ⟨⟨v2, rfl, hL2⟩, b2⟩;obtain ⟨k2, n2, s2, la2, ln2, lc2, fa2, fn2, fc2, rfl⟩ := hL2.agg;have HP2 := hgrow HPg b2;have HB2' := hidI (HBG.out.trans (b2.mono HBG.out.size));have ha3 : Below w2.heap.size w2 (w2.alloc (.cells #[.int .i64 k2, .int .i64 n2, .string s2, .slice la2 ln2 lc2, .slice fa2 fn2 fc2] 25)) := (Below.refl _ _).alloc (Nat.le_refl _) _;have HP3 : Hid (∀ u, Below (w2.alloc (.cells #[.int .i64 k2, .int .i64 n2, .string s2, .slice la2 ln2 lc2, .slice fa2 fn2 fc2] 25)).heap.size (w2.alloc (.cells #[.int .i64 k2, .int .i64 n2, .string s2, .slice la2 ln2 lc2, .slice fa2 fn2 fc2] 25)) u → (Below w.heap.size w u ∧ Blk5 u (w.heap.size) (.int .i64 k) (.int .i64 n) (.string s) (.slice la ln lc) (.slice fa fn fc) ∧ Blk5 u (w.heap.size + 1) (.int .i64 kx) (.int .i64 nx) (.string sx) (.slice lax lnx lcx) (.slice fax fnx fcx) ∧ Blk5 u (w.heap.size + 1 + 1) (.int .i64 0) (.int .i64 0) (.string ⟨#[]⟩) (.slice none 0 0) (.slice none 0 0)) ∧ Blk5 u (w2.heap.size) (.int .i64 k2) (.int .i64 n2) (.string s2) (.slice la2 ln2 lc2) (.slice fa2 fn2 fc2)) := hidI (fun u hu => ⟨HP2.out u (ha3.trans (hu.mono ha3.size)), Blk5.below (Blk5.new w2 _ _ _ _ _) hu⟩);clear ha3 b2 f0 f1 f2 f3 f4
   cases rr with
   | false =>
    have hln : g.lead l = none := by
     cases h : g.lead l with
     | none => rfl
     | some o => rw [h] at hrr; cases hrr
    have HRE := hidI ((push_led HF.out.1 HX0.out).1 hln);clear hrr hln hL2;have HB9 := hidI ((HP3.out _ (Below.refl _ _)).1.1);obtain ⟨z0, z1, z2, z3, z4⟩ := Blk5.cells ((HP3.out _ (Below.refl _ _)).1.2.2.2);obtain ⟨y0, y1, y2, y3, y4⟩ := Blk5.free ((HP3.out _ (Below.refl _ _)).1.2.2.2);go_wp2_with fail;have hE : Below w.heap.size w (put5x (w2.alloc (.cells #[.int .i64 k2, .int .i64 n2, .string s2, .slice la2 ln2 lc2, .slice fa2 fn2 fc2] 25)) (w.heap.size + 1 + 1) (.int .i64 0) (.int .i64 0) (.string ⟨#[]⟩) (.slice none 0 0) (.slice none 0 0)) := below_putx HB9.out (by omega);unfold put5x at hE;refine bodyPost_ret (v := .tuple #[.agg #[.int .i64 0, .int .i64 0, .string ⟨#[]⟩, .slice none 0 0, .slice none 0 0], .int .i64 8]) ?_ rfl ⟨Or.inl ⟨8, HRE.out, by decide, rfl⟩, hE⟩;have hres : Try.f13.results = #[.cell 6 25, .tmp 7] := by kernel_rfl
    clear hE y0 y1 y2 y3 y4;simp only [results, hres]
    (go_simp) <;> rfl
   | true =>
    obtain ⟨oo, hlo⟩ := Option.isSome_iff_exists.1 hrr;rw [hlo] at hL2;have hL2 : Lies w oo (.agg #[.int .i64 k2, .int .i64 n2, .string s2, .slice la2 ln2 lc2, .slice fa2 fn2 fc2]) := hL2
    have hkk : oo.kind = k2 := by
     cases oo with
     | nil => exact False.elim hL2
     | mk ko no so lno lfo fno nmo ffo =>
      obtain ⟨_, _, _, _, he, _⟩ := hL2;injection he with he
      injection he with he
      injection he with he _
      injection he with _ he
      exact he.symm
    by_cases hk5' : k2 = 5
    ·have hk5 : oo.kind = 5 := hkk.trans hk5';have hpush := (push_led HF.out.1 HX0.out).2.2 _ hlo hk5;have HR := hidI hpush;subst hk5';have hof := err_every (lead_good l g _ (beg_ok HF.out.1).1 hlo);have hom := lead_mass l g _ hlo
     cases oo with
     | nil => exact False.elim hL2
     | mk ko no so lno lfo fno nmo ffo =>
     have hL2' := hL2;obtain ⟨la', lc', fa', fc', he, _, _, _, hln2, hlc2, _, _, hlV, _⟩ := hL2';simp only [Value.agg.injEq, Array.mk.injEq, List.cons.injEq, Value.int.injEq, Value.string.injEq, Value.slice.injEq, true_and, and_true] at he;obtain ⟨rfl, rfl, rfl, ⟨rfl, rfl, rfl⟩, rfl, rfl, rfl⟩ := he;obtain ⟨hn0, hst0, hfn0⟩ := formed5 (every_self hof);subst hn0 hst0 hfn0;obtain ⟨vs, hvl, hvL, hvc⟩ := vals_crow hlV;have HVC := hidI hvc;have HVL : Hid ((valCells vs).length = ln2 * 5 ∧ (∀ u ∈ valCells vs, u.oneCell' = true)) := hidI ⟨by rw [valCells_length vs (five_all hvL), hvl], one_all hvL⟩;have HVLL := hidI hvL;have HVN := hidI hvl;have HOM := hidI hom;have HLN : Hid (ln2 ≤ 50000) := hidI (lies_few hL2 (Nat.le_trans (lead_nodes l g _ hlo) HN.out)).1
     have HPB : Hid (∀ u, Below (w2.heap.size + 1) (w2.alloc (.cells #[.int .i64 5, .int .i64 0, .string ⟨#[]⟩, .slice la2 ln2 lc2, .slice fa2 0 fc2] 25)) u → (Below w.heap.size w u ∧ Blk5 u (w.heap.size) (.int .i64 k) (.int .i64 n) (.string s) (.slice la ln lc) (.slice fa fn fc) ∧ Blk5 u (w.heap.size + 1) (.int .i64 kx) (.int .i64 nx) (.string sx) (.slice lax lnx lcx) (.slice fax fnx fcx) ∧ Blk5 u (w.heap.size + 1 + 1) (.int .i64 0) (.int .i64 0) (.string ⟨#[]⟩) (.slice none 0 0) (.slice none 0 0)) ∧ Blk5 u (w2.heap.size) (.int .i64 5) (.int .i64 0) (.string ⟨#[]⟩) (.slice la2 ln2 lc2) (.slice fa2 0 fc2)) := hidI (fun u hu => by
      have hu2 : Below (w2.alloc (.cells #[.int .i64 5, .int .i64 0, .string ⟨#[]⟩, .slice la2 ln2 lc2, .slice fa2 0 fc2] 25)).heap.size (w2.alloc (.cells #[.int .i64 5, .int .i64 0, .string ⟨#[]⟩, .slice la2 ln2 lc2, .slice fa2 0 fc2] 25)) u := hu.mono (by simp);exact ⟨(HP3.out u hu2).1, (HP3.out u hu2).2⟩)
     have hbx : Blk5 ((w2.alloc (.cells #[.int .i64 5, .int .i64 0, .string ⟨#[]⟩, .slice la2 ln2 lc2, .slice fa2 0 fc2] 25)).alloc (.cells #[.int .i64 5, .int .i64 0, .string ⟨#[]⟩, .slice none 0 0, .slice none 0 0] 25)) (w2.heap.size + 1) (.int .i64 5) (.int .i64 0) (.string ⟨#[]⟩) (.slice none 0 0) (.slice none 0 0) := by
      have := Blk5.new (w2.alloc (.cells #[.int .i64 5, .int .i64 0, .string ⟨#[]⟩, .slice la2 ln2 lc2, .slice fa2 0 fc2] 25)) (.int .i64 5) (.int .i64 0) (.string ⟨#[]⟩) (.slice none 0 0) (.slice none 0 0);simpa using this
     have hS : Below (w2.heap.size + 1) (w2.alloc (.cells #[.int .i64 5, .int .i64 0, .string ⟨#[]⟩, .slice la2 ln2 lc2, .slice fa2 0 fc2] 25)) ((w2.alloc (.cells #[.int .i64 5, .int .i64 0, .string ⟨#[]⟩, .slice la2 ln2 lc2, .slice fa2 0 fc2] 25)).alloc (.cells #[.int .i64 5, .int .i64 0, .string ⟨#[]⟩, .slice none 0 0, .slice none 0 0] 25)) := (Below.refl _ _).alloc (by simp) _;have hz : w2.heap.size + 1 + 1 ≤ ((w2.alloc (.cells #[.int .i64 5, .int .i64 0, .string ⟨#[]⟩, .slice la2 ln2 lc2, .slice fa2 0 fc2] 25)).alloc (.cells #[.int .i64 5, .int .i64 0, .string ⟨#[]⟩, .slice none 0 0, .slice none 0 0] 25)).heap.size := by simp
     obtain ⟨i0, hi, hz0, hz1, hz2⟩ := info_parts infoVal;clear hpush hof hom hln2 hlc2 hlV hvl hvL hvc hlo hL2;obtain ⟨q0, q1, q2, q3, q4⟩ := Blk5.cells (((HPB.out _ (Below.refl _ _)).2));go_wp2_with fail;clear q0 q1 q2 q3 q4
     rename (∀ (a : Act) (w : World), Code.wp Try.prog _ _ a w → _) => hkS
     have HKS := hidI hkS;clear hkS
     refine' joinP _ (fun ra rc W => Below (w2.heap.size + 1) (w2.alloc (.cells #[.int .i64 5, .int .i64 0, .string ⟨#[]⟩, .slice la2 ln2 lc2, .slice fa2 0 fc2] 25)) W ∧ Blk5 W (w2.heap.size + 1) (.int .i64 5) (.int .i64 0) (.string ⟨#[]⟩) (.slice ra (ln2 + 1) rc) (.slice none 0 0) ∧ W.ownsRow (w2.heap.size + 1 + 1) 25 5 (.slice ra (ln2 + 1) rc) (ln2 + 1) (valCells vs ++ [.int .i64 kx, .int .i64 nx, .string sx, .slice lax lnx lcx, .slice fax fnx fcx])) ?h1 ?h2
     case h1 =>
      intro HJN;obtain ⟨WA, hWA⟩ : ∃ W, ((w2.alloc (.cells #[.int .i64 5, .int .i64 0, .string ⟨#[]⟩, .slice la2 ln2 lc2, .slice fa2 0 fc2] 25)).alloc (.cells #[.int .i64 5, .int .i64 0, .string ⟨#[]⟩, .slice none 0 0, .slice none 0 0] 25)) = W := ⟨_, rfl⟩;rw [hWA] at hbx hS hz ⊢;clear hWA;have hSD : Below (w2.heap.size + 1) (w2.alloc (.cells #[.int .i64 5, .int .i64 0, .string ⟨#[]⟩, .slice la2 ln2 lc2, .slice fa2 0 fc2] 25)) WA.drew := hS.drew;refine wp_region_held_drew (S := fun u => Below (w2.heap.size + 1) (w2.alloc (.cells #[.int .i64 5, .int .i64 0, .string ⟨#[]⟩, .slice la2 ln2 lc2, .slice fa2 0 fc2] 25)) u) (by kernel_rfl) hSD (fun hHeld => ?_);have hbx := hbx.below ((Below.refl WA.heap.size WA).drew);have hz : w2.heap.size + 1 + 1 ≤ WA.drew.heap.size := hz;obtain ⟨WD, hWD⟩ : ∃ W, WA.drew = W := ⟨_, rfl⟩;rw [hWD] at hSD hHeld hbx hz ⊢;have hS := hSD;clear hWD hSD
      refine tk 0 ⟨some 41, .fieldAddr 25 (.tmp 12) 3, 0, "ref.go:232", #[], none⟩ (.pointer (some ⟨w2.heap.size + 1, 3, none⟩)) ?_ hHeld ?_
      ·intro wq s0;clear hHeld;go_simp
      (try simp only [Act.put, Sx])
      refine tk 2 ⟨some 43, .fieldAddr 25 (.tmp 10) 3, 0, "ref.go:232", #[], none⟩ (.pointer (some ⟨w2.heap.size, 3, none⟩)) ?_ hHeld ?_
      ·intro wq s0;clear hHeld;go_simp
      (try simp only [Act.put, Sx])
      refine tk 3 ⟨some 44, .load 22 (.tmp 43), 22, "ref.go:232", #[⟨2, .data⟩], none⟩ (.slice la2 ln2 lc2) ?_ hHeld ?_
      ·intro wq s0;clear hHeld;obtain ⟨e0, e1, e2, e3, e4⟩ := Blk5.cells ((HPB.out wq s0).2);go_simp
      (try simp only [Act.put, Sx])
      refine tk 5 ⟨some 46, .load 25 (.tmp 5), 25, "ref.go:232", #[], none⟩ (.agg #[.int .i64 kx, .int .i64 nx, .string sx, .slice lax lnx lcx, .slice fax fnx fcx]) ?_ hHeld ?_
      ·intro wq s0;clear hHeld;obtain ⟨e0, e1, e2, e3, e4⟩ := Blk5.cells ((HPB.out wq s0).1.2.2.1);go_simp
      (try simp only [Act.put, Sx]);refine wpAnyH_ready (rs := [1, 6]) (by kernel_rfl) (by simp) ?_
      refine AllReadyH.cons (o := ⟨some 42, .load 22 (.tmp 41), 22, "ref.go:232", #[⟨0, .data⟩], none⟩) rfl (fun Kr1 hKr1 => ?_) (AllReadyH.cons (o := ⟨some 47, .buildSlice 22 1 #[(0, .tmp 46)], 22, "ref.go:232", #[⟨5, .data⟩], none⟩) rfl (fun Kr6 hKr6 => ?_) AllReadyH.nil)
      ·skip
       obtain ⟨b0, b1, b2, b3, b4⟩ := Blk5.cells hbx;clear hHeld;go_simp
       refine hKr1.out _ _ ?_ (fun hHeld => ?_)
       ·exact hS
       clear hKr1 Kr1 b0 b1 b2 b3 b4;(try simp only [Act.put, Sx]);refine wpAnyH_ready (rs := [4, 6]) (by kernel_rfl) (by simp) ?_
       refine AllReadyH.cons (o := ⟨some 45, .call ⟨.builtin .append, #[.tmp 42, .tmp 44], #[22, 22]⟩, 22, "ref.go:232", #[⟨1, .data⟩, ⟨3, .data⟩], none⟩) rfl (fun Kr4 hKr4 => ?_) (AllReadyH.cons (o := ⟨some 47, .buildSlice 22 1 #[(0, .tmp 46)], 22, "ref.go:232", #[⟨5, .data⟩], none⟩) rfl (fun Kr6 hKr6 => ?_) AllReadyH.nil)
       ·skip
        clear hHeld;refine step_append_nil rfl (.tmp 42) (.tmp 44) 22 rfl (w2.heap.size + 1 + 1) 25 i0 _ 5 80 Try.underlying22 hi hz0 hz1 hz2 rfl (by decide) (by simp [Act.eval]) la2 ln2 lc2 (valCells vs) (by simp [Act.eval]) HVL.out.1 (crow_at HVC.out (fun b o x hx => below_keeps ((HPB.out _ hS).1.1) b o x hx)) HVL.out.2 (by have := HLN.out; unfold maxLen; omega) (by have := HLN.out; omega) (by omega) ?_;intro v3 w3 hown hgrow;obtain ⟨hbx, hS, hz⟩ := grow_keep (World.ownsRow_nil _ (w2.heap.size + 1 + 1) 25 5) hbx hS (by omega) hgrow;obtain ⟨a3, c3, rfl, _⟩ := own_sliceU hown
        refine hKr4.out _ _ ?_ (fun hHeld => ?_)
        ·exact hS
        clear hKr4 Kr4 hgrow;(try simp only [Act.put, Sx]);refine wpAnyH_ready (rs := [6]) (by kernel_rfl) (by simp) ?_;refine AllReadyH.cons (o := ⟨some 47, .buildSlice 22 1 #[(0, .tmp 46)], 22, "ref.go:232", #[⟨5, .data⟩], none⟩) rfl (fun Kr6 hKr6 => ?_) AllReadyH.nil;clear hHeld;have hnew := heap_alloc_new w3 (.cells #[.int .i64 kx, .int .i64 nx, .string sx, .slice lax lnx lcx, .slice fax fnx fcx] 25);have ba : Below w3.heap.size w3 (w3.alloc (.cells #[.int .i64 kx, .int .i64 nx, .string sx, .slice lax lnx lcx, .slice fax fnx fcx] 25)) := (Below.refl _ _).alloc (Nat.le_refl _) _;have hbx := hbx.below ba;have hS := hS.trans (ba.mono (by omega));have hz : w2.heap.size + 1 + 1 ≤ (w3.alloc (.cells #[.int .i64 kx, .int .i64 nx, .string sx, .slice lax lnx lcx, .slice fax fnx fcx] 25)).heap.size := by have := ba.size; omega
        have hown := own_below hown ba;obtain ⟨bk, hbk⟩ : ∃ b, b = w3.heap.size := ⟨_, rfl⟩;have hbl : bk < (w3.alloc (.cells #[.int .i64 kx, .int .i64 nx, .string sx, .slice lax lnx lcx, .slice fax fnx fcx] 25)).heap.size := by rw [hbk]; simp
        rw [← hbk] at hnew;go_simp;rw [← hbk];obtain ⟨wb, hwb⟩ : ∃ W, w3.alloc (.cells #[.int .i64 kx, .int .i64 nx, .string sx, .slice lax lnx lcx, .slice fax fnx fcx] 25) = W := ⟨_, rfl⟩;rw [hwb] at hnew hbx hS hz hbl hown ⊢
        refine hKr6.out _ _ ?_ (fun hHeld => ?_)
        ·exact hS
        clear hKr6 Kr6 hwb hbk ba;(try simp only [Act.put, Sx]);refine wpAnyH_ready (rs := [7]) (by kernel_rfl) (by simp) ?_;refine AllReadyH.cons (o := ⟨some 48, .call ⟨.builtin .append, #[.tmp 45, .tmp 47], #[22, 22]⟩, 22, "ref.go:232", #[⟨4, .data⟩, ⟨6, .data⟩, ⟨4, .chain⟩], none⟩) rfl (fun Kr7 hKr7 => ?_) AllReadyH.nil;clear hHeld;have hown0 := hown;refine step_append_own rfl (.tmp 45) (.tmp 47) 22 rfl (w2.heap.size + 1 + 1) 25 i0 _ 5 80 Try.underlying22 hi hz0 hz1 hz2 rfl (by decide) (.slice a3 ln2 c3) ln2 (valCells vs) (by simp [Act.eval]) hown ⟨bk, 0, none⟩ 1 1 [.int .i64 kx, .int .i64 nx, .string sx, .slice lax lnx lcx, .slice fax fnx fcx] (by simp [Act.eval]) rfl (news_at hnew) (by intro u hu; simp at hu; rcases hu with rfl | rfl | rfl | rfl | rfl <;> rfl) (by have := HLN.out; unfold maxLen; omega) (by have := HLN.out; omega) (by omega) ?_;intro v4 w4 hown hgrow;obtain ⟨hbx, hS, hz⟩ := grow_keep hown0 hbx hS (by omega) hgrow;obtain ⟨ra, rc, rfl, _⟩ := own_sliceU hown
        refine hKr7.out _ _ ?_ (fun hHeld => ?_)
        ·exact hS
        clear hKr7 Kr7 hgrow hown0;(try simp only [Act.put, Sx])
        refine tk 8 ⟨some 49, .fieldAddr 25 (.tmp 12) 3, 0, "ref.go:232", z6c82, none⟩ (.pointer (some ⟨w2.heap.size + 1, 3, none⟩)) ?_ hHeld ?_
        ·intro wq s0;clear hHeld;go_simp
        (try simp only [Act.put, Sx]);refine wpAnyH_ready (rs := [9]) (by kernel_rfl) (by simp) ?_;refine AllReadyH.cons (o := ⟨none, .store 22 (.tmp 49) (.tmp 48), 0, "ref.go:232", z6c81, none⟩) rfl (fun Kr9 hKr9 => ?_) AllReadyH.nil;obtain ⟨b0, b1, b2, b3, b4⟩ := Blk5.cells hbx;obtain ⟨y0, y1, y2, y3, y4⟩ := Blk5.free hbx;clear hHeld;go_simp
        refine hKr9.out _ _ ?_ (fun hHeld => ?_)
        ·exact hS.setCell (Nat.le_refl _) _
        clear hKr9 Kr9 b0 b1 b2 b3 b4 y0 y1 y2 y3 y4;(try simp only [Act.put, Sx]);refine wpAnyH_done (by kernel_rfl) ?_ _;clear hHeld;exact HJN a3 c3 bk ra rc _ ⟨hS.setCell (Nat.le_refl _) _, hbx.set3, ownsRow_setCell_below hown (Nat.lt_succ_self _) _⟩
       ·skip
        clear hHeld;have hnew := heap_alloc_new WD (.cells #[.int .i64 kx, .int .i64 nx, .string sx, .slice lax lnx lcx, .slice fax fnx fcx] 25);have ba : Below WD.heap.size WD (WD.alloc (.cells #[.int .i64 kx, .int .i64 nx, .string sx, .slice lax lnx lcx, .slice fax fnx fcx] 25)) := (Below.refl _ _).alloc (Nat.le_refl _) _;have hbx := hbx.below ba;have hS := hS.trans (ba.mono (by omega));have hz : w2.heap.size + 1 + 1 ≤ (WD.alloc (.cells #[.int .i64 kx, .int .i64 nx, .string sx, .slice lax lnx lcx, .slice fax fnx fcx] 25)).heap.size := by have := ba.size; omega
        obtain ⟨bk, hbk⟩ : ∃ b, b = WD.heap.size := ⟨_, rfl⟩;have hbl : bk < (WD.alloc (.cells #[.int .i64 kx, .int .i64 nx, .string sx, .slice lax lnx lcx, .slice fax fnx fcx] 25)).heap.size := by rw [hbk]; simp
        rw [← hbk] at hnew;go_simp;rw [← hbk];obtain ⟨wb, hwb⟩ : ∃ W, WD.alloc (.cells #[.int .i64 kx, .int .i64 nx, .string sx, .slice lax lnx lcx, .slice fax fnx fcx] 25) = W := ⟨_, rfl⟩;rw [hwb] at hnew hbx hS hz hbl ⊢
        refine hKr6.out _ _ ?_ (fun hHeld => ?_)
        ·exact hS
        clear hKr6 Kr6 hwb hbk ba;(try simp only [Act.put, Sx]);refine wpAnyH_ready (rs := [4]) (by kernel_rfl) (by simp) ?_;refine AllReadyH.cons (o := ⟨some 45, .call ⟨.builtin .append, #[.tmp 42, .tmp 44], #[22, 22]⟩, 22, "ref.go:232", #[⟨1, .data⟩, ⟨3, .data⟩], none⟩) rfl (fun Kr4 hKr4 => ?_) AllReadyH.nil;clear hHeld;refine step_append_nil rfl (.tmp 42) (.tmp 44) 22 rfl (w2.heap.size + 1 + 1) 25 i0 _ 5 80 Try.underlying22 hi hz0 hz1 hz2 rfl (by decide) (by simp [Act.eval]) la2 ln2 lc2 (valCells vs) (by simp [Act.eval]) HVL.out.1 (crow_at HVC.out (fun b o x hx => below_keeps ((HPB.out _ hS).1.1) b o x hx)) HVL.out.2 (by have := HLN.out; unfold maxLen; omega) (by have := HLN.out; omega) (by omega) ?_;intro v3 w3 hown hgrow;have hnew := (hgrow.block bk (by omega) (by simp)).trans hnew;obtain ⟨hbx, hS, hz⟩ := grow_keep (World.ownsRow_nil _ (w2.heap.size + 1 + 1) 25 5) hbx hS (by omega) hgrow;obtain ⟨a3, c3, rfl, _⟩ := own_sliceU hown
        refine hKr4.out _ _ ?_ (fun hHeld => ?_)
        ·exact hS
        clear hKr4 Kr4 hgrow;(try simp only [Act.put, Sx]);refine wpAnyH_ready (rs := [7]) (by kernel_rfl) (by simp) ?_;refine AllReadyH.cons (o := ⟨some 48, .call ⟨.builtin .append, #[.tmp 45, .tmp 47], #[22, 22]⟩, 22, "ref.go:232", #[⟨4, .data⟩, ⟨6, .data⟩, ⟨4, .chain⟩], none⟩) rfl (fun Kr7 hKr7 => ?_) AllReadyH.nil;clear hHeld;have hown0 := hown;refine step_append_own rfl (.tmp 45) (.tmp 47) 22 rfl (w2.heap.size + 1 + 1) 25 i0 _ 5 80 Try.underlying22 hi hz0 hz1 hz2 rfl (by decide) (.slice a3 ln2 c3) ln2 (valCells vs) (by simp [Act.eval]) hown ⟨bk, 0, none⟩ 1 1 [.int .i64 kx, .int .i64 nx, .string sx, .slice lax lnx lcx, .slice fax fnx fcx] (by simp [Act.eval]) rfl (news_at hnew) (by intro u hu; simp at hu; rcases hu with rfl | rfl | rfl | rfl | rfl <;> rfl) (by have := HLN.out; unfold maxLen; omega) (by have := HLN.out; omega) (by omega) ?_;intro v4 w4 hown hgrow;obtain ⟨hbx, hS, hz⟩ := grow_keep hown0 hbx hS (by omega) hgrow;obtain ⟨ra, rc, rfl, _⟩ := own_sliceU hown
        refine hKr7.out _ _ ?_ (fun hHeld => ?_)
        ·exact hS
        clear hKr7 Kr7 hgrow hown0;(try simp only [Act.put, Sx])
        refine tk 8 ⟨some 49, .fieldAddr 25 (.tmp 12) 3, 0, "ref.go:232", z6c82, none⟩ (.pointer (some ⟨w2.heap.size + 1, 3, none⟩)) ?_ hHeld ?_
        ·intro wq s0;clear hHeld;go_simp
        (try simp only [Act.put, Sx]);refine wpAnyH_ready (rs := [9]) (by kernel_rfl) (by simp) ?_;refine AllReadyH.cons (o := ⟨none, .store 22 (.tmp 49) (.tmp 48), 0, "ref.go:232", z6c81, none⟩) rfl (fun Kr9 hKr9 => ?_) AllReadyH.nil;obtain ⟨b0, b1, b2, b3, b4⟩ := Blk5.cells hbx;obtain ⟨y0, y1, y2, y3, y4⟩ := Blk5.free hbx;clear hHeld;go_simp
        refine hKr9.out _ _ ?_ (fun hHeld => ?_)
        ·exact hS.setCell (Nat.le_refl _) _
        clear hKr9 Kr9 b0 b1 b2 b3 b4 y0 y1 y2 y3 y4;(try simp only [Act.put, Sx]);refine wpAnyH_done (by kernel_rfl) ?_ _;clear hHeld;exact HJN a3 c3 bk ra rc _ ⟨hS.setCell (Nat.le_refl _) _, hbx.set3, ownsRow_setCell_below hown (Nat.lt_succ_self _) _⟩
      ·skip
       clear hHeld;have hnew := heap_alloc_new WD (.cells #[.int .i64 kx, .int .i64 nx, .string sx, .slice lax lnx lcx, .slice fax fnx fcx] 25);have ba : Below WD.heap.size WD (WD.alloc (.cells #[.int .i64 kx, .int .i64 nx, .string sx, .slice lax lnx lcx, .slice fax fnx fcx] 25)) := (Below.refl _ _).alloc (Nat.le_refl _) _;have hbx := hbx.below ba;have hS := hS.trans (ba.mono (by omega));have hz : w2.heap.size + 1 + 1 ≤ (WD.alloc (.cells #[.int .i64 kx, .int .i64 nx, .string sx, .slice lax lnx lcx, .slice fax fnx fcx] 25)).heap.size := by have := ba.size; omega
       obtain ⟨bk, hbk⟩ : ∃ b, b = WD.heap.size := ⟨_, rfl⟩;have hbl : bk < (WD.alloc (.cells #[.int .i64 kx, .int .i64 nx, .string sx, .slice lax lnx lcx, .slice fax fnx fcx] 25)).heap.size := by rw [hbk]; simp
       rw [← hbk] at hnew;go_simp;rw [← hbk];obtain ⟨wb, hwb⟩ : ∃ W, WD.alloc (.cells #[.int .i64 kx, .int .i64 nx, .string sx, .slice lax lnx lcx, .slice fax fnx fcx] 25) = W := ⟨_, rfl⟩;rw [hwb] at hnew hbx hS hz hbl ⊢
       refine hKr6.out _ _ ?_ (fun hHeld => ?_)
       ·exact hS
       clear hKr6 Kr6 hwb hbk ba;(try simp only [Act.put, Sx]);refine wpAnyH_ready (rs := [1]) (by kernel_rfl) (by simp) ?_;refine AllReadyH.cons (o := ⟨some 42, .load 22 (.tmp 41), 22, "ref.go:232", #[⟨0, .data⟩], none⟩) rfl (fun Kr1 hKr1 => ?_) AllReadyH.nil;obtain ⟨b0, b1, b2, b3, b4⟩ := Blk5.cells hbx;clear hHeld;go_simp
       refine hKr1.out _ _ ?_ (fun hHeld => ?_)
       ·exact hS
       clear hKr1 Kr1 b0 b1 b2 b3 b4;(try simp only [Act.put, Sx]);refine wpAnyH_ready (rs := [4]) (by kernel_rfl) (by simp) ?_;refine AllReadyH.cons (o := ⟨some 45, .call ⟨.builtin .append, #[.tmp 42, .tmp 44], #[22, 22]⟩, 22, "ref.go:232", #[⟨1, .data⟩, ⟨3, .data⟩], none⟩) rfl (fun Kr4 hKr4 => ?_) AllReadyH.nil;clear hHeld;refine step_append_nil rfl (.tmp 42) (.tmp 44) 22 rfl (w2.heap.size + 1 + 1) 25 i0 _ 5 80 Try.underlying22 hi hz0 hz1 hz2 rfl (by decide) (by simp [Act.eval]) la2 ln2 lc2 (valCells vs) (by simp [Act.eval]) HVL.out.1 (crow_at HVC.out (fun b o x hx => below_keeps ((HPB.out _ hS).1.1) b o x hx)) HVL.out.2 (by have := HLN.out; unfold maxLen; omega) (by have := HLN.out; omega) (by omega) ?_;intro v3 w3 hown hgrow;have hnew := (hgrow.block bk (by omega) (by simp)).trans hnew;obtain ⟨hbx, hS, hz⟩ := grow_keep (World.ownsRow_nil _ (w2.heap.size + 1 + 1) 25 5) hbx hS (by omega) hgrow;obtain ⟨a3, c3, rfl, _⟩ := own_sliceU hown
       refine hKr4.out _ _ ?_ (fun hHeld => ?_)
       ·exact hS
       clear hKr4 Kr4 hgrow;(try simp only [Act.put, Sx]);refine wpAnyH_ready (rs := [7]) (by kernel_rfl) (by simp) ?_;refine AllReadyH.cons (o := ⟨some 48, .call ⟨.builtin .append, #[.tmp 45, .tmp 47], #[22, 22]⟩, 22, "ref.go:232", #[⟨4, .data⟩, ⟨6, .data⟩, ⟨4, .chain⟩], none⟩) rfl (fun Kr7 hKr7 => ?_) AllReadyH.nil;clear hHeld;have hown0 := hown;refine step_append_own rfl (.tmp 45) (.tmp 47) 22 rfl (w2.heap.size + 1 + 1) 25 i0 _ 5 80 Try.underlying22 hi hz0 hz1 hz2 rfl (by decide) (.slice a3 ln2 c3) ln2 (valCells vs) (by simp [Act.eval]) hown ⟨bk, 0, none⟩ 1 1 [.int .i64 kx, .int .i64 nx, .string sx, .slice lax lnx lcx, .slice fax fnx fcx] (by simp [Act.eval]) rfl (news_at hnew) (by intro u hu; simp at hu; rcases hu with rfl | rfl | rfl | rfl | rfl <;> rfl) (by have := HLN.out; unfold maxLen; omega) (by have := HLN.out; omega) (by omega) ?_;intro v4 w4 hown hgrow;obtain ⟨hbx, hS, hz⟩ := grow_keep hown0 hbx hS (by omega) hgrow;obtain ⟨ra, rc, rfl, _⟩ := own_sliceU hown
       refine hKr7.out _ _ ?_ (fun hHeld => ?_)
       ·exact hS
       clear hKr7 Kr7 hgrow hown0;(try simp only [Act.put, Sx])
       refine tk 8 ⟨some 49, .fieldAddr 25 (.tmp 12) 3, 0, "ref.go:232", z6c82, none⟩ (.pointer (some ⟨w2.heap.size + 1, 3, none⟩)) ?_ hHeld ?_
       ·intro wq s0;clear hHeld;go_simp
       (try simp only [Act.put, Sx]);refine wpAnyH_ready (rs := [9]) (by kernel_rfl) (by simp) ?_;refine AllReadyH.cons (o := ⟨none, .store 22 (.tmp 49) (.tmp 48), 0, "ref.go:232", z6c81, none⟩) rfl (fun Kr9 hKr9 => ?_) AllReadyH.nil;obtain ⟨b0, b1, b2, b3, b4⟩ := Blk5.cells hbx;obtain ⟨y0, y1, y2, y3, y4⟩ := Blk5.free hbx;clear hHeld;go_simp
       refine hKr9.out _ _ ?_ (fun hHeld => ?_)
       ·exact hS.setCell (Nat.le_refl _) _
       clear hKr9 Kr9 b0 b1 b2 b3 b4 y0 y1 y2 y3 y4;(try simp only [Act.put, Sx]);refine wpAnyH_done (by kernel_rfl) ?_ _;clear hHeld;exact HJN a3 c3 bk ra rc _ ⟨hS.setCell (Nat.le_refl _) _, hbx.set3, ownsRow_setCell_below hown (Nat.lt_succ_self _) _⟩
     case h2 =>
      intro a3 c3 bk ra rc W7 ⟨hS7, hb7, ho7⟩;refine HKS.out _ _ ?_;clear HKS;have hy7 := hb7.lt;have HP7 : Hid (∀ u, Below W7.heap.size W7 u → (Below w.heap.size w u ∧ Blk5 u (w.heap.size) (.int .i64 k) (.int .i64 n) (.string s) (.slice la ln lc) (.slice fa fn fc) ∧ Blk5 u (w.heap.size + 1) (.int .i64 kx) (.int .i64 nx) (.string sx) (.slice lax lnx lcx) (.slice fax fnx fcx) ∧ Blk5 u (w.heap.size + 1 + 1) (.int .i64 0) (.int .i64 0) (.string ⟨#[]⟩) (.slice none 0 0) (.slice none 0 0)) ∧ Blk5 u (w2.heap.size + 1) (.int .i64 5) (.int .i64 0) (.string ⟨#[]⟩) (.slice ra (ln2 + 1) rc) (.slice none 0 0)) := hidI (fun u hu => ⟨(HPB.out u (hS7.trans (hu.mono (by omega)))).1, hb7.below hu⟩);have b27 : Below w2.heap.size w2 W7 := ((Below.refl w2.heap.size w2).alloc (Nat.le_refl _) (.cells #[.int .i64 5, .int .i64 0, .string ⟨#[]⟩, .slice la2 ln2 lc2, .slice fa2 0 fc2] 25)).trans (hS7.mono (by omega));have b17 := HB2'.out.trans (b27.mono HB2'.out.size);have bw7 := (HP7.out _ (Below.refl _ _)).1.1;have hsz7 := bw7.size;have HVB : Hid (w.heap.size ≤ w.heap.size + 1 + 1 ∧ w.heap.size + 1 + 1 < w2.heap.size + 1 + 1) := hidI ⟨by omega, by have := (HP2.out _ (Below.refl _ _)).2.2.2.lt; omega⟩
      have HMY : Hid (∀ y, setG l g ((GV.mk 5 0 ⟨#[]⟩ ln2 lfo 0 nmo ffo).more gx) = .ok y → y.mass ≤ 4194304) := hidI (fun y hy => by
       have h1 := setG_mass HF.out.1 hy;have h2 := more_mass (GV.mk 5 0 ⟨#[]⟩ ln2 lfo 0 nmo ffo) gx rfl;have h3 := HOM.out;have h4 := HM.out
       omega)
      have HSE0 := rset_any (w.heap.size) (w2.heap.size + 1 + 1) l g ((GV.mk 5 0 ⟨#[]⟩ ln2 lfo 0 nmo ffo).more gx) (.agg #[.int .i64 k, .int .i64 n, .string s, .slice la ln lc, .slice fa fn fc]) (.agg #[.int .i64 5, .int .i64 0, .string ⟨#[]⟩, .slice ra (ln2 + 1) rc, .slice none 0 0]) sa sc W7.heap.size W7 (Nat.le_refl _) (by omega) (veil2_old HL.out bw7 hsz7 (Nat.le_refl _)) (err_every (beg_ok HF.out.1).1) HN.out (more_lies (vs := vs) (vx := .agg #[.int .i64 kx, .int .i64 nx, .string sx, .slice lax lnx lcx, .slice fax fnx fcx]) (by rw [show valCells [.agg #[.int .i64 kx, .int .i64 nx, .string sx, .slice lax lnx lcx, .slice fax fnx fcx]] = [.int .i64 kx, .int .i64 nx, .string sx, .slice lax lnx lcx, .slice fax fnx fcx] by simp [valCells, Value.cells]]; exact veil_own (veil_ownE ho7 (Nat.le_refl _)) (Nat.le_refl _)) HVN.out (fun i hi => veil2_old (HVLL.out i hi) bw7 hsz7 (Nat.le_refl _)) (veil2_old HX.out bw7 hsz7 (Nat.le_refl _))) (HF.out.2.2.2.below b17) (steps_all (beg_ok HF.out.1).2.1).1 HF.out.2.1 HF.out.2.2.1;rw [← HNq.out] at HSE0;have HSE := hidI HSE0;obtain ⟨f0, f1, f2, f3, f4⟩ := Blk5.cells ((HP7.out _ (Below.refl _ _)).1.2.1);obtain ⟨c0, c1, c2, c3, c4⟩ := Blk5.cells ((HP7.out _ (Below.refl _ _)).2);clear HSE0 hy7 b27 b17 bw7 hsz7 hS7 hb7 ho7 hi hz0 hz1 hz2 hbx hS hz;go_wp2_with fail;clear f0 f1 f2 f3 f4 c0 c1 c2 c3 c4;refine HSE.out.mono ?_;rintro e w8 ⟨hS, b8⟩;have HP8 := hgrow HP7 b8;clear b8 HSE
      rcases hS with ⟨er, v8, g8, hR, hne, rfl, hL8⟩ | ⟨yy, v8, hR, rfl, hL8⟩
      ·have HT := hidI (rtold_no g8 er _ w8 hL8 hne);obtain ⟨k8, n8, s8, la8, ln8, lc8, fa8, fn8, fc8, rfl⟩ := hL8.agg;have HRE := hidI hR;have HNE := hidI hne;clear hR hne hL8;go_wp2_with fail;refine HT.out.mono ?_;rintro e w9 ⟨rfl, b9⟩;have HP9 := hgrow HP8 b9;clear b9 HP8 HT;have HB9 := hidI ((HP9.out _ (Below.refl _ _)).1.1);obtain ⟨z0, z1, z2, z3, z4⟩ := Blk5.cells ((HP9.out _ (Below.refl _ _)).1.2.2.2);obtain ⟨y0, y1, y2, y3, y4⟩ := Blk5.free ((HP9.out _ (Below.refl _ _)).1.2.2.2);go_wp2_with fail;have hE : Below w.heap.size w (put5x w9 (w.heap.size + 1 + 1) (.int .i64 0) (.int .i64 0) (.string ⟨#[]⟩) (.slice none 0 0) (.slice none 0 0)) := below_putx HB9.out (by omega);unfold put5x at hE;refine bodyPost_ret (v := .tuple #[.agg #[.int .i64 0, .int .i64 0, .string ⟨#[]⟩, .slice none 0 0, .slice none 0 0], .int .i64 er]) ?_ rfl ⟨Or.inl ⟨er, by rw [HR.out, HRE.out]; rfl, HNE.out, rfl⟩, hE⟩;have hres : Try.f13.results = #[.cell 6 25, .tmp 7] := by kernel_rfl
       clear hE y0 y1 y2 y3 y4;simp only [results, hres]
       (go_simp) <;> rfl
      ·have hm : yy.mass ≤ 4194304 := HMY.out yy hR;have HT := hidI (rtold_ok yy _ w8 (Lies.mono veil2_off hL8) hm);obtain ⟨k8, n8, s8, la8, ln8, lc8, fa8, fn8, fc8, rfl⟩ := hL8.agg;have HL8 := hidI hL8;have HRE := hidI hR;clear hR hL8 hm;go_wp2_with fail;refine HT.out.mono ?_;rintro e w9 ⟨hT, b9⟩;have HP9 := hgrow HP8 b9;have HL9 := hidI (Lies.mono (veil2_below b9) HL8.out);clear b9 HP8 HT
       rcases hT with ⟨hne, rfl⟩ | ⟨h0, rfl⟩
       ·have HNE := hidI hne;obtain ⟨er, her⟩ : ∃ q, q = yy.err := ⟨_, rfl⟩;have HQ := hidI her;rw [← her];clear her hne;have HB9 := hidI ((HP9.out _ (Below.refl _ _)).1.1);obtain ⟨z0, z1, z2, z3, z4⟩ := Blk5.cells ((HP9.out _ (Below.refl _ _)).1.2.2.2);obtain ⟨y0, y1, y2, y3, y4⟩ := Blk5.free ((HP9.out _ (Below.refl _ _)).1.2.2.2);go_wp2_with fail;have hE : Below w.heap.size w (put5x w9 (w.heap.size + 1 + 1) (.int .i64 0) (.int .i64 0) (.string ⟨#[]⟩) (.slice none 0 0) (.slice none 0 0)) := below_putx HB9.out (by omega);unfold put5x at hE;refine bodyPost_ret (v := .tuple #[.agg #[.int .i64 0, .int .i64 0, .string ⟨#[]⟩, .slice none 0 0, .slice none 0 0], .int .i64 er]) ?_ rfl ⟨Or.inl ⟨er, by rw [HR.out, HRE.out, HQ.out]; simp [toldR, HNE.out], by rw [HQ.out]; exact HNE.out, rfl⟩, hE⟩;have hres : Try.f13.results = #[.cell 6 25, .tmp 7] := by kernel_rfl
        clear hE y0 y1 y2 y3 y4;simp only [results, hres]
        (go_simp) <;> rfl
       ·have H0 := hidI h0;clear h0;have HB9 := hidI ((HP9.out _ (Below.refl _ _)).1.1);obtain ⟨z0, z1, z2, z3, z4⟩ := Blk5.cells ((HP9.out _ (Below.refl _ _)).1.2.2.2);obtain ⟨y0, y1, y2, y3, y4⟩ := Blk5.free ((HP9.out _ (Below.refl _ _)).1.2.2.2);go_wp2_with fail;have hE : Below w.heap.size w (put5x w9 (w.heap.size + 1 + 1) (.int .i64 k8) (.int .i64 n8) (.string s8) (.slice la8 ln8 lc8) (.slice fa8 fn8 fc8)) := below_putx HB9.out (by omega);have hLE := Lies.mono veil2_off (veil2_fiveX (b := w.heap.size + 1 + 1) (y0 := .int .i64 k8) (y1 := .int .i64 n8) (y2 := .string s8) (y3 := .slice la8 ln8 lc8) (y4 := .slice fa8 fn8 fc8) HVB.out HL9.out);unfold put5x at hE
        try unfold put5x at hLE
        refine bodyPost_ret (v := .tuple #[.agg #[.int .i64 k8, .int .i64 n8, .string s8, .slice la8 ln8 lc8, .slice fa8 fn8 fc8], .int .i64 0]) ?_ rfl ⟨Or.inr ⟨yy, .agg #[.int .i64 k8, .int .i64 n8, .string s8, .slice la8 ln8 lc8, .slice fa8 fn8 fc8], by rw [HR.out, HRE.out]; simp [toldR, H0.out], rfl, hLE⟩, hE⟩;have hres : Try.f13.results = #[.cell 6 25, .tmp 7] := by kernel_rfl
        clear hE hLE y0 y1 y2 y3 y4;simp only [results, hres];go_simp
    ·have HRE := hidI ((push_led HF.out.1 HX0.out).2.1 oo hlo (by rw [hkk]; exact hk5'));have hkb : (k2 != 5) = true := by rw [bne_iff_ne]; exact hk5'
     obtain ⟨q0, q1, q2, q3, q4⟩ := Blk5.cells ((HP3.out _ (Below.refl _ _)).2);clear hrr hlo hL2 hkk hk5';have HB9 := hidI ((HP3.out _ (Below.refl _ _)).1.1);obtain ⟨z0, z1, z2, z3, z4⟩ := Blk5.cells ((HP3.out _ (Below.refl _ _)).1.2.2.2);obtain ⟨y0, y1, y2, y3, y4⟩ := Blk5.free ((HP3.out _ (Below.refl _ _)).1.2.2.2);go_wp2_with fail;have hE : Below w.heap.size w (put5x (w2.alloc (.cells #[.int .i64 k2, .int .i64 n2, .string s2, .slice la2 ln2 lc2, .slice fa2 fn2 fc2] 25)) (w.heap.size + 1 + 1) (.int .i64 0) (.int .i64 0) (.string ⟨#[]⟩) (.slice none 0 0) (.slice none 0 0)) := below_putx HB9.out (by omega);unfold put5x at hE;refine bodyPost_ret (v := .tuple #[.agg #[.int .i64 0, .int .i64 0, .string ⟨#[]⟩, .slice none 0 0, .slice none 0 0], .int .i64 7]) ?_ rfl ⟨Or.inl ⟨7, HRE.out, by decide, rfl⟩, hE⟩;have hres : Try.f13.results = #[.cell 6 25, .tmp 7] := by kernel_rfl
     clear hE q0 q1 q2 q3 q4 y0 y1 y2 y3 y4;simp only [results, hres]
     (go_simp) <;> rfl
  ·have HRE := hidI (setR_bad HF.out.1 hx0).2;have HNE := hidI hx0;have heb : (gx.err != 0) = true := by rw [bne_iff_ne]; exact hx0
   obtain ⟨er, her⟩ : ∃ q, q = gx.err := ⟨_, rfl⟩;rw [← her] at heb HRE HNE ⊢;clear her hx0 hrr;have HB9 := hidI ((HPg.out _ (Below.refl _ _)).1);obtain ⟨z0, z1, z2, z3, z4⟩ := Blk5.cells ((HPg.out _ (Below.refl _ _)).2.2.2);obtain ⟨y0, y1, y2, y3, y4⟩ := Blk5.free ((HPg.out _ (Below.refl _ _)).2.2.2);go_wp2_with fail;have hE : Below w.heap.size w (put5x wg (w.heap.size + 1 + 1) (.int .i64 0) (.int .i64 0) (.string ⟨#[]⟩) (.slice none 0 0) (.slice none 0 0)) := below_putx HB9.out (by omega);unfold put5x at hE;refine bodyPost_ret (v := .tuple #[.agg #[.int .i64 0, .int .i64 0, .string ⟨#[]⟩, .slice none 0 0, .slice none 0 0], .int .i64 er]) ?_ rfl ⟨Or.inl ⟨er, HRE.out, HNE.out, rfl⟩, hE⟩;have hres : Try.f13.results = #[.cell 6 25, .tmp 7] := by kernel_rfl
   clear hE y0 y1 y2 y3 y4;simp only [results, hres]
   (go_simp) <;> rfl
end Go.Proofs.Ytjngbogbbglbnab
