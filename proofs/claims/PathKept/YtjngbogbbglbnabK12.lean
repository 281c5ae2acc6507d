/- Some texts in one: each opens with its own remark. -/
import Derived.Test.YtjngbogbbglbnabZPaPut
import Derived.Test.YtjngbogbbglbnabK16
import Derived.Test.YtjngbogbbglbnabZFreshA
/- Contracts of path.begin, path.leadTo and path.told. -/
namespace Go.Proofs.Ytjngbogbbglbnab
open Go.RowKit

/-- The steps of a path, or the first error of a value, a path and one more value. -/
def begR (g : GV) (p : ByteArray) (c : Nat) (x : Nat → GV) : Except Int (List ByteArray) :=
 if g.err ≠ 0 then .error g.err else match stepsR p.data.toList with
  | none => .error 14
  | some l => if c = 1 ∧ (x 0).err ≠ 0 then .error (x 0).err else .ok l
def BegSay (w' : World) (R : Except Int (List ByteArray)) (e : Ending) : Prop :=
 (∃ er, R = .error er ∧ er ≠ 0 ∧ e = .returned (.tuple #[.slice none 0 0, .int .i64 er])) ∨
 ∃ l a c, R = .ok l ∧ e = .returned (.tuple #[.slice a l.length c, .int .i64 0]) ∧ l.length ≤ c ∧ c ≤ maxLen ∧ Strs w' a l

set_option maxHeartbeats 1000000 in
set_option maxRecDepth 1000000 in
theorem begin_anyL (g : GV) (v : Value) (p : ByteArray) (ma : Option Addr) (mc c : Nat) (x : Nat → GV) (w : World) (hL : Lies w g v) (hN : g.nodes ≤ 16384) (hp : p.size ≤ 9223372036854775807) (hM : Vals w ma c x) (hc : c ≤ 1) (_hcm : c ≤ mc) (_hmc : mc ≤ maxLen) (hx : c = 1 → (x 0).nodes ≤ 16384) :
  Calls Try.prog 22 #[v, .string p, .slice ma c mc] w fun e w' => BegSay w' (begR g p c x) e ∧ Below w.heap.size w w' := by
 have hml : maxLen = 9223372036854775807 := rfl;obtain ⟨R, hR⟩ : ∃ R, R = begR g p c x := ⟨_, rfl⟩;rw [← hR];unfold begR at hR;obtain ⟨k, n, s, la, ln, lc, fa, fn, fc, rfl⟩ := hL.agg;have hbx : Below w.heap.size w (w.alloc (.cells #[.int .i64 k, .int .i64 n, .string s, .slice la ln lc, .slice fa fn fc] 25)) := (Below.refl _ w).alloc (Nat.le_refl _) _;have HG : Hid (∀ W, Below w.heap.size w W → Calls Try.prog 39 #[.agg #[.int .i64 k, .int .i64 n, .string s, .slice la ln lc, .slice fa fn fc]] W fun e w' => e = .returned (.int .i64 g.err) ∧ Below W.heap.size W w') := hidI (fun W hW => Good_any g _ W (hL.below hW) hN);have HS : Hid (∀ W, Calls Try.prog 16 #[.string p] W fun e w' => StepSay w' (stepsR p.data.toList) e ∧ Below W.heap.size W w') := hidI (fun W => Steps_anyL p W hp);have HM : Hid (Vals w ma c x) := hM;have HX : Hid (c = 1 → (x 0).nodes ≤ 16384) := hx;clear hL hN hM hp hx
 by_cases he : g.err ≠ 0
 ·rw [if_pos he] at hR;have HR : Hid (R = .error g.err) := hR;obtain ⟨er, her⟩ : ∃ er, er = g.err := ⟨_, rfl⟩;rw [← her] at HG HR he;have heb : (er != 0) = true := by rw [bne_iff_ne]; exact he
  have HE : Hid (er ≠ 0) := he;clear hR her he
  go_enter Try.func22, Try.ntmps22
  go_wp2_with fail;refine (HG.out _ hbx).mono ?_;rintro e w1 ⟨rfl, b1⟩;go_wp2_with fail
  go_ret2
  exact ⟨Or.inl ⟨er, HR.out, HE.out, rfl⟩, hbx.trans (b1.mono hbx.size)⟩
 ·rw [if_neg he] at hR;have he0 : g.err = 0 := by omega
  rw [he0] at HG
  cases hst : stepsR p.data.toList with
  | none =>
   rw [hst] at hR HS;have HR : Hid (R = .error 14) := hR;clear hR he he0 hst
   go_enter Try.func22, Try.ntmps22
   go_wp2_with fail;refine (HG.out _ hbx).mono ?_;rintro e w1 ⟨rfl, b1⟩;have hb1 := hbx.trans (b1.mono hbx.size);go_wp2_with fail;refine (HS.out _).mono ?_;rintro e w2 ⟨h2, b2⟩
   obtain rfl : e = .returned (.tuple #[.slice none 0 0, .int .i64 14]) := by
    rcases h2 with ⟨_, h⟩ | ⟨_, _, _, h, _⟩
    ·exact h
    ·cases h
   clear h2;go_wp2_with fail
   go_ret2
   exact ⟨Or.inl ⟨14, HR.out, by decide, rfl⟩, hb1.trans (b2.mono hb1.size)⟩
  | some l =>
   rw [hst] at hR HS;simp only at hR;have HR : Hid (R = if c = 1 ∧ (x 0).err ≠ 0 then .error (x 0).err else .ok l) := hR;clear hR he he0 hst
   go_enter Try.func22, Try.ntmps22
   go_wp2_with fail;refine (HG.out _ hbx).mono ?_;rintro e w1 ⟨rfl, b1⟩;have hb1 := hbx.trans (b1.mono hbx.size);go_wp2_with fail;refine (HS.out _).mono ?_;rintro e w2 ⟨h2, b2⟩
   obtain ⟨a, q, rfl, hq1, hq2, hst2⟩ : ∃ a q, e = .returned (.tuple #[.slice a l.length q, .int .i64 0]) ∧ l.length ≤ q ∧ q ≤ maxLen ∧ Strs w2 a l := by
    rcases h2 with ⟨h, _⟩ | ⟨l', a, q, h, h3⟩
    ·cases h
    ·cases h; exact ⟨a, q, h3⟩
   have HQ : Hid (l.length ≤ q ∧ q ≤ maxLen) := hidI ⟨hq1, hq2⟩;have HST : Hid (Strs w2 a l) := hst2;have hb2 := hb1.trans (b2.mono hb1.size);have HB2 : Hid (Below w.heap.size w w2) := hb2;have hsz2 := hb2.size;clear h2 hq1 hq2 hst2 b1 b2 hb1 hbx hb2
   rcases (by omega : c = 0 ∨ c = 1) with h0 | h1
   ·have hc0 : (c : Int) ≤ 0 := by omega
    have hc1 : ¬ (0 : Int) < (c : Int) := by omega
    have HE : Hid (R = .ok l) := hidI (by rw [HR.out, if_neg (by omega)]);clear h0;go_wp2_with fail
    go_loopw [29] (fun i wr => i = .int .i64 0 ∧ wr = w2) (fun _ _ => 0)
    case atStart => exact ⟨rfl, rfl⟩
    case round =>
     obtain ⟨rfl, hwr⟩ := hrel;subst hwr;go_wp2_with fail
     go_ret2
     exact ⟨Or.inr ⟨l, a, q, HE.out, rfl, HQ.out.1, HQ.out.2, HST.out⟩, HB2.out⟩
   ·obtain ⟨b, o, v', rfl, hLx, hA⟩ := HM.out 0 (by omega);have HLX : Hid (Lies w (x 0) v') := hLx;obtain ⟨k', n', s', la', ln', lc', fa', fn', fc', rfl⟩ := hLx.agg;obtain ⟨c0, c1, c2, c3, c4⟩ := hA.five
    have HA : Hid (∀ W, Below w.heap.size w W → W.cell? ⟨b, o, none⟩ = some (.int .i64 k') ∧ W.cell? ⟨b, o + 1, none⟩ = some (.int .i64 n') ∧ W.cell? ⟨b, o + 2, none⟩ = some (.string s') ∧ W.cell? ⟨b, o + 3, none⟩ = some (.slice la' ln' lc') ∧ W.cell? ⟨b, o + 4, none⟩ = some (.slice fa' fn' fc')) := hidI (fun W hW => by
     simp only [Nat.zero_mul, Nat.add_zero] at c0 c1 c2 c3 c4;exact ⟨below_keeps hW _ _ _ c0, below_keeps hW _ _ _ c1, below_keeps hW _ _ _ c2, below_keeps hW _ _ _ c3, below_keeps hW _ _ _ c4⟩)
    have HGX : Hid (∀ W, Below w.heap.size w W → Calls Try.prog 39 #[.agg #[.int .i64 k', .int .i64 n', .string s', .slice la' ln' lc', .slice fa' fn' fc']] W fun e w' => e = .returned (.int .i64 (x 0).err) ∧ Below W.heap.size W w') := hidI (fun W hW => Good_any (x 0) _ W (hLx.below hW) (HX.out h1));have HC : Hid (c = 1) := h1;have hc0 : ¬ (c : Int) ≤ 0 := by omega
    have hc1 : (0 : Int) < (c : Int) := by omega
    have hc2 : ¬ (1 : Int) < (c : Int) := by omega
    have hc3 : (c : Int) ≤ 1 := by omega
    clear hLx hA c0 c1 c2 c3 c4 h1;go_wp2_with fail
    go_loopw [29] (fun i wr => ∃ j : Nat, i = .int .i64 j ∧ (j = 0 ∨ (j = 1 ∧ Hid ((x 0).err = 0))) ∧ Below w2.heap.size w2 wr) (fun i _ => 1 - (intOf i).toNat)
    case atStart => exact ⟨0, rfl, Or.inl rfl, Below.refl _ _⟩
    case round =>
     obtain ⟨j, rfl, hj, hbw⟩ := hrel;have hbw0 : Below w.heap.size w wr := HB2.out.trans (hbw.mono HB2.out.size)
     rcases hj with hj | ⟨hj, HJ⟩
     ·obtain ⟨e0, e1, e2, e3, e4⟩ := HA.out wr hbw0;have hj1 : (j : Int) < (c : Int) := by omega
      have HJZ : Hid (j = 0) := hj;have hj0 : (j : Int) = 0 := by omega
      obtain rfl := hj;have hbd : Below w.heap.size w (wr.alloc (.cells #[.int .i64 k', .int .i64 n', .string s', .slice la' ln' lc', .slice fa' fn' fc'] 25)) := hbw0.alloc hbw0.size _;have hbd2 : Below w2.heap.size w2 (wr.alloc (.cells #[.int .i64 k', .int .i64 n', .string s', .slice la' ln' lc', .slice fa' fn' fc'] 25)) := hbw.alloc hbw.size _;clear HJZ hj0
      by_cases hxe : (x 0).err = 0
      ·rw [hxe] at HGX;have HXE : Hid ((x 0).err = 0) := hxe;clear hxe;go_wp2_with fail;refine (HGX.out _ hbd).mono ?_;rintro e w3 ⟨rfl, b3⟩;have hb3 := hbd2.trans (b3.mono hbd2.size);clear b3;go_wp2_with fail
       go_roundw
       case rel => exact ⟨1, by go_num, Or.inr ⟨rfl, HXE⟩, hb3⟩
       case measure => simp [intOf]
      ·obtain ⟨er, her⟩ : ∃ er, er = (x 0).err := ⟨_, rfl⟩;have HE : Hid (R = .error er) := hidI (by rw [HR.out, if_pos ⟨HC.out, hxe⟩, her]);rw [← her] at HGX hxe;have heb : (er != 0) = true := by rw [bne_iff_ne]; exact hxe
       have HNE : Hid (er ≠ 0) := hxe;clear hxe her;go_wp2_with fail;refine (HGX.out _ hbd).mono ?_;rintro e w3 ⟨rfl, b3⟩;have hb3 := hbd.trans (b3.mono hbd.size);clear b3;go_wp2_with fail
       go_ret2
       exact ⟨Or.inl ⟨er, HE.out, HNE.out, rfl⟩, hb3⟩
     ·have hj1 : ¬ (j : Int) < (c : Int) := by omega
      have HE : Hid (R = .ok l) := hidI (by rw [HR.out, if_neg (fun h => h.2 HJ.out)]);clear hj;go_wp2_with fail
      go_ret2
      exact ⟨Or.inr ⟨l, a, q, HE.out, rfl, HQ.out.1, HQ.out.2, HST.out.below hbw⟩, hbw0⟩

theorem begin_any (g : GV) (v : Value) (p : ByteArray) (ma : Option Addr) (mc c : Nat) (x : Nat → GV) (w : World) (hL : Lies w g v) (hN : g.nodes ≤ 16384) (hp : p.size ≤ 140737488355328) (hM : Vals w ma c x) (hc : c ≤ 1) (_hcm : c ≤ mc) (_hmc : mc ≤ maxLen) (hx : c = 1 → (x 0).nodes ≤ 16384) :
  Calls Try.prog 22 #[v, .string p, .slice ma c mc] w fun e w' => BegSay w' (begR g p c x) e ∧ Below w.heap.size w w' :=
 begin_anyL g v p ma mc c x w hL hN (by omega) hM hc _hcm _hmc hx
def GV.kind : GV → Int
 | .nil => 0
 | .mk k _ _ _ _ _ _ _ => k
/-- Where steps lead, if it is of a Kind. -/
def ledR (g : GV) (l : List ByteArray) (k : Int) : Except Int GV := match g.lead l with
 | none => .error 8
 | some y => if y.kind = k then .ok y else .error 7
def LedSay (w0 : World) (R : Except Int GV) (e : Ending) : Prop :=
 (∃ er, R = .error er ∧ er ≠ 0 ∧ e = .returned (.tuple #[vZ, .int .i64 er])) ∨ ∃ g v, R = .ok g ∧ e = .returned (.tuple #[v, .int .i64 0]) ∧ Lies w0 g v ∧ g.fit

theorem lead_nodes : ∀ (l : List ByteArray) (g y : GV), g.lead l = some y → y.nodes ≤ g.nodes
 | [], g, y, h => by
  have : g = y := by cases g <;> (simp [GV.lead] at h; exact h)
  rw [this];exact Nat.le_refl _
 | s :: r, g, y, h => by
  unfold GV.lead at h
  cases hl : g.loc s with
  | bad e => rw [hl] at h; cases h
  | miss a => rw [hl] at h; cases h
  | hit i =>
   rw [hl] at h;have h1 := lead_nodes r _ _ h;have h2 := loc_hit hl
   have h3 : (g.part i).nodes ≤ g.nodes := by
    cases g with
    | nil => exact False.elim h2
    | mk k n s ln l fn nm f =>
     rcases h2 with ⟨rfl, hi⟩ | ⟨rfl, hi⟩
     ·exact Nat.le_of_lt (GV.nodes_f hi)
     ·exact Nat.le_of_lt (GV.nodes_l hi)
   omega

theorem box3_cells {w w1 : World} {x0 x1 x2 x3 x4 y0 y1 y2 y3 y4 z0 z1 z2 z3 z4 : Value} (h : Below (w.heap.size + 3) (((w.alloc (.cells #[x0, x1, x2, x3, x4] 25)).alloc (.cells #[y0, y1, y2, y3, y4] 25)).alloc (.cells #[z0, z1, z2, z3, z4] 25)) w1) :
  Blk5 w1 w.heap.size x0 x1 x2 x3 x4 ∧ Blk5 w1 (w.heap.size + 1) y0 y1 y2 y3 y4 ∧ Blk5 w1 (w.heap.size + 2) z0 z1 z2 z3 z4 := by
 have hs : (((w.alloc (.cells #[x0, x1, x2, x3, x4] 25)).alloc (.cells #[y0, y1, y2, y3, y4] 25)).alloc (.cells #[z0, z1, z2, z3, z4] 25)).heap.size = w.heap.size + 3 := by simp
 have hb := (Below.refl ((w.alloc (.cells #[x0, x1, x2, x3, x4] 25)).alloc (.cells #[y0, y1, y2, y3, y4] 25)).heap.size ((w.alloc (.cells #[x0, x1, x2, x3, x4] 25)).alloc (.cells #[y0, y1, y2, y3, y4] 25))).alloc (Nat.le_refl _) (.cells #[z0, z1, z2, z3, z4] 25);have h2 := box2_cells (Below.refl _ ((w.alloc (.cells #[x0, x1, x2, x3, x4] 25)).alloc (.cells #[y0, y1, y2, y3, y4] 25)));have p0 := h2.1.below hb;have p1 := h2.2.below hb;have p2 := Blk5.new ((w.alloc (.cells #[x0, x1, x2, x3, x4] 25)).alloc (.cells #[y0, y1, y2, y3, y4] 25)) z0 z1 z2 z3 z4;rw [show ((w.alloc (.cells #[x0, x1, x2, x3, x4] 25)).alloc (.cells #[y0, y1, y2, y3, y4] 25)).heap.size = w.heap.size + 2 by simp] at p2;rw [← hs] at h;exact ⟨p0.below h, p1.below h, p2.below h⟩

end Go.Proofs.Ytjngbogbbglbnab

/- Contracts of path.leadTo and path.told. -/
namespace Go.Proofs.Ytjngbogbbglbnab
open Go.RowKit

theorem kind_agg {w : World} {g : GV} {k n : Int} {s : ByteArray} {la fa : Option Addr} {ln lc fn fc : Nat} (h : Lies w g (.agg #[.int .i64 k, .int .i64 n, .string s, .slice la ln lc, .slice fa fn fc])) : g.kind = k := by
 cases g with
 | nil => exact False.elim h
 | mk k' n' s' ln' l' fn' nm' f' =>
  obtain ⟨_, _, _, _, e, _⟩ := h
  cases e
  rfl

set_option maxHeartbeats 1000000 in
set_option maxRecDepth 1000000 in
theorem leadTo_any (g : GV) (l : List ByteArray) (sa : Option Addr) (sc : Nat) (kd : Int) (v : Value) (w0 w : World) (hL : Lies w0 g v) (hc0 : ∀ b o u, w0.cell? ⟨b, o, none⟩ = some u → w.cell? ⟨b, o, none⟩ = some u) (hfit : g.fit) (hS : Strs w sa l) (hst : ∀ s ∈ l, isStepB s.data.toList = true) (hl1 : l.length ≤ sc) (hl2 : sc ≤ maxLen) :
  Calls Try.prog 26 #[v, .slice sa l.length sc, .int .i64 kd] w fun e w' => LedSay w0 (ledR g l kd) e ∧ Below w.heap.size w w' := by
 obtain ⟨R, hR⟩ : ∃ R, R = ledR g l kd := ⟨_, rfl⟩;rw [← hR];unfold ledR at hR;obtain ⟨k, n, s, la, ln, lc, fa, fn, fc, rfl⟩ := hL.agg;have hbx : Below w.heap.size w ((w.alloc (.cells #[.int .i64 k, .int .i64 n, .string s, .slice la ln lc, .slice fa fn fc] 25)).alloc (.cells #[.int .i64 0, .int .i64 0, .string ⟨#[]⟩, .slice none 0 0, .slice none 0 0] 25)) := ((Below.refl w.heap.size w).alloc (Nat.le_refl _) _).alloc (by simp) _;have hB2 := box2_cells (Below.refl _ ((w.alloc (.cells #[.int .i64 k, .int .i64 n, .string s, .slice la ln lc, .slice fa fn fc] 25)).alloc (.cells #[.int .i64 0, .int .i64 0, .string ⟨#[]⟩, .slice none 0 0, .slice none 0 0] 25)));have HQ : Hid (Blk5 ((w.alloc (.cells #[.int .i64 k, .int .i64 n, .string s, .slice la ln lc, .slice fa fn fc] 25)).alloc (.cells #[.int .i64 0, .int .i64 0, .string ⟨#[]⟩, .slice none 0 0, .slice none 0 0] 25)) (w.heap.size + 1) (.int .i64 0) (.int .i64 0) (.string ⟨#[]⟩) (.slice none 0 0) (.slice none 0 0)) := hB2.2;have HC : Hid (∀ W, Below w.heap.size w W → Calls Try.prog 28 #[.agg #[.int .i64 k, .int .i64 n, .string s, .slice la ln lc, .slice fa fn fc], .slice sa l.length sc] W fun e w' => LeadSay w0 (g.lead l) e ∧ Below W.heap.size W w') := hidI (fun W hW => lead_any g l sa sc _ w0 W hL (fun b o u h => below_keeps hW b o u (hc0 b o u h)) hfit (hS.below hW) hst hl1 hl2);clear hL hc0 hfit hS hst hB2
 cases hy : g.lead l with
 | none =>
  rw [hy] at hR HC;have HR : Hid (R = .error 8) := hR;clear hR hy
  go_enter Try.func26, Try.ntmps26
  go_wp2_with fail;refine (HC.out _ hbx).mono ?_;rintro e w1 ⟨h1, b1⟩
  obtain rfl : e = .returned (.tuple #[.agg #[.int .i64 0, .int .i64 0, .string ⟨#[]⟩, .slice none 0 0, .slice none 0 0], .bool false]) := by
   rcases h1 with ⟨_, h⟩ | ⟨_, _, h, _⟩
   ·exact h
   ·cases h
  have hbu : Below ((w.alloc (.cells #[.int .i64 k, .int .i64 n, .string s, .slice la ln lc, .slice fa fn fc] 25)).alloc (.cells #[.int .i64 0, .int .i64 0, .string ⟨#[]⟩, .slice none 0 0, .slice none 0 0] 25)).heap.size ((w.alloc (.cells #[.int .i64 k, .int .i64 n, .string s, .slice la ln lc, .slice fa fn fc] 25)).alloc (.cells #[.int .i64 0, .int .i64 0, .string ⟨#[]⟩, .slice none 0 0, .slice none 0 0] 25)) (w1.alloc (.cells #[.int .i64 0, .int .i64 0, .string ⟨#[]⟩, .slice none 0 0, .slice none 0 0] 25)) := b1.alloc (by have := b1.size; omega) _;obtain ⟨z0, z1, z2, z3, z4⟩ := Blk5.cells (Blk5.below HQ.out hbu);obtain ⟨q0, q1, q2, q3, q4⟩ := Blk5.free (Blk5.below HQ.out hbu);have HB : Hid (Below w.heap.size w (w1.alloc (.cells #[.int .i64 0, .int .i64 0, .string ⟨#[]⟩, .slice none 0 0, .slice none 0 0] 25))) := hidI (hbx.trans (hbu.mono hbx.size));clear h1 b1 hbx hbu;go_wp2_with fail
  refine bodyPost_ret (v := .tuple #[vZ, .int .i64 8]) ?_ rfl ⟨Or.inl ⟨8, HR.out, by decide, rfl⟩, ?_⟩
  ·have hres : Try.f26.results = #[.cell 6 25, .tmp 7] := by kernel_rfl
   simp only [results, hres];go_simp
   rfl
  ·exact ((((HB.out.setCell (Nat.le_succ _) _).setCell (Nat.le_succ _) _).setCell (Nat.le_succ _) _).setCell (Nat.le_succ _) _).setCell (Nat.le_succ _) _
 | some y =>
  rw [hy] at hR HC;simp only at hR;clear hy
  by_cases hk : y.kind = kd
  ·rw [if_pos hk] at hR;have HR : Hid (R = .ok y) := hR
   go_enter Try.func26, Try.ntmps26
   go_wp2_with fail;refine (HC.out _ hbx).mono ?_;rintro e w1 ⟨h1, b1⟩
   obtain ⟨v2, rfl, hL2, hf2⟩ : ∃ v2, e = .returned (.tuple #[v2, .bool true]) ∧ Lies w0 y v2 ∧ y.fit := by
    rcases h1 with ⟨h, _⟩ | ⟨_, v2, h, h2, h3, h4⟩
    ·cases h
    ·cases h; exact ⟨v2, h2, h3, h4⟩
   obtain ⟨k2, n2, s2, la2, ln2, lc2, fa2, fn2, fc2, rfl⟩ := hL2.agg;have hkk := kind_agg hL2;have HL2 : Hid (Lies w0 y _) := hL2;have HF2 : Hid y.fit := hf2;clear hL2 hf2;have hbu : Below ((w.alloc (.cells #[.int .i64 k, .int .i64 n, .string s, .slice la ln lc, .slice fa fn fc] 25)).alloc (.cells #[.int .i64 0, .int .i64 0, .string ⟨#[]⟩, .slice none 0 0, .slice none 0 0] 25)).heap.size ((w.alloc (.cells #[.int .i64 k, .int .i64 n, .string s, .slice la ln lc, .slice fa fn fc] 25)).alloc (.cells #[.int .i64 0, .int .i64 0, .string ⟨#[]⟩, .slice none 0 0, .slice none 0 0] 25)) (w1.alloc (.cells #[.int .i64 k2, .int .i64 n2, .string s2, .slice la2 ln2 lc2, .slice fa2 fn2 fc2] 25)) := b1.alloc (by have := b1.size; omega) _;obtain ⟨z0, z1, z2, z3, z4⟩ := Blk5.cells (Blk5.below HQ.out hbu);obtain ⟨q0, q1, q2, q3, q4⟩ := Blk5.free (Blk5.below HQ.out hbu);have HB : Hid (Below w.heap.size w (w1.alloc (.cells #[.int .i64 k2, .int .i64 n2, .string s2, .slice la2 ln2 lc2, .slice fa2 fn2 fc2] 25))) := hidI (hbx.trans (hbu.mono hbx.size));clear h1 b1 hbx hbu;have hkb : (k2 != kd) = false := by rw [← hkk, hk]; simp
   clear hR hk hkk;go_wp2_with fail
   refine bodyPost_ret (v := .tuple #[.agg #[.int .i64 k2, .int .i64 n2, .string s2, .slice la2 ln2 lc2, .slice fa2 fn2 fc2], .int .i64 0]) ?_ rfl ⟨Or.inr ⟨y, _, HR.out, rfl, HL2.out, HF2.out⟩, ?_⟩
   ·have hres : Try.f26.results = #[.cell 6 25, .tmp 7] := by kernel_rfl
    simp only [results, hres];go_simp
   ·exact ((((HB.out.setCell (Nat.le_succ _) _).setCell (Nat.le_succ _) _).setCell (Nat.le_succ _) _).setCell (Nat.le_succ _) _).setCell (Nat.le_succ _) _
  ·rw [if_neg hk] at hR;have HR : Hid (R = .error 7) := hR
   go_enter Try.func26, Try.ntmps26
   go_wp2_with fail;refine (HC.out _ hbx).mono ?_;rintro e w1 ⟨h1, b1⟩
   obtain ⟨v2, rfl, hL2, hf2⟩ : ∃ v2, e = .returned (.tuple #[v2, .bool true]) ∧ Lies w0 y v2 ∧ y.fit := by
    rcases h1 with ⟨h, _⟩ | ⟨_, v2, h, h2, h3, h4⟩
    ·cases h
    ·cases h; exact ⟨v2, h2, h3, h4⟩
   obtain ⟨k2, n2, s2, la2, ln2, lc2, fa2, fn2, fc2, rfl⟩ := hL2.agg;have hkk := kind_agg hL2;have HL2 : Hid (Lies w0 y _) := hL2;have HF2 : Hid y.fit := hf2;clear hL2 hf2;have hbu : Below ((w.alloc (.cells #[.int .i64 k, .int .i64 n, .string s, .slice la ln lc, .slice fa fn fc] 25)).alloc (.cells #[.int .i64 0, .int .i64 0, .string ⟨#[]⟩, .slice none 0 0, .slice none 0 0] 25)).heap.size ((w.alloc (.cells #[.int .i64 k, .int .i64 n, .string s, .slice la ln lc, .slice fa fn fc] 25)).alloc (.cells #[.int .i64 0, .int .i64 0, .string ⟨#[]⟩, .slice none 0 0, .slice none 0 0] 25)) (w1.alloc (.cells #[.int .i64 k2, .int .i64 n2, .string s2, .slice la2 ln2 lc2, .slice fa2 fn2 fc2] 25)) := b1.alloc (by have := b1.size; omega) _;obtain ⟨z0, z1, z2, z3, z4⟩ := Blk5.cells (Blk5.below HQ.out hbu);obtain ⟨q0, q1, q2, q3, q4⟩ := Blk5.free (Blk5.below HQ.out hbu);have HB : Hid (Below w.heap.size w (w1.alloc (.cells #[.int .i64 k2, .int .i64 n2, .string s2, .slice la2 ln2 lc2, .slice fa2 fn2 fc2] 25))) := hidI (hbx.trans (hbu.mono hbx.size));clear h1 b1 hbx hbu;have hkb : (k2 != kd) = true := by rw [bne_iff_ne, ← hkk]; exact hk
   clear hR hk hkk;go_wp2_with fail
   refine bodyPost_ret (v := .tuple #[vZ, .int .i64 7]) ?_ rfl ⟨Or.inl ⟨7, HR.out, by decide, rfl⟩, ?_⟩
   ·have hres : Try.f26.results = #[.cell 6 25, .tmp 7] := by kernel_rfl
    simp only [results, hres];go_simp
    rfl
   ·exact ((((HB.out.setCell (Nat.le_succ _) _).setCell (Nat.le_succ _) _).setCell (Nat.le_succ _) _).setCell (Nat.le_succ _) _).setCell (Nat.le_succ _) _

/-- A value that is told, if it is good. -/
def toldR : Except Int GV → Except Int GV
 | .error e => .error e
 | .ok y => if y.err = 0 then .ok y else .error y.err
/-- What is told: new memory; or the error. -/
def OutSay (B : Nat) (w' : World) (R : Except Int GV) (e : Ending) : Prop :=
 (∃ er, R = .error er ∧ er ≠ 0 ∧ e = .returned (.tuple #[vZ, .int .i64 er])) ∨
 ∃ y v', R = .ok y ∧ e = .returned (.tuple #[v', .int .i64 0]) ∧ From B w' y v' ∧ y.err = 0

set_option maxHeartbeats 1000000 in
set_option maxRecDepth 1000000 in
theorem told_bad (er : Int) (w : World) (he : er ≠ 0) :
  Calls Try.prog 23 #[vZ, .int .i64 er] w fun e w' => e = .returned (.tuple #[vZ, .int .i64 er]) ∧ Below w.heap.size w w' := by
 have heb : (er == 0) = false := by rw [beq_eq_false_iff_ne]; exact he
 have heb2 : (er != 0) = true := by rw [bne_iff_ne]; exact he
 have hbx : Below w.heap.size w ((w.alloc (.cells #[.int .i64 0, .int .i64 0, .string ⟨#[]⟩, .slice none 0 0, .slice none 0 0] 25)).alloc (.cells #[.int .i64 0, .int .i64 0, .string ⟨#[]⟩, .slice none 0 0, .slice none 0 0] 25)) := ((Below.refl w.heap.size w).alloc (Nat.le_refl _) _).alloc (by simp) _;have HB : Hid _ := hbx;clear hbx he;show Calls Try.prog 23 #[.agg #[.int .i64 0, .int .i64 0, .string ⟨#[]⟩, .slice none 0 0, .slice none 0 0], .int .i64 er] w _
 go_enter Try.func23, Try.ntmps23
 go_wp2_with fail
 refine bodyPost_ret (v := .tuple #[vZ, .int .i64 er]) ?_ rfl ⟨rfl, ?_⟩
 ·have hres : Try.f23.results = #[.cell 4 25, .tmp 5] := by kernel_rfl
  simp only [results, hres];go_simp
  rfl
 ·exact HB.out

set_option maxHeartbeats 1000000 in
set_option maxRecDepth 1000000 in
theorem told_ok (y : GV) (v : Value) (w : World) (hL : Lies w y v) (hN : y.nodes ≤ 16384) :
  Calls Try.prog 23 #[v, .int .i64 0] w fun e w' => OutSay w.heap.size w' (toldR (.ok y)) e ∧ Below w.heap.size w w' := by
 obtain ⟨R, hR⟩ : ∃ R, R = toldR (.ok y) := ⟨_, rfl⟩;rw [← hR];simp only [toldR] at hR;obtain ⟨k, n, s, la, ln, lc, fa, fn, fc, rfl⟩ := hL.agg;have hbx : Below w.heap.size w ((w.alloc (.cells #[.int .i64 k, .int .i64 n, .string s, .slice la ln lc, .slice fa fn fc] 25)).alloc (.cells #[.int .i64 0, .int .i64 0, .string ⟨#[]⟩, .slice none 0 0, .slice none 0 0] 25)) := ((Below.refl w.heap.size w).alloc (Nat.le_refl _) _).alloc (by simp) _;have hB2 := box2_cells (Below.refl _ ((w.alloc (.cells #[.int .i64 k, .int .i64 n, .string s, .slice la ln lc, .slice fa fn fc] 25)).alloc (.cells #[.int .i64 0, .int .i64 0, .string ⟨#[]⟩, .slice none 0 0, .slice none 0 0] 25)));have HQ : Hid (Blk5 ((w.alloc (.cells #[.int .i64 k, .int .i64 n, .string s, .slice la ln lc, .slice fa fn fc] 25)).alloc (.cells #[.int .i64 0, .int .i64 0, .string ⟨#[]⟩, .slice none 0 0, .slice none 0 0] 25)) (w.heap.size + 1) (.int .i64 0) (.int .i64 0) (.string ⟨#[]⟩) (.slice none 0 0) (.slice none 0 0)) := hB2.2;have HP : Hid (Blk5 ((w.alloc (.cells #[.int .i64 k, .int .i64 n, .string s, .slice la ln lc, .slice fa fn fc] 25)).alloc (.cells #[.int .i64 0, .int .i64 0, .string ⟨#[]⟩, .slice none 0 0, .slice none 0 0] 25)) w.heap.size (.int .i64 k) (.int .i64 n) (.string s) (.slice la ln lc) (.slice fa fn fc)) := hB2.1;have HG : Hid (∀ W, Below w.heap.size w W → Calls Try.prog 39 #[.agg #[.int .i64 k, .int .i64 n, .string s, .slice la ln lc, .slice fa fn fc]] W fun e w' => e = .returned (.int .i64 y.err) ∧ Below W.heap.size W w') := hidI (fun W hW => Good_any y _ W (hL.below hW) hN);have HF : Hid (∀ W, Below w.heap.size w W → Calls Try.prog 29 #[.agg #[.int .i64 k, .int .i64 n, .string s, .slice la ln lc, .slice fa fn fc]] W fun e w' => ∃ v', e = .returned v' ∧ From W.heap.size w' y v' ∧ Top W.heap.size w' v' ∧ Below W.heap.size W w') := hidI (fun W hW => fresh_any y _ W (hL.below hW) (by omega));clear hL hN hB2
 by_cases he : y.err = 0
 ·rw [if_pos he] at hR;rw [he] at HG;have HR : Hid (R = .ok y) := hR;have HE : Hid (y.err = 0) := he;clear hR he
  go_enter Try.func23, Try.ntmps23
  go_wp2_with fail;refine (HG.out _ hbx).mono ?_;rintro e w1 ⟨rfl, b1⟩;obtain ⟨c0, c1, c2, c3, c4⟩ := Blk5.cells (Blk5.below HP.out b1);have hb1 := hbx.trans (b1.mono hbx.size);have HB1 : Hid (Below ((w.alloc (.cells #[.int .i64 k, .int .i64 n, .string s, .slice la ln lc, .slice fa fn fc] 25)).alloc (.cells #[.int .i64 0, .int .i64 0, .string ⟨#[]⟩, .slice none 0 0, .slice none 0 0] 25)).heap.size ((w.alloc (.cells #[.int .i64 k, .int .i64 n, .string s, .slice la ln lc, .slice fa fn fc] 25)).alloc (.cells #[.int .i64 0, .int .i64 0, .string ⟨#[]⟩, .slice none 0 0, .slice none 0 0] 25)) w1) := b1;clear b1;go_wp2_with fail;refine (HF.out _ hb1).mono ?_;rintro e w2 ⟨v2, rfl, hF2, _, b2⟩;obtain ⟨k2, n2, s2, la2, ln2, lc2, fa2, fn2, fc2, rfl⟩ := hF2.lies.agg;have HF2 : Hid (From w1.heap.size w2 y _) := hF2;have hbu : Below ((w.alloc (.cells #[.int .i64 k, .int .i64 n, .string s, .slice la ln lc, .slice fa fn fc] 25)).alloc (.cells #[.int .i64 0, .int .i64 0, .string ⟨#[]⟩, .slice none 0 0, .slice none 0 0] 25)).heap.size ((w.alloc (.cells #[.int .i64 k, .int .i64 n, .string s, .slice la ln lc, .slice fa fn fc] 25)).alloc (.cells #[.int .i64 0, .int .i64 0, .string ⟨#[]⟩, .slice none 0 0, .slice none 0 0] 25)) w2 := HB1.out.trans (b2.mono HB1.out.size);have hs1 : w.heap.size + 2 ≤ w1.heap.size := by have := HB1.out.size; simpa using this
  obtain ⟨z0, z1, z2, z3, z4⟩ := Blk5.cells (Blk5.below HQ.out hbu);obtain ⟨q0, q1, q2, q3, q4⟩ := Blk5.free (Blk5.below HQ.out hbu);have HB : Hid (Below w.heap.size w w2) := hidI (hbx.trans (hbu.mono hbx.size));clear c0 c1 c2 c3 c4 hF2 b2 hbu hb1 hbx;go_wp2_with fail
  refine bodyPost_ret (v := .tuple #[.agg #[.int .i64 k2, .int .i64 n2, .string s2, .slice la2 ln2 lc2, .slice fa2 fn2 fc2], .int .i64 0]) ?_ rfl ⟨Or.inr ⟨y, _, HR.out, rfl, ?_, HE.out⟩, ?_⟩
  ·have hres : Try.f23.results = #[.cell 4 25, .tmp 5] := by kernel_rfl
   simp only [results, hres];go_simp
  ·exact From.le (((((From.setCell HF2.out (by omega) _).setCell (by omega) _).setCell (by omega) _).setCell (by omega) _).setCell (by omega) _) (by omega)
  ·exact ((((HB.out.setCell (Nat.le_succ _) _).setCell (Nat.le_succ _) _).setCell (Nat.le_succ _) _).setCell (Nat.le_succ _) _).setCell (Nat.le_succ _) _
 ·rw [if_neg he] at hR;obtain ⟨er, her⟩ : ∃ er, er = y.err := ⟨_, rfl⟩;rw [← her] at HG hR he;have HR : Hid (R = .error er) := hR;have HE : Hid (er ≠ 0) := he;have heb2 : (er != 0) = true := by rw [bne_iff_ne]; exact he
  clear hR he her
  go_enter Try.func23, Try.ntmps23
  go_wp2_with fail;refine (HG.out _ hbx).mono ?_;rintro e w1 ⟨rfl, b1⟩;obtain ⟨z0, z1, z2, z3, z4⟩ := Blk5.cells (Blk5.below HQ.out b1);obtain ⟨q0, q1, q2, q3, q4⟩ := Blk5.free (Blk5.below HQ.out b1);have HB : Hid (Below w.heap.size w w1) := hidI (hbx.trans (b1.mono hbx.size));clear b1 hbx;go_wp2_with fail
  refine bodyPost_ret (v := .tuple #[vZ, .int .i64 er]) ?_ rfl ⟨Or.inl ⟨er, HR.out, HE.out, rfl⟩, ?_⟩
  ·have hres : Try.f23.results = #[.cell 4 25, .tmp 5] := by kernel_rfl
   simp only [results, hres];go_simp
   rfl
  ·exact ((((HB.out.setCell (Nat.le_succ _) _).setCell (Nat.le_succ _) _).setCell (Nat.le_succ _) _).setCell (Nat.le_succ _) _).setCell (Nat.le_succ _) _
end Go.Proofs.Ytjngbogbbglbnab
