/- What is set where steps lead: the plain function; contract of path.put, of any steps at any value of its form. -/
import Derived.Test.YtjngbogbbglbnabPaVeil
import Derived.Test.YtjngbogbbglbnabPaNamed
import Derived.Deep.RegionHeld3
import Derived.Deep.MidRow
namespace Go.Proofs.Ytjngbogbbglbnab
open Go.RowKit

def gE : GV := .mk 6 0 ⟨#[]⟩ 0 (fun _ => .nil) 0 (fun _ => ⟨#[]⟩) (fun _ => .nil)
def vE : Value := .agg #[.int .i64 6, .int .i64 0, .string ⟨#[]⟩, .slice none 0 0, .slice none 0 0]
theorem lies_E (w : World) : Lies w gE vE :=
  ⟨none, 0, none, 0, rfl, small64 (by omega), small64 (by omega), by show 0 ≤ _; omega, Nat.le_refl _, by unfold maxLen; omega, Nat.le_refl _, by unfold maxLen; omega, fun i hi => absurd hi (Nat.not_lt_zero _), fun i hi => absurd hi (Nat.not_lt_zero _)⟩
theorem fit_E : gE.fit := ⟨by decide +kernel, by decide⟩

/-- What stands behind the steps but the first: the value, or the error. -/
def GV.put : List ByteArray → GV → Nat → (Nat → GV) → Except Int GV
  | [], g, _, _ => .ok g
  | s :: r, g, c, x => match g.loc s with
    | .bad e => .error e
    | .miss a => if r = [] then .ok (g.spl a 0 s c x) else match GV.put r gE c x with
      | .error e => .error e
      | .ok y => .ok (g.spl a 0 s 1 fun _ => y)
    | .hit i => if r = [] then .ok (g.spl i 1 s c x) else match GV.put r (g.part i) c x with
      | .error e => .error e
      | .ok y => .ok (g.spl i 1 s 1 fun _ => y)

def PutEnd (B C : Nat) (w' : World) (R : Except Int GV) (e : Ending) : Prop :=
  (∃ er, R = .error er ∧ (er = 7 ∨ er = 8) ∧ e = .returned (.tuple #[vZ, .int .i64 er])) ∨
  ∃ y v', R = .ok y ∧ e = .returned (.tuple #[v', .int .i64 0]) ∧ Lies (veil B C w') y v'
def PutSay (l : List ByteArray) : Prop := l ≠ [] → ∀ (g : GV) (v : Value) (w : World) (B : Nat) (sa : Option Addr) (sc : Nat) (ma : Option Addr) (mc c : Nat) (x : Nat → GV),
  B ≤ w.heap.size → Lies (veil B w.heap.size w) g v → g.fit → Strs w sa l → (∀ s ∈ l, isStepB s.data.toList = true) → l.length ≤ sc → sc ≤ maxLen → Vals (veil B w.heap.size w) ma c x → c ≤ 1 → c ≤ mc → mc ≤ maxLen →
  Calls Try.prog 24 #[v, .slice sa l.length sc, .slice ma c mc] w fun e w' => PutEnd B w.heap.size w' (GV.put l g c x) e ∧ Below w.heap.size w w'

theorem miss_six {k n : Int} {s' : ByteArray} {ln : Nat} {l : Nat → GV} {fn : Nat} {nm : Nat → ByteArray} {f : Nat → GV} {s : ByteArray} {a : Nat} (h : (GV.mk k n s' ln l fn nm f).loc s = .miss a) : k = 6 ∧ a ≤ fn := by
  simp only [GV.loc] at h
  split at h
  · split at h
    · rename_i h6
      unfold locN at h
      split at h
      · cases h
      · injection h with h
        refine ⟨h6, ?_⟩
        rw [← h]
        unfold belowN
        have := List.countP_le_length (p := fun i => decide (Lib.compareBytes (nm i).data.toList s.data.toList < 0)) (l := List.range fn)
        simpa using this
    · cases h
  · split at h
    · split at h <;> cases h
    · cases h

theorem veil_two {B C C1 b3 b6 : Nat} {W W' : World} (hC : C ≤ C1) (h3 : B ≤ b3 ∧ b3 < C1) (h6 : B ≤ b6 ∧ b6 < C1) (hh : ∀ b, b ≠ b3 → b ≠ b6 → W'.heap[b]? = W.heap[b]?) :
    ∀ b o u, (veil B C1 W).cell? ⟨b, o, none⟩ = some u → (veil B C W').cell? ⟨b, o, none⟩ = some u :=
  veil_keep (fun _ h1 h2 _ => ⟨h1, by omega⟩) (fun b hb _ => hh b (fun e => hb (e ▸ h3)) (fun e => hb (e ▸ h6)))
theorem putx_heap {w : World} {r b : Nat} {y0 y1 y2 y3 y4 : Value} (h : b ≠ r) : (put5x w r y0 y1 y2 y3 y4).heap[b]? = w.heap[b]? := by
  unfold put5x
  rw [Below.heap_setCell _ ⟨r, 4, none⟩ _ b h, Below.heap_setCell _ ⟨r, 3, none⟩ _ b h, Below.heap_setCell _ ⟨r, 2, none⟩ _ b h, Below.heap_setCell _ ⟨r, 1, none⟩ _ b h, Below.heap_setCell _ ⟨r, 0, none⟩ _ b h]
theorem crow_mono {w w' : World} {a : Option Addr} {cs : List Value} (h : CRow w a cs) (hc : ∀ b o u, w.cell? ⟨b, o, none⟩ = some u → w'.cell? ⟨b, o, none⟩ = some u) : CRow w' a cs := by
  rcases h with h | ⟨b, o, e, h⟩
  · exact Or.inl h
  · exact Or.inr ⟨b, o, e, fun k u hk => hc _ _ _ (h k u hk)⟩
theorem vals_crow {w : World} {a : Option Addr} {n : Nat} {l : Nat → GV} (h : Vals w a n l) : ∃ vs : List Value, vs.length = n ∧ (∀ i (hi : i < vs.length), Lies w (l i) (vs[i]'hi)) ∧ CRow w a (valCells vs) := by
  rcases Nat.eq_zero_or_pos n with rfl | hn
  · exact ⟨[], rfl, fun i hi => absurd hi (Nat.not_lt_zero _), Or.inl rfl⟩
  · obtain ⟨b, o, v, rfl, _⟩ := h 0 hn
    obtain ⟨vs, h1, h2, h3⟩ := vals_list (w := w) (b := b) (o := o) (l := l) n (fun i hi => by
      obtain ⟨b', o', v', e, hL, hA⟩ := h i hi
      cases e
      exact ⟨v', hL, hA⟩)
    exact ⟨vs, h1, h2, Or.inr ⟨b, o, rfl, h3⟩⟩
theorem there_five {w : World} {b : Nat} {x0 x1 x2 x3 x4 y0 y1 y2 y3 y4 : Value} (h : Blk5 w b x0 x1 x2 x3 x4) : w.there b 0 #[y0, y1, y2, y3, y4].size := by
  intro j hj
  obtain ⟨c0, c1, c2, c3, c4⟩ := h.cells
  obtain ⟨f0, f1, f2, f3, f4⟩ := h.free
  have hj5 : j < 5 := hj
  rw [Nat.zero_add]
  obtain rfl | rfl | rfl | rfl | rfl : j = 0 ∨ j = 1 ∨ j = 2 ∨ j = 3 ∨ j = 4 := by omega
  · exact ⟨by rw [c0]; rfl, f0⟩
  · exact ⟨by rw [c1]; rfl, f1⟩
  · exact ⟨by rw [c2]; rfl, f2⟩
  · exact ⟨by rw [c3]; rfl, f3⟩
  · exact ⟨by rw [c4]; rfl, f4⟩
theorem sizeVal : (Try.prog.info? 25).map (·.size) = some 5 := by kernel_rfl
theorem drew_cell (w : World) (a : Addr) : w.drew.cell? a = w.cell? a := rfl
theorem ok_mono {w w' : World} {y : Fl} (h : y.ok w) (hc : ∀ b o u, w.cell? ⟨b, o, none⟩ = some u → w'.cell? ⟨b, o, none⟩ = some u) : y.ok w' := ⟨Lies.mono hc h.1, h.2⟩

theorem lies_veil {B C : Nat} {w : World} {g : GV} {v : Value} (h : Lies (veil B C w) g v) : Lies w g v := Lies.mono veil_off h

set_option maxHeartbeats 4000000 in
set_option maxRecDepth 1000000 in
theorem put_step (s : ByteArray) (r : List ByteArray) (ih : PutSay r) : PutSay (s :: r) := by
  intro _ g v w B sa sc ma mc c x hB hL hfit hS hst hsl hsc hM hc1 hcm hmc
  have hml : maxLen = 9223372036854775807 := rfl
  have hL0 := lies_veil hL
  obtain ⟨k, n0, tx, ln, l0, fn, nm, f, hg⟩ : ∃ k n0 tx ln l0 fn nm f, g = .mk k n0 tx ln l0 fn nm f := by
    cases g with
    | nil => exact False.elim hL
    | mk k n0 tx ln l0 fn nm f => exact ⟨_, _, _, _, _, _, _, _, rfl⟩
  have hLP := hL
  rw [hg] at hLP
  obtain ⟨la, lc, fa, fc, rfl, hk, hn0, htx, h4, h5, h6, h7, hvl, hvf⟩ := hLP
  obtain ⟨sb, so, rfl, hstr⟩ := hS 0 (by simp)
  obtain ⟨_, hStl⟩ := hS.tail
  simp only [List.getElem_cons_zero, Nat.add_zero] at hstr
  have hstep : isStepB s.data.toList = true := hst s (by simp)
  have hfew := lies_few hL0 hfit.2
  obtain ⟨R, hR⟩ : ∃ R, R = GV.put (s :: r) g c x := ⟨_, rfl⟩
  rw [← hR]
  have hR' := hR
  unfold GV.put at hR'
  obtain ⟨N, hN⟩ : ∃ N, N = (s :: r).length := ⟨_, rfl⟩
  rw [← hN] at hsl ⊢
  have hNr : N = r.length + 1 := by rw [hN]; simp
  have HF : Hid (∀ W, Below w.heap.size w W → Calls Try.prog 40 #[.agg #[.int .i64 k, .int .i64 n0, .string tx, .slice la ln lc, .slice fa fn fc], .string s] W fun e w' => e = (g.loc s).end ∧ Below W.heap.size W w') := hidI (fun W hW => find_any g s _ W (hL0.below hW) (every_self hfit.1) hstep hfew)
  have HSS : Hid (∀ u, Below (w.heap.size + 2) ((w.alloc (.cells #[.int .i64 k, .int .i64 n0, .string tx, .slice la ln lc, .slice fa fn fc] 25)).alloc (.cells #[.int .i64 0, .int .i64 0, .string ⟨#[]⟩, .slice none 0 0, .slice none 0 0] 25)) u → (u.cell? ⟨w.heap.size, 0, none⟩ = some (.int .i64 k) ∧ u.cell? ⟨w.heap.size, 1, none⟩ = some (.int .i64 n0) ∧ u.cell? ⟨w.heap.size, 2, none⟩ = some (.string tx) ∧ u.cell? ⟨w.heap.size, 3, none⟩ = some (.slice la ln lc) ∧ u.cell? ⟨w.heap.size, 4, none⟩ = some (.slice fa fn fc) ∧ u.cell? ⟨sb, so, none⟩ = some (.string s))) := hidI (fun u hu => by
    obtain ⟨p0, p1, p2, p3, p4⟩ := (box2_cells hu).1.cells
    exact ⟨p0, p1, p2, p3, p4, below_keeps ((((Below.refl w.heap.size w).alloc (Nat.le_refl _) _).alloc (by simp) _).trans (hu.mono (by omega))) _ _ _ hstr⟩)
  have HBK : Hid (∀ u, Below (w.heap.size + 2) ((w.alloc (.cells #[.int .i64 k, .int .i64 n0, .string tx, .slice la ln lc, .slice fa fn fc] 25)).alloc (.cells #[.int .i64 0, .int .i64 0, .string ⟨#[]⟩, .slice none 0 0, .slice none 0 0] 25)) u → Blk5 u w.heap.size (.int .i64 k) (.int .i64 n0) (.string tx) (.slice la ln lc) (.slice fa fn fc) ∧ Blk5 u (w.heap.size + 1) (.int .i64 0) (.int .i64 0) (.string ⟨#[]⟩) (.slice none 0 0) (.slice none 0 0)) := hidI (fun u hu => box2_cells hu)
  have HBX : Hid (Below w.heap.size w ((w.alloc (.cells #[.int .i64 k, .int .i64 n0, .string tx, .slice la ln lc, .slice fa fn fc] 25)).alloc (.cells #[.int .i64 0, .int .i64 0, .string ⟨#[]⟩, .slice none 0 0, .slice none 0 0] 25))) := hidI (((Below.refl w.heap.size w).alloc (Nat.le_refl _) _).alloc (by simp) _)
  have HL : Hid (Lies (veil B w.heap.size w) g _) := hL
  have HFIT : Hid g.fit := hfit
  have HG : Hid (g = .mk k n0 tx ln l0 fn nm f) := hg
  have HVL : Hid (Vals (veil B w.heap.size w) la ln l0) := hvl
  have HVF : Hid (Flds (veil B w.heap.size w) fa fn nm f) := hvf
  have HIN : Hid (Int64 k ∧ Int64 n0 ∧ tx.size ≤ 140737488355328) := hidI ⟨hk, hn0, htx⟩
  have hlnfn : ln ≤ 50000 ∧ fn ≤ 50000 := by rw [hg] at hfew; exact hfew
  have HSTR : Hid (w.cell? ⟨sb, so, none⟩ = some (.string s)) := hstr
  have hssz : s.size ≤ 140737488355328 := by have := isStep_len hstep; rw [size_list] at this; omega
  have HSTL : Hid (Strs w (some ⟨sb, so + 1, none⟩) r) := hStl
  have HST : Hid _ := hst
  have HM : Hid (Vals (veil B w.heap.size w) ma c x) := hM
  have HN : Hid (N = r.length + 1) := hNr
  have hN1 : (1 : Int) ≤ (N : Int) := by omega
  have hN2 : (0 : Int) < (N : Int) := by omega
  have hN0 : ¬ N = 0 := by omega
  have hN3 : 0 < N := by omega
  clear hL hL0 hS hStl hst hstr hstep hfew hM hN hNr hfit hg hvl hvf hk hn0 htx
  cases hloc : g.loc s with
  | bad er =>
    rw [hloc] at HF hR'
    have HE : Hid (R = .error er) := hR'
    have he := loc_bad hloc
    have HEE : Hid (er = 7 ∨ er = 8) := he
    have heb : (er != 0) = true := by rw [bne_iff_ne]; omega
    clear hR' hR hloc he
    unfold Loc.end at HF
    go_enter Try.func24, Try.ntmps24
    go_wp2_with fail
    have Y0 : Below (w.heap.size + 2) ((w.alloc (.cells #[.int .i64 k, .int .i64 n0, .string tx, .slice la ln lc, .slice fa fn fc] 25)).alloc (.cells #[.int .i64 0, .int .i64 0, .string ⟨#[]⟩, .slice none 0 0, .slice none 0 0] 25)) ((w.alloc (.cells #[.int .i64 k, .int .i64 n0, .string tx, .slice la ln lc, .slice fa fn fc] 25)).alloc (.cells #[.int .i64 0, .int .i64 0, .string ⟨#[]⟩, .slice none 0 0, .slice none 0 0] 25)).drew := (Below.refl _ _).drew
    have hS := HSS.out _ Y0
    go_region_held3 (fun u => u.cell? ⟨w.heap.size, 0, none⟩ = some (.int .i64 k) ∧ u.cell? ⟨w.heap.size, 1, none⟩ = some (.int .i64 n0) ∧ u.cell? ⟨w.heap.size, 2, none⟩ = some (.string tx) ∧ u.cell? ⟨w.heap.size, 3, none⟩ = some (.slice la ln lc) ∧ u.cell? ⟨w.heap.size, 4, none⟩ = some (.slice fa fn fc) ∧ u.cell? ⟨sb, so, none⟩ = some (.string s)) (with_reducible exact hS) (first | (go_at_call 40; refine (HF.out _ (HBX.out.trans (Y0.mono (by omega)))).mono ?_; rintro e w1 ⟨rfl, b1⟩; have Y1 := Y0.trans (b1.mono (by simp)); have hS := HSS.out _ Y1))
    have hb1 : Below w.heap.size w w1 := HBX.out.trans (Y1.mono (by omega))
    obtain ⟨hP1, hQ1⟩ := HBK.out _ Y1
    have HP1 : Hid (Blk5 w1 w.heap.size (.int .i64 k) (.int .i64 n0) (.string tx) (.slice la ln lc) (.slice fa fn fc)) := hP1
    have HQ1 : Hid (Blk5 w1 (w.heap.size + 1) (.int .i64 0) (.int .i64 0) (.string ⟨#[]⟩) (.slice none 0 0) (.slice none 0 0)) := hQ1
    have hs1 : w.heap.size + 2 ≤ w1.heap.size := by have := Y1.size; simpa using this
    clear hS b1 Y0 Y1 hP1 hQ1
    obtain ⟨z0, z1, z2, z3, z4⟩ := Blk5.cells HQ1.out
    obtain ⟨q0, q1, q2, q3, q4⟩ := Blk5.free HQ1.out
    have HB1 : Hid (Below w.heap.size w w1) := hb1
    clear hb1
    go_wp2_with fail
    refine bodyPost_ret (v := .tuple #[vZ, .int .i64 er]) ?_ rfl ⟨Or.inl ⟨er, HE.out, HEE.out, rfl⟩, ?_⟩
    · have hres : Try.f24.results = #[.cell 6 25, .tmp 7] := by kernel_rfl
      simp only [results, hres]
      go_simp
      rfl
    · exact ((((HB1.out.setCell (Nat.le_succ _) _).setCell (Nat.le_succ _) _).setCell (Nat.le_succ _) _).setCell (Nat.le_succ _) _).setCell (Nat.le_succ _) _
  | miss p =>
    have hm6 := hloc
    rw [HG.out] at hm6
    obtain ⟨rfl, hpf⟩ := miss_six hm6
    rw [hloc] at HF hR'
    simp only at hR'
    unfold Loc.end at HF
    clear hm6
    go_enter Try.func24, Try.ntmps24
    go_wp2_with fail
    have Y0 : Below (w.heap.size + 2) ((w.alloc (.cells #[.int .i64 6, .int .i64 n0, .string tx, .slice la ln lc, .slice fa fn fc] 25)).alloc (.cells #[.int .i64 0, .int .i64 0, .string ⟨#[]⟩, .slice none 0 0, .slice none 0 0] 25)) ((w.alloc (.cells #[.int .i64 6, .int .i64 n0, .string tx, .slice la ln lc, .slice fa fn fc] 25)).alloc (.cells #[.int .i64 0, .int .i64 0, .string ⟨#[]⟩, .slice none 0 0, .slice none 0 0] 25)).drew := (Below.refl _ _).drew
    have hS := HSS.out _ Y0
    go_region_held3 (fun u => u.cell? ⟨w.heap.size, 0, none⟩ = some (.int .i64 6) ∧ u.cell? ⟨w.heap.size, 1, none⟩ = some (.int .i64 n0) ∧ u.cell? ⟨w.heap.size, 2, none⟩ = some (.string tx) ∧ u.cell? ⟨w.heap.size, 3, none⟩ = some (.slice la ln lc) ∧ u.cell? ⟨w.heap.size, 4, none⟩ = some (.slice fa fn fc) ∧ u.cell? ⟨sb, so, none⟩ = some (.string s)) (with_reducible exact hS) (first | (go_at_call 40; refine (HF.out _ (HBX.out.trans (Y0.mono (by omega)))).mono ?_; rintro e w1 ⟨rfl, b1⟩; have Y1 := Y0.trans (b1.mono (by simp)); have hS := HSS.out _ Y1))
    have hb1 : Below w.heap.size w w1 := HBX.out.trans (Y1.mono (by omega))
    obtain ⟨hP1, hQ1⟩ := HBK.out _ Y1
    have HP1 : Hid (Blk5 w1 w.heap.size (.int .i64 6) (.int .i64 n0) (.string tx) (.slice la ln lc) (.slice fa fn fc)) := hP1
    have HQ1 : Hid (Blk5 w1 (w.heap.size + 1) (.int .i64 0) (.int .i64 0) (.string ⟨#[]⟩) (.slice none 0 0) (.slice none 0 0)) := hQ1
    have hs1 : w.heap.size + 2 ≤ w1.heap.size := by have := Y1.size; simpa using this
    clear hS b1 Y0 Y1 hP1 hQ1
    have hbu : Below w1.heap.size w1 (w1.alloc (.cells #[.int .i64 6, .int .i64 0, .string ⟨#[]⟩, .slice none 0 0, .slice none 0 0] 25)) := (Below.refl _ _).alloc (Nat.le_refl _) _
    have HI : Hid (Blk5 (w1.alloc (.cells #[.int .i64 6, .int .i64 0, .string ⟨#[]⟩, .slice none 0 0, .slice none 0 0] 25)) w1.heap.size (.int .i64 6) (.int .i64 0) (.string ⟨#[]⟩) (.slice none 0 0) (.slice none 0 0)) := Blk5.new w1 _ _ _ _ _
    have HPT : Hid (Blk5 (w1.alloc (.cells #[.int .i64 6, .int .i64 0, .string ⟨#[]⟩, .slice none 0 0, .slice none 0 0] 25)) w.heap.size (.int .i64 6) (.int .i64 n0) (.string tx) (.slice la ln lc) (.slice fa fn fc)) := Blk5.below HP1.out hbu
    have HQT : Hid (Blk5 (w1.alloc (.cells #[.int .i64 6, .int .i64 0, .string ⟨#[]⟩, .slice none 0 0, .slice none 0 0] 25)) (w.heap.size + 1) (.int .i64 0) (.int .i64 0) (.string ⟨#[]⟩) (.slice none 0 0) (.slice none 0 0)) := Blk5.below HQ1.out hbu
    have hbT : Below w.heap.size w (w1.alloc (.cells #[.int .i64 6, .int .i64 0, .string ⟨#[]⟩, .slice none 0 0, .slice none 0 0] 25)) := hb1.trans (hbu.mono hb1.size)
    have hpq : p + 0 ≤ fn := by omega
    clear hbu HP1 HQ1 hR hloc
    by_cases hr0 : r = []
    · have hN1' : ¬ (1 : Int) < (N : Int) := by have := HN.out; rw [hr0] at this; simp at this; omega
      rw [if_pos hr0] at hR'
      have HR : Hid (R = .ok (g.spl p 0 s c x)) := hR'
      clear hR' HI
      obtain ⟨C1, hC1e⟩ : ∃ C1, C1 = w.heap.size + 2 := ⟨_, rfl⟩
      have hC1 : w.heap.size + 2 ≤ C1 := by omega
      have hC1u : C1 ≤ (w1.alloc (.cells #[.int .i64 6, .int .i64 0, .string ⟨#[]⟩, .slice none 0 0, .slice none 0 0] 25)).heap.size := by simp; omega
      clear hC1e
      have HVFT : Hid (Flds (veil B C1 (w1.alloc (.cells #[.int .i64 6, .int .i64 0, .string ⟨#[]⟩, .slice none 0 0, .slice none 0 0] 25))) fa fn nm f) := hidI (Flds.mono HVF.out (veil_more (Nat.le_refl _) hbT))
      have HVLT : Hid (Vals (veil B C1 (w1.alloc (.cells #[.int .i64 6, .int .i64 0, .string ⟨#[]⟩, .slice none 0 0, .slice none 0 0] 25))) la ln l0) := hidI (Vals.mono HVL.out (veil_more (Nat.le_refl _) hbT))
      have HMT : Hid (Vals (veil B C1 (w1.alloc (.cells #[.int .i64 6, .int .i64 0, .string ⟨#[]⟩, .slice none 0 0, .slice none 0 0] 25))) ma c x) := hidI (Vals.mono HM.out (veil_more (Nat.le_refl _) hbT))
      obtain ⟨c0, c1', c2, c3, c4⟩ := Blk5.cells HPT.out
      go_wp2_with fail
      obtain ⟨d, hdl, hd⟩ := vals_fls s hssz c HMT.out
      obtain ⟨d0, hd0l, hd0r, hd0o, hd0i⟩ := flds_row fn HVFT.out
      have HNM : Hid (∀ W, Below (w1.alloc (.cells #[.int .i64 6, .int .i64 0, .string ⟨#[]⟩, .slice none 0 0, .slice none 0 0] 25)).heap.size (w1.alloc (.cells #[.int .i64 6, .int .i64 0, .string ⟨#[]⟩, .slice none 0 0, .slice none 0 0] 25)) W → Calls Try.prog 43 #[.string s, .slice ma c mc] W fun e w' => ∃ v', e = .returned v' ∧ w'.ownsRow W.heap.size 45 6 v' c (fldCells d) ∧ Below W.heap.size W w') := hidI (fun W hW => by
        have h := named_any s d ma mc W (fun i hi => by
          obtain ⟨h1, _, h3, b, o, h4, h5⟩ := hd i hi
          exact ⟨h1, b, o, h4, h5.mono h3.1 (fun b o u h => below_keeps hW b o u (veil_off b o u h))⟩) (by omega) hmc (by omega)
        rw [hdl] at h
        exact h)
      obtain ⟨nF, hnF⟩ : ∃ nF, nF = fn - 0 + c := ⟨_, rfl⟩
      have HCH : Hid (∀ W na nc, Below (w1.alloc (.cells #[.int .i64 6, .int .i64 0, .string ⟨#[]⟩, .slice none 0 0, .slice none 0 0] 25)).heap.size (w1.alloc (.cells #[.int .i64 6, .int .i64 0, .string ⟨#[]⟩, .slice none 0 0, .slice none 0 0] 25)) W → FRow W na d → c ≤ nc → nc ≤ maxLen → Calls Try.prog 42 #[.slice fa fn fc, .int .i64 (p : Nat), .int .i64 (0 : Nat), .slice na c nc] W fun e w' => ∃ xs, xs = (fldCells d0).take (p * 6) ++ (fldCells d ++ (fldCells d0).drop ((p + 0) * 6)) ∧ e = .returned (.slice (some ⟨W.heap.size, 0, none⟩) nF nF) ∧ w'.ownsRow W.heap.size 45 6 (.slice (some ⟨W.heap.size, 0, none⟩) nF nF) nF xs ∧ Below W.heap.size W w') := hidI (fun W na nc hW hr h1 h2 => by
        rw [hnF]
        exact changedF (fldCells d0) (fldCells d) fa na fn fc c nc p 0 W (by rw [fldCells_len, hd0l]) (by rw [fldCells_len, hdl])
          (by
            rcases hd0r with h | ⟨b, o, e, hc⟩
            · exact Or.inl (by rw [h]; rfl)
            · exact Or.inr ⟨b, o, e, fun k u hk => below_keeps hW _ _ _ (veil_off _ _ _ (hc k u hk))⟩)
          (by
            rcases hr with h | ⟨b, o, e, hc⟩
            · exact Or.inl (by rw [h]; rfl)
            · exact Or.inr ⟨b, o, e, hc⟩)
          (fldCells_one d0) (fldCells_one d) h6 h7 h1 h2 hpq (by omega) (by omega))
      have HNF : Hid (nF = fn - 0 + c) := hnF
      have HD : Hid (d.length = c ∧ ∀ i (hi : i < d.length), (d[i]'hi).nm = s ∧ (d[i]'hi).g = x i ∧ (d[i]'hi).ok (veil B C1 (w1.alloc (.cells #[.int .i64 6, .int .i64 0, .string ⟨#[]⟩, .slice none 0 0, .slice none 0 0] 25)))) := hidI ⟨hdl, fun i hi => by obtain ⟨h1, h2, h3, _⟩ := hd i hi; exact ⟨h1, h2, h3⟩⟩
      have HD0 : Hid (d0.length = fn ∧ ∀ i (hi : i < d0.length), (d0[i]'hi).nm = nm i ∧ (d0[i]'hi).g = f i ∧ (d0[i]'hi).ok (veil B C1 (w1.alloc (.cells #[.int .i64 6, .int .i64 0, .string ⟨#[]⟩, .slice none 0 0, .slice none 0 0] 25)))) := hidI ⟨hd0l, fun i hi => by
        have := hd0i i (by omega)
        rw [nmOf_at hi, gOf_at hi] at this
        exact ⟨this.1, this.2, hd0o _ (List.getElem_mem hi)⟩⟩
      have hUd : Below (w1.alloc (.cells #[.int .i64 6, .int .i64 0, .string ⟨#[]⟩, .slice none 0 0, .slice none 0 0] 25)).heap.size (w1.alloc (.cells #[.int .i64 6, .int .i64 0, .string ⟨#[]⟩, .slice none 0 0, .slice none 0 0] 25)) (w1.alloc (.cells #[.int .i64 6, .int .i64 0, .string ⟨#[]⟩, .slice none 0 0, .slice none 0 0] 25)).drew := (Below.refl _ _).drew
      have HUD : Hid _ := hUd
      have HBT : Hid (Below w.heap.size w (w1.alloc (.cells #[.int .i64 6, .int .i64 0, .string ⟨#[]⟩, .slice none 0 0, .slice none 0 0] 25))) := hbT
      have hSu : Below w.heap.size w (w1.alloc (.cells #[.int .i64 6, .int .i64 0, .string ⟨#[]⟩, .slice none 0 0, .slice none 0 0] 25)).drew := hbT.drew
      have c4d : (w1.alloc (.cells #[.int .i64 6, .int .i64 0, .string ⟨#[]⟩, .slice none 0 0, .slice none 0 0] 25)).drew.cell? ⟨w.heap.size, 4, none⟩ = some (.slice fa fn fc) := (drew_cell _ _).trans c4
      clear hdl hd hd0l hd0r hd0o hd0i hUd hbT c0 c1' c2 c3 c4 hnF
      refine wp_region_held_drew (S := fun u => Below w.heap.size w u) (by kernel_rfl) hSu (fun hHeld => ?_)
      clear hSu
      refine wpAnyH_take (i := 0) (oi := ⟨some 51, .fieldAddr 25 (.tmp 3) 4, 0, "change.go:42", #[], none⟩) (v := .pointer (some ⟨w.heap.size, 4, none⟩)) rfl (by kernel_rfl) (by kernel_rfl) (by kernel_rfl) (fun _ _ _ h => h) (Or.inl ⟨by rfl, ?_⟩) hHeld ?_
      · intro wq hSq
        have s0 := hSq
        clear hSq hHeld
        go_simp
      (try simp only [Act.put, List.setIfInBounds_toArray, List.set_cons_zero, List.set_cons_succ])
      refine wpAnyH_take (i := 2) (oi := ⟨some 53, .move (.tmp 8), 3, "change.go:42", #[], none⟩) (v := .int .i64 (p : Nat)) rfl (by kernel_rfl) (by kernel_rfl) (by kernel_rfl) (fun _ _ _ h => h) (Or.inl ⟨by rfl, ?_⟩) hHeld ?_
      · intro wq hSq
        have s0 := hSq
        clear hSq hHeld
        go_simp
      (try simp only [Act.put, List.setIfInBounds_toArray, List.set_cons_zero, List.set_cons_succ])
      refine wpAnyH_take (i := 3) (oi := ⟨some 54, .move (.tmp 11), 3, "change.go:42", #[], none⟩) (v := .int .i64 (0 : Nat)) rfl (by kernel_rfl) (by kernel_rfl) (by kernel_rfl) (fun _ _ _ h => h) (Or.inl ⟨by rfl, ?_⟩) hHeld ?_
      · intro wq hSq
        have s0 := hSq
        clear hSq hHeld
        go_simp
      (try simp only [Act.put, List.setIfInBounds_toArray, List.set_cons_zero, List.set_cons_succ])
      refine wpAnyH_take (i := 4) (oi := ⟨some 55, .move (.tmp 1), 40, "change.go:42", #[], none⟩) (v := .slice (some ⟨sb, so, none⟩) N sc) rfl (by kernel_rfl) (by kernel_rfl) (by kernel_rfl) (fun _ _ _ h => h) (Or.inl ⟨by rfl, ?_⟩) hHeld ?_
      · intro wq hSq
        have s0 := hSq
        clear hSq hHeld
        go_simp
      (try simp only [Act.put, List.setIfInBounds_toArray, List.set_cons_zero, List.set_cons_succ])
      refine wpAnyH_take (i := 5) (oi := ⟨some 56, .indexAddr 40 (.tmp 55) (.const (.int .i64 0)), 0, "change.go:42", #[⟨4, .data⟩], none⟩) (v := .pointer (some ⟨sb, so, none⟩)) rfl (by kernel_rfl) (by kernel_rfl) (by kernel_rfl) (fun _ _ _ h => h) (Or.inl ⟨by rfl, ?_⟩) hHeld ?_
      · intro wq hSq
        have s0 := hSq
        clear hSq hHeld
        go_simp
      (try simp only [Act.put, List.setIfInBounds_toArray, List.set_cons_zero, List.set_cons_succ])
      refine wpAnyH_take (i := 6) (oi := ⟨some 57, .load 9 (.tmp 56), 9, "change.go:42", #[⟨5, .data⟩], none⟩) (v := .string s) rfl (by kernel_rfl) (by kernel_rfl) (by kernel_rfl) (fun _ _ _ h => h) (Or.inl ⟨by rfl, ?_⟩) hHeld ?_
      · intro wq hSq
        have s0 := hSq
        clear hSq hHeld
        have es := below_keeps s0 _ _ _ HSTR.out
        go_simp
      (try simp only [Act.put, List.setIfInBounds_toArray, List.set_cons_zero, List.set_cons_succ])
      refine wpAnyH_take (i := 7) (oi := ⟨some 58, .move (.tmp 2), 22, "change.go:42", #[], none⟩) (v := .slice ma c mc) rfl (by kernel_rfl) (by kernel_rfl) (by kernel_rfl) (fun _ _ _ h => h) (Or.inl ⟨by rfl, ?_⟩) hHeld ?_
      · intro wq hSq
        have s0 := hSq
        clear hSq hHeld
        go_simp
      (try simp only [Act.put, List.setIfInBounds_toArray, List.set_cons_zero, List.set_cons_succ])
      refine wpAnyH_ready (rs := [1, 8]) (by kernel_rfl) (by simp) ?_
      refine AllReadyH.cons (o := ⟨some 52, .load 23 (.tmp 51), 23, "change.go:42", #[⟨0, .data⟩], none⟩) rfl (fun Kr1 hKr1 => ?_) (AllReadyH.cons (o := ⟨some 59, .call ⟨.value (.func 43), #[.tmp 57, .tmp 58], #[9, 22]⟩, 23, "change.go:42", #[⟨6, .data⟩, ⟨7, .data⟩], none⟩) rfl (fun Kr8 hKr8 => ?_) AllReadyH.nil)
      · skip
        clear hHeld
        go_simp
        refine hKr1.out _ _ ?_ (fun hHeld => ?_)
        · exact HBT.out.drew
        clear hKr1 Kr1 c4d
        (try simp only [Act.put, List.setIfInBounds_toArray, List.set_cons_zero, List.set_cons_succ])
        refine wpAnyH_ready (rs := [8]) (by kernel_rfl) (by simp) ?_
        refine AllReadyH.cons (o := ⟨some 59, .call ⟨.value (.func 43), #[.tmp 57, .tmp 58], #[9, 22]⟩, 23, "change.go:42", #[⟨6, .data⟩, ⟨7, .data⟩], none⟩) rfl (fun Kr8 hKr8 => ?_) AllReadyH.nil
        clear hHeld
        go_simp
        go_at_call 43
        refine (HNM.out _ HUD.out).mono ?_
        rintro e wN ⟨vN, rfl, oN, bN⟩
        obtain ⟨na, nc, rfl, hnc, hncm, hFN⟩ := own_frow oN HD.out.1
        have HUN : Hid (Below (w1.alloc (.cells #[.int .i64 6, .int .i64 0, .string ⟨#[]⟩, .slice none 0 0, .slice none 0 0] 25)).heap.size (w1.alloc (.cells #[.int .i64 6, .int .i64 0, .string ⟨#[]⟩, .slice none 0 0, .slice none 0 0] 25)) wN) := hidI (HUD.out.trans (bN.mono HUD.out.size))
        have HSN : Hid (Below w.heap.size w wN) := hidI (HBT.out.trans (HUN.out.mono HBT.out.size))
        have HFN : Hid (FRow wN na d) := hFN
        have HNC : Hid (c ≤ nc ∧ nc ≤ maxLen) := hidI ⟨hnc, hncm⟩
        have c4n : wN.cell? ⟨w.heap.size, 4, none⟩ = some (.slice fa fn fc) := (Blk5.cells (Blk5.below HPT.out HUN.out)).2.2.2.2
        clear oN bN hFN hnc hncm
        go_wp2_with fail
        refine hKr8.out _ _ ?_ (fun hHeld => ?_)
        · exact HSN.out
        clear hKr8 Kr8 c4n
        (try simp only [Act.put, List.setIfInBounds_toArray, List.set_cons_zero, List.set_cons_succ])
        refine wpAnyH_ready (rs := [9]) (by kernel_rfl) (by simp) ?_
        refine AllReadyH.cons (o := ⟨some 60, .call ⟨.value (.func 42), #[.tmp 52, .tmp 53, .tmp 54, .tmp 59], #[23, 3, 3, 23]⟩, 23, "change.go:42", #[⟨1, .data⟩, ⟨2, .data⟩, ⟨3, .data⟩, ⟨8, .data⟩, ⟨8, .chain⟩], none⟩) rfl (fun Kr9 hKr9 => ?_) AllReadyH.nil
        clear hHeld
        go_simp
        go_at_call 42
        refine (HCH.out wN na nc HUN.out HFN.out HNC.out.1 HNC.out.2).mono ?_
        rintro e wC ⟨xs, hxs, rfl, oC, bC⟩
        have HUC : Hid (Below (w1.alloc (.cells #[.int .i64 6, .int .i64 0, .string ⟨#[]⟩, .slice none 0 0, .slice none 0 0] 25)).heap.size (w1.alloc (.cells #[.int .i64 6, .int .i64 0, .string ⟨#[]⟩, .slice none 0 0, .slice none 0 0] 25)) wC) := hidI (HUN.out.trans (bC.mono HUN.out.size))
        have HSC : Hid (Below w.heap.size w wC) := hidI (HBT.out.trans (HUC.out.mono HBT.out.size))
        have HOC : Hid (wC.ownsRow wN.heap.size 45 6 _ _ ((fldCells d0).take (p * 6) ++ (fldCells d ++ (fldCells d0).drop ((p + 0) * 6)))) := hidI (hxs ▸ oC)
        obtain ⟨gN, hgN⟩ : ∃ gN, gN = wN.heap.size := ⟨_, rfl⟩
        have HGN : Hid (C1 ≤ gN ∧ gN = wN.heap.size) := hidI ⟨by have := HUN.out.size; omega, hgN⟩
        rw [← hgN] at HOC ⊢
        clear oC bC hxs hgN
        go_wp2_with fail
        refine hKr9.out _ _ ?_ (fun hHeld => ?_)
        · exact HSC.out
        clear hKr9 Kr9
        (try simp only [Act.put, List.setIfInBounds_toArray, List.set_cons_zero, List.set_cons_succ])
        refine wpAnyH_take (i := 10) (oi := ⟨some 61, .fieldAddr 25 (.tmp 3) 4, 0, "change.go:42", #[⟨0, .phase⟩, ⟨1, .phase⟩, ⟨2, .phase⟩, ⟨3, .phase⟩, ⟨4, .phase⟩, ⟨5, .phase⟩, ⟨6, .phase⟩, ⟨7, .phase⟩, ⟨8, .phase⟩, ⟨9, .phase⟩], none⟩) (v := .pointer (some ⟨w.heap.size, 4, none⟩)) rfl (by kernel_rfl) (by kernel_rfl) (by kernel_rfl) (fun _ _ _ h => h) (Or.inl ⟨by rfl, ?_⟩) hHeld ?_
        · intro wq hSq
          have s0 := hSq
          clear hSq hHeld
          go_simp
        (try simp only [Act.put, List.setIfInBounds_toArray, List.set_cons_zero, List.set_cons_succ])
        refine wpAnyH_ready (rs := [11]) (by kernel_rfl) (by simp) ?_
        refine AllReadyH.cons (o := ⟨none, .store 23 (.tmp 61) (.tmp 60), 0, "change.go:42", #[⟨10, .data⟩, ⟨9, .data⟩, ⟨9, .chain⟩, ⟨0, .phase⟩, ⟨1, .phase⟩, ⟨2, .phase⟩, ⟨3, .phase⟩, ⟨4, .phase⟩, ⟨5, .phase⟩, ⟨6, .phase⟩, ⟨7, .phase⟩, ⟨8, .phase⟩, ⟨9, .phase⟩], none⟩) rfl (fun Kr11 hKr11 => ?_) AllReadyH.nil
        obtain ⟨y0, y1, y2, y3, y4⟩ := Blk5.cells (Blk5.below HPT.out HUC.out)
        obtain ⟨r0, r1, r2, r3, r4⟩ := Blk5.free (Blk5.below HPT.out HUC.out)
        clear hHeld
        go_simp
        refine hKr11.out _ _ ?_ (fun hHeld => ?_)
        · exact HSC.out.setCell (Nat.le_refl _) _
        clear hKr11 Kr11 y0 y1 y2 y3 y4 r0 r1 r2 r3 r4
        (try simp only [Act.put, List.setIfInBounds_toArray, List.set_cons_zero, List.set_cons_succ])
        refine wpAnyH_done (by kernel_rfl) ?_ _
        clear hHeld
        have hP5 := (Blk5.below HPT.out HUC.out).set4 (u := .slice (some ⟨gN, 0, none⟩) nF nF)
        have hQ5 := (Blk5.below HQT.out HUC.out).other (g := w.heap.size) (i := 4) (u := .slice (some ⟨gN, 0, none⟩) nF nF) (by omega)
        obtain ⟨y0, y1, y2, y3, y4⟩ := Blk5.cells hP5
        obtain ⟨z0, z1, z2, z3, z4⟩ := Blk5.cells hQ5
        obtain ⟨q0, q1, q2, q3, q4⟩ := Blk5.free hQ5
        clear hP5 hQ5
        go_wp2_with fail
        refine bodyPost_ret (v := .tuple #[.agg #[.int .i64 6, .int .i64 n0, .string tx, .slice la ln lc, .slice (some ⟨gN, 0, none⟩) nF nF], .int .i64 0]) ?_ rfl ⟨Or.inr ⟨_, _, HR.out, rfl, ?_⟩, ?_⟩
        · have hres : Try.f24.results = #[.cell 6 25, .tmp 7] := by kernel_rfl
          simp only [results, hres]
          go_simp
        · obtain ⟨hd1, hd2⟩ := HD.out
          obtain ⟨he1, he2⟩ := HD0.out
          have kU : ∀ b o u, (veil B C1 (w1.alloc (.cells #[.int .i64 6, .int .i64 0, .string ⟨#[]⟩, .slice none 0 0, .slice none 0 0] 25))).cell? ⟨b, o, none⟩ = some u → (veil B C1 wC).cell? ⟨b, o, none⟩ = some u := veil_below HUC.out
          obtain ⟨a9, c9, e9, h91, h92, hF9⟩ := flds_spl (w := veil B C1 wC) (d0 := d0) (d := d) (nm := nm) (mn := fun _ => s) (f := f) (x := x) (at' := p) (gone := 0) (veil_own HOC.out (by have := HGN.out; omega)) (by rw [he1, hd1]; exact HNF.out) (by omega) (fun i hi => by obtain ⟨h1, h2, h3⟩ := he2 i hi; exact ⟨h1, h2, ok_mono h3 kU⟩) (fun i hi => by obtain ⟨h1, h2, h3⟩ := hd2 i hi; exact ⟨h1, h2, ok_mono h3 kU⟩)
          cases e9
          rw [hd1, HNF.out] at hF9
          have h91 := h91
          rw [HG.out]
          simp only [GV.spl, if_true]
          rw [← HNF.out] at hF9 ⊢
          obtain ⟨hi1, hi2, hi3⟩ := HIN.out
          have kF : ∀ W', (∀ b, b ≠ w.heap.size → b ≠ w.heap.size + 1 → W'.heap[b]? = wC.heap[b]?) → ∀ b o u, (veil B C1 wC).cell? ⟨b, o, none⟩ = some u → (veil B w.heap.size W').cell? ⟨b, o, none⟩ = some u := fun W' hh => veil_two (C := w.heap.size) (by omega) ⟨hB, by omega⟩ ⟨by omega, by omega⟩ hh
          refine ⟨la, lc, _, _, rfl, hi1, hi2, hi3, h4, h5, h91, h92, Vals.mono (Vals.mono HVLT.out kU) (kF _ (fun b n3 n6 => ?_)), Flds.mono hF9 (kF _ (fun b n3 n6 => ?_))⟩
          all_goals rw [Below.heap_setCell _ ⟨_, _, none⟩ _ b n6, Below.heap_setCell _ ⟨_, _, none⟩ _ b n6, Below.heap_setCell _ ⟨_, _, none⟩ _ b n6, Below.heap_setCell _ ⟨_, _, none⟩ _ b n6, Below.heap_setCell _ ⟨_, _, none⟩ _ b n6]
          all_goals exact Below.heap_setCell wC ⟨w.heap.size, 4, none⟩ _ b n3
        · exact (((((HSC.out.setCell (Nat.le_refl _) _).setCell (Nat.le_succ _) _).setCell (Nat.le_succ _) _).setCell (Nat.le_succ _) _).setCell (Nat.le_succ _) _).setCell (Nat.le_succ _) _
      · skip
        clear hHeld
        go_simp
        go_at_call 43
        refine (HNM.out _ HUD.out).mono ?_
        rintro e wN ⟨vN, rfl, oN, bN⟩
        obtain ⟨na, nc, rfl, hnc, hncm, hFN⟩ := own_frow oN HD.out.1
        have HUN : Hid (Below (w1.alloc (.cells #[.int .i64 6, .int .i64 0, .string ⟨#[]⟩, .slice none 0 0, .slice none 0 0] 25)).heap.size (w1.alloc (.cells #[.int .i64 6, .int .i64 0, .string ⟨#[]⟩, .slice none 0 0, .slice none 0 0] 25)) wN) := hidI (HUD.out.trans (bN.mono HUD.out.size))
        have HSN : Hid (Below w.heap.size w wN) := hidI (HBT.out.trans (HUN.out.mono HBT.out.size))
        have HFN : Hid (FRow wN na d) := hFN
        have HNC : Hid (c ≤ nc ∧ nc ≤ maxLen) := hidI ⟨hnc, hncm⟩
        have c4n : wN.cell? ⟨w.heap.size, 4, none⟩ = some (.slice fa fn fc) := (Blk5.cells (Blk5.below HPT.out HUN.out)).2.2.2.2
        clear oN bN hFN hnc hncm c4d
        go_wp2_with fail
        refine hKr8.out _ _ ?_ (fun hHeld => ?_)
        · exact HSN.out
        clear hKr8 Kr8
        (try simp only [Act.put, List.setIfInBounds_toArray, List.set_cons_zero, List.set_cons_succ])
        refine wpAnyH_ready (rs := [1]) (by kernel_rfl) (by simp) ?_
        refine AllReadyH.cons (o := ⟨some 52, .load 23 (.tmp 51), 23, "change.go:42", #[⟨0, .data⟩], none⟩) rfl (fun Kr1 hKr1 => ?_) AllReadyH.nil
        clear hHeld
        go_simp
        refine hKr1.out _ _ ?_ (fun hHeld => ?_)
        · exact HSN.out
        clear hKr1 Kr1 c4n
        (try simp only [Act.put, List.setIfInBounds_toArray, List.set_cons_zero, List.set_cons_succ])
        refine wpAnyH_ready (rs := [9]) (by kernel_rfl) (by simp) ?_
        refine AllReadyH.cons (o := ⟨some 60, .call ⟨.value (.func 42), #[.tmp 52, .tmp 53, .tmp 54, .tmp 59], #[23, 3, 3, 23]⟩, 23, "change.go:42", #[⟨1, .data⟩, ⟨2, .data⟩, ⟨3, .data⟩, ⟨8, .data⟩, ⟨8, .chain⟩], none⟩) rfl (fun Kr9 hKr9 => ?_) AllReadyH.nil
        clear hHeld
        go_simp
        go_at_call 42
        refine (HCH.out wN na nc HUN.out HFN.out HNC.out.1 HNC.out.2).mono ?_
        rintro e wC ⟨xs, hxs, rfl, oC, bC⟩
        have HUC : Hid (Below (w1.alloc (.cells #[.int .i64 6, .int .i64 0, .string ⟨#[]⟩, .slice none 0 0, .slice none 0 0] 25)).heap.size (w1.alloc (.cells #[.int .i64 6, .int .i64 0, .string ⟨#[]⟩, .slice none 0 0, .slice none 0 0] 25)) wC) := hidI (HUN.out.trans (bC.mono HUN.out.size))
        have HSC : Hid (Below w.heap.size w wC) := hidI (HBT.out.trans (HUC.out.mono HBT.out.size))
        have HOC : Hid (wC.ownsRow wN.heap.size 45 6 _ _ ((fldCells d0).take (p * 6) ++ (fldCells d ++ (fldCells d0).drop ((p + 0) * 6)))) := hidI (hxs ▸ oC)
        obtain ⟨gN, hgN⟩ : ∃ gN, gN = wN.heap.size := ⟨_, rfl⟩
        have HGN : Hid (C1 ≤ gN ∧ gN = wN.heap.size) := hidI ⟨by have := HUN.out.size; omega, hgN⟩
        rw [← hgN] at HOC ⊢
        clear oC bC hxs hgN
        go_wp2_with fail
        refine hKr9.out _ _ ?_ (fun hHeld => ?_)
        · exact HSC.out
        clear hKr9 Kr9
        (try simp only [Act.put, List.setIfInBounds_toArray, List.set_cons_zero, List.set_cons_succ])
        refine wpAnyH_take (i := 10) (oi := ⟨some 61, .fieldAddr 25 (.tmp 3) 4, 0, "change.go:42", #[⟨0, .phase⟩, ⟨1, .phase⟩, ⟨2, .phase⟩, ⟨3, .phase⟩, ⟨4, .phase⟩, ⟨5, .phase⟩, ⟨6, .phase⟩, ⟨7, .phase⟩, ⟨8, .phase⟩, ⟨9, .phase⟩], none⟩) (v := .pointer (some ⟨w.heap.size, 4, none⟩)) rfl (by kernel_rfl) (by kernel_rfl) (by kernel_rfl) (fun _ _ _ h => h) (Or.inl ⟨by rfl, ?_⟩) hHeld ?_
        · intro wq hSq
          have s0 := hSq
          clear hSq hHeld
          go_simp
        (try simp only [Act.put, List.setIfInBounds_toArray, List.set_cons_zero, List.set_cons_succ])
        refine wpAnyH_ready (rs := [11]) (by kernel_rfl) (by simp) ?_
        refine AllReadyH.cons (o := ⟨none, .store 23 (.tmp 61) (.tmp 60), 0, "change.go:42", #[⟨10, .data⟩, ⟨9, .data⟩, ⟨9, .chain⟩, ⟨0, .phase⟩, ⟨1, .phase⟩, ⟨2, .phase⟩, ⟨3, .phase⟩, ⟨4, .phase⟩, ⟨5, .phase⟩, ⟨6, .phase⟩, ⟨7, .phase⟩, ⟨8, .phase⟩, ⟨9, .phase⟩], none⟩) rfl (fun Kr11 hKr11 => ?_) AllReadyH.nil
        obtain ⟨y0, y1, y2, y3, y4⟩ := Blk5.cells (Blk5.below HPT.out HUC.out)
        obtain ⟨r0, r1, r2, r3, r4⟩ := Blk5.free (Blk5.below HPT.out HUC.out)
        clear hHeld
        go_simp
        refine hKr11.out _ _ ?_ (fun hHeld => ?_)
        · exact HSC.out.setCell (Nat.le_refl _) _
        clear hKr11 Kr11 y0 y1 y2 y3 y4 r0 r1 r2 r3 r4
        (try simp only [Act.put, List.setIfInBounds_toArray, List.set_cons_zero, List.set_cons_succ])
        refine wpAnyH_done (by kernel_rfl) ?_ _
        clear hHeld
        have hP5 := (Blk5.below HPT.out HUC.out).set4 (u := .slice (some ⟨gN, 0, none⟩) nF nF)
        have hQ5 := (Blk5.below HQT.out HUC.out).other (g := w.heap.size) (i := 4) (u := .slice (some ⟨gN, 0, none⟩) nF nF) (by omega)
        obtain ⟨y0, y1, y2, y3, y4⟩ := Blk5.cells hP5
        obtain ⟨z0, z1, z2, z3, z4⟩ := Blk5.cells hQ5
        obtain ⟨q0, q1, q2, q3, q4⟩ := Blk5.free hQ5
        clear hP5 hQ5
        go_wp2_with fail
        refine bodyPost_ret (v := .tuple #[.agg #[.int .i64 6, .int .i64 n0, .string tx, .slice la ln lc, .slice (some ⟨gN, 0, none⟩) nF nF], .int .i64 0]) ?_ rfl ⟨Or.inr ⟨_, _, HR.out, rfl, ?_⟩, ?_⟩
        · have hres : Try.f24.results = #[.cell 6 25, .tmp 7] := by kernel_rfl
          simp only [results, hres]
          go_simp
        · obtain ⟨hd1, hd2⟩ := HD.out
          obtain ⟨he1, he2⟩ := HD0.out
          have kU : ∀ b o u, (veil B C1 (w1.alloc (.cells #[.int .i64 6, .int .i64 0, .string ⟨#[]⟩, .slice none 0 0, .slice none 0 0] 25))).cell? ⟨b, o, none⟩ = some u → (veil B C1 wC).cell? ⟨b, o, none⟩ = some u := veil_below HUC.out
          obtain ⟨a9, c9, e9, h91, h92, hF9⟩ := flds_spl (w := veil B C1 wC) (d0 := d0) (d := d) (nm := nm) (mn := fun _ => s) (f := f) (x := x) (at' := p) (gone := 0) (veil_own HOC.out (by have := HGN.out; omega)) (by rw [he1, hd1]; exact HNF.out) (by omega) (fun i hi => by obtain ⟨h1, h2, h3⟩ := he2 i hi; exact ⟨h1, h2, ok_mono h3 kU⟩) (fun i hi => by obtain ⟨h1, h2, h3⟩ := hd2 i hi; exact ⟨h1, h2, ok_mono h3 kU⟩)
          cases e9
          rw [hd1, HNF.out] at hF9
          have h91 := h91
          rw [HG.out]
          simp only [GV.spl, if_true]
          rw [← HNF.out] at hF9 ⊢
          obtain ⟨hi1, hi2, hi3⟩ := HIN.out
          have kF : ∀ W', (∀ b, b ≠ w.heap.size → b ≠ w.heap.size + 1 → W'.heap[b]? = wC.heap[b]?) → ∀ b o u, (veil B C1 wC).cell? ⟨b, o, none⟩ = some u → (veil B w.heap.size W').cell? ⟨b, o, none⟩ = some u := fun W' hh => veil_two (C := w.heap.size) (by omega) ⟨hB, by omega⟩ ⟨by omega, by omega⟩ hh
          refine ⟨la, lc, _, _, rfl, hi1, hi2, hi3, h4, h5, h91, h92, Vals.mono (Vals.mono HVLT.out kU) (kF _ (fun b n3 n6 => ?_)), Flds.mono hF9 (kF _ (fun b n3 n6 => ?_))⟩
          all_goals rw [Below.heap_setCell _ ⟨_, _, none⟩ _ b n6, Below.heap_setCell _ ⟨_, _, none⟩ _ b n6, Below.heap_setCell _ ⟨_, _, none⟩ _ b n6, Below.heap_setCell _ ⟨_, _, none⟩ _ b n6, Below.heap_setCell _ ⟨_, _, none⟩ _ b n6]
          all_goals exact Below.heap_setCell wC ⟨w.heap.size, 4, none⟩ _ b n3
        · exact (((((HSC.out.setCell (Nat.le_refl _) _).setCell (Nat.le_succ _) _).setCell (Nat.le_succ _) _).setCell (Nat.le_succ _) _).setCell (Nat.le_succ _) _).setCell (Nat.le_succ _) _
    · rw [if_neg hr0] at hR'
      have HIH : Hid (∀ W, Below (w1.alloc (.cells #[.int .i64 6, .int .i64 0, .string ⟨#[]⟩, .slice none 0 0, .slice none 0 0] 25)).heap.size (w1.alloc (.cells #[.int .i64 6, .int .i64 0, .string ⟨#[]⟩, .slice none 0 0, .slice none 0 0] 25)) W → Calls Try.prog 24 #[.agg #[.int .i64 6, .int .i64 0, .string ⟨#[]⟩, .slice none 0 0, .slice none 0 0], .slice (some ⟨sb, so + 1, none⟩) (N - 1 : Nat) (sc - 1 : Nat), .slice ma c mc] W fun e w' => PutEnd B W.heap.size w' (GV.put r gE c x) e ∧ Below W.heap.size W w') := hidI (fun W hW => by
        have hwW : Below w.heap.size w W := hbT.trans (hW.mono hbT.size)
        have hN' := HN.out
        have h := ih hr0 gE (.agg #[.int .i64 6, .int .i64 0, .string ⟨#[]⟩, .slice none 0 0, .slice none 0 0]) W B (some ⟨sb, so + 1, none⟩) (sc - 1) ma mc c x (by have := hwW.size; omega) (lies_E _) (fit_E) (HSTL.out.below hwW) (fun y hy => HST.out y (by simp [hy])) (by omega) (by omega) (Vals.mono HM.out (veil_more (Nat.le_refl _) hwW)) hc1 hcm hmc
        rw [show r.length = N - 1 by omega] at h
        exact h)
      have HBT : Hid (Below w.heap.size w (w1.alloc (.cells #[.int .i64 6, .int .i64 0, .string ⟨#[]⟩, .slice none 0 0, .slice none 0 0] 25))) := hbT
      have hlt1 : (1 : Int) < (N : Int) := by have := HN.out; have : r.length ≠ 0 := fun h => hr0 (List.eq_nil_of_length_eq_zero h); omega
      have hcut1 : ¬ sc = 1 := by omega
      obtain ⟨c0, c1', c2, c3, c4⟩ := Blk5.cells HI.out
      have d0 : (w1.alloc (.cells #[.int .i64 6, .int .i64 0, .string ⟨#[]⟩, .slice none 0 0, .slice none 0 0] 25)).drew.cell? ⟨w1.heap.size, 0, none⟩ = some (.int .i64 6) := (drew_cell _ _).trans c0
      have d1 : (w1.alloc (.cells #[.int .i64 6, .int .i64 0, .string ⟨#[]⟩, .slice none 0 0, .slice none 0 0] 25)).drew.cell? ⟨w1.heap.size, 1, none⟩ = some (.int .i64 0) := (drew_cell _ _).trans c1'
      have d2 : (w1.alloc (.cells #[.int .i64 6, .int .i64 0, .string ⟨#[]⟩, .slice none 0 0, .slice none 0 0] 25)).drew.cell? ⟨w1.heap.size, 2, none⟩ = some (.string ⟨#[]⟩) := (drew_cell _ _).trans c2
      have d3 : (w1.alloc (.cells #[.int .i64 6, .int .i64 0, .string ⟨#[]⟩, .slice none 0 0, .slice none 0 0] 25)).drew.cell? ⟨w1.heap.size, 3, none⟩ = some (.slice none 0 0) := (drew_cell _ _).trans c3
      have d4 : (w1.alloc (.cells #[.int .i64 6, .int .i64 0, .string ⟨#[]⟩, .slice none 0 0, .slice none 0 0] 25)).drew.cell? ⟨w1.heap.size, 4, none⟩ = some (.slice none 0 0) := (drew_cell _ _).trans c4
      clear c0 c1' c2 c3 c4
      cases hput : GV.put r gE c x with
      | error er =>
        rw [hput] at hR'
        have HE : Hid (R = .error er) := hR'
        clear hR'
        go_wp2_with fail
        refine wp_region_held_drew (S := fun _ => True) (by kernel_rfl) trivial (fun hHeld => ?_)
        refine wpAnyH_take (i := 1) (oi := ⟨some 36, .move (.tmp 1), 40, "change.go:35", #[], none⟩) (v := .slice (some ⟨sb, so, none⟩) N sc) rfl (by kernel_rfl) (by kernel_rfl) (by kernel_rfl) (fun _ _ _ h => h) (Or.inl ⟨by rfl, ?_⟩) hHeld ?_
        · intro wq hSq
          clear hSq hHeld
          go_simp
        (try simp only [Act.put, List.setIfInBounds_toArray, List.set_cons_zero, List.set_cons_succ])
        refine wpAnyH_take (i := 2) (oi := ⟨some 37, .slice 40 (.tmp 36) (some (.const (.int .i64 1))) none none, 40, "change.go:35", #[⟨1, .data⟩], none⟩) (v := .slice (some ⟨sb, so + 1, none⟩) (N - 1 : Nat) (sc - 1 : Nat)) rfl (by kernel_rfl) (by kernel_rfl) (by kernel_rfl) (fun _ _ _ h => h) (Or.inl ⟨by rfl, ?_⟩) hHeld ?_
        · intro wq hSq
          clear hSq hHeld
          go_simp
        (try simp only [Act.put, List.setIfInBounds_toArray, List.set_cons_zero, List.set_cons_succ])
        refine wpAnyH_take (i := 3) (oi := ⟨some 38, .move (.tmp 2), 22, "change.go:35", #[], none⟩) (v := .slice ma c mc) rfl (by kernel_rfl) (by kernel_rfl) (by kernel_rfl) (fun _ _ _ h => h) (Or.inl ⟨by rfl, ?_⟩) hHeld ?_
        · intro wq hSq
          clear hSq hHeld
          go_simp
        (try simp only [Act.put, List.setIfInBounds_toArray, List.set_cons_zero, List.set_cons_succ])
        refine wpAnyH_ready (rs := [0]) (by kernel_rfl) (by simp) ?_
        refine AllReadyH.cons (o := ⟨some 35, .load 25 (.tmp 12), 25, "change.go:35", #[], none⟩) rfl (fun Kr0 hKr0 => ?_) AllReadyH.nil
        clear hHeld
        go_simp
        refine hKr0.out _ _ trivial (fun hHeld => ?_)
        clear hKr0 Kr0 d0 d1 d2 d3 d4
        (try simp only [Act.put, List.setIfInBounds_toArray, List.set_cons_zero, List.set_cons_succ])
        refine wpAnyH_ready (rs := [4]) (by kernel_rfl) (by simp) ?_
        refine AllReadyH.cons (o := ⟨some 39, .call ⟨.value (.func 24), #[.tmp 35, .tmp 37, .tmp 38], #[25, 40, 22]⟩, 29, "change.go:35", #[⟨0, .data⟩, ⟨2, .data⟩, ⟨3, .data⟩], none⟩) rfl (fun Kr4 hKr4 => ?_) AllReadyH.nil
        clear hHeld
        go_simp
        go_at_call 24
        refine (HIH.out _ (Below.refl _ _).drew).mono ?_
        rintro e w9 ⟨hE9, b9⟩
        obtain ⟨rfl, her⟩ : e = .returned (.tuple #[.agg #[.int .i64 0, .int .i64 0, .string ⟨#[]⟩, .slice none 0 0, .slice none 0 0], .int .i64 er]) ∧ (er = 7 ∨ er = 8) := by
          rcases hE9 with ⟨er', h, h1, h2⟩ | ⟨y, v9, h, _⟩
          · rw [hput] at h; cases h; exact ⟨h2, h1⟩
          · rw [hput] at h; cases h
        have HEE : Hid (er = 7 ∨ er = 8) := her
        have heb : (er != 0) = true := by rw [bne_iff_ne]; omega
        have H9 : Hid (Below (w1.alloc (.cells #[.int .i64 6, .int .i64 0, .string ⟨#[]⟩, .slice none 0 0, .slice none 0 0] 25)).heap.size (w1.alloc (.cells #[.int .i64 6, .int .i64 0, .string ⟨#[]⟩, .slice none 0 0, .slice none 0 0] 25)) w9) := hidI ((Below.refl _ (w1.alloc (.cells #[.int .i64 6, .int .i64 0, .string ⟨#[]⟩, .slice none 0 0, .slice none 0 0] 25))).drew.trans (b9.mono (Nat.le_refl _)))
        clear hE9 b9 her
        go_wp2_with fail
        refine hKr4.out _ _ trivial (fun hHeld => ?_)
        clear hKr4 Kr4
        (try simp only [Act.put, List.setIfInBounds_toArray, List.set_cons_zero, List.set_cons_succ])
        refine wpAnyH_take (i := 5) (oi := ⟨some 34, .move (.tmp 39), 29, "change.go:35", #[⟨4, .data⟩], none⟩) (v := .tuple #[.agg #[.int .i64 0, .int .i64 0, .string ⟨#[]⟩, .slice none 0 0, .slice none 0 0], .int .i64 er]) rfl (by kernel_rfl) (by kernel_rfl) (by kernel_rfl) (fun _ _ _ h => h) (Or.inl ⟨by rfl, ?_⟩) hHeld ?_
        · intro wq hSq
          clear hSq hHeld
          go_simp
        (try simp only [Act.put, List.setIfInBounds_toArray, List.set_cons_zero, List.set_cons_succ])
        refine wpAnyH_take (i := 6) (oi := ⟨some 40, .extract (.tmp 34) 0, 25, "change.go:35", #[⟨5, .data⟩], none⟩) (v := .agg #[.int .i64 0, .int .i64 0, .string ⟨#[]⟩, .slice none 0 0, .slice none 0 0]) rfl (by kernel_rfl) (by kernel_rfl) (by kernel_rfl) (fun _ _ _ h => h) (Or.inl ⟨by rfl, ?_⟩) hHeld ?_
        · intro wq hSq
          clear hSq hHeld
          go_simp
        (try simp only [Act.put, List.setIfInBounds_toArray, List.set_cons_zero, List.set_cons_succ])
        refine wpAnyH_take (i := 7) (oi := ⟨some 41, .extract (.tmp 34) 1, 28, "change.go:35", #[⟨5, .data⟩, ⟨8, .gcOnly .lateStores⟩], none⟩) (v := .int .i64 er) rfl (by kernel_rfl) (by kernel_rfl) (by kernel_rfl) (fun _ _ _ h => h) (Or.inl ⟨by rfl, ?_⟩) hHeld ?_
        · intro wq hSq
          clear hSq hHeld
          go_simp
        (try simp only [Act.put, List.setIfInBounds_toArray, List.set_cons_zero, List.set_cons_succ])
        refine wpAnyH_ready (rs := [8]) (by kernel_rfl) (by simp) ?_
        refine AllReadyH.cons (o := ⟨none, .store 25 (.tmp 12) (.tmp 40), 0, "change.go:35", #[⟨6, .data⟩, ⟨4, .chain⟩, ⟨0, .phase⟩, ⟨1, .phase⟩, ⟨2, .phase⟩, ⟨3, .phase⟩, ⟨4, .phase⟩, ⟨5, .phase⟩, ⟨6, .phase⟩, ⟨7, .textOnly .lateStores⟩], none⟩) rfl (fun Kr8 hKr8 => ?_) AllReadyH.nil
        obtain ⟨y0, y1, y2, y3, y4⟩ := Blk5.cells (Blk5.below HI.out H9.out)
        obtain ⟨r0, r1, r2, r3, r4⟩ := Blk5.free (Blk5.below HI.out H9.out)
        clear hHeld
        go_simp
        refine hKr8.out _ _ trivial (fun hHeld => ?_)
        clear hKr8 Kr8 y0 y1 y2 y3 y4 r0 r1 r2 r3 r4
        (try simp only [Act.put, List.setIfInBounds_toArray, List.set_cons_zero, List.set_cons_succ])
        refine wpAnyH_take (i := 9) (oi := ⟨some 10, .assign (.tmp 41), 28, "change.go:35", #[⟨7, .data⟩, ⟨8, .chain⟩, ⟨0, .phase⟩, ⟨1, .phase⟩, ⟨2, .phase⟩, ⟨3, .phase⟩, ⟨4, .phase⟩, ⟨5, .phase⟩, ⟨6, .phase⟩, ⟨7, .phase⟩, ⟨8, .phase⟩], none⟩) (v := .int .i64 er) rfl (by kernel_rfl) (by kernel_rfl) (by kernel_rfl) (fun _ _ _ h => h) (Or.inl ⟨by rfl, ?_⟩) hHeld ?_
        · intro wq hSq
          clear hSq hHeld
          go_simp
        (try simp only [Act.put, List.setIfInBounds_toArray, List.set_cons_zero, List.set_cons_succ])
        refine wpAnyH_done (by kernel_rfl) ?_ _
        clear hHeld
        have hQ9 := (Blk5.below HQT.out H9.out).putx_other (g := w1.heap.size) (y0 := .int .i64 0) (y1 := .int .i64 0) (y2 := .string ⟨#[]⟩) (y3 := .slice none 0 0) (y4 := .slice none 0 0) (by omega)
        unfold put5x at hQ9
        obtain ⟨z0, z1, z2, z3, z4⟩ := Blk5.cells hQ9
        obtain ⟨q0, q1, q2, q3, q4⟩ := Blk5.free hQ9
        have HB1 : Hid (Below w.heap.size w w9) := hidI (HBT.out.trans (H9.out.mono HBT.out.size))
        clear hQ9
        go_wp2_with fail
        refine bodyPost_ret (v := .tuple #[vZ, .int .i64 er]) ?_ rfl ⟨Or.inl ⟨er, HE.out, HEE.out, rfl⟩, ?_⟩
        · have hres : Try.f24.results = #[.cell 6 25, .tmp 7] := by kernel_rfl
          simp only [results, hres]
          go_simp
          rfl
        · have hKw : w.heap.size ≤ w1.heap.size := by omega
          exact (((((((((HB1.out.setCell hKw _).setCell hKw _).setCell hKw _).setCell hKw _).setCell hKw _).setCell (Nat.le_succ _) _).setCell (Nat.le_succ _) _).setCell (Nat.le_succ _) _).setCell (Nat.le_succ _) _).setCell (Nat.le_succ _) _
      | ok y =>
        rw [hput] at hR'
        have HR : Hid (R = .ok (g.spl p 0 s 1 fun _ => y)) := hR'
        clear hR'
        go_wp2_with fail
        refine wp_region_held_drew (S := fun _ => True) (by kernel_rfl) trivial (fun hHeld => ?_)
        refine wpAnyH_take (i := 1) (oi := ⟨some 36, .move (.tmp 1), 40, "change.go:35", #[], none⟩) (v := .slice (some ⟨sb, so, none⟩) N sc) rfl (by kernel_rfl) (by kernel_rfl) (by kernel_rfl) (fun _ _ _ h => h) (Or.inl ⟨by rfl, ?_⟩) hHeld ?_
        · intro wq hSq
          clear hSq hHeld
          go_simp
        (try simp only [Act.put, List.setIfInBounds_toArray, List.set_cons_zero, List.set_cons_succ])
        refine wpAnyH_take (i := 2) (oi := ⟨some 37, .slice 40 (.tmp 36) (some (.const (.int .i64 1))) none none, 40, "change.go:35", #[⟨1, .data⟩], none⟩) (v := .slice (some ⟨sb, so + 1, none⟩) (N - 1 : Nat) (sc - 1 : Nat)) rfl (by kernel_rfl) (by kernel_rfl) (by kernel_rfl) (fun _ _ _ h => h) (Or.inl ⟨by rfl, ?_⟩) hHeld ?_
        · intro wq hSq
          clear hSq hHeld
          go_simp
        (try simp only [Act.put, List.setIfInBounds_toArray, List.set_cons_zero, List.set_cons_succ])
        refine wpAnyH_take (i := 3) (oi := ⟨some 38, .move (.tmp 2), 22, "change.go:35", #[], none⟩) (v := .slice ma c mc) rfl (by kernel_rfl) (by kernel_rfl) (by kernel_rfl) (fun _ _ _ h => h) (Or.inl ⟨by rfl, ?_⟩) hHeld ?_
        · intro wq hSq
          clear hSq hHeld
          go_simp
        (try simp only [Act.put, List.setIfInBounds_toArray, List.set_cons_zero, List.set_cons_succ])
        refine wpAnyH_ready (rs := [0]) (by kernel_rfl) (by simp) ?_
        refine AllReadyH.cons (o := ⟨some 35, .load 25 (.tmp 12), 25, "change.go:35", #[], none⟩) rfl (fun Kr0 hKr0 => ?_) AllReadyH.nil
        clear hHeld
        go_simp
        refine hKr0.out _ _ trivial (fun hHeld => ?_)
        clear hKr0 Kr0 d0 d1 d2 d3 d4
        (try simp only [Act.put, List.setIfInBounds_toArray, List.set_cons_zero, List.set_cons_succ])
        refine wpAnyH_ready (rs := [4]) (by kernel_rfl) (by simp) ?_
        refine AllReadyH.cons (o := ⟨some 39, .call ⟨.value (.func 24), #[.tmp 35, .tmp 37, .tmp 38], #[25, 40, 22]⟩, 29, "change.go:35", #[⟨0, .data⟩, ⟨2, .data⟩, ⟨3, .data⟩], none⟩) rfl (fun Kr4 hKr4 => ?_) AllReadyH.nil
        clear hHeld
        go_simp
        go_at_call 24
        refine (HIH.out _ (Below.refl _ _).drew).mono ?_
        rintro e w9 ⟨hE9, b9⟩
        obtain ⟨y9, v9, hy9, rfl, hL9⟩ : ∃ y9 v9, (Except.ok y : Except Int GV) = .ok y9 ∧ e = .returned (.tuple #[v9, .int .i64 0]) ∧ Lies (veil B (World.heap (w1.alloc (.cells #[.int .i64 6, .int .i64 0, .string ⟨#[]⟩, .slice none 0 0, .slice none 0 0] 25)).drew).size w9) y9 v9 := by
          rcases hE9 with ⟨er, h, _⟩ | h
          · rw [hput] at h; cases h
          · rw [hput] at h; exact h
        injection hy9 with hy9
        subst hy9
        obtain ⟨k9, n9, t9, la9, ln9, lc9, fa9, fn9, fc9, rfl⟩ := hL9.agg
        have HL9 : Hid (Lies (veil B (World.heap (w1.alloc (.cells #[.int .i64 6, .int .i64 0, .string ⟨#[]⟩, .slice none 0 0, .slice none 0 0] 25))).size w9) y _) := hL9
        have H9 : Hid (Below (w1.alloc (.cells #[.int .i64 6, .int .i64 0, .string ⟨#[]⟩, .slice none 0 0, .slice none 0 0] 25)).heap.size (w1.alloc (.cells #[.int .i64 6, .int .i64 0, .string ⟨#[]⟩, .slice none 0 0, .slice none 0 0] 25)) w9) := hidI ((Below.refl _ (w1.alloc (.cells #[.int .i64 6, .int .i64 0, .string ⟨#[]⟩, .slice none 0 0, .slice none 0 0] 25))).drew.trans (b9.mono (Nat.le_refl _)))
        clear hE9 b9 hL9
        go_wp2_with fail
        refine hKr4.out _ _ trivial (fun hHeld => ?_)
        clear hKr4 Kr4
        (try simp only [Act.put, List.setIfInBounds_toArray, List.set_cons_zero, List.set_cons_succ])
        refine wpAnyH_take (i := 5) (oi := ⟨some 34, .move (.tmp 39), 29, "change.go:35", #[⟨4, .data⟩], none⟩) (v := .tuple #[.agg #[.int .i64 k9, .int .i64 n9, .string t9, .slice la9 ln9 lc9, .slice fa9 fn9 fc9], .int .i64 0]) rfl (by kernel_rfl) (by kernel_rfl) (by kernel_rfl) (fun _ _ _ h => h) (Or.inl ⟨by rfl, ?_⟩) hHeld ?_
        · intro wq hSq
          clear hSq hHeld
          go_simp
        (try simp only [Act.put, List.setIfInBounds_toArray, List.set_cons_zero, List.set_cons_succ])
        refine wpAnyH_take (i := 6) (oi := ⟨some 40, .extract (.tmp 34) 0, 25, "change.go:35", #[⟨5, .data⟩], none⟩) (v := .agg #[.int .i64 k9, .int .i64 n9, .string t9, .slice la9 ln9 lc9, .slice fa9 fn9 fc9]) rfl (by kernel_rfl) (by kernel_rfl) (by kernel_rfl) (fun _ _ _ h => h) (Or.inl ⟨by rfl, ?_⟩) hHeld ?_
        · intro wq hSq
          clear hSq hHeld
          go_simp
        (try simp only [Act.put, List.setIfInBounds_toArray, List.set_cons_zero, List.set_cons_succ])
        refine wpAnyH_take (i := 7) (oi := ⟨some 41, .extract (.tmp 34) 1, 28, "change.go:35", #[⟨5, .data⟩, ⟨8, .gcOnly .lateStores⟩], none⟩) (v := .int .i64 0) rfl (by kernel_rfl) (by kernel_rfl) (by kernel_rfl) (fun _ _ _ h => h) (Or.inl ⟨by rfl, ?_⟩) hHeld ?_
        · intro wq hSq
          clear hSq hHeld
          go_simp
        (try simp only [Act.put, List.setIfInBounds_toArray, List.set_cons_zero, List.set_cons_succ])
        refine wpAnyH_ready (rs := [8]) (by kernel_rfl) (by simp) ?_
        refine AllReadyH.cons (o := ⟨none, .store 25 (.tmp 12) (.tmp 40), 0, "change.go:35", #[⟨6, .data⟩, ⟨4, .chain⟩, ⟨0, .phase⟩, ⟨1, .phase⟩, ⟨2, .phase⟩, ⟨3, .phase⟩, ⟨4, .phase⟩, ⟨5, .phase⟩, ⟨6, .phase⟩, ⟨7, .textOnly .lateStores⟩], none⟩) rfl (fun Kr8 hKr8 => ?_) AllReadyH.nil
        obtain ⟨y0, y1, y2, y3, y4⟩ := Blk5.cells (Blk5.below HI.out H9.out)
        obtain ⟨r0, r1, r2, r3, r4⟩ := Blk5.free (Blk5.below HI.out H9.out)
        clear hHeld
        go_simp
        refine hKr8.out _ _ trivial (fun hHeld => ?_)
        clear hKr8 Kr8 y0 y1 y2 y3 y4 r0 r1 r2 r3 r4
        (try simp only [Act.put, List.setIfInBounds_toArray, List.set_cons_zero, List.set_cons_succ])
        refine wpAnyH_take (i := 9) (oi := ⟨some 10, .assign (.tmp 41), 28, "change.go:35", #[⟨7, .data⟩, ⟨8, .chain⟩, ⟨0, .phase⟩, ⟨1, .phase⟩, ⟨2, .phase⟩, ⟨3, .phase⟩, ⟨4, .phase⟩, ⟨5, .phase⟩, ⟨6, .phase⟩, ⟨7, .phase⟩, ⟨8, .phase⟩], none⟩) (v := .int .i64 0) rfl (by kernel_rfl) (by kernel_rfl) (by kernel_rfl) (fun _ _ _ h => h) (Or.inl ⟨by rfl, ?_⟩) hHeld ?_
        · intro wq hSq
          clear hSq hHeld
          go_simp
        (try simp only [Act.put, List.setIfInBounds_toArray, List.set_cons_zero, List.set_cons_succ])
        refine wpAnyH_done (by kernel_rfl) ?_ _
        clear hHeld
        have hP9 := (Blk5.below HPT.out H9.out).putx_other (g := w1.heap.size) (y0 := .int .i64 k9) (y1 := .int .i64 n9) (y2 := .string t9) (y3 := .slice la9 ln9 lc9) (y4 := .slice fa9 fn9 fc9) (by omega)
        have hQ9 := (Blk5.below HQT.out H9.out).putx_other (g := w1.heap.size) (y0 := .int .i64 k9) (y1 := .int .i64 n9) (y2 := .string t9) (y3 := .slice la9 ln9 lc9) (y4 := .slice fa9 fn9 fc9) (by omega)
        have hI9 := (Blk5.below HI.out H9.out).putx (y0 := .int .i64 k9) (y1 := .int .i64 n9) (y2 := .string t9) (y3 := .slice la9 ln9 lc9) (y4 := .slice fa9 fn9 fc9)
        have hB9 := below_putx (b := w1.heap.size) (y0 := .int .i64 k9) (y1 := .int .i64 n9) (y2 := .string t9) (y3 := .slice la9 ln9 lc9) (y4 := .slice fa9 fn9 fc9) (HBT.out.trans (H9.out.mono HBT.out.size)) (show w.heap.size ≤ w1.heap.size by omega)
        have hU9s := H9.out.size
        obtain ⟨C1, hC1e⟩ : ∃ C1, C1 = (w1.alloc (.cells #[.int .i64 6, .int .i64 0, .string ⟨#[]⟩, .slice none 0 0, .slice none 0 0] 25)).heap.size := ⟨_, rfl⟩
        have hKC : w1.heap.size < C1 := by rw [hC1e]; exact Blk5.lt HI.out
        have hC1 : w.heap.size + 2 ≤ C1 := by omega
        rw [← hC1e] at HL9 hU9s
        have hL9v := Lies.mono (veil_keep (B := B) (C := C1) (w := w9) (w' := put5x w9 (w1.heap.size) (.int .i64 k9) (.int .i64 n9) (.string t9) (.slice la9 ln9 lc9) (.slice fa9 fn9 fc9)) (fun _ h1 h2 _ => ⟨h1, h2⟩) (fun b hb _ => putx_heap (fun e => hb (e ▸ ⟨by omega, hKC⟩)))) HL9.out
        unfold put5x at hP9 hQ9 hI9 hB9 hL9v
        have hbu := (Below.refl (((((w9.setCell ⟨w1.heap.size, 0, none⟩ (.int .i64 k9)).setCell ⟨w1.heap.size, 1, none⟩ (.int .i64 n9)).setCell ⟨w1.heap.size, 2, none⟩ (.string t9)).setCell ⟨w1.heap.size, 3, none⟩ (.slice la9 ln9 lc9)).setCell ⟨w1.heap.size, 4, none⟩ (.slice fa9 fn9 fc9)).heap.size (((((w9.setCell ⟨w1.heap.size, 0, none⟩ (.int .i64 k9)).setCell ⟨w1.heap.size, 1, none⟩ (.int .i64 n9)).setCell ⟨w1.heap.size, 2, none⟩ (.string t9)).setCell ⟨w1.heap.size, 3, none⟩ (.slice la9 ln9 lc9)).setCell ⟨w1.heap.size, 4, none⟩ (.slice fa9 fn9 fc9))).alloc (Nat.le_refl _) (.cells #[.int .i64 k9, .int .i64 n9, .string t9, .slice la9 ln9 lc9, .slice fa9 fn9 fc9] 25)
        have hw9s : (((((w9.setCell ⟨w1.heap.size, 0, none⟩ (.int .i64 k9)).setCell ⟨w1.heap.size, 1, none⟩ (.int .i64 n9)).setCell ⟨w1.heap.size, 2, none⟩ (.string t9)).setCell ⟨w1.heap.size, 3, none⟩ (.slice la9 ln9 lc9)).setCell ⟨w1.heap.size, 4, none⟩ (.slice fa9 fn9 fc9)).heap.size = w9.heap.size := by simp
        have HPT : Hid (Blk5 ((((((w9.setCell ⟨w1.heap.size, 0, none⟩ (.int .i64 k9)).setCell ⟨w1.heap.size, 1, none⟩ (.int .i64 n9)).setCell ⟨w1.heap.size, 2, none⟩ (.string t9)).setCell ⟨w1.heap.size, 3, none⟩ (.slice la9 ln9 lc9)).setCell ⟨w1.heap.size, 4, none⟩ (.slice fa9 fn9 fc9)).alloc (.cells #[.int .i64 k9, .int .i64 n9, .string t9, .slice la9 ln9 lc9, .slice fa9 fn9 fc9] 25)) w.heap.size (.int .i64 6) (.int .i64 n0) (.string tx) (.slice la ln lc) (.slice fa fn fc)) := hidI (Blk5.below hP9 hbu)
        have HQT : Hid (Blk5 ((((((w9.setCell ⟨w1.heap.size, 0, none⟩ (.int .i64 k9)).setCell ⟨w1.heap.size, 1, none⟩ (.int .i64 n9)).setCell ⟨w1.heap.size, 2, none⟩ (.string t9)).setCell ⟨w1.heap.size, 3, none⟩ (.slice la9 ln9 lc9)).setCell ⟨w1.heap.size, 4, none⟩ (.slice fa9 fn9 fc9)).alloc (.cells #[.int .i64 k9, .int .i64 n9, .string t9, .slice la9 ln9 lc9, .slice fa9 fn9 fc9] 25)) (w.heap.size + 1) (.int .i64 0) (.int .i64 0) (.string ⟨#[]⟩) (.slice none 0 0) (.slice none 0 0)) := hidI (Blk5.below hQ9 hbu)
        have hbT : Below w.heap.size w ((((((w9.setCell ⟨w1.heap.size, 0, none⟩ (.int .i64 k9)).setCell ⟨w1.heap.size, 1, none⟩ (.int .i64 n9)).setCell ⟨w1.heap.size, 2, none⟩ (.string t9)).setCell ⟨w1.heap.size, 3, none⟩ (.slice la9 ln9 lc9)).setCell ⟨w1.heap.size, 4, none⟩ (.slice fa9 fn9 fc9)).alloc (.cells #[.int .i64 k9, .int .i64 n9, .string t9, .slice la9 ln9 lc9, .slice fa9 fn9 fc9] 25)) := hB9.trans (hbu.mono hB9.size)
        have hC1u : C1 ≤ ((((((w9.setCell ⟨w1.heap.size, 0, none⟩ (.int .i64 k9)).setCell ⟨w1.heap.size, 1, none⟩ (.int .i64 n9)).setCell ⟨w1.heap.size, 2, none⟩ (.string t9)).setCell ⟨w1.heap.size, 3, none⟩ (.slice la9 ln9 lc9)).setCell ⟨w1.heap.size, 4, none⟩ (.slice fa9 fn9 fc9)).alloc (.cells #[.int .i64 k9, .int .i64 n9, .string t9, .slice la9 ln9 lc9, .slice fa9 fn9 fc9] 25)).heap.size := by simp; omega
        have HVFT : Hid (Flds (veil B C1 ((((((w9.setCell ⟨w1.heap.size, 0, none⟩ (.int .i64 k9)).setCell ⟨w1.heap.size, 1, none⟩ (.int .i64 n9)).setCell ⟨w1.heap.size, 2, none⟩ (.string t9)).setCell ⟨w1.heap.size, 3, none⟩ (.slice la9 ln9 lc9)).setCell ⟨w1.heap.size, 4, none⟩ (.slice fa9 fn9 fc9)).alloc (.cells #[.int .i64 k9, .int .i64 n9, .string t9, .slice la9 ln9 lc9, .slice fa9 fn9 fc9] 25))) fa fn nm f) := hidI (Flds.mono HVF.out (veil_more (Nat.le_refl _) hbT))
        have HVLT : Hid (Vals (veil B C1 ((((((w9.setCell ⟨w1.heap.size, 0, none⟩ (.int .i64 k9)).setCell ⟨w1.heap.size, 1, none⟩ (.int .i64 n9)).setCell ⟨w1.heap.size, 2, none⟩ (.string t9)).setCell ⟨w1.heap.size, 3, none⟩ (.slice la9 ln9 lc9)).setCell ⟨w1.heap.size, 4, none⟩ (.slice fa9 fn9 fc9)).alloc (.cells #[.int .i64 k9, .int .i64 n9, .string t9, .slice la9 ln9 lc9, .slice fa9 fn9 fc9] 25))) la ln l0) := hidI (Vals.mono HVL.out (veil_more (Nat.le_refl _) hbT))
        have HMT : Hid (Vals (veil B C1 ((((((w9.setCell ⟨w1.heap.size, 0, none⟩ (.int .i64 k9)).setCell ⟨w1.heap.size, 1, none⟩ (.int .i64 n9)).setCell ⟨w1.heap.size, 2, none⟩ (.string t9)).setCell ⟨w1.heap.size, 3, none⟩ (.slice la9 ln9 lc9)).setCell ⟨w1.heap.size, 4, none⟩ (.slice fa9 fn9 fc9)).alloc (.cells #[.int .i64 k9, .int .i64 n9, .string t9, .slice la9 ln9 lc9, .slice fa9 fn9 fc9] 25))) (some ⟨w9.heap.size, 0, none⟩) 1 (fun _ => y)) := hidI (fun i hi => by
          obtain rfl : i = 0 := by omega
          refine ⟨w9.heap.size, 0, _, rfl, Lies.mono (veil_below hbu) hL9v, fun j hj => ?_⟩
          have hnb : ¬ (B ≤ w9.heap.size ∧ w9.heap.size < C1) := by omega
          rw [World.cell?_of_block (a := ⟨w9.heap.size, 0 + 0 * 5 + j, none⟩) (veil_block hnb)]
          have hblk : Blk5 ((((((w9.setCell ⟨w1.heap.size, 0, none⟩ (.int .i64 k9)).setCell ⟨w1.heap.size, 1, none⟩ (.int .i64 n9)).setCell ⟨w1.heap.size, 2, none⟩ (.string t9)).setCell ⟨w1.heap.size, 3, none⟩ (.slice la9 ln9 lc9)).setCell ⟨w1.heap.size, 4, none⟩ (.slice fa9 fn9 fc9)).alloc (.cells #[.int .i64 k9, .int .i64 n9, .string t9, .slice la9 ln9 lc9, .slice fa9 fn9 fc9] 25)) w9.heap.size (.int .i64 k9) (.int .i64 n9) (.string t9) (.slice la9 ln9 lc9) (.slice fa9 fn9 fc9) := by have := Blk5.new (((((w9.setCell ⟨w1.heap.size, 0, none⟩ (.int .i64 k9)).setCell ⟨w1.heap.size, 1, none⟩ (.int .i64 n9)).setCell ⟨w1.heap.size, 2, none⟩ (.string t9)).setCell ⟨w1.heap.size, 3, none⟩ (.slice la9 ln9 lc9)).setCell ⟨w1.heap.size, 4, none⟩ (.slice fa9 fn9 fc9)) (.int .i64 k9) (.int .i64 n9) (.string t9) (.slice la9 ln9 lc9) (.slice fa9 fn9 fc9); rw [hw9s] at this; exact this
          rw [show 0 + 0 * 5 + j = j by omega, cell_of_row _ _ _ _ _ _ hblk]
          rfl)
        obtain ⟨i0, i1', i2, i3, i4⟩ := Blk5.cells hI9
        obtain ⟨c0, c1', c2, c3, c4⟩ := Blk5.cells HPT.out
        have hw9 := hw9s
        clear hP9 hQ9 hI9 hB9 hL9v hbu hw9s hC1e
        go_wp2_with fail
        obtain ⟨d, hdl, hd⟩ := vals_fls s hssz 1 HMT.out
        obtain ⟨d0, hd0l, hd0r, hd0o, hd0i⟩ := flds_row fn HVFT.out
        have HNM : Hid (∀ W, Below ((((((w9.setCell ⟨w1.heap.size, 0, none⟩ (.int .i64 k9)).setCell ⟨w1.heap.size, 1, none⟩ (.int .i64 n9)).setCell ⟨w1.heap.size, 2, none⟩ (.string t9)).setCell ⟨w1.heap.size, 3, none⟩ (.slice la9 ln9 lc9)).setCell ⟨w1.heap.size, 4, none⟩ (.slice fa9 fn9 fc9)).alloc (.cells #[.int .i64 k9, .int .i64 n9, .string t9, .slice la9 ln9 lc9, .slice fa9 fn9 fc9] 25)).heap.size ((((((w9.setCell ⟨w1.heap.size, 0, none⟩ (.int .i64 k9)).setCell ⟨w1.heap.size, 1, none⟩ (.int .i64 n9)).setCell ⟨w1.heap.size, 2, none⟩ (.string t9)).setCell ⟨w1.heap.size, 3, none⟩ (.slice la9 ln9 lc9)).setCell ⟨w1.heap.size, 4, none⟩ (.slice fa9 fn9 fc9)).alloc (.cells #[.int .i64 k9, .int .i64 n9, .string t9, .slice la9 ln9 lc9, .slice fa9 fn9 fc9] 25)) W → Calls Try.prog 43 #[.string s, .slice (some ⟨w9.heap.size, 0, none⟩) 1 1] W fun e w' => ∃ v', e = .returned v' ∧ w'.ownsRow W.heap.size 45 6 v' 1 (fldCells d) ∧ Below W.heap.size W w') := hidI (fun W hW => by
          have h := named_any s d (some ⟨w9.heap.size, 0, none⟩) 1 W (fun i hi => by
            obtain ⟨h1, _, h3, b, o, h4, h5⟩ := hd i hi
            exact ⟨h1, b, o, h4, h5.mono h3.1 (fun b o u h => below_keeps hW b o u (veil_off b o u h))⟩) (by omega) (by unfold maxLen; omega) (by omega)
          rw [hdl] at h
          exact h)
        obtain ⟨nF, hnF⟩ : ∃ nF, nF = fn - 0 + 1 := ⟨_, rfl⟩
        have HCH : Hid (∀ W na nc, Below ((((((w9.setCell ⟨w1.heap.size, 0, none⟩ (.int .i64 k9)).setCell ⟨w1.heap.size, 1, none⟩ (.int .i64 n9)).setCell ⟨w1.heap.size, 2, none⟩ (.string t9)).setCell ⟨w1.heap.size, 3, none⟩ (.slice la9 ln9 lc9)).setCell ⟨w1.heap.size, 4, none⟩ (.slice fa9 fn9 fc9)).alloc (.cells #[.int .i64 k9, .int .i64 n9, .string t9, .slice la9 ln9 lc9, .slice fa9 fn9 fc9] 25)).heap.size ((((((w9.setCell ⟨w1.heap.size, 0, none⟩ (.int .i64 k9)).setCell ⟨w1.heap.size, 1, none⟩ (.int .i64 n9)).setCell ⟨w1.heap.size, 2, none⟩ (.string t9)).setCell ⟨w1.heap.size, 3, none⟩ (.slice la9 ln9 lc9)).setCell ⟨w1.heap.size, 4, none⟩ (.slice fa9 fn9 fc9)).alloc (.cells #[.int .i64 k9, .int .i64 n9, .string t9, .slice la9 ln9 lc9, .slice fa9 fn9 fc9] 25)) W → FRow W na d → 1 ≤ nc → nc ≤ maxLen → Calls Try.prog 42 #[.slice fa fn fc, .int .i64 (p : Nat), .int .i64 (0 : Nat), .slice na 1 nc] W fun e w' => ∃ xs, xs = (fldCells d0).take (p * 6) ++ (fldCells d ++ (fldCells d0).drop ((p + 0) * 6)) ∧ e = .returned (.slice (some ⟨W.heap.size, 0, none⟩) nF nF) ∧ w'.ownsRow W.heap.size 45 6 (.slice (some ⟨W.heap.size, 0, none⟩) nF nF) nF xs ∧ Below W.heap.size W w') := hidI (fun W na nc hW hr h1 h2 => by
          rw [hnF]
          exact changedF (fldCells d0) (fldCells d) fa na fn fc 1 nc p 0 W (by rw [fldCells_len, hd0l]) (by rw [fldCells_len, hdl])
            (by
              rcases hd0r with h | ⟨b, o, e, hc⟩
              · exact Or.inl (by rw [h]; rfl)
              · exact Or.inr ⟨b, o, e, fun k u hk => below_keeps hW _ _ _ (veil_off _ _ _ (hc k u hk))⟩)
            (by
              rcases hr with h | ⟨b, o, e, hc⟩
              · exact Or.inl (by rw [h]; rfl)
              · exact Or.inr ⟨b, o, e, hc⟩)
            (fldCells_one d0) (fldCells_one d) h6 h7 h1 h2 hpq (by omega) (by omega))
        have HNF : Hid (nF = fn - 0 + 1) := hnF
        have HD : Hid (d.length = 1 ∧ ∀ i (hi : i < d.length), (d[i]'hi).nm = s ∧ (d[i]'hi).g = (fun _ => y) i ∧ (d[i]'hi).ok (veil B C1 ((((((w9.setCell ⟨w1.heap.size, 0, none⟩ (.int .i64 k9)).setCell ⟨w1.heap.size, 1, none⟩ (.int .i64 n9)).setCell ⟨w1.heap.size, 2, none⟩ (.string t9)).setCell ⟨w1.heap.size, 3, none⟩ (.slice la9 ln9 lc9)).setCell ⟨w1.heap.size, 4, none⟩ (.slice fa9 fn9 fc9)).alloc (.cells #[.int .i64 k9, .int .i64 n9, .string t9, .slice la9 ln9 lc9, .slice fa9 fn9 fc9] 25)))) := hidI ⟨hdl, fun i hi => by obtain ⟨h1, h2, h3, _⟩ := hd i hi; exact ⟨h1, h2, h3⟩⟩
        have HD0 : Hid (d0.length = fn ∧ ∀ i (hi : i < d0.length), (d0[i]'hi).nm = nm i ∧ (d0[i]'hi).g = f i ∧ (d0[i]'hi).ok (veil B C1 ((((((w9.setCell ⟨w1.heap.size, 0, none⟩ (.int .i64 k9)).setCell ⟨w1.heap.size, 1, none⟩ (.int .i64 n9)).setCell ⟨w1.heap.size, 2, none⟩ (.string t9)).setCell ⟨w1.heap.size, 3, none⟩ (.slice la9 ln9 lc9)).setCell ⟨w1.heap.size, 4, none⟩ (.slice fa9 fn9 fc9)).alloc (.cells #[.int .i64 k9, .int .i64 n9, .string t9, .slice la9 ln9 lc9, .slice fa9 fn9 fc9] 25)))) := hidI ⟨hd0l, fun i hi => by
          have := hd0i i (by omega)
          rw [nmOf_at hi, gOf_at hi] at this
          exact ⟨this.1, this.2, hd0o _ (List.getElem_mem hi)⟩⟩
        have hUd : Below ((((((w9.setCell ⟨w1.heap.size, 0, none⟩ (.int .i64 k9)).setCell ⟨w1.heap.size, 1, none⟩ (.int .i64 n9)).setCell ⟨w1.heap.size, 2, none⟩ (.string t9)).setCell ⟨w1.heap.size, 3, none⟩ (.slice la9 ln9 lc9)).setCell ⟨w1.heap.size, 4, none⟩ (.slice fa9 fn9 fc9)).alloc (.cells #[.int .i64 k9, .int .i64 n9, .string t9, .slice la9 ln9 lc9, .slice fa9 fn9 fc9] 25)).heap.size ((((((w9.setCell ⟨w1.heap.size, 0, none⟩ (.int .i64 k9)).setCell ⟨w1.heap.size, 1, none⟩ (.int .i64 n9)).setCell ⟨w1.heap.size, 2, none⟩ (.string t9)).setCell ⟨w1.heap.size, 3, none⟩ (.slice la9 ln9 lc9)).setCell ⟨w1.heap.size, 4, none⟩ (.slice fa9 fn9 fc9)).alloc (.cells #[.int .i64 k9, .int .i64 n9, .string t9, .slice la9 ln9 lc9, .slice fa9 fn9 fc9] 25)) ((((((w9.setCell ⟨w1.heap.size, 0, none⟩ (.int .i64 k9)).setCell ⟨w1.heap.size, 1, none⟩ (.int .i64 n9)).setCell ⟨w1.heap.size, 2, none⟩ (.string t9)).setCell ⟨w1.heap.size, 3, none⟩ (.slice la9 ln9 lc9)).setCell ⟨w1.heap.size, 4, none⟩ (.slice fa9 fn9 fc9)).alloc (.cells #[.int .i64 k9, .int .i64 n9, .string t9, .slice la9 ln9 lc9, .slice fa9 fn9 fc9] 25)).drew := (Below.refl _ _).drew
        have HUD : Hid _ := hUd
        have HBT : Hid (Below w.heap.size w ((((((w9.setCell ⟨w1.heap.size, 0, none⟩ (.int .i64 k9)).setCell ⟨w1.heap.size, 1, none⟩ (.int .i64 n9)).setCell ⟨w1.heap.size, 2, none⟩ (.string t9)).setCell ⟨w1.heap.size, 3, none⟩ (.slice la9 ln9 lc9)).setCell ⟨w1.heap.size, 4, none⟩ (.slice fa9 fn9 fc9)).alloc (.cells #[.int .i64 k9, .int .i64 n9, .string t9, .slice la9 ln9 lc9, .slice fa9 fn9 fc9] 25))) := hbT
        have hSu : Below w.heap.size w ((((((w9.setCell ⟨w1.heap.size, 0, none⟩ (.int .i64 k9)).setCell ⟨w1.heap.size, 1, none⟩ (.int .i64 n9)).setCell ⟨w1.heap.size, 2, none⟩ (.string t9)).setCell ⟨w1.heap.size, 3, none⟩ (.slice la9 ln9 lc9)).setCell ⟨w1.heap.size, 4, none⟩ (.slice fa9 fn9 fc9)).alloc (.cells #[.int .i64 k9, .int .i64 n9, .string t9, .slice la9 ln9 lc9, .slice fa9 fn9 fc9] 25)).drew := hbT.drew
        have c4d : ((((((w9.setCell ⟨w1.heap.size, 0, none⟩ (.int .i64 k9)).setCell ⟨w1.heap.size, 1, none⟩ (.int .i64 n9)).setCell ⟨w1.heap.size, 2, none⟩ (.string t9)).setCell ⟨w1.heap.size, 3, none⟩ (.slice la9 ln9 lc9)).setCell ⟨w1.heap.size, 4, none⟩ (.slice fa9 fn9 fc9)).alloc (.cells #[.int .i64 k9, .int .i64 n9, .string t9, .slice la9 ln9 lc9, .slice fa9 fn9 fc9] 25)).drew.cell? ⟨w.heap.size, 4, none⟩ = some (.slice fa fn fc) := (drew_cell _ _).trans c4
        clear hdl hd hd0l hd0r hd0o hd0i hUd hbT c0 c1' c2 c3 c4 hnF
        refine wp_region_held_drew (S := fun u => Below w.heap.size w u) (by kernel_rfl) hSu (fun hHeld => ?_)
        clear hSu
        refine wpAnyH_take (i := 0) (oi := ⟨some 51, .fieldAddr 25 (.tmp 3) 4, 0, "change.go:42", #[], none⟩) (v := .pointer (some ⟨w.heap.size, 4, none⟩)) rfl (by kernel_rfl) (by kernel_rfl) (by kernel_rfl) (fun _ _ _ h => h) (Or.inl ⟨by rfl, ?_⟩) hHeld ?_
        · intro wq hSq
          have s0 := hSq
          clear hSq hHeld
          go_simp
        (try simp only [Act.put, List.setIfInBounds_toArray, List.set_cons_zero, List.set_cons_succ])
        refine wpAnyH_take (i := 2) (oi := ⟨some 53, .move (.tmp 8), 3, "change.go:42", #[], none⟩) (v := .int .i64 (p : Nat)) rfl (by kernel_rfl) (by kernel_rfl) (by kernel_rfl) (fun _ _ _ h => h) (Or.inl ⟨by rfl, ?_⟩) hHeld ?_
        · intro wq hSq
          have s0 := hSq
          clear hSq hHeld
          go_simp
        (try simp only [Act.put, List.setIfInBounds_toArray, List.set_cons_zero, List.set_cons_succ])
        refine wpAnyH_take (i := 3) (oi := ⟨some 54, .move (.tmp 11), 3, "change.go:42", #[], none⟩) (v := .int .i64 (0 : Nat)) rfl (by kernel_rfl) (by kernel_rfl) (by kernel_rfl) (fun _ _ _ h => h) (Or.inl ⟨by rfl, ?_⟩) hHeld ?_
        · intro wq hSq
          have s0 := hSq
          clear hSq hHeld
          go_simp
        (try simp only [Act.put, List.setIfInBounds_toArray, List.set_cons_zero, List.set_cons_succ])
        refine wpAnyH_take (i := 4) (oi := ⟨some 55, .move (.tmp 1), 40, "change.go:42", #[], none⟩) (v := .slice (some ⟨sb, so, none⟩) N sc) rfl (by kernel_rfl) (by kernel_rfl) (by kernel_rfl) (fun _ _ _ h => h) (Or.inl ⟨by rfl, ?_⟩) hHeld ?_
        · intro wq hSq
          have s0 := hSq
          clear hSq hHeld
          go_simp
        (try simp only [Act.put, List.setIfInBounds_toArray, List.set_cons_zero, List.set_cons_succ])
        refine wpAnyH_take (i := 5) (oi := ⟨some 56, .indexAddr 40 (.tmp 55) (.const (.int .i64 0)), 0, "change.go:42", #[⟨4, .data⟩], none⟩) (v := .pointer (some ⟨sb, so, none⟩)) rfl (by kernel_rfl) (by kernel_rfl) (by kernel_rfl) (fun _ _ _ h => h) (Or.inl ⟨by rfl, ?_⟩) hHeld ?_
        · intro wq hSq
          have s0 := hSq
          clear hSq hHeld
          go_simp
        (try simp only [Act.put, List.setIfInBounds_toArray, List.set_cons_zero, List.set_cons_succ])
        refine wpAnyH_take (i := 6) (oi := ⟨some 57, .load 9 (.tmp 56), 9, "change.go:42", #[⟨5, .data⟩], none⟩) (v := .string s) rfl (by kernel_rfl) (by kernel_rfl) (by kernel_rfl) (fun _ _ _ h => h) (Or.inl ⟨by rfl, ?_⟩) hHeld ?_
        · intro wq hSq
          have s0 := hSq
          clear hSq hHeld
          have es := below_keeps s0 _ _ _ HSTR.out
          go_simp
        (try simp only [Act.put, List.setIfInBounds_toArray, List.set_cons_zero, List.set_cons_succ])
        refine wpAnyH_take (i := 7) (oi := ⟨some 58, .move (.tmp 2), 22, "change.go:42", #[], none⟩) (v := .slice (some ⟨w9.heap.size, 0, none⟩) 1 1) rfl (by kernel_rfl) (by kernel_rfl) (by kernel_rfl) (fun _ _ _ h => h) (Or.inl ⟨by rfl, ?_⟩) hHeld ?_
        · intro wq hSq
          have s0 := hSq
          clear hSq hHeld
          go_simp
        (try simp only [Act.put, List.setIfInBounds_toArray, List.set_cons_zero, List.set_cons_succ])
        refine wpAnyH_ready (rs := [1, 8]) (by kernel_rfl) (by simp) ?_
        refine AllReadyH.cons (o := ⟨some 52, .load 23 (.tmp 51), 23, "change.go:42", #[⟨0, .data⟩], none⟩) rfl (fun Kr1 hKr1 => ?_) (AllReadyH.cons (o := ⟨some 59, .call ⟨.value (.func 43), #[.tmp 57, .tmp 58], #[9, 22]⟩, 23, "change.go:42", #[⟨6, .data⟩, ⟨7, .data⟩], none⟩) rfl (fun Kr8 hKr8 => ?_) AllReadyH.nil)
        · skip
          clear hHeld
          go_simp
          refine hKr1.out _ _ ?_ (fun hHeld => ?_)
          · exact HBT.out.drew
          clear hKr1 Kr1 c4d
          (try simp only [Act.put, List.setIfInBounds_toArray, List.set_cons_zero, List.set_cons_succ])
          refine wpAnyH_ready (rs := [8]) (by kernel_rfl) (by simp) ?_
          refine AllReadyH.cons (o := ⟨some 59, .call ⟨.value (.func 43), #[.tmp 57, .tmp 58], #[9, 22]⟩, 23, "change.go:42", #[⟨6, .data⟩, ⟨7, .data⟩], none⟩) rfl (fun Kr8 hKr8 => ?_) AllReadyH.nil
          clear hHeld
          go_simp
          go_at_call 43
          refine (HNM.out _ HUD.out).mono ?_
          rintro e wN ⟨vN, rfl, oN, bN⟩
          obtain ⟨na, nc, rfl, hnc, hncm, hFN⟩ := own_frow oN HD.out.1
          have HUN : Hid (Below ((((((w9.setCell ⟨w1.heap.size, 0, none⟩ (.int .i64 k9)).setCell ⟨w1.heap.size, 1, none⟩ (.int .i64 n9)).setCell ⟨w1.heap.size, 2, none⟩ (.string t9)).setCell ⟨w1.heap.size, 3, none⟩ (.slice la9 ln9 lc9)).setCell ⟨w1.heap.size, 4, none⟩ (.slice fa9 fn9 fc9)).alloc (.cells #[.int .i64 k9, .int .i64 n9, .string t9, .slice la9 ln9 lc9, .slice fa9 fn9 fc9] 25)).heap.size ((((((w9.setCell ⟨w1.heap.size, 0, none⟩ (.int .i64 k9)).setCell ⟨w1.heap.size, 1, none⟩ (.int .i64 n9)).setCell ⟨w1.heap.size, 2, none⟩ (.string t9)).setCell ⟨w1.heap.size, 3, none⟩ (.slice la9 ln9 lc9)).setCell ⟨w1.heap.size, 4, none⟩ (.slice fa9 fn9 fc9)).alloc (.cells #[.int .i64 k9, .int .i64 n9, .string t9, .slice la9 ln9 lc9, .slice fa9 fn9 fc9] 25)) wN) := hidI (HUD.out.trans (bN.mono HUD.out.size))
          have HSN : Hid (Below w.heap.size w wN) := hidI (HBT.out.trans (HUN.out.mono HBT.out.size))
          have HFN : Hid (FRow wN na d) := hFN
          have HNC : Hid (1 ≤ nc ∧ nc ≤ maxLen) := hidI ⟨hnc, hncm⟩
          have c4n : wN.cell? ⟨w.heap.size, 4, none⟩ = some (.slice fa fn fc) := (Blk5.cells (Blk5.below HPT.out HUN.out)).2.2.2.2
          clear oN bN hFN hnc hncm
          go_wp2_with fail
          refine hKr8.out _ _ ?_ (fun hHeld => ?_)
          · exact HSN.out
          clear hKr8 Kr8 c4n
          (try simp only [Act.put, List.setIfInBounds_toArray, List.set_cons_zero, List.set_cons_succ])
          refine wpAnyH_ready (rs := [9]) (by kernel_rfl) (by simp) ?_
          refine AllReadyH.cons (o := ⟨some 60, .call ⟨.value (.func 42), #[.tmp 52, .tmp 53, .tmp 54, .tmp 59], #[23, 3, 3, 23]⟩, 23, "change.go:42", #[⟨1, .data⟩, ⟨2, .data⟩, ⟨3, .data⟩, ⟨8, .data⟩, ⟨8, .chain⟩], none⟩) rfl (fun Kr9 hKr9 => ?_) AllReadyH.nil
          clear hHeld
          go_simp
          go_at_call 42
          refine (HCH.out wN na nc HUN.out HFN.out HNC.out.1 HNC.out.2).mono ?_
          rintro e wC ⟨xs, hxs, rfl, oC, bC⟩
          have HUC : Hid (Below ((((((w9.setCell ⟨w1.heap.size, 0, none⟩ (.int .i64 k9)).setCell ⟨w1.heap.size, 1, none⟩ (.int .i64 n9)).setCell ⟨w1.heap.size, 2, none⟩ (.string t9)).setCell ⟨w1.heap.size, 3, none⟩ (.slice la9 ln9 lc9)).setCell ⟨w1.heap.size, 4, none⟩ (.slice fa9 fn9 fc9)).alloc (.cells #[.int .i64 k9, .int .i64 n9, .string t9, .slice la9 ln9 lc9, .slice fa9 fn9 fc9] 25)).heap.size ((((((w9.setCell ⟨w1.heap.size, 0, none⟩ (.int .i64 k9)).setCell ⟨w1.heap.size, 1, none⟩ (.int .i64 n9)).setCell ⟨w1.heap.size, 2, none⟩ (.string t9)).setCell ⟨w1.heap.size, 3, none⟩ (.slice la9 ln9 lc9)).setCell ⟨w1.heap.size, 4, none⟩ (.slice fa9 fn9 fc9)).alloc (.cells #[.int .i64 k9, .int .i64 n9, .string t9, .slice la9 ln9 lc9, .slice fa9 fn9 fc9] 25)) wC) := hidI (HUN.out.trans (bC.mono HUN.out.size))
          have HSC : Hid (Below w.heap.size w wC) := hidI (HBT.out.trans (HUC.out.mono HBT.out.size))
          have HOC : Hid (wC.ownsRow wN.heap.size 45 6 _ _ ((fldCells d0).take (p * 6) ++ (fldCells d ++ (fldCells d0).drop ((p + 0) * 6)))) := hidI (hxs ▸ oC)
          obtain ⟨gN, hgN⟩ : ∃ gN, gN = wN.heap.size := ⟨_, rfl⟩
          have HGN : Hid (C1 ≤ gN ∧ gN = wN.heap.size) := hidI ⟨by have := HUN.out.size; omega, hgN⟩
          rw [← hgN] at HOC ⊢
          clear oC bC hxs hgN
          go_wp2_with fail
          refine hKr9.out _ _ ?_ (fun hHeld => ?_)
          · exact HSC.out
          clear hKr9 Kr9
          (try simp only [Act.put, List.setIfInBounds_toArray, List.set_cons_zero, List.set_cons_succ])
          refine wpAnyH_take (i := 10) (oi := ⟨some 61, .fieldAddr 25 (.tmp 3) 4, 0, "change.go:42", #[⟨0, .phase⟩, ⟨1, .phase⟩, ⟨2, .phase⟩, ⟨3, .phase⟩, ⟨4, .phase⟩, ⟨5, .phase⟩, ⟨6, .phase⟩, ⟨7, .phase⟩, ⟨8, .phase⟩, ⟨9, .phase⟩], none⟩) (v := .pointer (some ⟨w.heap.size, 4, none⟩)) rfl (by kernel_rfl) (by kernel_rfl) (by kernel_rfl) (fun _ _ _ h => h) (Or.inl ⟨by rfl, ?_⟩) hHeld ?_
          · intro wq hSq
            have s0 := hSq
            clear hSq hHeld
            go_simp
          (try simp only [Act.put, List.setIfInBounds_toArray, List.set_cons_zero, List.set_cons_succ])
          refine wpAnyH_ready (rs := [11]) (by kernel_rfl) (by simp) ?_
          refine AllReadyH.cons (o := ⟨none, .store 23 (.tmp 61) (.tmp 60), 0, "change.go:42", #[⟨10, .data⟩, ⟨9, .data⟩, ⟨9, .chain⟩, ⟨0, .phase⟩, ⟨1, .phase⟩, ⟨2, .phase⟩, ⟨3, .phase⟩, ⟨4, .phase⟩, ⟨5, .phase⟩, ⟨6, .phase⟩, ⟨7, .phase⟩, ⟨8, .phase⟩, ⟨9, .phase⟩], none⟩) rfl (fun Kr11 hKr11 => ?_) AllReadyH.nil
          obtain ⟨y0, y1, y2, y3, y4⟩ := Blk5.cells (Blk5.below HPT.out HUC.out)
          obtain ⟨r0, r1, r2, r3, r4⟩ := Blk5.free (Blk5.below HPT.out HUC.out)
          clear hHeld
          go_simp
          refine hKr11.out _ _ ?_ (fun hHeld => ?_)
          · exact HSC.out.setCell (Nat.le_refl _) _
          clear hKr11 Kr11 y0 y1 y2 y3 y4 r0 r1 r2 r3 r4
          (try simp only [Act.put, List.setIfInBounds_toArray, List.set_cons_zero, List.set_cons_succ])
          refine wpAnyH_done (by kernel_rfl) ?_ _
          clear hHeld
          have hP5 := (Blk5.below HPT.out HUC.out).set4 (u := .slice (some ⟨gN, 0, none⟩) nF nF)
          have hQ5 := (Blk5.below HQT.out HUC.out).other (g := w.heap.size) (i := 4) (u := .slice (some ⟨gN, 0, none⟩) nF nF) (by omega)
          obtain ⟨y0, y1, y2, y3, y4⟩ := Blk5.cells hP5
          obtain ⟨z0, z1, z2, z3, z4⟩ := Blk5.cells hQ5
          obtain ⟨q0, q1, q2, q3, q4⟩ := Blk5.free hQ5
          clear hP5 hQ5
          go_wp2_with fail
          refine bodyPost_ret (v := .tuple #[.agg #[.int .i64 6, .int .i64 n0, .string tx, .slice la ln lc, .slice (some ⟨gN, 0, none⟩) nF nF], .int .i64 0]) ?_ rfl ⟨Or.inr ⟨_, _, HR.out, rfl, ?_⟩, ?_⟩
          · have hres : Try.f24.results = #[.cell 6 25, .tmp 7] := by kernel_rfl
            simp only [results, hres]
            go_simp
          · obtain ⟨hd1, hd2⟩ := HD.out
            obtain ⟨he1, he2⟩ := HD0.out
            have kU : ∀ b o u, (veil B C1 ((((((w9.setCell ⟨w1.heap.size, 0, none⟩ (.int .i64 k9)).setCell ⟨w1.heap.size, 1, none⟩ (.int .i64 n9)).setCell ⟨w1.heap.size, 2, none⟩ (.string t9)).setCell ⟨w1.heap.size, 3, none⟩ (.slice la9 ln9 lc9)).setCell ⟨w1.heap.size, 4, none⟩ (.slice fa9 fn9 fc9)).alloc (.cells #[.int .i64 k9, .int .i64 n9, .string t9, .slice la9 ln9 lc9, .slice fa9 fn9 fc9] 25))).cell? ⟨b, o, none⟩ = some u → (veil B C1 wC).cell? ⟨b, o, none⟩ = some u := veil_below HUC.out
            obtain ⟨a9, c9, e9, h91, h92, hF9⟩ := flds_spl (w := veil B C1 wC) (d0 := d0) (d := d) (nm := nm) (mn := fun _ => s) (f := f) (x := (fun _ => y)) (at' := p) (gone := 0) (veil_own HOC.out (by have := HGN.out; omega)) (by rw [he1, hd1]; exact HNF.out) (by omega) (fun i hi => by obtain ⟨h1, h2, h3⟩ := he2 i hi; exact ⟨h1, h2, ok_mono h3 kU⟩) (fun i hi => by obtain ⟨h1, h2, h3⟩ := hd2 i hi; exact ⟨h1, h2, ok_mono h3 kU⟩)
            cases e9
            rw [hd1, HNF.out] at hF9
            have h91 := h91
            rw [HG.out]
            simp only [GV.spl, if_true]
            rw [← HNF.out] at hF9 ⊢
            obtain ⟨hi1, hi2, hi3⟩ := HIN.out
            have kF : ∀ W', (∀ b, b ≠ w.heap.size → b ≠ w.heap.size + 1 → W'.heap[b]? = wC.heap[b]?) → ∀ b o u, (veil B C1 wC).cell? ⟨b, o, none⟩ = some u → (veil B w.heap.size W').cell? ⟨b, o, none⟩ = some u := fun W' hh => veil_two (C := w.heap.size) (by omega) ⟨hB, by omega⟩ ⟨by omega, by omega⟩ hh
            refine ⟨la, lc, _, _, rfl, hi1, hi2, hi3, h4, h5, h91, h92, Vals.mono (Vals.mono HVLT.out kU) (kF _ (fun b n3 n6 => ?_)), Flds.mono hF9 (kF _ (fun b n3 n6 => ?_))⟩
            all_goals rw [Below.heap_setCell _ ⟨_, _, none⟩ _ b n6, Below.heap_setCell _ ⟨_, _, none⟩ _ b n6, Below.heap_setCell _ ⟨_, _, none⟩ _ b n6, Below.heap_setCell _ ⟨_, _, none⟩ _ b n6, Below.heap_setCell _ ⟨_, _, none⟩ _ b n6]
            all_goals exact Below.heap_setCell wC ⟨w.heap.size, 4, none⟩ _ b n3
          · exact (((((HSC.out.setCell (Nat.le_refl _) _).setCell (Nat.le_succ _) _).setCell (Nat.le_succ _) _).setCell (Nat.le_succ _) _).setCell (Nat.le_succ _) _).setCell (Nat.le_succ _) _
        · skip
          clear hHeld
          go_simp
          go_at_call 43
          refine (HNM.out _ HUD.out).mono ?_
          rintro e wN ⟨vN, rfl, oN, bN⟩
          obtain ⟨na, nc, rfl, hnc, hncm, hFN⟩ := own_frow oN HD.out.1
          have HUN : Hid (Below ((((((w9.setCell ⟨w1.heap.size, 0, none⟩ (.int .i64 k9)).setCell ⟨w1.heap.size, 1, none⟩ (.int .i64 n9)).setCell ⟨w1.heap.size, 2, none⟩ (.string t9)).setCell ⟨w1.heap.size, 3, none⟩ (.slice la9 ln9 lc9)).setCell ⟨w1.heap.size, 4, none⟩ (.slice fa9 fn9 fc9)).alloc (.cells #[.int .i64 k9, .int .i64 n9, .string t9, .slice la9 ln9 lc9, .slice fa9 fn9 fc9] 25)).heap.size ((((((w9.setCell ⟨w1.heap.size, 0, none⟩ (.int .i64 k9)).setCell ⟨w1.heap.size, 1, none⟩ (.int .i64 n9)).setCell ⟨w1.heap.size, 2, none⟩ (.string t9)).setCell ⟨w1.heap.size, 3, none⟩ (.slice la9 ln9 lc9)).setCell ⟨w1.heap.size, 4, none⟩ (.slice fa9 fn9 fc9)).alloc (.cells #[.int .i64 k9, .int .i64 n9, .string t9, .slice la9 ln9 lc9, .slice fa9 fn9 fc9] 25)) wN) := hidI (HUD.out.trans (bN.mono HUD.out.size))
          have HSN : Hid (Below w.heap.size w wN) := hidI (HBT.out.trans (HUN.out.mono HBT.out.size))
          have HFN : Hid (FRow wN na d) := hFN
          have HNC : Hid (1 ≤ nc ∧ nc ≤ maxLen) := hidI ⟨hnc, hncm⟩
          have c4n : wN.cell? ⟨w.heap.size, 4, none⟩ = some (.slice fa fn fc) := (Blk5.cells (Blk5.below HPT.out HUN.out)).2.2.2.2
          clear oN bN hFN hnc hncm c4d
          go_wp2_with fail
          refine hKr8.out _ _ ?_ (fun hHeld => ?_)
          · exact HSN.out
          clear hKr8 Kr8
          (try simp only [Act.put, List.setIfInBounds_toArray, List.set_cons_zero, List.set_cons_succ])
          refine wpAnyH_ready (rs := [1]) (by kernel_rfl) (by simp) ?_
          refine AllReadyH.cons (o := ⟨some 52, .load 23 (.tmp 51), 23, "change.go:42", #[⟨0, .data⟩], none⟩) rfl (fun Kr1 hKr1 => ?_) AllReadyH.nil
          clear hHeld
          go_simp
          refine hKr1.out _ _ ?_ (fun hHeld => ?_)
          · exact HSN.out
          clear hKr1 Kr1 c4n
          (try simp only [Act.put, List.setIfInBounds_toArray, List.set_cons_zero, List.set_cons_succ])
          refine wpAnyH_ready (rs := [9]) (by kernel_rfl) (by simp) ?_
          refine AllReadyH.cons (o := ⟨some 60, .call ⟨.value (.func 42), #[.tmp 52, .tmp 53, .tmp 54, .tmp 59], #[23, 3, 3, 23]⟩, 23, "change.go:42", #[⟨1, .data⟩, ⟨2, .data⟩, ⟨3, .data⟩, ⟨8, .data⟩, ⟨8, .chain⟩], none⟩) rfl (fun Kr9 hKr9 => ?_) AllReadyH.nil
          clear hHeld
          go_simp
          go_at_call 42
          refine (HCH.out wN na nc HUN.out HFN.out HNC.out.1 HNC.out.2).mono ?_
          rintro e wC ⟨xs, hxs, rfl, oC, bC⟩
          have HUC : Hid (Below ((((((w9.setCell ⟨w1.heap.size, 0, none⟩ (.int .i64 k9)).setCell ⟨w1.heap.size, 1, none⟩ (.int .i64 n9)).setCell ⟨w1.heap.size, 2, none⟩ (.string t9)).setCell ⟨w1.heap.size, 3, none⟩ (.slice la9 ln9 lc9)).setCell ⟨w1.heap.size, 4, none⟩ (.slice fa9 fn9 fc9)).alloc (.cells #[.int .i64 k9, .int .i64 n9, .string t9, .slice la9 ln9 lc9, .slice fa9 fn9 fc9] 25)).heap.size ((((((w9.setCell ⟨w1.heap.size, 0, none⟩ (.int .i64 k9)).setCell ⟨w1.heap.size, 1, none⟩ (.int .i64 n9)).setCell ⟨w1.heap.size, 2, none⟩ (.string t9)).setCell ⟨w1.heap.size, 3, none⟩ (.slice la9 ln9 lc9)).setCell ⟨w1.heap.size, 4, none⟩ (.slice fa9 fn9 fc9)).alloc (.cells #[.int .i64 k9, .int .i64 n9, .string t9, .slice la9 ln9 lc9, .slice fa9 fn9 fc9] 25)) wC) := hidI (HUN.out.trans (bC.mono HUN.out.size))
          have HSC : Hid (Below w.heap.size w wC) := hidI (HBT.out.trans (HUC.out.mono HBT.out.size))
          have HOC : Hid (wC.ownsRow wN.heap.size 45 6 _ _ ((fldCells d0).take (p * 6) ++ (fldCells d ++ (fldCells d0).drop ((p + 0) * 6)))) := hidI (hxs ▸ oC)
          obtain ⟨gN, hgN⟩ : ∃ gN, gN = wN.heap.size := ⟨_, rfl⟩
          have HGN : Hid (C1 ≤ gN ∧ gN = wN.heap.size) := hidI ⟨by have := HUN.out.size; omega, hgN⟩
          rw [← hgN] at HOC ⊢
          clear oC bC hxs hgN
          go_wp2_with fail
          refine hKr9.out _ _ ?_ (fun hHeld => ?_)
          · exact HSC.out
          clear hKr9 Kr9
          (try simp only [Act.put, List.setIfInBounds_toArray, List.set_cons_zero, List.set_cons_succ])
          refine wpAnyH_take (i := 10) (oi := ⟨some 61, .fieldAddr 25 (.tmp 3) 4, 0, "change.go:42", #[⟨0, .phase⟩, ⟨1, .phase⟩, ⟨2, .phase⟩, ⟨3, .phase⟩, ⟨4, .phase⟩, ⟨5, .phase⟩, ⟨6, .phase⟩, ⟨7, .phase⟩, ⟨8, .phase⟩, ⟨9, .phase⟩], none⟩) (v := .pointer (some ⟨w.heap.size, 4, none⟩)) rfl (by kernel_rfl) (by kernel_rfl) (by kernel_rfl) (fun _ _ _ h => h) (Or.inl ⟨by rfl, ?_⟩) hHeld ?_
          · intro wq hSq
            have s0 := hSq
            clear hSq hHeld
            go_simp
          (try simp only [Act.put, List.setIfInBounds_toArray, List.set_cons_zero, List.set_cons_succ])
          refine wpAnyH_ready (rs := [11]) (by kernel_rfl) (by simp) ?_
          refine AllReadyH.cons (o := ⟨none, .store 23 (.tmp 61) (.tmp 60), 0, "change.go:42", #[⟨10, .data⟩, ⟨9, .data⟩, ⟨9, .chain⟩, ⟨0, .phase⟩, ⟨1, .phase⟩, ⟨2, .phase⟩, ⟨3, .phase⟩, ⟨4, .phase⟩, ⟨5, .phase⟩, ⟨6, .phase⟩, ⟨7, .phase⟩, ⟨8, .phase⟩, ⟨9, .phase⟩], none⟩) rfl (fun Kr11 hKr11 => ?_) AllReadyH.nil
          obtain ⟨y0, y1, y2, y3, y4⟩ := Blk5.cells (Blk5.below HPT.out HUC.out)
          obtain ⟨r0, r1, r2, r3, r4⟩ := Blk5.free (Blk5.below HPT.out HUC.out)
          clear hHeld
          go_simp
          refine hKr11.out _ _ ?_ (fun hHeld => ?_)
          · exact HSC.out.setCell (Nat.le_refl _) _
          clear hKr11 Kr11 y0 y1 y2 y3 y4 r0 r1 r2 r3 r4
          (try simp only [Act.put, List.setIfInBounds_toArray, List.set_cons_zero, List.set_cons_succ])
          refine wpAnyH_done (by kernel_rfl) ?_ _
          clear hHeld
          have hP5 := (Blk5.below HPT.out HUC.out).set4 (u := .slice (some ⟨gN, 0, none⟩) nF nF)
          have hQ5 := (Blk5.below HQT.out HUC.out).other (g := w.heap.size) (i := 4) (u := .slice (some ⟨gN, 0, none⟩) nF nF) (by omega)
          obtain ⟨y0, y1, y2, y3, y4⟩ := Blk5.cells hP5
          obtain ⟨z0, z1, z2, z3, z4⟩ := Blk5.cells hQ5
          obtain ⟨q0, q1, q2, q3, q4⟩ := Blk5.free hQ5
          clear hP5 hQ5
          go_wp2_with fail
          refine bodyPost_ret (v := .tuple #[.agg #[.int .i64 6, .int .i64 n0, .string tx, .slice la ln lc, .slice (some ⟨gN, 0, none⟩) nF nF], .int .i64 0]) ?_ rfl ⟨Or.inr ⟨_, _, HR.out, rfl, ?_⟩, ?_⟩
          · have hres : Try.f24.results = #[.cell 6 25, .tmp 7] := by kernel_rfl
            simp only [results, hres]
            go_simp
          · obtain ⟨hd1, hd2⟩ := HD.out
            obtain ⟨he1, he2⟩ := HD0.out
            have kU : ∀ b o u, (veil B C1 ((((((w9.setCell ⟨w1.heap.size, 0, none⟩ (.int .i64 k9)).setCell ⟨w1.heap.size, 1, none⟩ (.int .i64 n9)).setCell ⟨w1.heap.size, 2, none⟩ (.string t9)).setCell ⟨w1.heap.size, 3, none⟩ (.slice la9 ln9 lc9)).setCell ⟨w1.heap.size, 4, none⟩ (.slice fa9 fn9 fc9)).alloc (.cells #[.int .i64 k9, .int .i64 n9, .string t9, .slice la9 ln9 lc9, .slice fa9 fn9 fc9] 25))).cell? ⟨b, o, none⟩ = some u → (veil B C1 wC).cell? ⟨b, o, none⟩ = some u := veil_below HUC.out
            obtain ⟨a9, c9, e9, h91, h92, hF9⟩ := flds_spl (w := veil B C1 wC) (d0 := d0) (d := d) (nm := nm) (mn := fun _ => s) (f := f) (x := (fun _ => y)) (at' := p) (gone := 0) (veil_own HOC.out (by have := HGN.out; omega)) (by rw [he1, hd1]; exact HNF.out) (by omega) (fun i hi => by obtain ⟨h1, h2, h3⟩ := he2 i hi; exact ⟨h1, h2, ok_mono h3 kU⟩) (fun i hi => by obtain ⟨h1, h2, h3⟩ := hd2 i hi; exact ⟨h1, h2, ok_mono h3 kU⟩)
            cases e9
            rw [hd1, HNF.out] at hF9
            have h91 := h91
            rw [HG.out]
            simp only [GV.spl, if_true]
            rw [← HNF.out] at hF9 ⊢
            obtain ⟨hi1, hi2, hi3⟩ := HIN.out
            have kF : ∀ W', (∀ b, b ≠ w.heap.size → b ≠ w.heap.size + 1 → W'.heap[b]? = wC.heap[b]?) → ∀ b o u, (veil B C1 wC).cell? ⟨b, o, none⟩ = some u → (veil B w.heap.size W').cell? ⟨b, o, none⟩ = some u := fun W' hh => veil_two (C := w.heap.size) (by omega) ⟨hB, by omega⟩ ⟨by omega, by omega⟩ hh
            refine ⟨la, lc, _, _, rfl, hi1, hi2, hi3, h4, h5, h91, h92, Vals.mono (Vals.mono HVLT.out kU) (kF _ (fun b n3 n6 => ?_)), Flds.mono hF9 (kF _ (fun b n3 n6 => ?_))⟩
            all_goals rw [Below.heap_setCell _ ⟨_, _, none⟩ _ b n6, Below.heap_setCell _ ⟨_, _, none⟩ _ b n6, Below.heap_setCell _ ⟨_, _, none⟩ _ b n6, Below.heap_setCell _ ⟨_, _, none⟩ _ b n6, Below.heap_setCell _ ⟨_, _, none⟩ _ b n6]
            all_goals exact Below.heap_setCell wC ⟨w.heap.size, 4, none⟩ _ b n3
          · exact (((((HSC.out.setCell (Nat.le_refl _) _).setCell (Nat.le_succ _) _).setCell (Nat.le_succ _) _).setCell (Nat.le_succ _) _).setCell (Nat.le_succ _) _).setCell (Nat.le_succ _) _
  | hit p =>
    have hhas := loc_hit hloc
    have HHAS : Hid (g.has p) := hhas
    have HPA : Hid (∀ W, Below w.heap.size w W → Calls Try.prog 41 #[.agg #[.int .i64 k, .int .i64 n0, .string tx, .slice la ln lc, .slice fa fn fc], .int .i64 p] W fun e w' => ∃ v', e = .returned v' ∧ Lies (veil B w.heap.size w) (g.part p) v' ∧ Below W.heap.size W w') := hidI (fun W hW => part_any g p _ (veil B w.heap.size w) W HL.out (fun b o u h => below_keeps hW b o u (veil_off b o u h)) hhas (lies_few (lies_veil HL.out) HFIT.out.2))
    rw [hloc] at HF hR'
    simp only at hR'
    unfold Loc.end at HF
    rw [HG.out] at hhas
    clear hloc
    rcases hhas with ⟨rfl, hpf⟩ | ⟨rfl, hpf⟩
    · have hpq : p + 1 ≤ fn := by omega
      go_enter Try.func24, Try.ntmps24
      go_wp2_with fail
      have Y0 : Below (w.heap.size + 2) ((w.alloc (.cells #[.int .i64 6, .int .i64 n0, .string tx, .slice la ln lc, .slice fa fn fc] 25)).alloc (.cells #[.int .i64 0, .int .i64 0, .string ⟨#[]⟩, .slice none 0 0, .slice none 0 0] 25)) ((w.alloc (.cells #[.int .i64 6, .int .i64 n0, .string tx, .slice la ln lc, .slice fa fn fc] 25)).alloc (.cells #[.int .i64 0, .int .i64 0, .string ⟨#[]⟩, .slice none 0 0, .slice none 0 0] 25)).drew := (Below.refl _ _).drew
      have hS := HSS.out _ Y0
      go_region_held3 (fun u => u.cell? ⟨w.heap.size, 0, none⟩ = some (.int .i64 6) ∧ u.cell? ⟨w.heap.size, 1, none⟩ = some (.int .i64 n0) ∧ u.cell? ⟨w.heap.size, 2, none⟩ = some (.string tx) ∧ u.cell? ⟨w.heap.size, 3, none⟩ = some (.slice la ln lc) ∧ u.cell? ⟨w.heap.size, 4, none⟩ = some (.slice fa fn fc) ∧ u.cell? ⟨sb, so, none⟩ = some (.string s)) (with_reducible exact hS) (first | (go_at_call 40; refine (HF.out _ (HBX.out.trans (Y0.mono (by omega)))).mono ?_; rintro e w1 ⟨rfl, b1⟩; have Y1 := Y0.trans (b1.mono (by simp)); have hS := HSS.out _ Y1))
      have hb1 : Below w.heap.size w w1 := HBX.out.trans (Y1.mono (by omega))
      obtain ⟨hP1, hQ1⟩ := HBK.out _ Y1
      have HP1 : Hid (Blk5 w1 w.heap.size (.int .i64 6) (.int .i64 n0) (.string tx) (.slice la ln lc) (.slice fa fn fc)) := hP1
      have HQ1 : Hid (Blk5 w1 (w.heap.size + 1) (.int .i64 0) (.int .i64 0) (.string ⟨#[]⟩) (.slice none 0 0) (.slice none 0 0)) := hQ1
      have hs1 : w.heap.size + 2 ≤ w1.heap.size := by have := Y1.size; simpa using this
      clear hS b1 Y0 Y1 hP1 hQ1
      have hbu : Below w1.heap.size w1 (w1.alloc (.cells #[.int .i64 6, .int .i64 0, .string ⟨#[]⟩, .slice none 0 0, .slice none 0 0] 25)) := (Below.refl _ _).alloc (Nat.le_refl _) _
      have HI0 : Hid (Blk5 (w1.alloc (.cells #[.int .i64 6, .int .i64 0, .string ⟨#[]⟩, .slice none 0 0, .slice none 0 0] 25)) w1.heap.size (.int .i64 6) (.int .i64 0) (.string ⟨#[]⟩) (.slice none 0 0) (.slice none 0 0)) := Blk5.new w1 _ _ _ _ _
      have HPT0 : Hid (Blk5 (w1.alloc (.cells #[.int .i64 6, .int .i64 0, .string ⟨#[]⟩, .slice none 0 0, .slice none 0 0] 25)) w.heap.size (.int .i64 6) (.int .i64 n0) (.string tx) (.slice la ln lc) (.slice fa fn fc)) := Blk5.below HP1.out hbu
      have HQT0 : Hid (Blk5 (w1.alloc (.cells #[.int .i64 6, .int .i64 0, .string ⟨#[]⟩, .slice none 0 0, .slice none 0 0] 25)) (w.heap.size + 1) (.int .i64 0) (.int .i64 0) (.string ⟨#[]⟩) (.slice none 0 0) (.slice none 0 0)) := Blk5.below HQ1.out hbu
      have hbT0 : Below w.heap.size w (w1.alloc (.cells #[.int .i64 6, .int .i64 0, .string ⟨#[]⟩, .slice none 0 0, .slice none 0 0] 25)) := hb1.trans (hbu.mono hb1.size)
      obtain ⟨c0, c1', c2, c3, c4⟩ := Blk5.cells HPT0.out
      have HBT0 : Hid (Below w.heap.size w (w1.alloc (.cells #[.int .i64 6, .int .i64 0, .string ⟨#[]⟩, .slice none 0 0, .slice none 0 0] 25))) := hbT0
      clear hbu HP1 HQ1 hR hb1 hbT0
      go_wp2_with fail
      refine (HPA.out _ HBT0.out).mono ?_
      rintro e w2 ⟨v2, rfl, hL2, b2⟩
      obtain ⟨k2, n2, t2, la2, ln2, lc2, fa2, fn2, fc2, rfl⟩ := hL2.agg
      have HL2 : Hid (Lies (veil B w.heap.size w) (g.part p) _) := hL2
      have hI1 := Blk5.below HI0.out b2
      have hb2 : Below w.heap.size w w2 := HBT0.out.trans (b2.mono HBT0.out.size)
      have hw2s : w1.heap.size + 1 ≤ w2.heap.size := by have := b2.size; simpa using this
      have HX : Hid (∀ W3, World.setCells w2 w1.heap.size 0 [.int .i64 k2, .int .i64 n2, .string t2, .slice la2 ln2 lc2, .slice fa2 fn2 fc2] = W3 → Blk5 W3 w1.heap.size (.int .i64 k2) (.int .i64 n2) (.string t2) (.slice la2 ln2 lc2) (.slice fa2 fn2 fc2) ∧ Blk5 W3 w.heap.size (.int .i64 6) (.int .i64 n0) (.string tx) (.slice la ln lc) (.slice fa fn fc) ∧ Blk5 W3 (w.heap.size + 1) (.int .i64 0) (.int .i64 0) (.string ⟨#[]⟩) (.slice none 0 0) (.slice none 0 0) ∧ Below w.heap.size w W3 ∧ W3.heap.size = w2.heap.size) := hidI (fun W3 hW3 => by
        have e : put5x w2 w1.heap.size (.int .i64 k2) (.int .i64 n2) (.string t2) (.slice la2 ln2 lc2) (.slice fa2 fn2 fc2) = W3 := hW3
        rw [← e]
        refine ⟨hI1.putx, (Blk5.below HPT0.out b2).putx_other (by omega), (Blk5.below HQT0.out b2).putx_other (by omega), below_putx hb2 (by omega), ?_⟩
        unfold put5x
        simp)
      have hth : w2.there w1.heap.size 0 (#[.int .i64 k2, .int .i64 n2, .string t2, .slice la2 ln2 lc2, .slice fa2 fn2 fc2] : Array Value).size := there_five hI1
      have hall : (#[.int .i64 k2, .int .i64 n2, .string t2, .slice la2 ln2 lc2, .slice fa2 fn2 fc2] : Array Value).all (·.oneCell') = true := by simp [Value.oneCell']
      have hinf : (Try.prog.info? 25).map (·.size) = some (#[.int .i64 k2, .int .i64 n2, .string t2, .slice la2 ln2 lc2, .slice fa2 fn2 fc2] : Array Value).size := sizeVal
      have HTH : Hid (w2.there w1.heap.size 0 (#[.int .i64 k2, .int .i64 n2, .string t2, .slice la2 ln2 lc2, .slice fa2 fn2 fc2] : Array Value).size) := hth
      clear hL2 hI1 hb2 b2 HI0 HPT0 HQT0 HBT0 c0 c1' c2 c3 c4 hth
      by_cases hr0 : r = []
      · have hN1' : ¬ (1 : Int) < (N : Int) := by have := HN.out; rw [hr0] at this; simp at this; omega
        rw [if_pos hr0] at hR'
        have HR : Hid (R = .ok (g.spl p 1 s c x)) := hR'
        clear hR'
        go_wp2_with (with_reducible show wpList _ _ _ (⟨_, Op.store 25 _ _, _, _, _, _⟩ :: _) _ _; refine wpList_store_mid rfl 25 _ _ rfl w1.heap.size 0 #[.int .i64 k2, .int .i64 n2, .string t2, .slice la2 ln2 lc2, .slice fa2 fn2 fc2] rfl rfl HTH.out hinf hall ?_; generalize hW3 : World.setCells _ _ _ _ = W3; obtain ⟨hI, hP, hQ, hbT, hW3s⟩ := HX.out W3 hW3; obtain ⟨c0, c1', c2, c3, c4⟩ := Blk5.cells hP; have HPT : Hid (Blk5 W3 w.heap.size (.int .i64 6) (.int .i64 n0) (.string tx) (.slice la ln lc) (.slice fa fn fc)) := hidI hP; have HQT : Hid (Blk5 W3 (w.heap.size + 1) (.int .i64 0) (.int .i64 0) (.string ⟨#[]⟩) (.slice none 0 0) (.slice none 0 0)) := hidI hQ; clear hI hP hQ hW3)
        obtain ⟨C1, hC1e⟩ : ∃ C1, C1 = w.heap.size + 2 := ⟨_, rfl⟩
        have hC1 : w.heap.size + 2 ≤ C1 := by omega
        have hC1u : C1 ≤ W3.heap.size := by omega
        clear hC1e
        have HVFT : Hid (Flds (veil B C1 W3) fa fn nm f) := hidI (Flds.mono HVF.out (veil_more (Nat.le_refl _) hbT))
        have HVLT : Hid (Vals (veil B C1 W3) la ln l0) := hidI (Vals.mono HVL.out (veil_more (Nat.le_refl _) hbT))
        have HMT : Hid (Vals (veil B C1 W3) ma c x) := hidI (Vals.mono HM.out (veil_more (Nat.le_refl _) hbT))
        obtain ⟨d, hdl, hd⟩ := vals_fls s hssz c HMT.out
        obtain ⟨d0, hd0l, hd0r, hd0o, hd0i⟩ := flds_row fn HVFT.out
        have HNM : Hid (∀ W, Below W3.heap.size W3 W → Calls Try.prog 43 #[.string s, .slice ma c mc] W fun e w' => ∃ v', e = .returned v' ∧ w'.ownsRow W.heap.size 45 6 v' c (fldCells d) ∧ Below W.heap.size W w') := hidI (fun W hW => by
          have h := named_any s d ma mc W (fun i hi => by
            obtain ⟨h1, _, h3, b, o, h4, h5⟩ := hd i hi
            exact ⟨h1, b, o, h4, h5.mono h3.1 (fun b o u h => below_keeps hW b o u (veil_off b o u h))⟩) (by omega) hmc (by omega)
          rw [hdl] at h
          exact h)
        obtain ⟨nF, hnF⟩ : ∃ nF, nF = fn - 1 + c := ⟨_, rfl⟩
        have HCH : Hid (∀ W na nc, Below W3.heap.size W3 W → FRow W na d → c ≤ nc → nc ≤ maxLen → Calls Try.prog 42 #[.slice fa fn fc, .int .i64 (p : Nat), .int .i64 (1 : Nat), .slice na c nc] W fun e w' => ∃ xs, xs = (fldCells d0).take (p * 6) ++ (fldCells d ++ (fldCells d0).drop ((p + 1) * 6)) ∧ e = .returned (.slice (some ⟨W.heap.size, 0, none⟩) nF nF) ∧ w'.ownsRow W.heap.size 45 6 (.slice (some ⟨W.heap.size, 0, none⟩) nF nF) nF xs ∧ Below W.heap.size W w') := hidI (fun W na nc hW hr h1 h2 => by
          rw [hnF]
          exact changedF (fldCells d0) (fldCells d) fa na fn fc c nc p 1 W (by rw [fldCells_len, hd0l]) (by rw [fldCells_len, hdl])
            (by
              rcases hd0r with h | ⟨b, o, e, hc⟩
              · exact Or.inl (by rw [h]; rfl)
              · exact Or.inr ⟨b, o, e, fun k u hk => below_keeps hW _ _ _ (veil_off _ _ _ (hc k u hk))⟩)
            (by
              rcases hr with h | ⟨b, o, e, hc⟩
              · exact Or.inl (by rw [h]; rfl)
              · exact Or.inr ⟨b, o, e, hc⟩)
            (fldCells_one d0) (fldCells_one d) h6 h7 h1 h2 hpq (by omega) (by omega))
        have HNF : Hid (nF = fn - 1 + c) := hnF
        have HD : Hid (d.length = c ∧ ∀ i (hi : i < d.length), (d[i]'hi).nm = s ∧ (d[i]'hi).g = x i ∧ (d[i]'hi).ok (veil B C1 W3)) := hidI ⟨hdl, fun i hi => by obtain ⟨h1, h2, h3, _⟩ := hd i hi; exact ⟨h1, h2, h3⟩⟩
        have HD0 : Hid (d0.length = fn ∧ ∀ i (hi : i < d0.length), (d0[i]'hi).nm = nm i ∧ (d0[i]'hi).g = f i ∧ (d0[i]'hi).ok (veil B C1 W3)) := hidI ⟨hd0l, fun i hi => by
          have := hd0i i (by omega)
          rw [nmOf_at hi, gOf_at hi] at this
          exact ⟨this.1, this.2, hd0o _ (List.getElem_mem hi)⟩⟩
        have hUd : Below W3.heap.size W3 W3.drew := (Below.refl _ _).drew
        have HUD : Hid _ := hUd
        have HBT : Hid (Below w.heap.size w W3) := hbT
        have hSu : Below w.heap.size w W3.drew := hbT.drew
        have c4d : W3.drew.cell? ⟨w.heap.size, 4, none⟩ = some (.slice fa fn fc) := (drew_cell _ _).trans c4
        clear hdl hd hd0l hd0r hd0o hd0i hUd hbT c0 c1' c2 c3 c4 hnF
        refine wp_region_held_drew (S := fun u => Below w.heap.size w u) (by kernel_rfl) hSu (fun hHeld => ?_)
        clear hSu
        refine wpAnyH_take (i := 0) (oi := ⟨some 51, .fieldAddr 25 (.tmp 3) 4, 0, "change.go:42", #[], none⟩) (v := .pointer (some ⟨w.heap.size, 4, none⟩)) rfl (by kernel_rfl) (by kernel_rfl) (by kernel_rfl) (fun _ _ _ h => h) (Or.inl ⟨by rfl, ?_⟩) hHeld ?_
        · intro wq hSq
          have s0 := hSq
          clear hSq hHeld
          go_simp
        (try simp only [Act.put, List.setIfInBounds_toArray, List.set_cons_zero, List.set_cons_succ])
        refine wpAnyH_take (i := 2) (oi := ⟨some 53, .move (.tmp 8), 3, "change.go:42", #[], none⟩) (v := .int .i64 (p : Nat)) rfl (by kernel_rfl) (by kernel_rfl) (by kernel_rfl) (fun _ _ _ h => h) (Or.inl ⟨by rfl, ?_⟩) hHeld ?_
        · intro wq hSq
          have s0 := hSq
          clear hSq hHeld
          go_simp
        (try simp only [Act.put, List.setIfInBounds_toArray, List.set_cons_zero, List.set_cons_succ])
        refine wpAnyH_take (i := 3) (oi := ⟨some 54, .move (.tmp 11), 3, "change.go:42", #[], none⟩) (v := .int .i64 (1 : Nat)) rfl (by kernel_rfl) (by kernel_rfl) (by kernel_rfl) (fun _ _ _ h => h) (Or.inl ⟨by rfl, ?_⟩) hHeld ?_
        · intro wq hSq
          have s0 := hSq
          clear hSq hHeld
          go_simp
        (try simp only [Act.put, List.setIfInBounds_toArray, List.set_cons_zero, List.set_cons_succ])
        refine wpAnyH_take (i := 4) (oi := ⟨some 55, .move (.tmp 1), 40, "change.go:42", #[], none⟩) (v := .slice (some ⟨sb, so, none⟩) N sc) rfl (by kernel_rfl) (by kernel_rfl) (by kernel_rfl) (fun _ _ _ h => h) (Or.inl ⟨by rfl, ?_⟩) hHeld ?_
        · intro wq hSq
          have s0 := hSq
          clear hSq hHeld
          go_simp
        (try simp only [Act.put, List.setIfInBounds_toArray, List.set_cons_zero, List.set_cons_succ])
        refine wpAnyH_take (i := 5) (oi := ⟨some 56, .indexAddr 40 (.tmp 55) (.const (.int .i64 0)), 0, "change.go:42", #[⟨4, .data⟩], none⟩) (v := .pointer (some ⟨sb, so, none⟩)) rfl (by kernel_rfl) (by kernel_rfl) (by kernel_rfl) (fun _ _ _ h => h) (Or.inl ⟨by rfl, ?_⟩) hHeld ?_
        · intro wq hSq
          have s0 := hSq
          clear hSq hHeld
          go_simp
        (try simp only [Act.put, List.setIfInBounds_toArray, List.set_cons_zero, List.set_cons_succ])
        refine wpAnyH_take (i := 6) (oi := ⟨some 57, .load 9 (.tmp 56), 9, "change.go:42", #[⟨5, .data⟩], none⟩) (v := .string s) rfl (by kernel_rfl) (by kernel_rfl) (by kernel_rfl) (fun _ _ _ h => h) (Or.inl ⟨by rfl, ?_⟩) hHeld ?_
        · intro wq hSq
          have s0 := hSq
          clear hSq hHeld
          have es := below_keeps s0 _ _ _ HSTR.out
          go_simp
        (try simp only [Act.put, List.setIfInBounds_toArray, List.set_cons_zero, List.set_cons_succ])
        refine wpAnyH_take (i := 7) (oi := ⟨some 58, .move (.tmp 2), 22, "change.go:42", #[], none⟩) (v := .slice ma c mc) rfl (by kernel_rfl) (by kernel_rfl) (by kernel_rfl) (fun _ _ _ h => h) (Or.inl ⟨by rfl, ?_⟩) hHeld ?_
        · intro wq hSq
          have s0 := hSq
          clear hSq hHeld
          go_simp
        (try simp only [Act.put, List.setIfInBounds_toArray, List.set_cons_zero, List.set_cons_succ])
        refine wpAnyH_ready (rs := [1, 8]) (by kernel_rfl) (by simp) ?_
        refine AllReadyH.cons (o := ⟨some 52, .load 23 (.tmp 51), 23, "change.go:42", #[⟨0, .data⟩], none⟩) rfl (fun Kr1 hKr1 => ?_) (AllReadyH.cons (o := ⟨some 59, .call ⟨.value (.func 43), #[.tmp 57, .tmp 58], #[9, 22]⟩, 23, "change.go:42", #[⟨6, .data⟩, ⟨7, .data⟩], none⟩) rfl (fun Kr8 hKr8 => ?_) AllReadyH.nil)
        · skip
          clear hHeld
          go_simp
          refine hKr1.out _ _ ?_ (fun hHeld => ?_)
          · exact HBT.out.drew
          clear hKr1 Kr1 c4d
          (try simp only [Act.put, List.setIfInBounds_toArray, List.set_cons_zero, List.set_cons_succ])
          refine wpAnyH_ready (rs := [8]) (by kernel_rfl) (by simp) ?_
          refine AllReadyH.cons (o := ⟨some 59, .call ⟨.value (.func 43), #[.tmp 57, .tmp 58], #[9, 22]⟩, 23, "change.go:42", #[⟨6, .data⟩, ⟨7, .data⟩], none⟩) rfl (fun Kr8 hKr8 => ?_) AllReadyH.nil
          clear hHeld
          go_simp
          go_at_call 43
          refine (HNM.out _ HUD.out).mono ?_
          rintro e wN ⟨vN, rfl, oN, bN⟩
          obtain ⟨na, nc, rfl, hnc, hncm, hFN⟩ := own_frow oN HD.out.1
          have HUN : Hid (Below W3.heap.size W3 wN) := hidI (HUD.out.trans (bN.mono HUD.out.size))
          have HSN : Hid (Below w.heap.size w wN) := hidI (HBT.out.trans (HUN.out.mono HBT.out.size))
          have HFN : Hid (FRow wN na d) := hFN
          have HNC : Hid (c ≤ nc ∧ nc ≤ maxLen) := hidI ⟨hnc, hncm⟩
          have c4n : wN.cell? ⟨w.heap.size, 4, none⟩ = some (.slice fa fn fc) := (Blk5.cells (Blk5.below HPT.out HUN.out)).2.2.2.2
          clear oN bN hFN hnc hncm
          go_wp2_with fail
          refine hKr8.out _ _ ?_ (fun hHeld => ?_)
          · exact HSN.out
          clear hKr8 Kr8 c4n
          (try simp only [Act.put, List.setIfInBounds_toArray, List.set_cons_zero, List.set_cons_succ])
          refine wpAnyH_ready (rs := [9]) (by kernel_rfl) (by simp) ?_
          refine AllReadyH.cons (o := ⟨some 60, .call ⟨.value (.func 42), #[.tmp 52, .tmp 53, .tmp 54, .tmp 59], #[23, 3, 3, 23]⟩, 23, "change.go:42", #[⟨1, .data⟩, ⟨2, .data⟩, ⟨3, .data⟩, ⟨8, .data⟩, ⟨8, .chain⟩], none⟩) rfl (fun Kr9 hKr9 => ?_) AllReadyH.nil
          clear hHeld
          go_simp
          go_at_call 42
          refine (HCH.out wN na nc HUN.out HFN.out HNC.out.1 HNC.out.2).mono ?_
          rintro e wC ⟨xs, hxs, rfl, oC, bC⟩
          have HUC : Hid (Below W3.heap.size W3 wC) := hidI (HUN.out.trans (bC.mono HUN.out.size))
          have HSC : Hid (Below w.heap.size w wC) := hidI (HBT.out.trans (HUC.out.mono HBT.out.size))
          have HOC : Hid (wC.ownsRow wN.heap.size 45 6 _ _ ((fldCells d0).take (p * 6) ++ (fldCells d ++ (fldCells d0).drop ((p + 1) * 6)))) := hidI (hxs ▸ oC)
          obtain ⟨gN, hgN⟩ : ∃ gN, gN = wN.heap.size := ⟨_, rfl⟩
          have HGN : Hid (C1 ≤ gN ∧ gN = wN.heap.size) := hidI ⟨by have := HUN.out.size; omega, hgN⟩
          rw [← hgN] at HOC ⊢
          clear oC bC hxs hgN
          go_wp2_with fail
          refine hKr9.out _ _ ?_ (fun hHeld => ?_)
          · exact HSC.out
          clear hKr9 Kr9
          (try simp only [Act.put, List.setIfInBounds_toArray, List.set_cons_zero, List.set_cons_succ])
          refine wpAnyH_take (i := 10) (oi := ⟨some 61, .fieldAddr 25 (.tmp 3) 4, 0, "change.go:42", #[⟨0, .phase⟩, ⟨1, .phase⟩, ⟨2, .phase⟩, ⟨3, .phase⟩, ⟨4, .phase⟩, ⟨5, .phase⟩, ⟨6, .phase⟩, ⟨7, .phase⟩, ⟨8, .phase⟩, ⟨9, .phase⟩], none⟩) (v := .pointer (some ⟨w.heap.size, 4, none⟩)) rfl (by kernel_rfl) (by kernel_rfl) (by kernel_rfl) (fun _ _ _ h => h) (Or.inl ⟨by rfl, ?_⟩) hHeld ?_
          · intro wq hSq
            have s0 := hSq
            clear hSq hHeld
            go_simp
          (try simp only [Act.put, List.setIfInBounds_toArray, List.set_cons_zero, List.set_cons_succ])
          refine wpAnyH_ready (rs := [11]) (by kernel_rfl) (by simp) ?_
          refine AllReadyH.cons (o := ⟨none, .store 23 (.tmp 61) (.tmp 60), 0, "change.go:42", #[⟨10, .data⟩, ⟨9, .data⟩, ⟨9, .chain⟩, ⟨0, .phase⟩, ⟨1, .phase⟩, ⟨2, .phase⟩, ⟨3, .phase⟩, ⟨4, .phase⟩, ⟨5, .phase⟩, ⟨6, .phase⟩, ⟨7, .phase⟩, ⟨8, .phase⟩, ⟨9, .phase⟩], none⟩) rfl (fun Kr11 hKr11 => ?_) AllReadyH.nil
          obtain ⟨y0, y1, y2, y3, y4⟩ := Blk5.cells (Blk5.below HPT.out HUC.out)
          obtain ⟨r0, r1, r2, r3, r4⟩ := Blk5.free (Blk5.below HPT.out HUC.out)
          clear hHeld
          go_simp
          refine hKr11.out _ _ ?_ (fun hHeld => ?_)
          · exact HSC.out.setCell (Nat.le_refl _) _
          clear hKr11 Kr11 y0 y1 y2 y3 y4 r0 r1 r2 r3 r4
          (try simp only [Act.put, List.setIfInBounds_toArray, List.set_cons_zero, List.set_cons_succ])
          refine wpAnyH_done (by kernel_rfl) ?_ _
          clear hHeld
          have hP5 := (Blk5.below HPT.out HUC.out).set4 (u := .slice (some ⟨gN, 0, none⟩) nF nF)
          have hQ5 := (Blk5.below HQT.out HUC.out).other (g := w.heap.size) (i := 4) (u := .slice (some ⟨gN, 0, none⟩) nF nF) (by omega)
          obtain ⟨y0, y1, y2, y3, y4⟩ := Blk5.cells hP5
          obtain ⟨z0, z1, z2, z3, z4⟩ := Blk5.cells hQ5
          obtain ⟨q0, q1, q2, q3, q4⟩ := Blk5.free hQ5
          clear hP5 hQ5
          go_wp2_with fail
          refine bodyPost_ret (v := .tuple #[.agg #[.int .i64 6, .int .i64 n0, .string tx, .slice la ln lc, .slice (some ⟨gN, 0, none⟩) nF nF], .int .i64 0]) ?_ rfl ⟨Or.inr ⟨_, _, HR.out, rfl, ?_⟩, ?_⟩
          · have hres : Try.f24.results = #[.cell 6 25, .tmp 7] := by kernel_rfl
            simp only [results, hres]
            go_simp
          · obtain ⟨hd1, hd2⟩ := HD.out
            obtain ⟨he1, he2⟩ := HD0.out
            have kU : ∀ b o u, (veil B C1 W3).cell? ⟨b, o, none⟩ = some u → (veil B C1 wC).cell? ⟨b, o, none⟩ = some u := veil_below HUC.out
            obtain ⟨a9, c9, e9, h91, h92, hF9⟩ := flds_spl (w := veil B C1 wC) (d0 := d0) (d := d) (nm := nm) (mn := fun _ => s) (f := f) (x := x) (at' := p) (gone := 1) (veil_own HOC.out (by have := HGN.out; omega)) (by rw [he1, hd1]; exact HNF.out) (by omega) (fun i hi => by obtain ⟨h1, h2, h3⟩ := he2 i hi; exact ⟨h1, h2, ok_mono h3 kU⟩) (fun i hi => by obtain ⟨h1, h2, h3⟩ := hd2 i hi; exact ⟨h1, h2, ok_mono h3 kU⟩)
            cases e9
            rw [hd1, HNF.out] at hF9
            have h91 := h91
            rw [HG.out]
            simp only [GV.spl, if_true]
            rw [← HNF.out] at hF9 ⊢
            obtain ⟨hi1, hi2, hi3⟩ := HIN.out
            have kF : ∀ W', (∀ b, b ≠ w.heap.size → b ≠ w.heap.size + 1 → W'.heap[b]? = wC.heap[b]?) → ∀ b o u, (veil B C1 wC).cell? ⟨b, o, none⟩ = some u → (veil B w.heap.size W').cell? ⟨b, o, none⟩ = some u := fun W' hh => veil_two (C := w.heap.size) (by omega) ⟨hB, by omega⟩ ⟨by omega, by omega⟩ hh
            refine ⟨la, lc, _, _, rfl, hi1, hi2, hi3, h4, h5, h91, h92, Vals.mono (Vals.mono HVLT.out kU) (kF _ (fun b n3 n6 => ?_)), Flds.mono hF9 (kF _ (fun b n3 n6 => ?_))⟩
            all_goals rw [Below.heap_setCell _ ⟨_, _, none⟩ _ b n6, Below.heap_setCell _ ⟨_, _, none⟩ _ b n6, Below.heap_setCell _ ⟨_, _, none⟩ _ b n6, Below.heap_setCell _ ⟨_, _, none⟩ _ b n6, Below.heap_setCell _ ⟨_, _, none⟩ _ b n6]
            all_goals exact Below.heap_setCell wC ⟨w.heap.size, 4, none⟩ _ b n3
          · exact (((((HSC.out.setCell (Nat.le_refl _) _).setCell (Nat.le_succ _) _).setCell (Nat.le_succ _) _).setCell (Nat.le_succ _) _).setCell (Nat.le_succ _) _).setCell (Nat.le_succ _) _
        · skip
          clear hHeld
          go_simp
          go_at_call 43
          refine (HNM.out _ HUD.out).mono ?_
          rintro e wN ⟨vN, rfl, oN, bN⟩
          obtain ⟨na, nc, rfl, hnc, hncm, hFN⟩ := own_frow oN HD.out.1
          have HUN : Hid (Below W3.heap.size W3 wN) := hidI (HUD.out.trans (bN.mono HUD.out.size))
          have HSN : Hid (Below w.heap.size w wN) := hidI (HBT.out.trans (HUN.out.mono HBT.out.size))
          have HFN : Hid (FRow wN na d) := hFN
          have HNC : Hid (c ≤ nc ∧ nc ≤ maxLen) := hidI ⟨hnc, hncm⟩
          have c4n : wN.cell? ⟨w.heap.size, 4, none⟩ = some (.slice fa fn fc) := (Blk5.cells (Blk5.below HPT.out HUN.out)).2.2.2.2
          clear oN bN hFN hnc hncm c4d
          go_wp2_with fail
          refine hKr8.out _ _ ?_ (fun hHeld => ?_)
          · exact HSN.out
          clear hKr8 Kr8
          (try simp only [Act.put, List.setIfInBounds_toArray, List.set_cons_zero, List.set_cons_succ])
          refine wpAnyH_ready (rs := [1]) (by kernel_rfl) (by simp) ?_
          refine AllReadyH.cons (o := ⟨some 52, .load 23 (.tmp 51), 23, "change.go:42", #[⟨0, .data⟩], none⟩) rfl (fun Kr1 hKr1 => ?_) AllReadyH.nil
          clear hHeld
          go_simp
          refine hKr1.out _ _ ?_ (fun hHeld => ?_)
          · exact HSN.out
          clear hKr1 Kr1 c4n
          (try simp only [Act.put, List.setIfInBounds_toArray, List.set_cons_zero, List.set_cons_succ])
          refine wpAnyH_ready (rs := [9]) (by kernel_rfl) (by simp) ?_
          refine AllReadyH.cons (o := ⟨some 60, .call ⟨.value (.func 42), #[.tmp 52, .tmp 53, .tmp 54, .tmp 59], #[23, 3, 3, 23]⟩, 23, "change.go:42", #[⟨1, .data⟩, ⟨2, .data⟩, ⟨3, .data⟩, ⟨8, .data⟩, ⟨8, .chain⟩], none⟩) rfl (fun Kr9 hKr9 => ?_) AllReadyH.nil
          clear hHeld
          go_simp
          go_at_call 42
          refine (HCH.out wN na nc HUN.out HFN.out HNC.out.1 HNC.out.2).mono ?_
          rintro e wC ⟨xs, hxs, rfl, oC, bC⟩
          have HUC : Hid (Below W3.heap.size W3 wC) := hidI (HUN.out.trans (bC.mono HUN.out.size))
          have HSC : Hid (Below w.heap.size w wC) := hidI (HBT.out.trans (HUC.out.mono HBT.out.size))
          have HOC : Hid (wC.ownsRow wN.heap.size 45 6 _ _ ((fldCells d0).take (p * 6) ++ (fldCells d ++ (fldCells d0).drop ((p + 1) * 6)))) := hidI (hxs ▸ oC)
          obtain ⟨gN, hgN⟩ : ∃ gN, gN = wN.heap.size := ⟨_, rfl⟩
          have HGN : Hid (C1 ≤ gN ∧ gN = wN.heap.size) := hidI ⟨by have := HUN.out.size; omega, hgN⟩
          rw [← hgN] at HOC ⊢
          clear oC bC hxs hgN
          go_wp2_with fail
          refine hKr9.out _ _ ?_ (fun hHeld => ?_)
          · exact HSC.out
          clear hKr9 Kr9
          (try simp only [Act.put, List.setIfInBounds_toArray, List.set_cons_zero, List.set_cons_succ])
          refine wpAnyH_take (i := 10) (oi := ⟨some 61, .fieldAddr 25 (.tmp 3) 4, 0, "change.go:42", #[⟨0, .phase⟩, ⟨1, .phase⟩, ⟨2, .phase⟩, ⟨3, .phase⟩, ⟨4, .phase⟩, ⟨5, .phase⟩, ⟨6, .phase⟩, ⟨7, .phase⟩, ⟨8, .phase⟩, ⟨9, .phase⟩], none⟩) (v := .pointer (some ⟨w.heap.size, 4, none⟩)) rfl (by kernel_rfl) (by kernel_rfl) (by kernel_rfl) (fun _ _ _ h => h) (Or.inl ⟨by rfl, ?_⟩) hHeld ?_
          · intro wq hSq
            have s0 := hSq
            clear hSq hHeld
            go_simp
          (try simp only [Act.put, List.setIfInBounds_toArray, List.set_cons_zero, List.set_cons_succ])
          refine wpAnyH_ready (rs := [11]) (by kernel_rfl) (by simp) ?_
          refine AllReadyH.cons (o := ⟨none, .store 23 (.tmp 61) (.tmp 60), 0, "change.go:42", #[⟨10, .data⟩, ⟨9, .data⟩, ⟨9, .chain⟩, ⟨0, .phase⟩, ⟨1, .phase⟩, ⟨2, .phase⟩, ⟨3, .phase⟩, ⟨4, .phase⟩, ⟨5, .phase⟩, ⟨6, .phase⟩, ⟨7, .phase⟩, ⟨8, .phase⟩, ⟨9, .phase⟩], none⟩) rfl (fun Kr11 hKr11 => ?_) AllReadyH.nil
          obtain ⟨y0, y1, y2, y3, y4⟩ := Blk5.cells (Blk5.below HPT.out HUC.out)
          obtain ⟨r0, r1, r2, r3, r4⟩ := Blk5.free (Blk5.below HPT.out HUC.out)
          clear hHeld
          go_simp
          refine hKr11.out _ _ ?_ (fun hHeld => ?_)
          · exact HSC.out.setCell (Nat.le_refl _) _
          clear hKr11 Kr11 y0 y1 y2 y3 y4 r0 r1 r2 r3 r4
          (try simp only [Act.put, List.setIfInBounds_toArray, List.set_cons_zero, List.set_cons_succ])
          refine wpAnyH_done (by kernel_rfl) ?_ _
          clear hHeld
          have hP5 := (Blk5.below HPT.out HUC.out).set4 (u := .slice (some ⟨gN, 0, none⟩) nF nF)
          have hQ5 := (Blk5.below HQT.out HUC.out).other (g := w.heap.size) (i := 4) (u := .slice (some ⟨gN, 0, none⟩) nF nF) (by omega)
          obtain ⟨y0, y1, y2, y3, y4⟩ := Blk5.cells hP5
          obtain ⟨z0, z1, z2, z3, z4⟩ := Blk5.cells hQ5
          obtain ⟨q0, q1, q2, q3, q4⟩ := Blk5.free hQ5
          clear hP5 hQ5
          go_wp2_with fail
          refine bodyPost_ret (v := .tuple #[.agg #[.int .i64 6, .int .i64 n0, .string tx, .slice la ln lc, .slice (some ⟨gN, 0, none⟩) nF nF], .int .i64 0]) ?_ rfl ⟨Or.inr ⟨_, _, HR.out, rfl, ?_⟩, ?_⟩
          · have hres : Try.f24.results = #[.cell 6 25, .tmp 7] := by kernel_rfl
            simp only [results, hres]
            go_simp
          · obtain ⟨hd1, hd2⟩ := HD.out
            obtain ⟨he1, he2⟩ := HD0.out
            have kU : ∀ b o u, (veil B C1 W3).cell? ⟨b, o, none⟩ = some u → (veil B C1 wC).cell? ⟨b, o, none⟩ = some u := veil_below HUC.out
            obtain ⟨a9, c9, e9, h91, h92, hF9⟩ := flds_spl (w := veil B C1 wC) (d0 := d0) (d := d) (nm := nm) (mn := fun _ => s) (f := f) (x := x) (at' := p) (gone := 1) (veil_own HOC.out (by have := HGN.out; omega)) (by rw [he1, hd1]; exact HNF.out) (by omega) (fun i hi => by obtain ⟨h1, h2, h3⟩ := he2 i hi; exact ⟨h1, h2, ok_mono h3 kU⟩) (fun i hi => by obtain ⟨h1, h2, h3⟩ := hd2 i hi; exact ⟨h1, h2, ok_mono h3 kU⟩)
            cases e9
            rw [hd1, HNF.out] at hF9
            have h91 := h91
            rw [HG.out]
            simp only [GV.spl, if_true]
            rw [← HNF.out] at hF9 ⊢
            obtain ⟨hi1, hi2, hi3⟩ := HIN.out
            have kF : ∀ W', (∀ b, b ≠ w.heap.size → b ≠ w.heap.size + 1 → W'.heap[b]? = wC.heap[b]?) → ∀ b o u, (veil B C1 wC).cell? ⟨b, o, none⟩ = some u → (veil B w.heap.size W').cell? ⟨b, o, none⟩ = some u := fun W' hh => veil_two (C := w.heap.size) (by omega) ⟨hB, by omega⟩ ⟨by omega, by omega⟩ hh
            refine ⟨la, lc, _, _, rfl, hi1, hi2, hi3, h4, h5, h91, h92, Vals.mono (Vals.mono HVLT.out kU) (kF _ (fun b n3 n6 => ?_)), Flds.mono hF9 (kF _ (fun b n3 n6 => ?_))⟩
            all_goals rw [Below.heap_setCell _ ⟨_, _, none⟩ _ b n6, Below.heap_setCell _ ⟨_, _, none⟩ _ b n6, Below.heap_setCell _ ⟨_, _, none⟩ _ b n6, Below.heap_setCell _ ⟨_, _, none⟩ _ b n6, Below.heap_setCell _ ⟨_, _, none⟩ _ b n6]
            all_goals exact Below.heap_setCell wC ⟨w.heap.size, 4, none⟩ _ b n3
          · exact (((((HSC.out.setCell (Nat.le_refl _) _).setCell (Nat.le_succ _) _).setCell (Nat.le_succ _) _).setCell (Nat.le_succ _) _).setCell (Nat.le_succ _) _).setCell (Nat.le_succ _) _
      · rw [if_neg hr0] at hR'
        have hlt1' : (1 : Int) < (N : Int) := by have := HN.out; have : r.length ≠ 0 := fun h => hr0 (List.eq_nil_of_length_eq_zero h); omega
        go_wp2_with (with_reducible show wpList _ _ _ (⟨_, Op.store 25 _ _, _, _, _, _⟩ :: _) _ _; refine wpList_store_mid rfl 25 _ _ rfl w1.heap.size 0 #[.int .i64 k2, .int .i64 n2, .string t2, .slice la2 ln2 lc2, .slice fa2 fn2 fc2] rfl rfl HTH.out hinf hall ?_; generalize hW3 : World.setCells _ _ _ _ = W3; obtain ⟨hI, hP, hQ, hbT, hW3s⟩ := HX.out W3 hW3; have HI : Hid (Blk5 W3 w1.heap.size (.int .i64 k2) (.int .i64 n2) (.string t2) (.slice la2 ln2 lc2) (.slice fa2 fn2 fc2)) := hidI hI; have HPT : Hid (Blk5 W3 w.heap.size (.int .i64 6) (.int .i64 n0) (.string tx) (.slice la ln lc) (.slice fa fn fc)) := hidI hP; have HQT : Hid (Blk5 W3 (w.heap.size + 1) (.int .i64 0) (.int .i64 0) (.string ⟨#[]⟩) (.slice none 0 0) (.slice none 0 0)) := hidI hQ; clear hI hP hQ hW3)
        have HIH : Hid (∀ W, Below W3.heap.size W3 W → Calls Try.prog 24 #[.agg #[.int .i64 k2, .int .i64 n2, .string t2, .slice la2 ln2 lc2, .slice fa2 fn2 fc2], .slice (some ⟨sb, so + 1, none⟩) (N - 1 : Nat) (sc - 1 : Nat), .slice ma c mc] W fun e w' => PutEnd B W.heap.size w' (GV.put r (g.part p) c x) e ∧ Below W.heap.size W w') := hidI (fun W hW => by
          have hwW : Below w.heap.size w W := hbT.trans (hW.mono hbT.size)
          have hN' := HN.out
          have h := ih hr0 (g.part p) (.agg #[.int .i64 k2, .int .i64 n2, .string t2, .slice la2 ln2 lc2, .slice fa2 fn2 fc2]) W B (some ⟨sb, so + 1, none⟩) (sc - 1) ma mc c x (by have := hwW.size; omega) (Lies.mono (veil_more (Nat.le_refl _) hwW) HL2.out) (fit_part HFIT.out HHAS.out) (HSTL.out.below hwW) (fun y hy => HST.out y (by simp [hy])) (by omega) (by omega) (Vals.mono HM.out (veil_more (Nat.le_refl _) hwW)) hc1 hcm hmc
          rw [show r.length = N - 1 by omega] at h
          exact h)
        have HBT : Hid (Below w.heap.size w W3) := hbT
        have hlt1 : (1 : Int) < (N : Int) := by have := HN.out; have : r.length ≠ 0 := fun h => hr0 (List.eq_nil_of_length_eq_zero h); omega
        have hcut1 : ¬ sc = 1 := by omega
        obtain ⟨c0, c1', c2, c3, c4⟩ := Blk5.cells HI.out
        have d0 : W3.drew.cell? ⟨w1.heap.size, 0, none⟩ = some (.int .i64 k2) := (drew_cell _ _).trans c0
        have d1 : W3.drew.cell? ⟨w1.heap.size, 1, none⟩ = some (.int .i64 n2) := (drew_cell _ _).trans c1'
        have d2 : W3.drew.cell? ⟨w1.heap.size, 2, none⟩ = some (.string t2) := (drew_cell _ _).trans c2
        have d3 : W3.drew.cell? ⟨w1.heap.size, 3, none⟩ = some (.slice la2 ln2 lc2) := (drew_cell _ _).trans c3
        have d4 : W3.drew.cell? ⟨w1.heap.size, 4, none⟩ = some (.slice fa2 fn2 fc2) := (drew_cell _ _).trans c4
        clear c0 c1' c2 c3 c4
        cases hput : GV.put r (g.part p) c x with
        | error er =>
          rw [hput] at hR'
          have HE : Hid (R = .error er) := hR'
          clear hR'
          refine wp_region_held_drew (S := fun _ => True) (by kernel_rfl) trivial (fun hHeld => ?_)
          refine wpAnyH_take (i := 1) (oi := ⟨some 36, .move (.tmp 1), 40, "change.go:35", #[], none⟩) (v := .slice (some ⟨sb, so, none⟩) N sc) rfl (by kernel_rfl) (by kernel_rfl) (by kernel_rfl) (fun _ _ _ h => h) (Or.inl ⟨by rfl, ?_⟩) hHeld ?_
          · intro wq hSq
            clear hSq hHeld
            go_simp
          (try simp only [Act.put, List.setIfInBounds_toArray, List.set_cons_zero, List.set_cons_succ])
          refine wpAnyH_take (i := 2) (oi := ⟨some 37, .slice 40 (.tmp 36) (some (.const (.int .i64 1))) none none, 40, "change.go:35", #[⟨1, .data⟩], none⟩) (v := .slice (some ⟨sb, so + 1, none⟩) (N - 1 : Nat) (sc - 1 : Nat)) rfl (by kernel_rfl) (by kernel_rfl) (by kernel_rfl) (fun _ _ _ h => h) (Or.inl ⟨by rfl, ?_⟩) hHeld ?_
          · intro wq hSq
            clear hSq hHeld
            go_simp
          (try simp only [Act.put, List.setIfInBounds_toArray, List.set_cons_zero, List.set_cons_succ])
          refine wpAnyH_take (i := 3) (oi := ⟨some 38, .move (.tmp 2), 22, "change.go:35", #[], none⟩) (v := .slice ma c mc) rfl (by kernel_rfl) (by kernel_rfl) (by kernel_rfl) (fun _ _ _ h => h) (Or.inl ⟨by rfl, ?_⟩) hHeld ?_
          · intro wq hSq
            clear hSq hHeld
            go_simp
          (try simp only [Act.put, List.setIfInBounds_toArray, List.set_cons_zero, List.set_cons_succ])
          refine wpAnyH_ready (rs := [0]) (by kernel_rfl) (by simp) ?_
          refine AllReadyH.cons (o := ⟨some 35, .load 25 (.tmp 12), 25, "change.go:35", #[], none⟩) rfl (fun Kr0 hKr0 => ?_) AllReadyH.nil
          clear hHeld
          go_simp
          refine hKr0.out _ _ trivial (fun hHeld => ?_)
          clear hKr0 Kr0 d0 d1 d2 d3 d4
          (try simp only [Act.put, List.setIfInBounds_toArray, List.set_cons_zero, List.set_cons_succ])
          refine wpAnyH_ready (rs := [4]) (by kernel_rfl) (by simp) ?_
          refine AllReadyH.cons (o := ⟨some 39, .call ⟨.value (.func 24), #[.tmp 35, .tmp 37, .tmp 38], #[25, 40, 22]⟩, 29, "change.go:35", #[⟨0, .data⟩, ⟨2, .data⟩, ⟨3, .data⟩], none⟩) rfl (fun Kr4 hKr4 => ?_) AllReadyH.nil
          clear hHeld
          go_simp
          go_at_call 24
          refine (HIH.out _ (Below.refl _ _).drew).mono ?_
          rintro e w9 ⟨hE9, b9⟩
          obtain ⟨rfl, her⟩ : e = .returned (.tuple #[.agg #[.int .i64 0, .int .i64 0, .string ⟨#[]⟩, .slice none 0 0, .slice none 0 0], .int .i64 er]) ∧ (er = 7 ∨ er = 8) := by
            rcases hE9 with ⟨er', h, h1, h2⟩ | ⟨y, v9, h, _⟩
            · rw [hput] at h; cases h; exact ⟨h2, h1⟩
            · rw [hput] at h; cases h
          have HEE : Hid (er = 7 ∨ er = 8) := her
          have heb : (er != 0) = true := by rw [bne_iff_ne]; omega
          have H9 : Hid (Below W3.heap.size W3 w9) := hidI ((Below.refl _ W3).drew.trans (b9.mono (Nat.le_refl _)))
          clear hE9 b9 her
          go_wp2_with fail
          refine hKr4.out _ _ trivial (fun hHeld => ?_)
          clear hKr4 Kr4
          (try simp only [Act.put, List.setIfInBounds_toArray, List.set_cons_zero, List.set_cons_succ])
          refine wpAnyH_take (i := 5) (oi := ⟨some 34, .move (.tmp 39), 29, "change.go:35", #[⟨4, .data⟩], none⟩) (v := .tuple #[.agg #[.int .i64 0, .int .i64 0, .string ⟨#[]⟩, .slice none 0 0, .slice none 0 0], .int .i64 er]) rfl (by kernel_rfl) (by kernel_rfl) (by kernel_rfl) (fun _ _ _ h => h) (Or.inl ⟨by rfl, ?_⟩) hHeld ?_
          · intro wq hSq
            clear hSq hHeld
            go_simp
          (try simp only [Act.put, List.setIfInBounds_toArray, List.set_cons_zero, List.set_cons_succ])
          refine wpAnyH_take (i := 6) (oi := ⟨some 40, .extract (.tmp 34) 0, 25, "change.go:35", #[⟨5, .data⟩], none⟩) (v := .agg #[.int .i64 0, .int .i64 0, .string ⟨#[]⟩, .slice none 0 0, .slice none 0 0]) rfl (by kernel_rfl) (by kernel_rfl) (by kernel_rfl) (fun _ _ _ h => h) (Or.inl ⟨by rfl, ?_⟩) hHeld ?_
          · intro wq hSq
            clear hSq hHeld
            go_simp
          (try simp only [Act.put, List.setIfInBounds_toArray, List.set_cons_zero, List.set_cons_succ])
          refine wpAnyH_take (i := 7) (oi := ⟨some 41, .extract (.tmp 34) 1, 28, "change.go:35", #[⟨5, .data⟩, ⟨8, .gcOnly .lateStores⟩], none⟩) (v := .int .i64 er) rfl (by kernel_rfl) (by kernel_rfl) (by kernel_rfl) (fun _ _ _ h => h) (Or.inl ⟨by rfl, ?_⟩) hHeld ?_
          · intro wq hSq
            clear hSq hHeld
            go_simp
          (try simp only [Act.put, List.setIfInBounds_toArray, List.set_cons_zero, List.set_cons_succ])
          refine wpAnyH_ready (rs := [8]) (by kernel_rfl) (by simp) ?_
          refine AllReadyH.cons (o := ⟨none, .store 25 (.tmp 12) (.tmp 40), 0, "change.go:35", #[⟨6, .data⟩, ⟨4, .chain⟩, ⟨0, .phase⟩, ⟨1, .phase⟩, ⟨2, .phase⟩, ⟨3, .phase⟩, ⟨4, .phase⟩, ⟨5, .phase⟩, ⟨6, .phase⟩, ⟨7, .textOnly .lateStores⟩], none⟩) rfl (fun Kr8 hKr8 => ?_) AllReadyH.nil
          obtain ⟨y0, y1, y2, y3, y4⟩ := Blk5.cells (Blk5.below HI.out H9.out)
          obtain ⟨r0, r1, r2, r3, r4⟩ := Blk5.free (Blk5.below HI.out H9.out)
          clear hHeld
          go_simp
          refine hKr8.out _ _ trivial (fun hHeld => ?_)
          clear hKr8 Kr8 y0 y1 y2 y3 y4 r0 r1 r2 r3 r4
          (try simp only [Act.put, List.setIfInBounds_toArray, List.set_cons_zero, List.set_cons_succ])
          refine wpAnyH_take (i := 9) (oi := ⟨some 10, .assign (.tmp 41), 28, "change.go:35", #[⟨7, .data⟩, ⟨8, .chain⟩, ⟨0, .phase⟩, ⟨1, .phase⟩, ⟨2, .phase⟩, ⟨3, .phase⟩, ⟨4, .phase⟩, ⟨5, .phase⟩, ⟨6, .phase⟩, ⟨7, .phase⟩, ⟨8, .phase⟩], none⟩) (v := .int .i64 er) rfl (by kernel_rfl) (by kernel_rfl) (by kernel_rfl) (fun _ _ _ h => h) (Or.inl ⟨by rfl, ?_⟩) hHeld ?_
          · intro wq hSq
            clear hSq hHeld
            go_simp
          (try simp only [Act.put, List.setIfInBounds_toArray, List.set_cons_zero, List.set_cons_succ])
          refine wpAnyH_done (by kernel_rfl) ?_ _
          clear hHeld
          have hQ9 := (Blk5.below HQT.out H9.out).putx_other (g := w1.heap.size) (y0 := .int .i64 0) (y1 := .int .i64 0) (y2 := .string ⟨#[]⟩) (y3 := .slice none 0 0) (y4 := .slice none 0 0) (by omega)
          unfold put5x at hQ9
          obtain ⟨z0, z1, z2, z3, z4⟩ := Blk5.cells hQ9
          obtain ⟨q0, q1, q2, q3, q4⟩ := Blk5.free hQ9
          have HB1 : Hid (Below w.heap.size w w9) := hidI (HBT.out.trans (H9.out.mono HBT.out.size))
          clear hQ9
          go_wp2_with fail
          refine bodyPost_ret (v := .tuple #[vZ, .int .i64 er]) ?_ rfl ⟨Or.inl ⟨er, HE.out, HEE.out, rfl⟩, ?_⟩
          · have hres : Try.f24.results = #[.cell 6 25, .tmp 7] := by kernel_rfl
            simp only [results, hres]
            go_simp
            rfl
          · have hKw : w.heap.size ≤ w1.heap.size := by omega
            exact (((((((((HB1.out.setCell hKw _).setCell hKw _).setCell hKw _).setCell hKw _).setCell hKw _).setCell (Nat.le_succ _) _).setCell (Nat.le_succ _) _).setCell (Nat.le_succ _) _).setCell (Nat.le_succ _) _).setCell (Nat.le_succ _) _
        | ok y =>
          rw [hput] at hR'
          have HR : Hid (R = .ok (g.spl p 1 s 1 fun _ => y)) := hR'
          clear hR'
          refine wp_region_held_drew (S := fun _ => True) (by kernel_rfl) trivial (fun hHeld => ?_)
          refine wpAnyH_take (i := 1) (oi := ⟨some 36, .move (.tmp 1), 40, "change.go:35", #[], none⟩) (v := .slice (some ⟨sb, so, none⟩) N sc) rfl (by kernel_rfl) (by kernel_rfl) (by kernel_rfl) (fun _ _ _ h => h) (Or.inl ⟨by rfl, ?_⟩) hHeld ?_
          · intro wq hSq
            clear hSq hHeld
            go_simp
          (try simp only [Act.put, List.setIfInBounds_toArray, List.set_cons_zero, List.set_cons_succ])
          refine wpAnyH_take (i := 2) (oi := ⟨some 37, .slice 40 (.tmp 36) (some (.const (.int .i64 1))) none none, 40, "change.go:35", #[⟨1, .data⟩], none⟩) (v := .slice (some ⟨sb, so + 1, none⟩) (N - 1 : Nat) (sc - 1 : Nat)) rfl (by kernel_rfl) (by kernel_rfl) (by kernel_rfl) (fun _ _ _ h => h) (Or.inl ⟨by rfl, ?_⟩) hHeld ?_
          · intro wq hSq
            clear hSq hHeld
            go_simp
          (try simp only [Act.put, List.setIfInBounds_toArray, List.set_cons_zero, List.set_cons_succ])
          refine wpAnyH_take (i := 3) (oi := ⟨some 38, .move (.tmp 2), 22, "change.go:35", #[], none⟩) (v := .slice ma c mc) rfl (by kernel_rfl) (by kernel_rfl) (by kernel_rfl) (fun _ _ _ h => h) (Or.inl ⟨by rfl, ?_⟩) hHeld ?_
          · intro wq hSq
            clear hSq hHeld
            go_simp
          (try simp only [Act.put, List.setIfInBounds_toArray, List.set_cons_zero, List.set_cons_succ])
          refine wpAnyH_ready (rs := [0]) (by kernel_rfl) (by simp) ?_
          refine AllReadyH.cons (o := ⟨some 35, .load 25 (.tmp 12), 25, "change.go:35", #[], none⟩) rfl (fun Kr0 hKr0 => ?_) AllReadyH.nil
          clear hHeld
          go_simp
          refine hKr0.out _ _ trivial (fun hHeld => ?_)
          clear hKr0 Kr0 d0 d1 d2 d3 d4
          (try simp only [Act.put, List.setIfInBounds_toArray, List.set_cons_zero, List.set_cons_succ])
          refine wpAnyH_ready (rs := [4]) (by kernel_rfl) (by simp) ?_
          refine AllReadyH.cons (o := ⟨some 39, .call ⟨.value (.func 24), #[.tmp 35, .tmp 37, .tmp 38], #[25, 40, 22]⟩, 29, "change.go:35", #[⟨0, .data⟩, ⟨2, .data⟩, ⟨3, .data⟩], none⟩) rfl (fun Kr4 hKr4 => ?_) AllReadyH.nil
          clear hHeld
          go_simp
          go_at_call 24
          refine (HIH.out _ (Below.refl _ _).drew).mono ?_
          rintro e w9 ⟨hE9, b9⟩
          obtain ⟨y9, v9, hy9, rfl, hL9⟩ : ∃ y9 v9, (Except.ok y : Except Int GV) = .ok y9 ∧ e = .returned (.tuple #[v9, .int .i64 0]) ∧ Lies (veil B (World.heap W3.drew).size w9) y9 v9 := by
            rcases hE9 with ⟨er, h, _⟩ | h
            · rw [hput] at h; cases h
            · rw [hput] at h; exact h
          injection hy9 with hy9
          subst hy9
          obtain ⟨k9, n9, t9, la9, ln9, lc9, fa9, fn9, fc9, rfl⟩ := hL9.agg
          have HL9 : Hid (Lies (veil B (World.heap W3).size w9) y _) := hL9
          have H9 : Hid (Below W3.heap.size W3 w9) := hidI ((Below.refl _ W3).drew.trans (b9.mono (Nat.le_refl _)))
          clear hE9 b9 hL9
          go_wp2_with fail
          refine hKr4.out _ _ trivial (fun hHeld => ?_)
          clear hKr4 Kr4
          (try simp only [Act.put, List.setIfInBounds_toArray, List.set_cons_zero, List.set_cons_succ])
          refine wpAnyH_take (i := 5) (oi := ⟨some 34, .move (.tmp 39), 29, "change.go:35", #[⟨4, .data⟩], none⟩) (v := .tuple #[.agg #[.int .i64 k9, .int .i64 n9, .string t9, .slice la9 ln9 lc9, .slice fa9 fn9 fc9], .int .i64 0]) rfl (by kernel_rfl) (by kernel_rfl) (by kernel_rfl) (fun _ _ _ h => h) (Or.inl ⟨by rfl, ?_⟩) hHeld ?_
          · intro wq hSq
            clear hSq hHeld
            go_simp
          (try simp only [Act.put, List.setIfInBounds_toArray, List.set_cons_zero, List.set_cons_succ])
          refine wpAnyH_take (i := 6) (oi := ⟨some 40, .extract (.tmp 34) 0, 25, "change.go:35", #[⟨5, .data⟩], none⟩) (v := .agg #[.int .i64 k9, .int .i64 n9, .string t9, .slice la9 ln9 lc9, .slice fa9 fn9 fc9]) rfl (by kernel_rfl) (by kernel_rfl) (by kernel_rfl) (fun _ _ _ h => h) (Or.inl ⟨by rfl, ?_⟩) hHeld ?_
          · intro wq hSq
            clear hSq hHeld
            go_simp
          (try simp only [Act.put, List.setIfInBounds_toArray, List.set_cons_zero, List.set_cons_succ])
          refine wpAnyH_take (i := 7) (oi := ⟨some 41, .extract (.tmp 34) 1, 28, "change.go:35", #[⟨5, .data⟩, ⟨8, .gcOnly .lateStores⟩], none⟩) (v := .int .i64 0) rfl (by kernel_rfl) (by kernel_rfl) (by kernel_rfl) (fun _ _ _ h => h) (Or.inl ⟨by rfl, ?_⟩) hHeld ?_
          · intro wq hSq
            clear hSq hHeld
            go_simp
          (try simp only [Act.put, List.setIfInBounds_toArray, List.set_cons_zero, List.set_cons_succ])
          refine wpAnyH_ready (rs := [8]) (by kernel_rfl) (by simp) ?_
          refine AllReadyH.cons (o := ⟨none, .store 25 (.tmp 12) (.tmp 40), 0, "change.go:35", #[⟨6, .data⟩, ⟨4, .chain⟩, ⟨0, .phase⟩, ⟨1, .phase⟩, ⟨2, .phase⟩, ⟨3, .phase⟩, ⟨4, .phase⟩, ⟨5, .phase⟩, ⟨6, .phase⟩, ⟨7, .textOnly .lateStores⟩], none⟩) rfl (fun Kr8 hKr8 => ?_) AllReadyH.nil
          obtain ⟨y0, y1, y2, y3, y4⟩ := Blk5.cells (Blk5.below HI.out H9.out)
          obtain ⟨r0, r1, r2, r3, r4⟩ := Blk5.free (Blk5.below HI.out H9.out)
          clear hHeld
          go_simp
          refine hKr8.out _ _ trivial (fun hHeld => ?_)
          clear hKr8 Kr8 y0 y1 y2 y3 y4 r0 r1 r2 r3 r4
          (try simp only [Act.put, List.setIfInBounds_toArray, List.set_cons_zero, List.set_cons_succ])
          refine wpAnyH_take (i := 9) (oi := ⟨some 10, .assign (.tmp 41), 28, "change.go:35", #[⟨7, .data⟩, ⟨8, .chain⟩, ⟨0, .phase⟩, ⟨1, .phase⟩, ⟨2, .phase⟩, ⟨3, .phase⟩, ⟨4, .phase⟩, ⟨5, .phase⟩, ⟨6, .phase⟩, ⟨7, .phase⟩, ⟨8, .phase⟩], none⟩) (v := .int .i64 0) rfl (by kernel_rfl) (by kernel_rfl) (by kernel_rfl) (fun _ _ _ h => h) (Or.inl ⟨by rfl, ?_⟩) hHeld ?_
          · intro wq hSq
            clear hSq hHeld
            go_simp
          (try simp only [Act.put, List.setIfInBounds_toArray, List.set_cons_zero, List.set_cons_succ])
          refine wpAnyH_done (by kernel_rfl) ?_ _
          clear hHeld
          have hP9 := (Blk5.below HPT.out H9.out).putx_other (g := w1.heap.size) (y0 := .int .i64 k9) (y1 := .int .i64 n9) (y2 := .string t9) (y3 := .slice la9 ln9 lc9) (y4 := .slice fa9 fn9 fc9) (by omega)
          have hQ9 := (Blk5.below HQT.out H9.out).putx_other (g := w1.heap.size) (y0 := .int .i64 k9) (y1 := .int .i64 n9) (y2 := .string t9) (y3 := .slice la9 ln9 lc9) (y4 := .slice fa9 fn9 fc9) (by omega)
          have hI9 := (Blk5.below HI.out H9.out).putx (y0 := .int .i64 k9) (y1 := .int .i64 n9) (y2 := .string t9) (y3 := .slice la9 ln9 lc9) (y4 := .slice fa9 fn9 fc9)
          have hB9 := below_putx (b := w1.heap.size) (y0 := .int .i64 k9) (y1 := .int .i64 n9) (y2 := .string t9) (y3 := .slice la9 ln9 lc9) (y4 := .slice fa9 fn9 fc9) (HBT.out.trans (H9.out.mono HBT.out.size)) (show w.heap.size ≤ w1.heap.size by omega)
          have hU9s := H9.out.size
          obtain ⟨C1, hC1e⟩ : ∃ C1, C1 = W3.heap.size := ⟨_, rfl⟩
          have hKC : w1.heap.size < C1 := by rw [hC1e]; exact Blk5.lt HI.out
          have hC1 : w.heap.size + 2 ≤ C1 := by omega
          rw [← hC1e] at HL9 hU9s
          have hL9v := Lies.mono (veil_keep (B := B) (C := C1) (w := w9) (w' := put5x w9 (w1.heap.size) (.int .i64 k9) (.int .i64 n9) (.string t9) (.slice la9 ln9 lc9) (.slice fa9 fn9 fc9)) (fun _ h1 h2 _ => ⟨h1, h2⟩) (fun b hb _ => putx_heap (fun e => hb (e ▸ ⟨by omega, hKC⟩)))) HL9.out
          unfold put5x at hP9 hQ9 hI9 hB9 hL9v
          have hbu := (Below.refl (((((w9.setCell ⟨w1.heap.size, 0, none⟩ (.int .i64 k9)).setCell ⟨w1.heap.size, 1, none⟩ (.int .i64 n9)).setCell ⟨w1.heap.size, 2, none⟩ (.string t9)).setCell ⟨w1.heap.size, 3, none⟩ (.slice la9 ln9 lc9)).setCell ⟨w1.heap.size, 4, none⟩ (.slice fa9 fn9 fc9)).heap.size (((((w9.setCell ⟨w1.heap.size, 0, none⟩ (.int .i64 k9)).setCell ⟨w1.heap.size, 1, none⟩ (.int .i64 n9)).setCell ⟨w1.heap.size, 2, none⟩ (.string t9)).setCell ⟨w1.heap.size, 3, none⟩ (.slice la9 ln9 lc9)).setCell ⟨w1.heap.size, 4, none⟩ (.slice fa9 fn9 fc9))).alloc (Nat.le_refl _) (.cells #[.int .i64 k9, .int .i64 n9, .string t9, .slice la9 ln9 lc9, .slice fa9 fn9 fc9] 25)
          have hw9s : (((((w9.setCell ⟨w1.heap.size, 0, none⟩ (.int .i64 k9)).setCell ⟨w1.heap.size, 1, none⟩ (.int .i64 n9)).setCell ⟨w1.heap.size, 2, none⟩ (.string t9)).setCell ⟨w1.heap.size, 3, none⟩ (.slice la9 ln9 lc9)).setCell ⟨w1.heap.size, 4, none⟩ (.slice fa9 fn9 fc9)).heap.size = w9.heap.size := by simp
          have HPT : Hid (Blk5 ((((((w9.setCell ⟨w1.heap.size, 0, none⟩ (.int .i64 k9)).setCell ⟨w1.heap.size, 1, none⟩ (.int .i64 n9)).setCell ⟨w1.heap.size, 2, none⟩ (.string t9)).setCell ⟨w1.heap.size, 3, none⟩ (.slice la9 ln9 lc9)).setCell ⟨w1.heap.size, 4, none⟩ (.slice fa9 fn9 fc9)).alloc (.cells #[.int .i64 k9, .int .i64 n9, .string t9, .slice la9 ln9 lc9, .slice fa9 fn9 fc9] 25)) w.heap.size (.int .i64 6) (.int .i64 n0) (.string tx) (.slice la ln lc) (.slice fa fn fc)) := hidI (Blk5.below hP9 hbu)
          have HQT : Hid (Blk5 ((((((w9.setCell ⟨w1.heap.size, 0, none⟩ (.int .i64 k9)).setCell ⟨w1.heap.size, 1, none⟩ (.int .i64 n9)).setCell ⟨w1.heap.size, 2, none⟩ (.string t9)).setCell ⟨w1.heap.size, 3, none⟩ (.slice la9 ln9 lc9)).setCell ⟨w1.heap.size, 4, none⟩ (.slice fa9 fn9 fc9)).alloc (.cells #[.int .i64 k9, .int .i64 n9, .string t9, .slice la9 ln9 lc9, .slice fa9 fn9 fc9] 25)) (w.heap.size + 1) (.int .i64 0) (.int .i64 0) (.string ⟨#[]⟩) (.slice none 0 0) (.slice none 0 0)) := hidI (Blk5.below hQ9 hbu)
          have hbT : Below w.heap.size w ((((((w9.setCell ⟨w1.heap.size, 0, none⟩ (.int .i64 k9)).setCell ⟨w1.heap.size, 1, none⟩ (.int .i64 n9)).setCell ⟨w1.heap.size, 2, none⟩ (.string t9)).setCell ⟨w1.heap.size, 3, none⟩ (.slice la9 ln9 lc9)).setCell ⟨w1.heap.size, 4, none⟩ (.slice fa9 fn9 fc9)).alloc (.cells #[.int .i64 k9, .int .i64 n9, .string t9, .slice la9 ln9 lc9, .slice fa9 fn9 fc9] 25)) := hB9.trans (hbu.mono hB9.size)
          have hC1u : C1 ≤ ((((((w9.setCell ⟨w1.heap.size, 0, none⟩ (.int .i64 k9)).setCell ⟨w1.heap.size, 1, none⟩ (.int .i64 n9)).setCell ⟨w1.heap.size, 2, none⟩ (.string t9)).setCell ⟨w1.heap.size, 3, none⟩ (.slice la9 ln9 lc9)).setCell ⟨w1.heap.size, 4, none⟩ (.slice fa9 fn9 fc9)).alloc (.cells #[.int .i64 k9, .int .i64 n9, .string t9, .slice la9 ln9 lc9, .slice fa9 fn9 fc9] 25)).heap.size := by simp; omega
          have HVFT : Hid (Flds (veil B C1 ((((((w9.setCell ⟨w1.heap.size, 0, none⟩ (.int .i64 k9)).setCell ⟨w1.heap.size, 1, none⟩ (.int .i64 n9)).setCell ⟨w1.heap.size, 2, none⟩ (.string t9)).setCell ⟨w1.heap.size, 3, none⟩ (.slice la9 ln9 lc9)).setCell ⟨w1.heap.size, 4, none⟩ (.slice fa9 fn9 fc9)).alloc (.cells #[.int .i64 k9, .int .i64 n9, .string t9, .slice la9 ln9 lc9, .slice fa9 fn9 fc9] 25))) fa fn nm f) := hidI (Flds.mono HVF.out (veil_more (Nat.le_refl _) hbT))
          have HVLT : Hid (Vals (veil B C1 ((((((w9.setCell ⟨w1.heap.size, 0, none⟩ (.int .i64 k9)).setCell ⟨w1.heap.size, 1, none⟩ (.int .i64 n9)).setCell ⟨w1.heap.size, 2, none⟩ (.string t9)).setCell ⟨w1.heap.size, 3, none⟩ (.slice la9 ln9 lc9)).setCell ⟨w1.heap.size, 4, none⟩ (.slice fa9 fn9 fc9)).alloc (.cells #[.int .i64 k9, .int .i64 n9, .string t9, .slice la9 ln9 lc9, .slice fa9 fn9 fc9] 25))) la ln l0) := hidI (Vals.mono HVL.out (veil_more (Nat.le_refl _) hbT))
          have HMT : Hid (Vals (veil B C1 ((((((w9.setCell ⟨w1.heap.size, 0, none⟩ (.int .i64 k9)).setCell ⟨w1.heap.size, 1, none⟩ (.int .i64 n9)).setCell ⟨w1.heap.size, 2, none⟩ (.string t9)).setCell ⟨w1.heap.size, 3, none⟩ (.slice la9 ln9 lc9)).setCell ⟨w1.heap.size, 4, none⟩ (.slice fa9 fn9 fc9)).alloc (.cells #[.int .i64 k9, .int .i64 n9, .string t9, .slice la9 ln9 lc9, .slice fa9 fn9 fc9] 25))) (some ⟨w9.heap.size, 0, none⟩) 1 (fun _ => y)) := hidI (fun i hi => by
            obtain rfl : i = 0 := by omega
            refine ⟨w9.heap.size, 0, _, rfl, Lies.mono (veil_below hbu) hL9v, fun j hj => ?_⟩
            have hnb : ¬ (B ≤ w9.heap.size ∧ w9.heap.size < C1) := by omega
            rw [World.cell?_of_block (a := ⟨w9.heap.size, 0 + 0 * 5 + j, none⟩) (veil_block hnb)]
            have hblk : Blk5 ((((((w9.setCell ⟨w1.heap.size, 0, none⟩ (.int .i64 k9)).setCell ⟨w1.heap.size, 1, none⟩ (.int .i64 n9)).setCell ⟨w1.heap.size, 2, none⟩ (.string t9)).setCell ⟨w1.heap.size, 3, none⟩ (.slice la9 ln9 lc9)).setCell ⟨w1.heap.size, 4, none⟩ (.slice fa9 fn9 fc9)).alloc (.cells #[.int .i64 k9, .int .i64 n9, .string t9, .slice la9 ln9 lc9, .slice fa9 fn9 fc9] 25)) w9.heap.size (.int .i64 k9) (.int .i64 n9) (.string t9) (.slice la9 ln9 lc9) (.slice fa9 fn9 fc9) := by have := Blk5.new (((((w9.setCell ⟨w1.heap.size, 0, none⟩ (.int .i64 k9)).setCell ⟨w1.heap.size, 1, none⟩ (.int .i64 n9)).setCell ⟨w1.heap.size, 2, none⟩ (.string t9)).setCell ⟨w1.heap.size, 3, none⟩ (.slice la9 ln9 lc9)).setCell ⟨w1.heap.size, 4, none⟩ (.slice fa9 fn9 fc9)) (.int .i64 k9) (.int .i64 n9) (.string t9) (.slice la9 ln9 lc9) (.slice fa9 fn9 fc9); rw [hw9s] at this; exact this
            rw [show 0 + 0 * 5 + j = j by omega, cell_of_row _ _ _ _ _ _ hblk]
            rfl)
          obtain ⟨i0, i1', i2, i3, i4⟩ := Blk5.cells hI9
          obtain ⟨c0, c1', c2, c3, c4⟩ := Blk5.cells HPT.out
          have hw9 := hw9s
          clear hP9 hQ9 hI9 hB9 hL9v hbu hw9s hC1e
          go_wp2_with fail
          obtain ⟨d, hdl, hd⟩ := vals_fls s hssz 1 HMT.out
          obtain ⟨d0, hd0l, hd0r, hd0o, hd0i⟩ := flds_row fn HVFT.out
          have HNM : Hid (∀ W, Below ((((((w9.setCell ⟨w1.heap.size, 0, none⟩ (.int .i64 k9)).setCell ⟨w1.heap.size, 1, none⟩ (.int .i64 n9)).setCell ⟨w1.heap.size, 2, none⟩ (.string t9)).setCell ⟨w1.heap.size, 3, none⟩ (.slice la9 ln9 lc9)).setCell ⟨w1.heap.size, 4, none⟩ (.slice fa9 fn9 fc9)).alloc (.cells #[.int .i64 k9, .int .i64 n9, .string t9, .slice la9 ln9 lc9, .slice fa9 fn9 fc9] 25)).heap.size ((((((w9.setCell ⟨w1.heap.size, 0, none⟩ (.int .i64 k9)).setCell ⟨w1.heap.size, 1, none⟩ (.int .i64 n9)).setCell ⟨w1.heap.size, 2, none⟩ (.string t9)).setCell ⟨w1.heap.size, 3, none⟩ (.slice la9 ln9 lc9)).setCell ⟨w1.heap.size, 4, none⟩ (.slice fa9 fn9 fc9)).alloc (.cells #[.int .i64 k9, .int .i64 n9, .string t9, .slice la9 ln9 lc9, .slice fa9 fn9 fc9] 25)) W → Calls Try.prog 43 #[.string s, .slice (some ⟨w9.heap.size, 0, none⟩) 1 1] W fun e w' => ∃ v', e = .returned v' ∧ w'.ownsRow W.heap.size 45 6 v' 1 (fldCells d) ∧ Below W.heap.size W w') := hidI (fun W hW => by
            have h := named_any s d (some ⟨w9.heap.size, 0, none⟩) 1 W (fun i hi => by
              obtain ⟨h1, _, h3, b, o, h4, h5⟩ := hd i hi
              exact ⟨h1, b, o, h4, h5.mono h3.1 (fun b o u h => below_keeps hW b o u (veil_off b o u h))⟩) (by omega) (by unfold maxLen; omega) (by omega)
            rw [hdl] at h
            exact h)
          obtain ⟨nF, hnF⟩ : ∃ nF, nF = fn - 1 + 1 := ⟨_, rfl⟩
          have HCH : Hid (∀ W na nc, Below ((((((w9.setCell ⟨w1.heap.size, 0, none⟩ (.int .i64 k9)).setCell ⟨w1.heap.size, 1, none⟩ (.int .i64 n9)).setCell ⟨w1.heap.size, 2, none⟩ (.string t9)).setCell ⟨w1.heap.size, 3, none⟩ (.slice la9 ln9 lc9)).setCell ⟨w1.heap.size, 4, none⟩ (.slice fa9 fn9 fc9)).alloc (.cells #[.int .i64 k9, .int .i64 n9, .string t9, .slice la9 ln9 lc9, .slice fa9 fn9 fc9] 25)).heap.size ((((((w9.setCell ⟨w1.heap.size, 0, none⟩ (.int .i64 k9)).setCell ⟨w1.heap.size, 1, none⟩ (.int .i64 n9)).setCell ⟨w1.heap.size, 2, none⟩ (.string t9)).setCell ⟨w1.heap.size, 3, none⟩ (.slice la9 ln9 lc9)).setCell ⟨w1.heap.size, 4, none⟩ (.slice fa9 fn9 fc9)).alloc (.cells #[.int .i64 k9, .int .i64 n9, .string t9, .slice la9 ln9 lc9, .slice fa9 fn9 fc9] 25)) W → FRow W na d → 1 ≤ nc → nc ≤ maxLen → Calls Try.prog 42 #[.slice fa fn fc, .int .i64 (p : Nat), .int .i64 (1 : Nat), .slice na 1 nc] W fun e w' => ∃ xs, xs = (fldCells d0).take (p * 6) ++ (fldCells d ++ (fldCells d0).drop ((p + 1) * 6)) ∧ e = .returned (.slice (some ⟨W.heap.size, 0, none⟩) nF nF) ∧ w'.ownsRow W.heap.size 45 6 (.slice (some ⟨W.heap.size, 0, none⟩) nF nF) nF xs ∧ Below W.heap.size W w') := hidI (fun W na nc hW hr h1 h2 => by
            rw [hnF]
            exact changedF (fldCells d0) (fldCells d) fa na fn fc 1 nc p 1 W (by rw [fldCells_len, hd0l]) (by rw [fldCells_len, hdl])
              (by
                rcases hd0r with h | ⟨b, o, e, hc⟩
                · exact Or.inl (by rw [h]; rfl)
                · exact Or.inr ⟨b, o, e, fun k u hk => below_keeps hW _ _ _ (veil_off _ _ _ (hc k u hk))⟩)
              (by
                rcases hr with h | ⟨b, o, e, hc⟩
                · exact Or.inl (by rw [h]; rfl)
                · exact Or.inr ⟨b, o, e, hc⟩)
              (fldCells_one d0) (fldCells_one d) h6 h7 h1 h2 hpq (by omega) (by omega))
          have HNF : Hid (nF = fn - 1 + 1) := hnF
          have HD : Hid (d.length = 1 ∧ ∀ i (hi : i < d.length), (d[i]'hi).nm = s ∧ (d[i]'hi).g = (fun _ => y) i ∧ (d[i]'hi).ok (veil B C1 ((((((w9.setCell ⟨w1.heap.size, 0, none⟩ (.int .i64 k9)).setCell ⟨w1.heap.size, 1, none⟩ (.int .i64 n9)).setCell ⟨w1.heap.size, 2, none⟩ (.string t9)).setCell ⟨w1.heap.size, 3, none⟩ (.slice la9 ln9 lc9)).setCell ⟨w1.heap.size, 4, none⟩ (.slice fa9 fn9 fc9)).alloc (.cells #[.int .i64 k9, .int .i64 n9, .string t9, .slice la9 ln9 lc9, .slice fa9 fn9 fc9] 25)))) := hidI ⟨hdl, fun i hi => by obtain ⟨h1, h2, h3, _⟩ := hd i hi; exact ⟨h1, h2, h3⟩⟩
          have HD0 : Hid (d0.length = fn ∧ ∀ i (hi : i < d0.length), (d0[i]'hi).nm = nm i ∧ (d0[i]'hi).g = f i ∧ (d0[i]'hi).ok (veil B C1 ((((((w9.setCell ⟨w1.heap.size, 0, none⟩ (.int .i64 k9)).setCell ⟨w1.heap.size, 1, none⟩ (.int .i64 n9)).setCell ⟨w1.heap.size, 2, none⟩ (.string t9)).setCell ⟨w1.heap.size, 3, none⟩ (.slice la9 ln9 lc9)).setCell ⟨w1.heap.size, 4, none⟩ (.slice fa9 fn9 fc9)).alloc (.cells #[.int .i64 k9, .int .i64 n9, .string t9, .slice la9 ln9 lc9, .slice fa9 fn9 fc9] 25)))) := hidI ⟨hd0l, fun i hi => by
            have := hd0i i (by omega)
            rw [nmOf_at hi, gOf_at hi] at this
            exact ⟨this.1, this.2, hd0o _ (List.getElem_mem hi)⟩⟩
          have hUd : Below ((((((w9.setCell ⟨w1.heap.size, 0, none⟩ (.int .i64 k9)).setCell ⟨w1.heap.size, 1, none⟩ (.int .i64 n9)).setCell ⟨w1.heap.size, 2, none⟩ (.string t9)).setCell ⟨w1.heap.size, 3, none⟩ (.slice la9 ln9 lc9)).setCell ⟨w1.heap.size, 4, none⟩ (.slice fa9 fn9 fc9)).alloc (.cells #[.int .i64 k9, .int .i64 n9, .string t9, .slice la9 ln9 lc9, .slice fa9 fn9 fc9] 25)).heap.size ((((((w9.setCell ⟨w1.heap.size, 0, none⟩ (.int .i64 k9)).setCell ⟨w1.heap.size, 1, none⟩ (.int .i64 n9)).setCell ⟨w1.heap.size, 2, none⟩ (.string t9)).setCell ⟨w1.heap.size, 3, none⟩ (.slice la9 ln9 lc9)).setCell ⟨w1.heap.size, 4, none⟩ (.slice fa9 fn9 fc9)).alloc (.cells #[.int .i64 k9, .int .i64 n9, .string t9, .slice la9 ln9 lc9, .slice fa9 fn9 fc9] 25)) ((((((w9.setCell ⟨w1.heap.size, 0, none⟩ (.int .i64 k9)).setCell ⟨w1.heap.size, 1, none⟩ (.int .i64 n9)).setCell ⟨w1.heap.size, 2, none⟩ (.string t9)).setCell ⟨w1.heap.size, 3, none⟩ (.slice la9 ln9 lc9)).setCell ⟨w1.heap.size, 4, none⟩ (.slice fa9 fn9 fc9)).alloc (.cells #[.int .i64 k9, .int .i64 n9, .string t9, .slice la9 ln9 lc9, .slice fa9 fn9 fc9] 25)).drew := (Below.refl _ _).drew
          have HUD : Hid _ := hUd
          have HBT : Hid (Below w.heap.size w ((((((w9.setCell ⟨w1.heap.size, 0, none⟩ (.int .i64 k9)).setCell ⟨w1.heap.size, 1, none⟩ (.int .i64 n9)).setCell ⟨w1.heap.size, 2, none⟩ (.string t9)).setCell ⟨w1.heap.size, 3, none⟩ (.slice la9 ln9 lc9)).setCell ⟨w1.heap.size, 4, none⟩ (.slice fa9 fn9 fc9)).alloc (.cells #[.int .i64 k9, .int .i64 n9, .string t9, .slice la9 ln9 lc9, .slice fa9 fn9 fc9] 25))) := hbT
          have hSu : Below w.heap.size w ((((((w9.setCell ⟨w1.heap.size, 0, none⟩ (.int .i64 k9)).setCell ⟨w1.heap.size, 1, none⟩ (.int .i64 n9)).setCell ⟨w1.heap.size, 2, none⟩ (.string t9)).setCell ⟨w1.heap.size, 3, none⟩ (.slice la9 ln9 lc9)).setCell ⟨w1.heap.size, 4, none⟩ (.slice fa9 fn9 fc9)).alloc (.cells #[.int .i64 k9, .int .i64 n9, .string t9, .slice la9 ln9 lc9, .slice fa9 fn9 fc9] 25)).drew := hbT.drew
          have c4d : ((((((w9.setCell ⟨w1.heap.size, 0, none⟩ (.int .i64 k9)).setCell ⟨w1.heap.size, 1, none⟩ (.int .i64 n9)).setCell ⟨w1.heap.size, 2, none⟩ (.string t9)).setCell ⟨w1.heap.size, 3, none⟩ (.slice la9 ln9 lc9)).setCell ⟨w1.heap.size, 4, none⟩ (.slice fa9 fn9 fc9)).alloc (.cells #[.int .i64 k9, .int .i64 n9, .string t9, .slice la9 ln9 lc9, .slice fa9 fn9 fc9] 25)).drew.cell? ⟨w.heap.size, 4, none⟩ = some (.slice fa fn fc) := (drew_cell _ _).trans c4
          clear hdl hd hd0l hd0r hd0o hd0i hUd hbT c0 c1' c2 c3 c4 hnF
          refine wp_region_held_drew (S := fun u => Below w.heap.size w u) (by kernel_rfl) hSu (fun hHeld => ?_)
          clear hSu
          refine wpAnyH_take (i := 0) (oi := ⟨some 51, .fieldAddr 25 (.tmp 3) 4, 0, "change.go:42", #[], none⟩) (v := .pointer (some ⟨w.heap.size, 4, none⟩)) rfl (by kernel_rfl) (by kernel_rfl) (by kernel_rfl) (fun _ _ _ h => h) (Or.inl ⟨by rfl, ?_⟩) hHeld ?_
          · intro wq hSq
            have s0 := hSq
            clear hSq hHeld
            go_simp
          (try simp only [Act.put, List.setIfInBounds_toArray, List.set_cons_zero, List.set_cons_succ])
          refine wpAnyH_take (i := 2) (oi := ⟨some 53, .move (.tmp 8), 3, "change.go:42", #[], none⟩) (v := .int .i64 (p : Nat)) rfl (by kernel_rfl) (by kernel_rfl) (by kernel_rfl) (fun _ _ _ h => h) (Or.inl ⟨by rfl, ?_⟩) hHeld ?_
          · intro wq hSq
            have s0 := hSq
            clear hSq hHeld
            go_simp
          (try simp only [Act.put, List.setIfInBounds_toArray, List.set_cons_zero, List.set_cons_succ])
          refine wpAnyH_take (i := 3) (oi := ⟨some 54, .move (.tmp 11), 3, "change.go:42", #[], none⟩) (v := .int .i64 (1 : Nat)) rfl (by kernel_rfl) (by kernel_rfl) (by kernel_rfl) (fun _ _ _ h => h) (Or.inl ⟨by rfl, ?_⟩) hHeld ?_
          · intro wq hSq
            have s0 := hSq
            clear hSq hHeld
            go_simp
          (try simp only [Act.put, List.setIfInBounds_toArray, List.set_cons_zero, List.set_cons_succ])
          refine wpAnyH_take (i := 4) (oi := ⟨some 55, .move (.tmp 1), 40, "change.go:42", #[], none⟩) (v := .slice (some ⟨sb, so, none⟩) N sc) rfl (by kernel_rfl) (by kernel_rfl) (by kernel_rfl) (fun _ _ _ h => h) (Or.inl ⟨by rfl, ?_⟩) hHeld ?_
          · intro wq hSq
            have s0 := hSq
            clear hSq hHeld
            go_simp
          (try simp only [Act.put, List.setIfInBounds_toArray, List.set_cons_zero, List.set_cons_succ])
          refine wpAnyH_take (i := 5) (oi := ⟨some 56, .indexAddr 40 (.tmp 55) (.const (.int .i64 0)), 0, "change.go:42", #[⟨4, .data⟩], none⟩) (v := .pointer (some ⟨sb, so, none⟩)) rfl (by kernel_rfl) (by kernel_rfl) (by kernel_rfl) (fun _ _ _ h => h) (Or.inl ⟨by rfl, ?_⟩) hHeld ?_
          · intro wq hSq
            have s0 := hSq
            clear hSq hHeld
            go_simp
          (try simp only [Act.put, List.setIfInBounds_toArray, List.set_cons_zero, List.set_cons_succ])
          refine wpAnyH_take (i := 6) (oi := ⟨some 57, .load 9 (.tmp 56), 9, "change.go:42", #[⟨5, .data⟩], none⟩) (v := .string s) rfl (by kernel_rfl) (by kernel_rfl) (by kernel_rfl) (fun _ _ _ h => h) (Or.inl ⟨by rfl, ?_⟩) hHeld ?_
          · intro wq hSq
            have s0 := hSq
            clear hSq hHeld
            have es := below_keeps s0 _ _ _ HSTR.out
            go_simp
          (try simp only [Act.put, List.setIfInBounds_toArray, List.set_cons_zero, List.set_cons_succ])
          refine wpAnyH_take (i := 7) (oi := ⟨some 58, .move (.tmp 2), 22, "change.go:42", #[], none⟩) (v := .slice (some ⟨w9.heap.size, 0, none⟩) 1 1) rfl (by kernel_rfl) (by kernel_rfl) (by kernel_rfl) (fun _ _ _ h => h) (Or.inl ⟨by rfl, ?_⟩) hHeld ?_
          · intro wq hSq
            have s0 := hSq
            clear hSq hHeld
            go_simp
          (try simp only [Act.put, List.setIfInBounds_toArray, List.set_cons_zero, List.set_cons_succ])
          refine wpAnyH_ready (rs := [1, 8]) (by kernel_rfl) (by simp) ?_
          refine AllReadyH.cons (o := ⟨some 52, .load 23 (.tmp 51), 23, "change.go:42", #[⟨0, .data⟩], none⟩) rfl (fun Kr1 hKr1 => ?_) (AllReadyH.cons (o := ⟨some 59, .call ⟨.value (.func 43), #[.tmp 57, .tmp 58], #[9, 22]⟩, 23, "change.go:42", #[⟨6, .data⟩, ⟨7, .data⟩], none⟩) rfl (fun Kr8 hKr8 => ?_) AllReadyH.nil)
          · skip
            clear hHeld
            go_simp
            refine hKr1.out _ _ ?_ (fun hHeld => ?_)
            · exact HBT.out.drew
            clear hKr1 Kr1 c4d
            (try simp only [Act.put, List.setIfInBounds_toArray, List.set_cons_zero, List.set_cons_succ])
            refine wpAnyH_ready (rs := [8]) (by kernel_rfl) (by simp) ?_
            refine AllReadyH.cons (o := ⟨some 59, .call ⟨.value (.func 43), #[.tmp 57, .tmp 58], #[9, 22]⟩, 23, "change.go:42", #[⟨6, .data⟩, ⟨7, .data⟩], none⟩) rfl (fun Kr8 hKr8 => ?_) AllReadyH.nil
            clear hHeld
            go_simp
            go_at_call 43
            refine (HNM.out _ HUD.out).mono ?_
            rintro e wN ⟨vN, rfl, oN, bN⟩
            obtain ⟨na, nc, rfl, hnc, hncm, hFN⟩ := own_frow oN HD.out.1
            have HUN : Hid (Below ((((((w9.setCell ⟨w1.heap.size, 0, none⟩ (.int .i64 k9)).setCell ⟨w1.heap.size, 1, none⟩ (.int .i64 n9)).setCell ⟨w1.heap.size, 2, none⟩ (.string t9)).setCell ⟨w1.heap.size, 3, none⟩ (.slice la9 ln9 lc9)).setCell ⟨w1.heap.size, 4, none⟩ (.slice fa9 fn9 fc9)).alloc (.cells #[.int .i64 k9, .int .i64 n9, .string t9, .slice la9 ln9 lc9, .slice fa9 fn9 fc9] 25)).heap.size ((((((w9.setCell ⟨w1.heap.size, 0, none⟩ (.int .i64 k9)).setCell ⟨w1.heap.size, 1, none⟩ (.int .i64 n9)).setCell ⟨w1.heap.size, 2, none⟩ (.string t9)).setCell ⟨w1.heap.size, 3, none⟩ (.slice la9 ln9 lc9)).setCell ⟨w1.heap.size, 4, none⟩ (.slice fa9 fn9 fc9)).alloc (.cells #[.int .i64 k9, .int .i64 n9, .string t9, .slice la9 ln9 lc9, .slice fa9 fn9 fc9] 25)) wN) := hidI (HUD.out.trans (bN.mono HUD.out.size))
            have HSN : Hid (Below w.heap.size w wN) := hidI (HBT.out.trans (HUN.out.mono HBT.out.size))
            have HFN : Hid (FRow wN na d) := hFN
            have HNC : Hid (1 ≤ nc ∧ nc ≤ maxLen) := hidI ⟨hnc, hncm⟩
            have c4n : wN.cell? ⟨w.heap.size, 4, none⟩ = some (.slice fa fn fc) := (Blk5.cells (Blk5.below HPT.out HUN.out)).2.2.2.2
            clear oN bN hFN hnc hncm
            go_wp2_with fail
            refine hKr8.out _ _ ?_ (fun hHeld => ?_)
            · exact HSN.out
            clear hKr8 Kr8 c4n
            (try simp only [Act.put, List.setIfInBounds_toArray, List.set_cons_zero, List.set_cons_succ])
            refine wpAnyH_ready (rs := [9]) (by kernel_rfl) (by simp) ?_
            refine AllReadyH.cons (o := ⟨some 60, .call ⟨.value (.func 42), #[.tmp 52, .tmp 53, .tmp 54, .tmp 59], #[23, 3, 3, 23]⟩, 23, "change.go:42", #[⟨1, .data⟩, ⟨2, .data⟩, ⟨3, .data⟩, ⟨8, .data⟩, ⟨8, .chain⟩], none⟩) rfl (fun Kr9 hKr9 => ?_) AllReadyH.nil
            clear hHeld
            go_simp
            go_at_call 42
            refine (HCH.out wN na nc HUN.out HFN.out HNC.out.1 HNC.out.2).mono ?_
            rintro e wC ⟨xs, hxs, rfl, oC, bC⟩
            have HUC : Hid (Below ((((((w9.setCell ⟨w1.heap.size, 0, none⟩ (.int .i64 k9)).setCell ⟨w1.heap.size, 1, none⟩ (.int .i64 n9)).setCell ⟨w1.heap.size, 2, none⟩ (.string t9)).setCell ⟨w1.heap.size, 3, none⟩ (.slice la9 ln9 lc9)).setCell ⟨w1.heap.size, 4, none⟩ (.slice fa9 fn9 fc9)).alloc (.cells #[.int .i64 k9, .int .i64 n9, .string t9, .slice la9 ln9 lc9, .slice fa9 fn9 fc9] 25)).heap.size ((((((w9.setCell ⟨w1.heap.size, 0, none⟩ (.int .i64 k9)).setCell ⟨w1.heap.size, 1, none⟩ (.int .i64 n9)).setCell ⟨w1.heap.size, 2, none⟩ (.string t9)).setCell ⟨w1.heap.size, 3, none⟩ (.slice la9 ln9 lc9)).setCell ⟨w1.heap.size, 4, none⟩ (.slice fa9 fn9 fc9)).alloc (.cells #[.int .i64 k9, .int .i64 n9, .string t9, .slice la9 ln9 lc9, .slice fa9 fn9 fc9] 25)) wC) := hidI (HUN.out.trans (bC.mono HUN.out.size))
            have HSC : Hid (Below w.heap.size w wC) := hidI (HBT.out.trans (HUC.out.mono HBT.out.size))
            have HOC : Hid (wC.ownsRow wN.heap.size 45 6 _ _ ((fldCells d0).take (p * 6) ++ (fldCells d ++ (fldCells d0).drop ((p + 1) * 6)))) := hidI (hxs ▸ oC)
            obtain ⟨gN, hgN⟩ : ∃ gN, gN = wN.heap.size := ⟨_, rfl⟩
            have HGN : Hid (C1 ≤ gN ∧ gN = wN.heap.size) := hidI ⟨by have := HUN.out.size; omega, hgN⟩
            rw [← hgN] at HOC ⊢
            clear oC bC hxs hgN
            go_wp2_with fail
            refine hKr9.out _ _ ?_ (fun hHeld => ?_)
            · exact HSC.out
            clear hKr9 Kr9
            (try simp only [Act.put, List.setIfInBounds_toArray, List.set_cons_zero, List.set_cons_succ])
            refine wpAnyH_take (i := 10) (oi := ⟨some 61, .fieldAddr 25 (.tmp 3) 4, 0, "change.go:42", #[⟨0, .phase⟩, ⟨1, .phase⟩, ⟨2, .phase⟩, ⟨3, .phase⟩, ⟨4, .phase⟩, ⟨5, .phase⟩, ⟨6, .phase⟩, ⟨7, .phase⟩, ⟨8, .phase⟩, ⟨9, .phase⟩], none⟩) (v := .pointer (some ⟨w.heap.size, 4, none⟩)) rfl (by kernel_rfl) (by kernel_rfl) (by kernel_rfl) (fun _ _ _ h => h) (Or.inl ⟨by rfl, ?_⟩) hHeld ?_
            · intro wq hSq
              have s0 := hSq
              clear hSq hHeld
              go_simp
            (try simp only [Act.put, List.setIfInBounds_toArray, List.set_cons_zero, List.set_cons_succ])
            refine wpAnyH_ready (rs := [11]) (by kernel_rfl) (by simp) ?_
            refine AllReadyH.cons (o := ⟨none, .store 23 (.tmp 61) (.tmp 60), 0, "change.go:42", #[⟨10, .data⟩, ⟨9, .data⟩, ⟨9, .chain⟩, ⟨0, .phase⟩, ⟨1, .phase⟩, ⟨2, .phase⟩, ⟨3, .phase⟩, ⟨4, .phase⟩, ⟨5, .phase⟩, ⟨6, .phase⟩, ⟨7, .phase⟩, ⟨8, .phase⟩, ⟨9, .phase⟩], none⟩) rfl (fun Kr11 hKr11 => ?_) AllReadyH.nil
            obtain ⟨y0, y1, y2, y3, y4⟩ := Blk5.cells (Blk5.below HPT.out HUC.out)
            obtain ⟨r0, r1, r2, r3, r4⟩ := Blk5.free (Blk5.below HPT.out HUC.out)
            clear hHeld
            go_simp
            refine hKr11.out _ _ ?_ (fun hHeld => ?_)
            · exact HSC.out.setCell (Nat.le_refl _) _
            clear hKr11 Kr11 y0 y1 y2 y3 y4 r0 r1 r2 r3 r4
            (try simp only [Act.put, List.setIfInBounds_toArray, List.set_cons_zero, List.set_cons_succ])
            refine wpAnyH_done (by kernel_rfl) ?_ _
            clear hHeld
            have hP5 := (Blk5.below HPT.out HUC.out).set4 (u := .slice (some ⟨gN, 0, none⟩) nF nF)
            have hQ5 := (Blk5.below HQT.out HUC.out).other (g := w.heap.size) (i := 4) (u := .slice (some ⟨gN, 0, none⟩) nF nF) (by omega)
            obtain ⟨y0, y1, y2, y3, y4⟩ := Blk5.cells hP5
            obtain ⟨z0, z1, z2, z3, z4⟩ := Blk5.cells hQ5
            obtain ⟨q0, q1, q2, q3, q4⟩ := Blk5.free hQ5
            clear hP5 hQ5
            go_wp2_with fail
            refine bodyPost_ret (v := .tuple #[.agg #[.int .i64 6, .int .i64 n0, .string tx, .slice la ln lc, .slice (some ⟨gN, 0, none⟩) nF nF], .int .i64 0]) ?_ rfl ⟨Or.inr ⟨_, _, HR.out, rfl, ?_⟩, ?_⟩
            · have hres : Try.f24.results = #[.cell 6 25, .tmp 7] := by kernel_rfl
              simp only [results, hres]
              go_simp
            · obtain ⟨hd1, hd2⟩ := HD.out
              obtain ⟨he1, he2⟩ := HD0.out
              have kU : ∀ b o u, (veil B C1 ((((((w9.setCell ⟨w1.heap.size, 0, none⟩ (.int .i64 k9)).setCell ⟨w1.heap.size, 1, none⟩ (.int .i64 n9)).setCell ⟨w1.heap.size, 2, none⟩ (.string t9)).setCell ⟨w1.heap.size, 3, none⟩ (.slice la9 ln9 lc9)).setCell ⟨w1.heap.size, 4, none⟩ (.slice fa9 fn9 fc9)).alloc (.cells #[.int .i64 k9, .int .i64 n9, .string t9, .slice la9 ln9 lc9, .slice fa9 fn9 fc9] 25))).cell? ⟨b, o, none⟩ = some u → (veil B C1 wC).cell? ⟨b, o, none⟩ = some u := veil_below HUC.out
              obtain ⟨a9, c9, e9, h91, h92, hF9⟩ := flds_spl (w := veil B C1 wC) (d0 := d0) (d := d) (nm := nm) (mn := fun _ => s) (f := f) (x := (fun _ => y)) (at' := p) (gone := 1) (veil_own HOC.out (by have := HGN.out; omega)) (by rw [he1, hd1]; exact HNF.out) (by omega) (fun i hi => by obtain ⟨h1, h2, h3⟩ := he2 i hi; exact ⟨h1, h2, ok_mono h3 kU⟩) (fun i hi => by obtain ⟨h1, h2, h3⟩ := hd2 i hi; exact ⟨h1, h2, ok_mono h3 kU⟩)
              cases e9
              rw [hd1, HNF.out] at hF9
              have h91 := h91
              rw [HG.out]
              simp only [GV.spl, if_true]
              rw [← HNF.out] at hF9 ⊢
              obtain ⟨hi1, hi2, hi3⟩ := HIN.out
              have kF : ∀ W', (∀ b, b ≠ w.heap.size → b ≠ w.heap.size + 1 → W'.heap[b]? = wC.heap[b]?) → ∀ b o u, (veil B C1 wC).cell? ⟨b, o, none⟩ = some u → (veil B w.heap.size W').cell? ⟨b, o, none⟩ = some u := fun W' hh => veil_two (C := w.heap.size) (by omega) ⟨hB, by omega⟩ ⟨by omega, by omega⟩ hh
              refine ⟨la, lc, _, _, rfl, hi1, hi2, hi3, h4, h5, h91, h92, Vals.mono (Vals.mono HVLT.out kU) (kF _ (fun b n3 n6 => ?_)), Flds.mono hF9 (kF _ (fun b n3 n6 => ?_))⟩
              all_goals rw [Below.heap_setCell _ ⟨_, _, none⟩ _ b n6, Below.heap_setCell _ ⟨_, _, none⟩ _ b n6, Below.heap_setCell _ ⟨_, _, none⟩ _ b n6, Below.heap_setCell _ ⟨_, _, none⟩ _ b n6, Below.heap_setCell _ ⟨_, _, none⟩ _ b n6]
              all_goals exact Below.heap_setCell wC ⟨w.heap.size, 4, none⟩ _ b n3
            · exact (((((HSC.out.setCell (Nat.le_refl _) _).setCell (Nat.le_succ _) _).setCell (Nat.le_succ _) _).setCell (Nat.le_succ _) _).setCell (Nat.le_succ _) _).setCell (Nat.le_succ _) _
          · skip
            clear hHeld
            go_simp
            go_at_call 43
            refine (HNM.out _ HUD.out).mono ?_
            rintro e wN ⟨vN, rfl, oN, bN⟩
            obtain ⟨na, nc, rfl, hnc, hncm, hFN⟩ := own_frow oN HD.out.1
            have HUN : Hid (Below ((((((w9.setCell ⟨w1.heap.size, 0, none⟩ (.int .i64 k9)).setCell ⟨w1.heap.size, 1, none⟩ (.int .i64 n9)).setCell ⟨w1.heap.size, 2, none⟩ (.string t9)).setCell ⟨w1.heap.size, 3, none⟩ (.slice la9 ln9 lc9)).setCell ⟨w1.heap.size, 4, none⟩ (.slice fa9 fn9 fc9)).alloc (.cells #[.int .i64 k9, .int .i64 n9, .string t9, .slice la9 ln9 lc9, .slice fa9 fn9 fc9] 25)).heap.size ((((((w9.setCell ⟨w1.heap.size, 0, none⟩ (.int .i64 k9)).setCell ⟨w1.heap.size, 1, none⟩ (.int .i64 n9)).setCell ⟨w1.heap.size, 2, none⟩ (.string t9)).setCell ⟨w1.heap.size, 3, none⟩ (.slice la9 ln9 lc9)).setCell ⟨w1.heap.size, 4, none⟩ (.slice fa9 fn9 fc9)).alloc (.cells #[.int .i64 k9, .int .i64 n9, .string t9, .slice la9 ln9 lc9, .slice fa9 fn9 fc9] 25)) wN) := hidI (HUD.out.trans (bN.mono HUD.out.size))
            have HSN : Hid (Below w.heap.size w wN) := hidI (HBT.out.trans (HUN.out.mono HBT.out.size))
            have HFN : Hid (FRow wN na d) := hFN
            have HNC : Hid (1 ≤ nc ∧ nc ≤ maxLen) := hidI ⟨hnc, hncm⟩
            have c4n : wN.cell? ⟨w.heap.size, 4, none⟩ = some (.slice fa fn fc) := (Blk5.cells (Blk5.below HPT.out HUN.out)).2.2.2.2
            clear oN bN hFN hnc hncm c4d
            go_wp2_with fail
            refine hKr8.out _ _ ?_ (fun hHeld => ?_)
            · exact HSN.out
            clear hKr8 Kr8
            (try simp only [Act.put, List.setIfInBounds_toArray, List.set_cons_zero, List.set_cons_succ])
            refine wpAnyH_ready (rs := [1]) (by kernel_rfl) (by simp) ?_
            refine AllReadyH.cons (o := ⟨some 52, .load 23 (.tmp 51), 23, "change.go:42", #[⟨0, .data⟩], none⟩) rfl (fun Kr1 hKr1 => ?_) AllReadyH.nil
            clear hHeld
            go_simp
            refine hKr1.out _ _ ?_ (fun hHeld => ?_)
            · exact HSN.out
            clear hKr1 Kr1 c4n
            (try simp only [Act.put, List.setIfInBounds_toArray, List.set_cons_zero, List.set_cons_succ])
            refine wpAnyH_ready (rs := [9]) (by kernel_rfl) (by simp) ?_
            refine AllReadyH.cons (o := ⟨some 60, .call ⟨.value (.func 42), #[.tmp 52, .tmp 53, .tmp 54, .tmp 59], #[23, 3, 3, 23]⟩, 23, "change.go:42", #[⟨1, .data⟩, ⟨2, .data⟩, ⟨3, .data⟩, ⟨8, .data⟩, ⟨8, .chain⟩], none⟩) rfl (fun Kr9 hKr9 => ?_) AllReadyH.nil
            clear hHeld
            go_simp
            go_at_call 42
            refine (HCH.out wN na nc HUN.out HFN.out HNC.out.1 HNC.out.2).mono ?_
            rintro e wC ⟨xs, hxs, rfl, oC, bC⟩
            have HUC : Hid (Below ((((((w9.setCell ⟨w1.heap.size, 0, none⟩ (.int .i64 k9)).setCell ⟨w1.heap.size, 1, none⟩ (.int .i64 n9)).setCell ⟨w1.heap.size, 2, none⟩ (.string t9)).setCell ⟨w1.heap.size, 3, none⟩ (.slice la9 ln9 lc9)).setCell ⟨w1.heap.size, 4, none⟩ (.slice fa9 fn9 fc9)).alloc (.cells #[.int .i64 k9, .int .i64 n9, .string t9, .slice la9 ln9 lc9, .slice fa9 fn9 fc9] 25)).heap.size ((((((w9.setCell ⟨w1.heap.size, 0, none⟩ (.int .i64 k9)).setCell ⟨w1.heap.size, 1, none⟩ (.int .i64 n9)).setCell ⟨w1.heap.size, 2, none⟩ (.string t9)).setCell ⟨w1.heap.size, 3, none⟩ (.slice la9 ln9 lc9)).setCell ⟨w1.heap.size, 4, none⟩ (.slice fa9 fn9 fc9)).alloc (.cells #[.int .i64 k9, .int .i64 n9, .string t9, .slice la9 ln9 lc9, .slice fa9 fn9 fc9] 25)) wC) := hidI (HUN.out.trans (bC.mono HUN.out.size))
            have HSC : Hid (Below w.heap.size w wC) := hidI (HBT.out.trans (HUC.out.mono HBT.out.size))
            have HOC : Hid (wC.ownsRow wN.heap.size 45 6 _ _ ((fldCells d0).take (p * 6) ++ (fldCells d ++ (fldCells d0).drop ((p + 1) * 6)))) := hidI (hxs ▸ oC)
            obtain ⟨gN, hgN⟩ : ∃ gN, gN = wN.heap.size := ⟨_, rfl⟩
            have HGN : Hid (C1 ≤ gN ∧ gN = wN.heap.size) := hidI ⟨by have := HUN.out.size; omega, hgN⟩
            rw [← hgN] at HOC ⊢
            clear oC bC hxs hgN
            go_wp2_with fail
            refine hKr9.out _ _ ?_ (fun hHeld => ?_)
            · exact HSC.out
            clear hKr9 Kr9
            (try simp only [Act.put, List.setIfInBounds_toArray, List.set_cons_zero, List.set_cons_succ])
            refine wpAnyH_take (i := 10) (oi := ⟨some 61, .fieldAddr 25 (.tmp 3) 4, 0, "change.go:42", #[⟨0, .phase⟩, ⟨1, .phase⟩, ⟨2, .phase⟩, ⟨3, .phase⟩, ⟨4, .phase⟩, ⟨5, .phase⟩, ⟨6, .phase⟩, ⟨7, .phase⟩, ⟨8, .phase⟩, ⟨9, .phase⟩], none⟩) (v := .pointer (some ⟨w.heap.size, 4, none⟩)) rfl (by kernel_rfl) (by kernel_rfl) (by kernel_rfl) (fun _ _ _ h => h) (Or.inl ⟨by rfl, ?_⟩) hHeld ?_
            · intro wq hSq
              have s0 := hSq
              clear hSq hHeld
              go_simp
            (try simp only [Act.put, List.setIfInBounds_toArray, List.set_cons_zero, List.set_cons_succ])
            refine wpAnyH_ready (rs := [11]) (by kernel_rfl) (by simp) ?_
            refine AllReadyH.cons (o := ⟨none, .store 23 (.tmp 61) (.tmp 60), 0, "change.go:42", #[⟨10, .data⟩, ⟨9, .data⟩, ⟨9, .chain⟩, ⟨0, .phase⟩, ⟨1, .phase⟩, ⟨2, .phase⟩, ⟨3, .phase⟩, ⟨4, .phase⟩, ⟨5, .phase⟩, ⟨6, .phase⟩, ⟨7, .phase⟩, ⟨8, .phase⟩, ⟨9, .phase⟩], none⟩) rfl (fun Kr11 hKr11 => ?_) AllReadyH.nil
            obtain ⟨y0, y1, y2, y3, y4⟩ := Blk5.cells (Blk5.below HPT.out HUC.out)
            obtain ⟨r0, r1, r2, r3, r4⟩ := Blk5.free (Blk5.below HPT.out HUC.out)
            clear hHeld
            go_simp
            refine hKr11.out _ _ ?_ (fun hHeld => ?_)
            · exact HSC.out.setCell (Nat.le_refl _) _
            clear hKr11 Kr11 y0 y1 y2 y3 y4 r0 r1 r2 r3 r4
            (try simp only [Act.put, List.setIfInBounds_toArray, List.set_cons_zero, List.set_cons_succ])
            refine wpAnyH_done (by kernel_rfl) ?_ _
            clear hHeld
            have hP5 := (Blk5.below HPT.out HUC.out).set4 (u := .slice (some ⟨gN, 0, none⟩) nF nF)
            have hQ5 := (Blk5.below HQT.out HUC.out).other (g := w.heap.size) (i := 4) (u := .slice (some ⟨gN, 0, none⟩) nF nF) (by omega)
            obtain ⟨y0, y1, y2, y3, y4⟩ := Blk5.cells hP5
            obtain ⟨z0, z1, z2, z3, z4⟩ := Blk5.cells hQ5
            obtain ⟨q0, q1, q2, q3, q4⟩ := Blk5.free hQ5
            clear hP5 hQ5
            go_wp2_with fail
            refine bodyPost_ret (v := .tuple #[.agg #[.int .i64 6, .int .i64 n0, .string tx, .slice la ln lc, .slice (some ⟨gN, 0, none⟩) nF nF], .int .i64 0]) ?_ rfl ⟨Or.inr ⟨_, _, HR.out, rfl, ?_⟩, ?_⟩
            · have hres : Try.f24.results = #[.cell 6 25, .tmp 7] := by kernel_rfl
              simp only [results, hres]
              go_simp
            · obtain ⟨hd1, hd2⟩ := HD.out
              obtain ⟨he1, he2⟩ := HD0.out
              have kU : ∀ b o u, (veil B C1 ((((((w9.setCell ⟨w1.heap.size, 0, none⟩ (.int .i64 k9)).setCell ⟨w1.heap.size, 1, none⟩ (.int .i64 n9)).setCell ⟨w1.heap.size, 2, none⟩ (.string t9)).setCell ⟨w1.heap.size, 3, none⟩ (.slice la9 ln9 lc9)).setCell ⟨w1.heap.size, 4, none⟩ (.slice fa9 fn9 fc9)).alloc (.cells #[.int .i64 k9, .int .i64 n9, .string t9, .slice la9 ln9 lc9, .slice fa9 fn9 fc9] 25))).cell? ⟨b, o, none⟩ = some u → (veil B C1 wC).cell? ⟨b, o, none⟩ = some u := veil_below HUC.out
              obtain ⟨a9, c9, e9, h91, h92, hF9⟩ := flds_spl (w := veil B C1 wC) (d0 := d0) (d := d) (nm := nm) (mn := fun _ => s) (f := f) (x := (fun _ => y)) (at' := p) (gone := 1) (veil_own HOC.out (by have := HGN.out; omega)) (by rw [he1, hd1]; exact HNF.out) (by omega) (fun i hi => by obtain ⟨h1, h2, h3⟩ := he2 i hi; exact ⟨h1, h2, ok_mono h3 kU⟩) (fun i hi => by obtain ⟨h1, h2, h3⟩ := hd2 i hi; exact ⟨h1, h2, ok_mono h3 kU⟩)
              cases e9
              rw [hd1, HNF.out] at hF9
              have h91 := h91
              rw [HG.out]
              simp only [GV.spl, if_true]
              rw [← HNF.out] at hF9 ⊢
              obtain ⟨hi1, hi2, hi3⟩ := HIN.out
              have kF : ∀ W', (∀ b, b ≠ w.heap.size → b ≠ w.heap.size + 1 → W'.heap[b]? = wC.heap[b]?) → ∀ b o u, (veil B C1 wC).cell? ⟨b, o, none⟩ = some u → (veil B w.heap.size W').cell? ⟨b, o, none⟩ = some u := fun W' hh => veil_two (C := w.heap.size) (by omega) ⟨hB, by omega⟩ ⟨by omega, by omega⟩ hh
              refine ⟨la, lc, _, _, rfl, hi1, hi2, hi3, h4, h5, h91, h92, Vals.mono (Vals.mono HVLT.out kU) (kF _ (fun b n3 n6 => ?_)), Flds.mono hF9 (kF _ (fun b n3 n6 => ?_))⟩
              all_goals rw [Below.heap_setCell _ ⟨_, _, none⟩ _ b n6, Below.heap_setCell _ ⟨_, _, none⟩ _ b n6, Below.heap_setCell _ ⟨_, _, none⟩ _ b n6, Below.heap_setCell _ ⟨_, _, none⟩ _ b n6, Below.heap_setCell _ ⟨_, _, none⟩ _ b n6]
              all_goals exact Below.heap_setCell wC ⟨w.heap.size, 4, none⟩ _ b n3
            · exact (((((HSC.out.setCell (Nat.le_refl _) _).setCell (Nat.le_succ _) _).setCell (Nat.le_succ _) _).setCell (Nat.le_succ _) _).setCell (Nat.le_succ _) _).setCell (Nat.le_succ _) _
    · have hpq : p + 1 ≤ ln := by omega
      go_enter Try.func24, Try.ntmps24
      go_wp2_with fail
      have Y0 : Below (w.heap.size + 2) ((w.alloc (.cells #[.int .i64 5, .int .i64 n0, .string tx, .slice la ln lc, .slice fa fn fc] 25)).alloc (.cells #[.int .i64 0, .int .i64 0, .string ⟨#[]⟩, .slice none 0 0, .slice none 0 0] 25)) ((w.alloc (.cells #[.int .i64 5, .int .i64 n0, .string tx, .slice la ln lc, .slice fa fn fc] 25)).alloc (.cells #[.int .i64 0, .int .i64 0, .string ⟨#[]⟩, .slice none 0 0, .slice none 0 0] 25)).drew := (Below.refl _ _).drew
      have hS := HSS.out _ Y0
      go_region_held3 (fun u => u.cell? ⟨w.heap.size, 0, none⟩ = some (.int .i64 5) ∧ u.cell? ⟨w.heap.size, 1, none⟩ = some (.int .i64 n0) ∧ u.cell? ⟨w.heap.size, 2, none⟩ = some (.string tx) ∧ u.cell? ⟨w.heap.size, 3, none⟩ = some (.slice la ln lc) ∧ u.cell? ⟨w.heap.size, 4, none⟩ = some (.slice fa fn fc) ∧ u.cell? ⟨sb, so, none⟩ = some (.string s)) (with_reducible exact hS) (first | (go_at_call 40; refine (HF.out _ (HBX.out.trans (Y0.mono (by omega)))).mono ?_; rintro e w1 ⟨rfl, b1⟩; have Y1 := Y0.trans (b1.mono (by simp)); have hS := HSS.out _ Y1))
      have hb1 : Below w.heap.size w w1 := HBX.out.trans (Y1.mono (by omega))
      obtain ⟨hP1, hQ1⟩ := HBK.out _ Y1
      have HP1 : Hid (Blk5 w1 w.heap.size (.int .i64 5) (.int .i64 n0) (.string tx) (.slice la ln lc) (.slice fa fn fc)) := hP1
      have HQ1 : Hid (Blk5 w1 (w.heap.size + 1) (.int .i64 0) (.int .i64 0) (.string ⟨#[]⟩) (.slice none 0 0) (.slice none 0 0)) := hQ1
      have hs1 : w.heap.size + 2 ≤ w1.heap.size := by have := Y1.size; simpa using this
      clear hS b1 Y0 Y1 hP1 hQ1
      have hbu : Below w1.heap.size w1 (w1.alloc (.cells #[.int .i64 6, .int .i64 0, .string ⟨#[]⟩, .slice none 0 0, .slice none 0 0] 25)) := (Below.refl _ _).alloc (Nat.le_refl _) _
      have HI0 : Hid (Blk5 (w1.alloc (.cells #[.int .i64 6, .int .i64 0, .string ⟨#[]⟩, .slice none 0 0, .slice none 0 0] 25)) w1.heap.size (.int .i64 6) (.int .i64 0) (.string ⟨#[]⟩) (.slice none 0 0) (.slice none 0 0)) := Blk5.new w1 _ _ _ _ _
      have HPT0 : Hid (Blk5 (w1.alloc (.cells #[.int .i64 6, .int .i64 0, .string ⟨#[]⟩, .slice none 0 0, .slice none 0 0] 25)) w.heap.size (.int .i64 5) (.int .i64 n0) (.string tx) (.slice la ln lc) (.slice fa fn fc)) := Blk5.below HP1.out hbu
      have HQT0 : Hid (Blk5 (w1.alloc (.cells #[.int .i64 6, .int .i64 0, .string ⟨#[]⟩, .slice none 0 0, .slice none 0 0] 25)) (w.heap.size + 1) (.int .i64 0) (.int .i64 0) (.string ⟨#[]⟩) (.slice none 0 0) (.slice none 0 0)) := Blk5.below HQ1.out hbu
      have hbT0 : Below w.heap.size w (w1.alloc (.cells #[.int .i64 6, .int .i64 0, .string ⟨#[]⟩, .slice none 0 0, .slice none 0 0] 25)) := hb1.trans (hbu.mono hb1.size)
      obtain ⟨c0, c1', c2, c3, c4⟩ := Blk5.cells HPT0.out
      have HBT0 : Hid (Below w.heap.size w (w1.alloc (.cells #[.int .i64 6, .int .i64 0, .string ⟨#[]⟩, .slice none 0 0, .slice none 0 0] 25))) := hbT0
      clear hbu HP1 HQ1 hR hb1 hbT0
      go_wp2_with fail
      refine (HPA.out _ HBT0.out).mono ?_
      rintro e w2 ⟨v2, rfl, hL2, b2⟩
      obtain ⟨k2, n2, t2, la2, ln2, lc2, fa2, fn2, fc2, rfl⟩ := hL2.agg
      have HL2 : Hid (Lies (veil B w.heap.size w) (g.part p) _) := hL2
      have hI1 := Blk5.below HI0.out b2
      have hb2 : Below w.heap.size w w2 := HBT0.out.trans (b2.mono HBT0.out.size)
      have hw2s : w1.heap.size + 1 ≤ w2.heap.size := by have := b2.size; simpa using this
      have HX : Hid (∀ W3, World.setCells w2 w1.heap.size 0 [.int .i64 k2, .int .i64 n2, .string t2, .slice la2 ln2 lc2, .slice fa2 fn2 fc2] = W3 → Blk5 W3 w1.heap.size (.int .i64 k2) (.int .i64 n2) (.string t2) (.slice la2 ln2 lc2) (.slice fa2 fn2 fc2) ∧ Blk5 W3 w.heap.size (.int .i64 5) (.int .i64 n0) (.string tx) (.slice la ln lc) (.slice fa fn fc) ∧ Blk5 W3 (w.heap.size + 1) (.int .i64 0) (.int .i64 0) (.string ⟨#[]⟩) (.slice none 0 0) (.slice none 0 0) ∧ Below w.heap.size w W3 ∧ W3.heap.size = w2.heap.size) := hidI (fun W3 hW3 => by
        have e : put5x w2 w1.heap.size (.int .i64 k2) (.int .i64 n2) (.string t2) (.slice la2 ln2 lc2) (.slice fa2 fn2 fc2) = W3 := hW3
        rw [← e]
        refine ⟨hI1.putx, (Blk5.below HPT0.out b2).putx_other (by omega), (Blk5.below HQT0.out b2).putx_other (by omega), below_putx hb2 (by omega), ?_⟩
        unfold put5x
        simp)
      have hth : w2.there w1.heap.size 0 (#[.int .i64 k2, .int .i64 n2, .string t2, .slice la2 ln2 lc2, .slice fa2 fn2 fc2] : Array Value).size := there_five hI1
      have hall : (#[.int .i64 k2, .int .i64 n2, .string t2, .slice la2 ln2 lc2, .slice fa2 fn2 fc2] : Array Value).all (·.oneCell') = true := by simp [Value.oneCell']
      have hinf : (Try.prog.info? 25).map (·.size) = some (#[.int .i64 k2, .int .i64 n2, .string t2, .slice la2 ln2 lc2, .slice fa2 fn2 fc2] : Array Value).size := sizeVal
      have HTH : Hid (w2.there w1.heap.size 0 (#[.int .i64 k2, .int .i64 n2, .string t2, .slice la2 ln2 lc2, .slice fa2 fn2 fc2] : Array Value).size) := hth
      clear hL2 hI1 hb2 b2 HI0 HPT0 HQT0 HBT0 c0 c1' c2 c3 c4 hth
      by_cases hr0 : r = []
      · have hN1' : ¬ (1 : Int) < (N : Int) := by have := HN.out; rw [hr0] at this; simp at this; omega
        rw [if_pos hr0] at hR'
        have HR : Hid (R = .ok (g.spl p 1 s c x)) := hR'
        clear hR'
        go_wp2_with (with_reducible show wpList _ _ _ (⟨_, Op.store 25 _ _, _, _, _, _⟩ :: _) _ _; refine wpList_store_mid rfl 25 _ _ rfl w1.heap.size 0 #[.int .i64 k2, .int .i64 n2, .string t2, .slice la2 ln2 lc2, .slice fa2 fn2 fc2] rfl rfl HTH.out hinf hall ?_; generalize hW3 : World.setCells _ _ _ _ = W3; obtain ⟨hI, hP, hQ, hbT, hW3s⟩ := HX.out W3 hW3; obtain ⟨c0, c1', c2, c3, c4⟩ := Blk5.cells hP; have HPT : Hid (Blk5 W3 w.heap.size (.int .i64 5) (.int .i64 n0) (.string tx) (.slice la ln lc) (.slice fa fn fc)) := hidI hP; have HQT : Hid (Blk5 W3 (w.heap.size + 1) (.int .i64 0) (.int .i64 0) (.string ⟨#[]⟩) (.slice none 0 0) (.slice none 0 0)) := hidI hQ; clear hI hP hQ hW3)
        obtain ⟨C1, hC1e⟩ : ∃ C1, C1 = w.heap.size + 2 := ⟨_, rfl⟩
        have hC1 : w.heap.size + 2 ≤ C1 := by omega
        have hC1u : C1 ≤ W3.heap.size := by omega
        clear hC1e
        have HVFT : Hid (Flds (veil B C1 W3) fa fn nm f) := hidI (Flds.mono HVF.out (veil_more (Nat.le_refl _) hbT))
        have HVLT : Hid (Vals (veil B C1 W3) la ln l0) := hidI (Vals.mono HVL.out (veil_more (Nat.le_refl _) hbT))
        have HMT : Hid (Vals (veil B C1 W3) ma c x) := hidI (Vals.mono HM.out (veil_more (Nat.le_refl _) hbT))
        obtain ⟨nF, hnF⟩ : ∃ nF, nF = ln - 1 + c := ⟨_, rfl⟩
        have HNF : Hid (nF = ln - 1 + c) := hnF
        have HVW : Hid (∃ vs ms : List Value, vs.length = ln ∧ ms.length = c ∧ (∀ i (hi : i < vs.length), Lies (veil B C1 W3) (l0 i) (vs[i]'hi)) ∧ (∀ i (hi : i < ms.length), Lies (veil B C1 W3) (x i) (ms[i]'hi)) ∧ CRow W3 la (valCells vs) ∧ CRow W3 ma (valCells ms)) := hidI (by
          obtain ⟨vs, e1, e2, e3⟩ := vals_crow HVLT.out
          obtain ⟨ms, e4, e5, e6⟩ := vals_crow HMT.out
          exact ⟨vs, ms, e1, e4, e2, e5, crow_mono e3 veil_off, crow_mono e6 veil_off⟩)
        obtain ⟨vs, ms, hvl, hml2, hvs, hms, hcv, hcm2⟩ := HVW.out
        have HCH : Hid (∀ W, Below W3.heap.size W3 W → Calls Try.prog 27 #[.slice la ln lc, .int .i64 (p : Nat), .int .i64 (1 : Nat), .slice ma c mc] W fun e w' => ∃ xs, xs = (valCells vs).take (p * 5) ++ (valCells ms ++ (valCells vs).drop ((p + 1) * 5)) ∧ e = .returned (.slice (some ⟨W.heap.size, 0, none⟩) nF nF) ∧ w'.ownsRow W.heap.size 25 5 (.slice (some ⟨W.heap.size, 0, none⟩) nF nF) nF xs ∧ Below W.heap.size W w') := hidI (fun W hW => by
          rw [hnF]
          exact changedV (valCells vs) (valCells ms) la ma ln lc c mc p 1 W (by rw [valCells_length _ (five_all hvs), hvl]) (by rw [valCells_length _ (five_all hms), hml2]) (hcv.below hW) (hcm2.below hW) (one_cells hvs) (one_cells hms) h4 h5 (by omega) hmc hpq (by omega) (by omega))
        have HVS : Hid (vs.length = ln ∧ ms.length = c ∧ (∀ i (hi : i < vs.length), Lies (veil B C1 W3) (l0 i) (vs[i]'hi)) ∧ (∀ i (hi : i < ms.length), Lies (veil B C1 W3) (x i) (ms[i]'hi))) := hidI ⟨hvl, hml2, hvs, hms⟩
        have HBT : Hid (Below w.heap.size w W3) := hbT
        clear hvl hml2 hvs hms hcv hcm2 HVW hnF
        go_wp2_with fail
        refine (HCH.out _ (Below.refl _ _)).mono ?_
        rintro e wC ⟨xs, hxs, rfl, oC, bC⟩
        have HUC : Hid (Below W3.heap.size W3 wC) := hidI bC
        have HSC : Hid (Below w.heap.size w wC) := hidI (HBT.out.trans (HUC.out.mono HBT.out.size))
        have HOC : Hid (wC.ownsRow W3.heap.size 25 5 _ _ ((valCells vs).take (p * 5) ++ (valCells ms ++ (valCells vs).drop ((p + 1) * 5)))) := hidI (hxs ▸ oC)
        obtain ⟨gN, hgN⟩ : ∃ gN, gN = W3.heap.size := ⟨_, rfl⟩
        have HGN : Hid (C1 ≤ gN) := hidI (by omega)
        rw [← hgN] at HOC ⊢
        clear oC bC hxs hgN hbT c0 c1' c2 c3 c4
        obtain ⟨y0, y1, y2, y3, y4⟩ := Blk5.cells (Blk5.below HPT.out HUC.out)
        obtain ⟨r0, r1, r2, r3, r4⟩ := Blk5.free (Blk5.below HPT.out HUC.out)
        have hP5 := (Blk5.below HPT.out HUC.out).set3 (u := .slice (some ⟨gN, 0, none⟩) nF nF)
        have hQ5 := (Blk5.below HQT.out HUC.out).other (g := w.heap.size) (i := 3) (u := .slice (some ⟨gN, 0, none⟩) nF nF) (by omega)
        obtain ⟨x0, x1', x2, x3, x4⟩ := Blk5.cells hP5
        obtain ⟨z0, z1, z2, z3, z4⟩ := Blk5.cells hQ5
        obtain ⟨q0, q1, q2, q3, q4⟩ := Blk5.free hQ5
        clear hP5 hQ5
        go_wp2_with fail
        refine bodyPost_ret (v := .tuple #[.agg #[.int .i64 5, .int .i64 n0, .string tx, .slice (some ⟨gN, 0, none⟩) nF nF, .slice fa fn fc], .int .i64 0]) ?_ rfl ⟨Or.inr ⟨_, _, HR.out, rfl, ?_⟩, ?_⟩
        · have hres : Try.f24.results = #[.cell 6 25, .tmp 7] := by kernel_rfl
          simp only [results, hres]
          go_simp
        · obtain ⟨hv1, hm1, hv2, hm2⟩ := HVS.out
          have kU : ∀ b o u, (veil B C1 W3).cell? ⟨b, o, none⟩ = some u → (veil B C1 wC).cell? ⟨b, o, none⟩ = some u := veil_below HUC.out
          obtain ⟨a9, c9, e9, h91, h92, hF9⟩ := vals_spl (w := veil B C1 wC) (vs := vs) (ms := ms) (l := l0) (x := x) (at' := p) (gone := 1) (veil_own HOC.out HGN.out) (by rw [hv1, hm1]; exact HNF.out) (by omega) (fun i hi => Lies.mono kU (hv2 i hi)) (fun i hi => Lies.mono kU (hm2 i hi))
          cases e9
          rw [hm1, HNF.out] at hF9
          rw [HG.out]
          have h56 : ¬ (5 : Int) = 6 := by decide
          simp only [GV.spl, h56, if_false]
          rw [← HNF.out] at hF9 ⊢
          obtain ⟨hi1, hi2, hi3⟩ := HIN.out
          have kF : ∀ W', (∀ b, b ≠ w.heap.size → b ≠ w.heap.size + 1 → W'.heap[b]? = wC.heap[b]?) → ∀ b o u, (veil B C1 wC).cell? ⟨b, o, none⟩ = some u → (veil B w.heap.size W').cell? ⟨b, o, none⟩ = some u := fun W' hh => veil_two (C := w.heap.size) (by omega) ⟨hB, by omega⟩ ⟨by omega, by omega⟩ hh
          refine ⟨_, _, fa, fc, rfl, hi1, hi2, hi3, h91, h92, h6, h7, Vals.mono hF9 (kF _ (fun b n3 n6 => ?_)), Flds.mono (Flds.mono HVFT.out kU) (kF _ (fun b n3 n6 => ?_))⟩
          all_goals rw [Below.heap_setCell _ ⟨_, _, none⟩ _ b n6, Below.heap_setCell _ ⟨_, _, none⟩ _ b n6, Below.heap_setCell _ ⟨_, _, none⟩ _ b n6, Below.heap_setCell _ ⟨_, _, none⟩ _ b n6, Below.heap_setCell _ ⟨_, _, none⟩ _ b n6]
          all_goals exact Below.heap_setCell wC ⟨w.heap.size, 3, none⟩ _ b n3
        · exact (((((HSC.out.setCell (Nat.le_refl _) _).setCell (Nat.le_succ _) _).setCell (Nat.le_succ _) _).setCell (Nat.le_succ _) _).setCell (Nat.le_succ _) _).setCell (Nat.le_succ _) _
      · rw [if_neg hr0] at hR'
        have hlt1' : (1 : Int) < (N : Int) := by have := HN.out; have : r.length ≠ 0 := fun h => hr0 (List.eq_nil_of_length_eq_zero h); omega
        go_wp2_with (with_reducible show wpList _ _ _ (⟨_, Op.store 25 _ _, _, _, _, _⟩ :: _) _ _; refine wpList_store_mid rfl 25 _ _ rfl w1.heap.size 0 #[.int .i64 k2, .int .i64 n2, .string t2, .slice la2 ln2 lc2, .slice fa2 fn2 fc2] rfl rfl HTH.out hinf hall ?_; generalize hW3 : World.setCells _ _ _ _ = W3; obtain ⟨hI, hP, hQ, hbT, hW3s⟩ := HX.out W3 hW3; have HI : Hid (Blk5 W3 w1.heap.size (.int .i64 k2) (.int .i64 n2) (.string t2) (.slice la2 ln2 lc2) (.slice fa2 fn2 fc2)) := hidI hI; have HPT : Hid (Blk5 W3 w.heap.size (.int .i64 5) (.int .i64 n0) (.string tx) (.slice la ln lc) (.slice fa fn fc)) := hidI hP; have HQT : Hid (Blk5 W3 (w.heap.size + 1) (.int .i64 0) (.int .i64 0) (.string ⟨#[]⟩) (.slice none 0 0) (.slice none 0 0)) := hidI hQ; clear hI hP hQ hW3)
        have HIH : Hid (∀ W, Below W3.heap.size W3 W → Calls Try.prog 24 #[.agg #[.int .i64 k2, .int .i64 n2, .string t2, .slice la2 ln2 lc2, .slice fa2 fn2 fc2], .slice (some ⟨sb, so + 1, none⟩) (N - 1 : Nat) (sc - 1 : Nat), .slice ma c mc] W fun e w' => PutEnd B W.heap.size w' (GV.put r (g.part p) c x) e ∧ Below W.heap.size W w') := hidI (fun W hW => by
          have hwW : Below w.heap.size w W := hbT.trans (hW.mono hbT.size)
          have hN' := HN.out
          have h := ih hr0 (g.part p) (.agg #[.int .i64 k2, .int .i64 n2, .string t2, .slice la2 ln2 lc2, .slice fa2 fn2 fc2]) W B (some ⟨sb, so + 1, none⟩) (sc - 1) ma mc c x (by have := hwW.size; omega) (Lies.mono (veil_more (Nat.le_refl _) hwW) HL2.out) (fit_part HFIT.out HHAS.out) (HSTL.out.below hwW) (fun y hy => HST.out y (by simp [hy])) (by omega) (by omega) (Vals.mono HM.out (veil_more (Nat.le_refl _) hwW)) hc1 hcm hmc
          rw [show r.length = N - 1 by omega] at h
          exact h)
        have HBT : Hid (Below w.heap.size w W3) := hbT
        have hlt1 : (1 : Int) < (N : Int) := by have := HN.out; have : r.length ≠ 0 := fun h => hr0 (List.eq_nil_of_length_eq_zero h); omega
        have hcut1 : ¬ sc = 1 := by omega
        obtain ⟨c0, c1', c2, c3, c4⟩ := Blk5.cells HI.out
        have d0 : W3.drew.cell? ⟨w1.heap.size, 0, none⟩ = some (.int .i64 k2) := (drew_cell _ _).trans c0
        have d1 : W3.drew.cell? ⟨w1.heap.size, 1, none⟩ = some (.int .i64 n2) := (drew_cell _ _).trans c1'
        have d2 : W3.drew.cell? ⟨w1.heap.size, 2, none⟩ = some (.string t2) := (drew_cell _ _).trans c2
        have d3 : W3.drew.cell? ⟨w1.heap.size, 3, none⟩ = some (.slice la2 ln2 lc2) := (drew_cell _ _).trans c3
        have d4 : W3.drew.cell? ⟨w1.heap.size, 4, none⟩ = some (.slice fa2 fn2 fc2) := (drew_cell _ _).trans c4
        clear c0 c1' c2 c3 c4
        cases hput : GV.put r (g.part p) c x with
        | error er =>
          rw [hput] at hR'
          have HE : Hid (R = .error er) := hR'
          clear hR'
          refine wp_region_held_drew (S := fun _ => True) (by kernel_rfl) trivial (fun hHeld => ?_)
          refine wpAnyH_take (i := 1) (oi := ⟨some 36, .move (.tmp 1), 40, "change.go:35", #[], none⟩) (v := .slice (some ⟨sb, so, none⟩) N sc) rfl (by kernel_rfl) (by kernel_rfl) (by kernel_rfl) (fun _ _ _ h => h) (Or.inl ⟨by rfl, ?_⟩) hHeld ?_
          · intro wq hSq
            clear hSq hHeld
            go_simp
          (try simp only [Act.put, List.setIfInBounds_toArray, List.set_cons_zero, List.set_cons_succ])
          refine wpAnyH_take (i := 2) (oi := ⟨some 37, .slice 40 (.tmp 36) (some (.const (.int .i64 1))) none none, 40, "change.go:35", #[⟨1, .data⟩], none⟩) (v := .slice (some ⟨sb, so + 1, none⟩) (N - 1 : Nat) (sc - 1 : Nat)) rfl (by kernel_rfl) (by kernel_rfl) (by kernel_rfl) (fun _ _ _ h => h) (Or.inl ⟨by rfl, ?_⟩) hHeld ?_
          · intro wq hSq
            clear hSq hHeld
            go_simp
          (try simp only [Act.put, List.setIfInBounds_toArray, List.set_cons_zero, List.set_cons_succ])
          refine wpAnyH_take (i := 3) (oi := ⟨some 38, .move (.tmp 2), 22, "change.go:35", #[], none⟩) (v := .slice ma c mc) rfl (by kernel_rfl) (by kernel_rfl) (by kernel_rfl) (fun _ _ _ h => h) (Or.inl ⟨by rfl, ?_⟩) hHeld ?_
          · intro wq hSq
            clear hSq hHeld
            go_simp
          (try simp only [Act.put, List.setIfInBounds_toArray, List.set_cons_zero, List.set_cons_succ])
          refine wpAnyH_ready (rs := [0]) (by kernel_rfl) (by simp) ?_
          refine AllReadyH.cons (o := ⟨some 35, .load 25 (.tmp 12), 25, "change.go:35", #[], none⟩) rfl (fun Kr0 hKr0 => ?_) AllReadyH.nil
          clear hHeld
          go_simp
          refine hKr0.out _ _ trivial (fun hHeld => ?_)
          clear hKr0 Kr0 d0 d1 d2 d3 d4
          (try simp only [Act.put, List.setIfInBounds_toArray, List.set_cons_zero, List.set_cons_succ])
          refine wpAnyH_ready (rs := [4]) (by kernel_rfl) (by simp) ?_
          refine AllReadyH.cons (o := ⟨some 39, .call ⟨.value (.func 24), #[.tmp 35, .tmp 37, .tmp 38], #[25, 40, 22]⟩, 29, "change.go:35", #[⟨0, .data⟩, ⟨2, .data⟩, ⟨3, .data⟩], none⟩) rfl (fun Kr4 hKr4 => ?_) AllReadyH.nil
          clear hHeld
          go_simp
          go_at_call 24
          refine (HIH.out _ (Below.refl _ _).drew).mono ?_
          rintro e w9 ⟨hE9, b9⟩
          obtain ⟨rfl, her⟩ : e = .returned (.tuple #[.agg #[.int .i64 0, .int .i64 0, .string ⟨#[]⟩, .slice none 0 0, .slice none 0 0], .int .i64 er]) ∧ (er = 7 ∨ er = 8) := by
            rcases hE9 with ⟨er', h, h1, h2⟩ | ⟨y, v9, h, _⟩
            · rw [hput] at h; cases h; exact ⟨h2, h1⟩
            · rw [hput] at h; cases h
          have HEE : Hid (er = 7 ∨ er = 8) := her
          have heb : (er != 0) = true := by rw [bne_iff_ne]; omega
          have H9 : Hid (Below W3.heap.size W3 w9) := hidI ((Below.refl _ W3).drew.trans (b9.mono (Nat.le_refl _)))
          clear hE9 b9 her
          go_wp2_with fail
          refine hKr4.out _ _ trivial (fun hHeld => ?_)
          clear hKr4 Kr4
          (try simp only [Act.put, List.setIfInBounds_toArray, List.set_cons_zero, List.set_cons_succ])
          refine wpAnyH_take (i := 5) (oi := ⟨some 34, .move (.tmp 39), 29, "change.go:35", #[⟨4, .data⟩], none⟩) (v := .tuple #[.agg #[.int .i64 0, .int .i64 0, .string ⟨#[]⟩, .slice none 0 0, .slice none 0 0], .int .i64 er]) rfl (by kernel_rfl) (by kernel_rfl) (by kernel_rfl) (fun _ _ _ h => h) (Or.inl ⟨by rfl, ?_⟩) hHeld ?_
          · intro wq hSq
            clear hSq hHeld
            go_simp
          (try simp only [Act.put, List.setIfInBounds_toArray, List.set_cons_zero, List.set_cons_succ])
          refine wpAnyH_take (i := 6) (oi := ⟨some 40, .extract (.tmp 34) 0, 25, "change.go:35", #[⟨5, .data⟩], none⟩) (v := .agg #[.int .i64 0, .int .i64 0, .string ⟨#[]⟩, .slice none 0 0, .slice none 0 0]) rfl (by kernel_rfl) (by kernel_rfl) (by kernel_rfl) (fun _ _ _ h => h) (Or.inl ⟨by rfl, ?_⟩) hHeld ?_
          · intro wq hSq
            clear hSq hHeld
            go_simp
          (try simp only [Act.put, List.setIfInBounds_toArray, List.set_cons_zero, List.set_cons_succ])
          refine wpAnyH_take (i := 7) (oi := ⟨some 41, .extract (.tmp 34) 1, 28, "change.go:35", #[⟨5, .data⟩, ⟨8, .gcOnly .lateStores⟩], none⟩) (v := .int .i64 er) rfl (by kernel_rfl) (by kernel_rfl) (by kernel_rfl) (fun _ _ _ h => h) (Or.inl ⟨by rfl, ?_⟩) hHeld ?_
          · intro wq hSq
            clear hSq hHeld
            go_simp
          (try simp only [Act.put, List.setIfInBounds_toArray, List.set_cons_zero, List.set_cons_succ])
          refine wpAnyH_ready (rs := [8]) (by kernel_rfl) (by simp) ?_
          refine AllReadyH.cons (o := ⟨none, .store 25 (.tmp 12) (.tmp 40), 0, "change.go:35", #[⟨6, .data⟩, ⟨4, .chain⟩, ⟨0, .phase⟩, ⟨1, .phase⟩, ⟨2, .phase⟩, ⟨3, .phase⟩, ⟨4, .phase⟩, ⟨5, .phase⟩, ⟨6, .phase⟩, ⟨7, .textOnly .lateStores⟩], none⟩) rfl (fun Kr8 hKr8 => ?_) AllReadyH.nil
          obtain ⟨y0, y1, y2, y3, y4⟩ := Blk5.cells (Blk5.below HI.out H9.out)
          obtain ⟨r0, r1, r2, r3, r4⟩ := Blk5.free (Blk5.below HI.out H9.out)
          clear hHeld
          go_simp
          refine hKr8.out _ _ trivial (fun hHeld => ?_)
          clear hKr8 Kr8 y0 y1 y2 y3 y4 r0 r1 r2 r3 r4
          (try simp only [Act.put, List.setIfInBounds_toArray, List.set_cons_zero, List.set_cons_succ])
          refine wpAnyH_take (i := 9) (oi := ⟨some 10, .assign (.tmp 41), 28, "change.go:35", #[⟨7, .data⟩, ⟨8, .chain⟩, ⟨0, .phase⟩, ⟨1, .phase⟩, ⟨2, .phase⟩, ⟨3, .phase⟩, ⟨4, .phase⟩, ⟨5, .phase⟩, ⟨6, .phase⟩, ⟨7, .phase⟩, ⟨8, .phase⟩], none⟩) (v := .int .i64 er) rfl (by kernel_rfl) (by kernel_rfl) (by kernel_rfl) (fun _ _ _ h => h) (Or.inl ⟨by rfl, ?_⟩) hHeld ?_
          · intro wq hSq
            clear hSq hHeld
            go_simp
          (try simp only [Act.put, List.setIfInBounds_toArray, List.set_cons_zero, List.set_cons_succ])
          refine wpAnyH_done (by kernel_rfl) ?_ _
          clear hHeld
          have hQ9 := (Blk5.below HQT.out H9.out).putx_other (g := w1.heap.size) (y0 := .int .i64 0) (y1 := .int .i64 0) (y2 := .string ⟨#[]⟩) (y3 := .slice none 0 0) (y4 := .slice none 0 0) (by omega)
          unfold put5x at hQ9
          obtain ⟨z0, z1, z2, z3, z4⟩ := Blk5.cells hQ9
          obtain ⟨q0, q1, q2, q3, q4⟩ := Blk5.free hQ9
          have HB1 : Hid (Below w.heap.size w w9) := hidI (HBT.out.trans (H9.out.mono HBT.out.size))
          clear hQ9
          go_wp2_with fail
          refine bodyPost_ret (v := .tuple #[vZ, .int .i64 er]) ?_ rfl ⟨Or.inl ⟨er, HE.out, HEE.out, rfl⟩, ?_⟩
          · have hres : Try.f24.results = #[.cell 6 25, .tmp 7] := by kernel_rfl
            simp only [results, hres]
            go_simp
            rfl
          · have hKw : w.heap.size ≤ w1.heap.size := by omega
            exact (((((((((HB1.out.setCell hKw _).setCell hKw _).setCell hKw _).setCell hKw _).setCell hKw _).setCell (Nat.le_succ _) _).setCell (Nat.le_succ _) _).setCell (Nat.le_succ _) _).setCell (Nat.le_succ _) _).setCell (Nat.le_succ _) _
        | ok y =>
          rw [hput] at hR'
          have HR : Hid (R = .ok (g.spl p 1 s 1 fun _ => y)) := hR'
          clear hR'
          refine wp_region_held_drew (S := fun _ => True) (by kernel_rfl) trivial (fun hHeld => ?_)
          refine wpAnyH_take (i := 1) (oi := ⟨some 36, .move (.tmp 1), 40, "change.go:35", #[], none⟩) (v := .slice (some ⟨sb, so, none⟩) N sc) rfl (by kernel_rfl) (by kernel_rfl) (by kernel_rfl) (fun _ _ _ h => h) (Or.inl ⟨by rfl, ?_⟩) hHeld ?_
          · intro wq hSq
            clear hSq hHeld
            go_simp
          (try simp only [Act.put, List.setIfInBounds_toArray, List.set_cons_zero, List.set_cons_succ])
          refine wpAnyH_take (i := 2) (oi := ⟨some 37, .slice 40 (.tmp 36) (some (.const (.int .i64 1))) none none, 40, "change.go:35", #[⟨1, .data⟩], none⟩) (v := .slice (some ⟨sb, so + 1, none⟩) (N - 1 : Nat) (sc - 1 : Nat)) rfl (by kernel_rfl) (by kernel_rfl) (by kernel_rfl) (fun _ _ _ h => h) (Or.inl ⟨by rfl, ?_⟩) hHeld ?_
          · intro wq hSq
            clear hSq hHeld
            go_simp
          (try simp only [Act.put, List.setIfInBounds_toArray, List.set_cons_zero, List.set_cons_succ])
          refine wpAnyH_take (i := 3) (oi := ⟨some 38, .move (.tmp 2), 22, "change.go:35", #[], none⟩) (v := .slice ma c mc) rfl (by kernel_rfl) (by kernel_rfl) (by kernel_rfl) (fun _ _ _ h => h) (Or.inl ⟨by rfl, ?_⟩) hHeld ?_
          · intro wq hSq
            clear hSq hHeld
            go_simp
          (try simp only [Act.put, List.setIfInBounds_toArray, List.set_cons_zero, List.set_cons_succ])
          refine wpAnyH_ready (rs := [0]) (by kernel_rfl) (by simp) ?_
          refine AllReadyH.cons (o := ⟨some 35, .load 25 (.tmp 12), 25, "change.go:35", #[], none⟩) rfl (fun Kr0 hKr0 => ?_) AllReadyH.nil
          clear hHeld
          go_simp
          refine hKr0.out _ _ trivial (fun hHeld => ?_)
          clear hKr0 Kr0 d0 d1 d2 d3 d4
          (try simp only [Act.put, List.setIfInBounds_toArray, List.set_cons_zero, List.set_cons_succ])
          refine wpAnyH_ready (rs := [4]) (by kernel_rfl) (by simp) ?_
          refine AllReadyH.cons (o := ⟨some 39, .call ⟨.value (.func 24), #[.tmp 35, .tmp 37, .tmp 38], #[25, 40, 22]⟩, 29, "change.go:35", #[⟨0, .data⟩, ⟨2, .data⟩, ⟨3, .data⟩], none⟩) rfl (fun Kr4 hKr4 => ?_) AllReadyH.nil
          clear hHeld
          go_simp
          go_at_call 24
          refine (HIH.out _ (Below.refl _ _).drew).mono ?_
          rintro e w9 ⟨hE9, b9⟩
          obtain ⟨y9, v9, hy9, rfl, hL9⟩ : ∃ y9 v9, (Except.ok y : Except Int GV) = .ok y9 ∧ e = .returned (.tuple #[v9, .int .i64 0]) ∧ Lies (veil B (World.heap W3.drew).size w9) y9 v9 := by
            rcases hE9 with ⟨er, h, _⟩ | h
            · rw [hput] at h; cases h
            · rw [hput] at h; exact h
          injection hy9 with hy9
          subst hy9
          obtain ⟨k9, n9, t9, la9, ln9, lc9, fa9, fn9, fc9, rfl⟩ := hL9.agg
          have HL9 : Hid (Lies (veil B (World.heap W3).size w9) y _) := hL9
          have H9 : Hid (Below W3.heap.size W3 w9) := hidI ((Below.refl _ W3).drew.trans (b9.mono (Nat.le_refl _)))
          clear hE9 b9 hL9
          go_wp2_with fail
          refine hKr4.out _ _ trivial (fun hHeld => ?_)
          clear hKr4 Kr4
          (try simp only [Act.put, List.setIfInBounds_toArray, List.set_cons_zero, List.set_cons_succ])
          refine wpAnyH_take (i := 5) (oi := ⟨some 34, .move (.tmp 39), 29, "change.go:35", #[⟨4, .data⟩], none⟩) (v := .tuple #[.agg #[.int .i64 k9, .int .i64 n9, .string t9, .slice la9 ln9 lc9, .slice fa9 fn9 fc9], .int .i64 0]) rfl (by kernel_rfl) (by kernel_rfl) (by kernel_rfl) (fun _ _ _ h => h) (Or.inl ⟨by rfl, ?_⟩) hHeld ?_
          · intro wq hSq
            clear hSq hHeld
            go_simp
          (try simp only [Act.put, List.setIfInBounds_toArray, List.set_cons_zero, List.set_cons_succ])
          refine wpAnyH_take (i := 6) (oi := ⟨some 40, .extract (.tmp 34) 0, 25, "change.go:35", #[⟨5, .data⟩], none⟩) (v := .agg #[.int .i64 k9, .int .i64 n9, .string t9, .slice la9 ln9 lc9, .slice fa9 fn9 fc9]) rfl (by kernel_rfl) (by kernel_rfl) (by kernel_rfl) (fun _ _ _ h => h) (Or.inl ⟨by rfl, ?_⟩) hHeld ?_
          · intro wq hSq
            clear hSq hHeld
            go_simp
          (try simp only [Act.put, List.setIfInBounds_toArray, List.set_cons_zero, List.set_cons_succ])
          refine wpAnyH_take (i := 7) (oi := ⟨some 41, .extract (.tmp 34) 1, 28, "change.go:35", #[⟨5, .data⟩, ⟨8, .gcOnly .lateStores⟩], none⟩) (v := .int .i64 0) rfl (by kernel_rfl) (by kernel_rfl) (by kernel_rfl) (fun _ _ _ h => h) (Or.inl ⟨by rfl, ?_⟩) hHeld ?_
          · intro wq hSq
            clear hSq hHeld
            go_simp
          (try simp only [Act.put, List.setIfInBounds_toArray, List.set_cons_zero, List.set_cons_succ])
          refine wpAnyH_ready (rs := [8]) (by kernel_rfl) (by simp) ?_
          refine AllReadyH.cons (o := ⟨none, .store 25 (.tmp 12) (.tmp 40), 0, "change.go:35", #[⟨6, .data⟩, ⟨4, .chain⟩, ⟨0, .phase⟩, ⟨1, .phase⟩, ⟨2, .phase⟩, ⟨3, .phase⟩, ⟨4, .phase⟩, ⟨5, .phase⟩, ⟨6, .phase⟩, ⟨7, .textOnly .lateStores⟩], none⟩) rfl (fun Kr8 hKr8 => ?_) AllReadyH.nil
          obtain ⟨y0, y1, y2, y3, y4⟩ := Blk5.cells (Blk5.below HI.out H9.out)
          obtain ⟨r0, r1, r2, r3, r4⟩ := Blk5.free (Blk5.below HI.out H9.out)
          clear hHeld
          go_simp
          refine hKr8.out _ _ trivial (fun hHeld => ?_)
          clear hKr8 Kr8 y0 y1 y2 y3 y4 r0 r1 r2 r3 r4
          (try simp only [Act.put, List.setIfInBounds_toArray, List.set_cons_zero, List.set_cons_succ])
          refine wpAnyH_take (i := 9) (oi := ⟨some 10, .assign (.tmp 41), 28, "change.go:35", #[⟨7, .data⟩, ⟨8, .chain⟩, ⟨0, .phase⟩, ⟨1, .phase⟩, ⟨2, .phase⟩, ⟨3, .phase⟩, ⟨4, .phase⟩, ⟨5, .phase⟩, ⟨6, .phase⟩, ⟨7, .phase⟩, ⟨8, .phase⟩], none⟩) (v := .int .i64 0) rfl (by kernel_rfl) (by kernel_rfl) (by kernel_rfl) (fun _ _ _ h => h) (Or.inl ⟨by rfl, ?_⟩) hHeld ?_
          · intro wq hSq
            clear hSq hHeld
            go_simp
          (try simp only [Act.put, List.setIfInBounds_toArray, List.set_cons_zero, List.set_cons_succ])
          refine wpAnyH_done (by kernel_rfl) ?_ _
          clear hHeld
          have hP9 := (Blk5.below HPT.out H9.out).putx_other (g := w1.heap.size) (y0 := .int .i64 k9) (y1 := .int .i64 n9) (y2 := .string t9) (y3 := .slice la9 ln9 lc9) (y4 := .slice fa9 fn9 fc9) (by omega)
          have hQ9 := (Blk5.below HQT.out H9.out).putx_other (g := w1.heap.size) (y0 := .int .i64 k9) (y1 := .int .i64 n9) (y2 := .string t9) (y3 := .slice la9 ln9 lc9) (y4 := .slice fa9 fn9 fc9) (by omega)
          have hI9 := (Blk5.below HI.out H9.out).putx (y0 := .int .i64 k9) (y1 := .int .i64 n9) (y2 := .string t9) (y3 := .slice la9 ln9 lc9) (y4 := .slice fa9 fn9 fc9)
          have hB9 := below_putx (b := w1.heap.size) (y0 := .int .i64 k9) (y1 := .int .i64 n9) (y2 := .string t9) (y3 := .slice la9 ln9 lc9) (y4 := .slice fa9 fn9 fc9) (HBT.out.trans (H9.out.mono HBT.out.size)) (show w.heap.size ≤ w1.heap.size by omega)
          have hU9s := H9.out.size
          obtain ⟨C1, hC1e⟩ : ∃ C1, C1 = W3.heap.size := ⟨_, rfl⟩
          have hKC : w1.heap.size < C1 := by rw [hC1e]; exact Blk5.lt HI.out
          have hC1 : w.heap.size + 2 ≤ C1 := by omega
          rw [← hC1e] at HL9 hU9s
          have hL9v := Lies.mono (veil_keep (B := B) (C := C1) (w := w9) (w' := put5x w9 (w1.heap.size) (.int .i64 k9) (.int .i64 n9) (.string t9) (.slice la9 ln9 lc9) (.slice fa9 fn9 fc9)) (fun _ h1 h2 _ => ⟨h1, h2⟩) (fun b hb _ => putx_heap (fun e => hb (e ▸ ⟨by omega, hKC⟩)))) HL9.out
          unfold put5x at hP9 hQ9 hI9 hB9 hL9v
          have hbu := (Below.refl (((((w9.setCell ⟨w1.heap.size, 0, none⟩ (.int .i64 k9)).setCell ⟨w1.heap.size, 1, none⟩ (.int .i64 n9)).setCell ⟨w1.heap.size, 2, none⟩ (.string t9)).setCell ⟨w1.heap.size, 3, none⟩ (.slice la9 ln9 lc9)).setCell ⟨w1.heap.size, 4, none⟩ (.slice fa9 fn9 fc9)).heap.size (((((w9.setCell ⟨w1.heap.size, 0, none⟩ (.int .i64 k9)).setCell ⟨w1.heap.size, 1, none⟩ (.int .i64 n9)).setCell ⟨w1.heap.size, 2, none⟩ (.string t9)).setCell ⟨w1.heap.size, 3, none⟩ (.slice la9 ln9 lc9)).setCell ⟨w1.heap.size, 4, none⟩ (.slice fa9 fn9 fc9))).alloc (Nat.le_refl _) (.cells #[.int .i64 k9, .int .i64 n9, .string t9, .slice la9 ln9 lc9, .slice fa9 fn9 fc9] 25)
          have hw9s : (((((w9.setCell ⟨w1.heap.size, 0, none⟩ (.int .i64 k9)).setCell ⟨w1.heap.size, 1, none⟩ (.int .i64 n9)).setCell ⟨w1.heap.size, 2, none⟩ (.string t9)).setCell ⟨w1.heap.size, 3, none⟩ (.slice la9 ln9 lc9)).setCell ⟨w1.heap.size, 4, none⟩ (.slice fa9 fn9 fc9)).heap.size = w9.heap.size := by simp
          have HPT : Hid (Blk5 ((((((w9.setCell ⟨w1.heap.size, 0, none⟩ (.int .i64 k9)).setCell ⟨w1.heap.size, 1, none⟩ (.int .i64 n9)).setCell ⟨w1.heap.size, 2, none⟩ (.string t9)).setCell ⟨w1.heap.size, 3, none⟩ (.slice la9 ln9 lc9)).setCell ⟨w1.heap.size, 4, none⟩ (.slice fa9 fn9 fc9)).alloc (.cells #[.int .i64 k9, .int .i64 n9, .string t9, .slice la9 ln9 lc9, .slice fa9 fn9 fc9] 25)) w.heap.size (.int .i64 5) (.int .i64 n0) (.string tx) (.slice la ln lc) (.slice fa fn fc)) := hidI (Blk5.below hP9 hbu)
          have HQT : Hid (Blk5 ((((((w9.setCell ⟨w1.heap.size, 0, none⟩ (.int .i64 k9)).setCell ⟨w1.heap.size, 1, none⟩ (.int .i64 n9)).setCell ⟨w1.heap.size, 2, none⟩ (.string t9)).setCell ⟨w1.heap.size, 3, none⟩ (.slice la9 ln9 lc9)).setCell ⟨w1.heap.size, 4, none⟩ (.slice fa9 fn9 fc9)).alloc (.cells #[.int .i64 k9, .int .i64 n9, .string t9, .slice la9 ln9 lc9, .slice fa9 fn9 fc9] 25)) (w.heap.size + 1) (.int .i64 0) (.int .i64 0) (.string ⟨#[]⟩) (.slice none 0 0) (.slice none 0 0)) := hidI (Blk5.below hQ9 hbu)
          have hbT : Below w.heap.size w ((((((w9.setCell ⟨w1.heap.size, 0, none⟩ (.int .i64 k9)).setCell ⟨w1.heap.size, 1, none⟩ (.int .i64 n9)).setCell ⟨w1.heap.size, 2, none⟩ (.string t9)).setCell ⟨w1.heap.size, 3, none⟩ (.slice la9 ln9 lc9)).setCell ⟨w1.heap.size, 4, none⟩ (.slice fa9 fn9 fc9)).alloc (.cells #[.int .i64 k9, .int .i64 n9, .string t9, .slice la9 ln9 lc9, .slice fa9 fn9 fc9] 25)) := hB9.trans (hbu.mono hB9.size)
          have hC1u : C1 ≤ ((((((w9.setCell ⟨w1.heap.size, 0, none⟩ (.int .i64 k9)).setCell ⟨w1.heap.size, 1, none⟩ (.int .i64 n9)).setCell ⟨w1.heap.size, 2, none⟩ (.string t9)).setCell ⟨w1.heap.size, 3, none⟩ (.slice la9 ln9 lc9)).setCell ⟨w1.heap.size, 4, none⟩ (.slice fa9 fn9 fc9)).alloc (.cells #[.int .i64 k9, .int .i64 n9, .string t9, .slice la9 ln9 lc9, .slice fa9 fn9 fc9] 25)).heap.size := by simp; omega
          have HVFT : Hid (Flds (veil B C1 ((((((w9.setCell ⟨w1.heap.size, 0, none⟩ (.int .i64 k9)).setCell ⟨w1.heap.size, 1, none⟩ (.int .i64 n9)).setCell ⟨w1.heap.size, 2, none⟩ (.string t9)).setCell ⟨w1.heap.size, 3, none⟩ (.slice la9 ln9 lc9)).setCell ⟨w1.heap.size, 4, none⟩ (.slice fa9 fn9 fc9)).alloc (.cells #[.int .i64 k9, .int .i64 n9, .string t9, .slice la9 ln9 lc9, .slice fa9 fn9 fc9] 25))) fa fn nm f) := hidI (Flds.mono HVF.out (veil_more (Nat.le_refl _) hbT))
          have HVLT : Hid (Vals (veil B C1 ((((((w9.setCell ⟨w1.heap.size, 0, none⟩ (.int .i64 k9)).setCell ⟨w1.heap.size, 1, none⟩ (.int .i64 n9)).setCell ⟨w1.heap.size, 2, none⟩ (.string t9)).setCell ⟨w1.heap.size, 3, none⟩ (.slice la9 ln9 lc9)).setCell ⟨w1.heap.size, 4, none⟩ (.slice fa9 fn9 fc9)).alloc (.cells #[.int .i64 k9, .int .i64 n9, .string t9, .slice la9 ln9 lc9, .slice fa9 fn9 fc9] 25))) la ln l0) := hidI (Vals.mono HVL.out (veil_more (Nat.le_refl _) hbT))
          have HMT : Hid (Vals (veil B C1 ((((((w9.setCell ⟨w1.heap.size, 0, none⟩ (.int .i64 k9)).setCell ⟨w1.heap.size, 1, none⟩ (.int .i64 n9)).setCell ⟨w1.heap.size, 2, none⟩ (.string t9)).setCell ⟨w1.heap.size, 3, none⟩ (.slice la9 ln9 lc9)).setCell ⟨w1.heap.size, 4, none⟩ (.slice fa9 fn9 fc9)).alloc (.cells #[.int .i64 k9, .int .i64 n9, .string t9, .slice la9 ln9 lc9, .slice fa9 fn9 fc9] 25))) (some ⟨w9.heap.size, 0, none⟩) 1 (fun _ => y)) := hidI (fun i hi => by
            obtain rfl : i = 0 := by omega
            refine ⟨w9.heap.size, 0, _, rfl, Lies.mono (veil_below hbu) hL9v, fun j hj => ?_⟩
            have hnb : ¬ (B ≤ w9.heap.size ∧ w9.heap.size < C1) := by omega
            rw [World.cell?_of_block (a := ⟨w9.heap.size, 0 + 0 * 5 + j, none⟩) (veil_block hnb)]
            have hblk : Blk5 ((((((w9.setCell ⟨w1.heap.size, 0, none⟩ (.int .i64 k9)).setCell ⟨w1.heap.size, 1, none⟩ (.int .i64 n9)).setCell ⟨w1.heap.size, 2, none⟩ (.string t9)).setCell ⟨w1.heap.size, 3, none⟩ (.slice la9 ln9 lc9)).setCell ⟨w1.heap.size, 4, none⟩ (.slice fa9 fn9 fc9)).alloc (.cells #[.int .i64 k9, .int .i64 n9, .string t9, .slice la9 ln9 lc9, .slice fa9 fn9 fc9] 25)) w9.heap.size (.int .i64 k9) (.int .i64 n9) (.string t9) (.slice la9 ln9 lc9) (.slice fa9 fn9 fc9) := by have := Blk5.new (((((w9.setCell ⟨w1.heap.size, 0, none⟩ (.int .i64 k9)).setCell ⟨w1.heap.size, 1, none⟩ (.int .i64 n9)).setCell ⟨w1.heap.size, 2, none⟩ (.string t9)).setCell ⟨w1.heap.size, 3, none⟩ (.slice la9 ln9 lc9)).setCell ⟨w1.heap.size, 4, none⟩ (.slice fa9 fn9 fc9)) (.int .i64 k9) (.int .i64 n9) (.string t9) (.slice la9 ln9 lc9) (.slice fa9 fn9 fc9); rw [hw9s] at this; exact this
            rw [show 0 + 0 * 5 + j = j by omega, cell_of_row _ _ _ _ _ _ hblk]
            rfl)
          obtain ⟨i0, i1', i2, i3, i4⟩ := Blk5.cells hI9
          obtain ⟨c0, c1', c2, c3, c4⟩ := Blk5.cells HPT.out
          have hw9 := hw9s
          clear hP9 hQ9 hI9 hB9 hL9v hbu hw9s hC1e
          go_wp2_with fail
          obtain ⟨nF, hnF⟩ : ∃ nF, nF = ln - 1 + 1 := ⟨_, rfl⟩
          have HNF : Hid (nF = ln - 1 + 1) := hnF
          have HVW : Hid (∃ vs ms : List Value, vs.length = ln ∧ ms.length = 1 ∧ (∀ i (hi : i < vs.length), Lies (veil B C1 ((((((w9.setCell ⟨w1.heap.size, 0, none⟩ (.int .i64 k9)).setCell ⟨w1.heap.size, 1, none⟩ (.int .i64 n9)).setCell ⟨w1.heap.size, 2, none⟩ (.string t9)).setCell ⟨w1.heap.size, 3, none⟩ (.slice la9 ln9 lc9)).setCell ⟨w1.heap.size, 4, none⟩ (.slice fa9 fn9 fc9)).alloc (.cells #[.int .i64 k9, .int .i64 n9, .string t9, .slice la9 ln9 lc9, .slice fa9 fn9 fc9] 25))) (l0 i) (vs[i]'hi)) ∧ (∀ i (hi : i < ms.length), Lies (veil B C1 ((((((w9.setCell ⟨w1.heap.size, 0, none⟩ (.int .i64 k9)).setCell ⟨w1.heap.size, 1, none⟩ (.int .i64 n9)).setCell ⟨w1.heap.size, 2, none⟩ (.string t9)).setCell ⟨w1.heap.size, 3, none⟩ (.slice la9 ln9 lc9)).setCell ⟨w1.heap.size, 4, none⟩ (.slice fa9 fn9 fc9)).alloc (.cells #[.int .i64 k9, .int .i64 n9, .string t9, .slice la9 ln9 lc9, .slice fa9 fn9 fc9] 25))) ((fun _ => y) i) (ms[i]'hi)) ∧ CRow ((((((w9.setCell ⟨w1.heap.size, 0, none⟩ (.int .i64 k9)).setCell ⟨w1.heap.size, 1, none⟩ (.int .i64 n9)).setCell ⟨w1.heap.size, 2, none⟩ (.string t9)).setCell ⟨w1.heap.size, 3, none⟩ (.slice la9 ln9 lc9)).setCell ⟨w1.heap.size, 4, none⟩ (.slice fa9 fn9 fc9)).alloc (.cells #[.int .i64 k9, .int .i64 n9, .string t9, .slice la9 ln9 lc9, .slice fa9 fn9 fc9] 25)) la (valCells vs) ∧ CRow ((((((w9.setCell ⟨w1.heap.size, 0, none⟩ (.int .i64 k9)).setCell ⟨w1.heap.size, 1, none⟩ (.int .i64 n9)).setCell ⟨w1.heap.size, 2, none⟩ (.string t9)).setCell ⟨w1.heap.size, 3, none⟩ (.slice la9 ln9 lc9)).setCell ⟨w1.heap.size, 4, none⟩ (.slice fa9 fn9 fc9)).alloc (.cells #[.int .i64 k9, .int .i64 n9, .string t9, .slice la9 ln9 lc9, .slice fa9 fn9 fc9] 25)) (some ⟨w9.heap.size, 0, none⟩) (valCells ms)) := hidI (by
            obtain ⟨vs, e1, e2, e3⟩ := vals_crow HVLT.out
            obtain ⟨ms, e4, e5, e6⟩ := vals_crow HMT.out
            exact ⟨vs, ms, e1, e4, e2, e5, crow_mono e3 veil_off, crow_mono e6 veil_off⟩)
          obtain ⟨vs, ms, hvl, hml2, hvs, hms, hcv, hcm2⟩ := HVW.out
          have HCH : Hid (∀ W, Below ((((((w9.setCell ⟨w1.heap.size, 0, none⟩ (.int .i64 k9)).setCell ⟨w1.heap.size, 1, none⟩ (.int .i64 n9)).setCell ⟨w1.heap.size, 2, none⟩ (.string t9)).setCell ⟨w1.heap.size, 3, none⟩ (.slice la9 ln9 lc9)).setCell ⟨w1.heap.size, 4, none⟩ (.slice fa9 fn9 fc9)).alloc (.cells #[.int .i64 k9, .int .i64 n9, .string t9, .slice la9 ln9 lc9, .slice fa9 fn9 fc9] 25)).heap.size ((((((w9.setCell ⟨w1.heap.size, 0, none⟩ (.int .i64 k9)).setCell ⟨w1.heap.size, 1, none⟩ (.int .i64 n9)).setCell ⟨w1.heap.size, 2, none⟩ (.string t9)).setCell ⟨w1.heap.size, 3, none⟩ (.slice la9 ln9 lc9)).setCell ⟨w1.heap.size, 4, none⟩ (.slice fa9 fn9 fc9)).alloc (.cells #[.int .i64 k9, .int .i64 n9, .string t9, .slice la9 ln9 lc9, .slice fa9 fn9 fc9] 25)) W → Calls Try.prog 27 #[.slice la ln lc, .int .i64 (p : Nat), .int .i64 (1 : Nat), .slice (some ⟨w9.heap.size, 0, none⟩) 1 1] W fun e w' => ∃ xs, xs = (valCells vs).take (p * 5) ++ (valCells ms ++ (valCells vs).drop ((p + 1) * 5)) ∧ e = .returned (.slice (some ⟨W.heap.size, 0, none⟩) nF nF) ∧ w'.ownsRow W.heap.size 25 5 (.slice (some ⟨W.heap.size, 0, none⟩) nF nF) nF xs ∧ Below W.heap.size W w') := hidI (fun W hW => by
            rw [hnF]
            exact changedV (valCells vs) (valCells ms) la (some ⟨w9.heap.size, 0, none⟩) ln lc 1 1 p 1 W (by rw [valCells_length _ (five_all hvs), hvl]) (by rw [valCells_length _ (five_all hms), hml2]) (hcv.below hW) (hcm2.below hW) (one_cells hvs) (one_cells hms) h4 h5 (by omega) (by unfold maxLen; omega) hpq (by omega) (by omega))
          have HVS : Hid (vs.length = ln ∧ ms.length = 1 ∧ (∀ i (hi : i < vs.length), Lies (veil B C1 ((((((w9.setCell ⟨w1.heap.size, 0, none⟩ (.int .i64 k9)).setCell ⟨w1.heap.size, 1, none⟩ (.int .i64 n9)).setCell ⟨w1.heap.size, 2, none⟩ (.string t9)).setCell ⟨w1.heap.size, 3, none⟩ (.slice la9 ln9 lc9)).setCell ⟨w1.heap.size, 4, none⟩ (.slice fa9 fn9 fc9)).alloc (.cells #[.int .i64 k9, .int .i64 n9, .string t9, .slice la9 ln9 lc9, .slice fa9 fn9 fc9] 25))) (l0 i) (vs[i]'hi)) ∧ (∀ i (hi : i < ms.length), Lies (veil B C1 ((((((w9.setCell ⟨w1.heap.size, 0, none⟩ (.int .i64 k9)).setCell ⟨w1.heap.size, 1, none⟩ (.int .i64 n9)).setCell ⟨w1.heap.size, 2, none⟩ (.string t9)).setCell ⟨w1.heap.size, 3, none⟩ (.slice la9 ln9 lc9)).setCell ⟨w1.heap.size, 4, none⟩ (.slice fa9 fn9 fc9)).alloc (.cells #[.int .i64 k9, .int .i64 n9, .string t9, .slice la9 ln9 lc9, .slice fa9 fn9 fc9] 25))) ((fun _ => y) i) (ms[i]'hi))) := hidI ⟨hvl, hml2, hvs, hms⟩
          have HBT : Hid (Below w.heap.size w ((((((w9.setCell ⟨w1.heap.size, 0, none⟩ (.int .i64 k9)).setCell ⟨w1.heap.size, 1, none⟩ (.int .i64 n9)).setCell ⟨w1.heap.size, 2, none⟩ (.string t9)).setCell ⟨w1.heap.size, 3, none⟩ (.slice la9 ln9 lc9)).setCell ⟨w1.heap.size, 4, none⟩ (.slice fa9 fn9 fc9)).alloc (.cells #[.int .i64 k9, .int .i64 n9, .string t9, .slice la9 ln9 lc9, .slice fa9 fn9 fc9] 25))) := hbT
          clear hvl hml2 hvs hms hcv hcm2 HVW hnF
          go_wp2_with fail
          refine (HCH.out _ (Below.refl _ _)).mono ?_
          rintro e wC ⟨xs, hxs, rfl, oC, bC⟩
          have HUC : Hid (Below ((((((w9.setCell ⟨w1.heap.size, 0, none⟩ (.int .i64 k9)).setCell ⟨w1.heap.size, 1, none⟩ (.int .i64 n9)).setCell ⟨w1.heap.size, 2, none⟩ (.string t9)).setCell ⟨w1.heap.size, 3, none⟩ (.slice la9 ln9 lc9)).setCell ⟨w1.heap.size, 4, none⟩ (.slice fa9 fn9 fc9)).alloc (.cells #[.int .i64 k9, .int .i64 n9, .string t9, .slice la9 ln9 lc9, .slice fa9 fn9 fc9] 25)).heap.size ((((((w9.setCell ⟨w1.heap.size, 0, none⟩ (.int .i64 k9)).setCell ⟨w1.heap.size, 1, none⟩ (.int .i64 n9)).setCell ⟨w1.heap.size, 2, none⟩ (.string t9)).setCell ⟨w1.heap.size, 3, none⟩ (.slice la9 ln9 lc9)).setCell ⟨w1.heap.size, 4, none⟩ (.slice fa9 fn9 fc9)).alloc (.cells #[.int .i64 k9, .int .i64 n9, .string t9, .slice la9 ln9 lc9, .slice fa9 fn9 fc9] 25)) wC) := hidI bC
          have HSC : Hid (Below w.heap.size w wC) := hidI (HBT.out.trans (HUC.out.mono HBT.out.size))
          have HOC : Hid (wC.ownsRow ((((((w9.setCell ⟨w1.heap.size, 0, none⟩ (.int .i64 k9)).setCell ⟨w1.heap.size, 1, none⟩ (.int .i64 n9)).setCell ⟨w1.heap.size, 2, none⟩ (.string t9)).setCell ⟨w1.heap.size, 3, none⟩ (.slice la9 ln9 lc9)).setCell ⟨w1.heap.size, 4, none⟩ (.slice fa9 fn9 fc9)).alloc (.cells #[.int .i64 k9, .int .i64 n9, .string t9, .slice la9 ln9 lc9, .slice fa9 fn9 fc9] 25)).heap.size 25 5 _ _ ((valCells vs).take (p * 5) ++ (valCells ms ++ (valCells vs).drop ((p + 1) * 5)))) := hidI (hxs ▸ oC)
          obtain ⟨gN, hgN⟩ : ∃ gN, gN = ((((((w9.setCell ⟨w1.heap.size, 0, none⟩ (.int .i64 k9)).setCell ⟨w1.heap.size, 1, none⟩ (.int .i64 n9)).setCell ⟨w1.heap.size, 2, none⟩ (.string t9)).setCell ⟨w1.heap.size, 3, none⟩ (.slice la9 ln9 lc9)).setCell ⟨w1.heap.size, 4, none⟩ (.slice fa9 fn9 fc9)).alloc (.cells #[.int .i64 k9, .int .i64 n9, .string t9, .slice la9 ln9 lc9, .slice fa9 fn9 fc9] 25)).heap.size := ⟨_, rfl⟩
          have HGN : Hid (C1 ≤ gN) := hidI (by omega)
          rw [← hgN] at HOC ⊢
          clear oC bC hxs hgN hbT c0 c1' c2 c3 c4
          obtain ⟨y0, y1, y2, y3, y4⟩ := Blk5.cells (Blk5.below HPT.out HUC.out)
          obtain ⟨r0, r1, r2, r3, r4⟩ := Blk5.free (Blk5.below HPT.out HUC.out)
          have hP5 := (Blk5.below HPT.out HUC.out).set3 (u := .slice (some ⟨gN, 0, none⟩) nF nF)
          have hQ5 := (Blk5.below HQT.out HUC.out).other (g := w.heap.size) (i := 3) (u := .slice (some ⟨gN, 0, none⟩) nF nF) (by omega)
          obtain ⟨x0, x1', x2, x3, x4⟩ := Blk5.cells hP5
          obtain ⟨z0, z1, z2, z3, z4⟩ := Blk5.cells hQ5
          obtain ⟨q0, q1, q2, q3, q4⟩ := Blk5.free hQ5
          clear hP5 hQ5
          go_wp2_with fail
          refine bodyPost_ret (v := .tuple #[.agg #[.int .i64 5, .int .i64 n0, .string tx, .slice (some ⟨gN, 0, none⟩) nF nF, .slice fa fn fc], .int .i64 0]) ?_ rfl ⟨Or.inr ⟨_, _, HR.out, rfl, ?_⟩, ?_⟩
          · have hres : Try.f24.results = #[.cell 6 25, .tmp 7] := by kernel_rfl
            simp only [results, hres]
            go_simp
          · obtain ⟨hv1, hm1, hv2, hm2⟩ := HVS.out
            have kU : ∀ b o u, (veil B C1 ((((((w9.setCell ⟨w1.heap.size, 0, none⟩ (.int .i64 k9)).setCell ⟨w1.heap.size, 1, none⟩ (.int .i64 n9)).setCell ⟨w1.heap.size, 2, none⟩ (.string t9)).setCell ⟨w1.heap.size, 3, none⟩ (.slice la9 ln9 lc9)).setCell ⟨w1.heap.size, 4, none⟩ (.slice fa9 fn9 fc9)).alloc (.cells #[.int .i64 k9, .int .i64 n9, .string t9, .slice la9 ln9 lc9, .slice fa9 fn9 fc9] 25))).cell? ⟨b, o, none⟩ = some u → (veil B C1 wC).cell? ⟨b, o, none⟩ = some u := veil_below HUC.out
            obtain ⟨a9, c9, e9, h91, h92, hF9⟩ := vals_spl (w := veil B C1 wC) (vs := vs) (ms := ms) (l := l0) (x := (fun _ => y)) (at' := p) (gone := 1) (veil_own HOC.out HGN.out) (by rw [hv1, hm1]; exact HNF.out) (by omega) (fun i hi => Lies.mono kU (hv2 i hi)) (fun i hi => Lies.mono kU (hm2 i hi))
            cases e9
            rw [hm1, HNF.out] at hF9
            rw [HG.out]
            have h56 : ¬ (5 : Int) = 6 := by decide
            simp only [GV.spl, h56, if_false]
            rw [← HNF.out] at hF9 ⊢
            obtain ⟨hi1, hi2, hi3⟩ := HIN.out
            have kF : ∀ W', (∀ b, b ≠ w.heap.size → b ≠ w.heap.size + 1 → W'.heap[b]? = wC.heap[b]?) → ∀ b o u, (veil B C1 wC).cell? ⟨b, o, none⟩ = some u → (veil B w.heap.size W').cell? ⟨b, o, none⟩ = some u := fun W' hh => veil_two (C := w.heap.size) (by omega) ⟨hB, by omega⟩ ⟨by omega, by omega⟩ hh
            refine ⟨_, _, fa, fc, rfl, hi1, hi2, hi3, h91, h92, h6, h7, Vals.mono hF9 (kF _ (fun b n3 n6 => ?_)), Flds.mono (Flds.mono HVFT.out kU) (kF _ (fun b n3 n6 => ?_))⟩
            all_goals rw [Below.heap_setCell _ ⟨_, _, none⟩ _ b n6, Below.heap_setCell _ ⟨_, _, none⟩ _ b n6, Below.heap_setCell _ ⟨_, _, none⟩ _ b n6, Below.heap_setCell _ ⟨_, _, none⟩ _ b n6, Below.heap_setCell _ ⟨_, _, none⟩ _ b n6]
            all_goals exact Below.heap_setCell wC ⟨w.heap.size, 3, none⟩ _ b n3
          · exact (((((HSC.out.setCell (Nat.le_refl _) _).setCell (Nat.le_succ _) _).setCell (Nat.le_succ _) _).setCell (Nat.le_succ _) _).setCell (Nat.le_succ _) _).setCell (Nat.le_succ _) _

theorem put_any : ∀ l, PutSay l
  | [] => fun h => absurd rfl h
  | s :: r => put_step s r (put_any r)
end Go.Proofs.Ytjngbogbbglbnab
