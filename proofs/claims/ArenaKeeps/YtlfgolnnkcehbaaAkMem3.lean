/- What marks and words that are put do to the three rows (no walk). -/
import Derived.Test.YtlfgolnnkcehbaaAkMem2
namespace Go.Proofs.Ytlfgolnnkcehbaa
open Go.RowKit

theorem own_setU {w : World} {B g n c : Nat} {e : TypeId} {z : Nat} {xs : List Value} (h : w.ownsRow B e z (.slice (some ⟨g, 0, none⟩) n c) n xs) (j : Nat) (x : Value) : (w.setCell ⟨g, j, none⟩ x).ownsRow B e z (.slice (some ⟨g, 0, none⟩) n c) n (xs.set j x) := by
  obtain ⟨h1, h2⟩ := h
  rcases h2 with ⟨h0, _⟩ | ⟨g', cap', cur, hv, hg, hh, hn, hcap, hsz, htake⟩
  · cases h0
  · cases hv
    refine ⟨by rw [List.length_set]; exact h1, .inr ⟨g, c, cur.setIfInBounds j x, rfl, hg, heap_setCell_same w g j _ _ x hh, hn, hcap, by rw [Array.size_setIfInBounds]; exact hsz, ?_⟩⟩
    rw [Array.toList_setIfInBounds, List.take_set, htake]
theorem Rw.set {own : Nat → Prop} {w : World} {B e g n c : Nat} {xs : List Value} (h : Rw own w B e (.slice (some ⟨g, 0, none⟩) n c) xs) (hn : xs.length = n) (k : Nat) (x : Value) : Rw own (w.setCell ⟨g, k, none⟩ x) B e (.slice (some ⟨g, 0, none⟩) n c) (xs.set k x) ∧ Chg (fun q => (Value.slice (some ⟨g, 0, none⟩) n c).ownBlock = some q) w (w.setCell ⟨g, k, none⟩ x) ∧ w.frozen? ⟨g, k, none⟩ = false := by
  refine ⟨⟨?_, h.2⟩, (Chg.refl (fun q => (Value.slice (some ⟨g, 0, none⟩) n c).ownBlock = some q) w).setCell (b := g) (Or.inl rfl) _ _, ?_⟩
  · rw [List.length_set, hn]
    have := h.1
    rw [hn] at this
    exact own_setU this k x
  · rcases h.1.2 with ⟨h0, _⟩ | ⟨g', cap', cur, hv, hg, hh, _⟩
    · cases h0
    · cases hv
      exact frozen_of_row w g k _ _ hh
section
variable {Wb wr w' w2 : World} {A Wd Bd : Nat} {Lo : List Ob} {sa sw sm : Value} {g : List Nat}
theorem AK.oatk (h : AK Wb wr A Wd Bd Lo sa sw sm g) {k : Nat} (hk : k < Lo.length) : obAt Lo [] 0 (place Lo k) = some (oat Lo k) ∧ (oat Lo k).ws.length ≤ 31 ∧ place Lo k ≤ 2000 ∧ (oat Lo k).tag = 9 ∧ (oat Lo k).refs = (oat Lo k).ws.length / 2 ∧ (oat Lo k).own = k := by
  have h1 := obAt_place hk
  have h2 := (AT.ok h.k0.at_ h1).2
  obtain ⟨a, b, c, d⟩ := h.sh k hk
  exact ⟨h1, d, by omega, a, b, c⟩
/-- A mark is laid into the row. -/
theorem AK.mark0 {gm c n : Nat} (h : AK Wb wr A Wd Bd Lo sa sw (.slice (some ⟨gm, 0, none⟩) n c) g) (hn : Lo.length = n) (k : Nat) (on : Bool) : wr.frozen? ⟨gm, k, none⟩ = false ∧ AK0 Wb (wr.setCell ⟨gm, k, none⟩ (.bool on)) A Wd Bd Lo sa sw (.slice (some ⟨gm, 0, none⟩) n c) (plcs Lo) (wcl g Lo) ((mcl Lo).set k (.bool on)) g (fun q => (oat Lo q).ws) := by
  obtain ⟨a, b, d⟩ := h.k0.rm.set (by rw [mcl_len]; exact hn) k (.bool on)
  exact ⟨d, h.k0.setM a b⟩
theorem AK0.drew {xa xw xm : List Value} {f : Nat → List Nat} (h : AK0 Wb wr A Wd Bd Lo sa sw sm xa xw xm g f) : AK0 Wb wr.drew A Wd Bd Lo sa sw sm xa xw xm g f := h.sub (Below.refl _ _).drew
theorem AK.drew (h : AK Wb wr A Wd Bd Lo sa sw sm g) : AK Wb wr.drew A Wd Bd Lo sa sw sm g := h.sub (Below.refl _ _).drew
/-- The mark itself. -/
theorem AK.mark1 (h : AK Wb wr A Wd Bd Lo sa sw sm g) {k : Nat} (hk : k < Lo.length) (on : Bool) (h0 : AK0 Wb w' A Wd Bd Lo sa sw sm (plcs Lo) (wcl g Lo) ((mcl Lo).set k (.bool on)) g (fun q => (oat Lo q).ws)) : Calls Try.prog 22 #[.pointer (some ⟨A, 0, none⟩), .int .i64 (place Lo k : Nat), .bool on] w' fun x w2 => x = .returned (.int .i64 0) ∧ AK Wb w2 A Wd Bd (Lo.set k ⟨(oat Lo k).tag, (oat Lo k).refs, (oat Lo k).own, on, (oat Lo k).ws⟩) sa sw sm g := by
  have hob := obAt_place hk
  refine (at_Mark h0.at_ on hob).mono ?_
  rintro x w2 ⟨rfl, hc, ha⟩
  rw [setLo_place _ hk, setHi_place _ hk] at ha
  refine ⟨rfl, AK.set (o := ⟨(oat Lo k).tag, (oat Lo k).refs, (oat Lo k).own, on, (oat Lo k).ws⟩) h hk rfl rfl rfl rfl ?_⟩
  refine (h0.arena hc ha).congr fun q _ => ?_
  by_cases e : q = k
  · rw [if_pos e, e]
  · rw [if_neg e]
/-- A word is put, not yet laid into the rows. -/
theorem AK.put1 (h : AK Wb wr A Wd Bd Lo sa sw sm g) {k j : Nat} (hk : k < Lo.length) (y : Nat) (hy : y < 18446744073709551616) (hj : j < (oat Lo k).ws.length) : Calls Try.prog 23 #[.pointer (some ⟨A, 0, none⟩), .int .i64 (place Lo k : Nat), .int .i64 (j : Nat), .int .u64 (y : Nat)] wr fun x w2 => x = .returned (.int .i64 0) ∧ AK0 Wb w2 A Wd Bd (Lo.set k ⟨(oat Lo k).tag, (oat Lo k).refs, (oat Lo k).own, (oat Lo k).mark, (oat Lo k).ws.set j y⟩) sa sw sm (plcs Lo) (wcl g Lo) (mcl Lo) g (fun q => (oat Lo q).ws) := by
  have hob := obAt_place hk
  refine (at_Put h.k0.at_ y hy hob hj).mono ?_
  rintro x w2 ⟨rfl, hc, ha⟩
  rw [setLo_place _ hk, setHi_place _ hk] at ha
  exact ⟨rfl, h.k0.arena hc ha⟩
theorem mcl_same {k : Nat} (hk : k < Lo.length) : (mcl Lo).set k (.bool (oat Lo k).mark) = mcl Lo := by
  apply List.ext_getElem?
  intro q
  rw [List.getElem?_set, mcl_len]
  by_cases e : k = q
  · rw [if_pos e, if_pos hk, ← e, mcl_at hk]
  · rw [if_neg e]
theorem AK.put2 (h : AK Wb wr A Wd Bd Lo sa sw sm g) {k j : Nat} (hk : k < Lo.length) (y : Nat) (h0 : AK0 Wb w2 A Wd Bd (Lo.set k ⟨(oat Lo k).tag, (oat Lo k).refs, (oat Lo k).own, (oat Lo k).mark, (oat Lo k).ws.set j y⟩) sa sw sm (plcs Lo) (wcl g Lo) (mcl Lo) g (fun q => (oat Lo q).ws)) : w2.frozen? ⟨g.getD k 0, j, none⟩ = false ∧ AK Wb (w2.setCell ⟨g.getD k 0, j, none⟩ (.int .u64 (y : Int))) A Wd Bd (Lo.set k ⟨(oat Lo k).tag, (oat Lo k).refs, (oat Lo k).own, (oat Lo k).mark, (oat Lo k).ws.set j y⟩) sa sw sm g := by
  have hkg : k < g.length := by rw [h.gl]; exact hk
  refine ⟨frozen_of_row w2 _ j _ _ (h0.gw k hkg), AK.set (o := ⟨(oat Lo k).tag, (oat Lo k).refs, (oat Lo k).own, (oat Lo k).mark, (oat Lo k).ws.set j y⟩) h hk rfl rfl rfl (by simp) ?_⟩
  rw [mcl_same hk]
  exact h0.setG hkg y
theorem AK.put0 (h : AK Wb wr A Wd Bd Lo sa sw sm g) {k : Nat} (hk : k < Lo.length) (j : Int) (y : Nat) (hy : y < 18446744073709551616) (hj : ¬ (0 ≤ j ∧ j < ((oat Lo k).ws.length : Int))) : Calls Try.prog 23 #[.pointer (some ⟨A, 0, none⟩), .int .i64 (place Lo k : Nat), .int .i64 j, .int .u64 (y : Nat)] wr fun x w2 => x = .returned (.int .i64 1) ∧ AK Wb w2 A Wd Bd Lo sa sw sm g := by
  have hob := obAt_place hk
  refine (at_Put_no h.k0.at_ _ j y hy fun o _ ho => ?_).mono ?_
  · rw [Int.toNat_natCast, hob] at ho
    cases ho
    exact hj
  · rintro x w2 ⟨rfl, hc, ha⟩
    exact ⟨rfl, h.k0.arena hc ha, h.gl, h.sh, h.tl⟩
/-- What the rows hold. -/
theorem AK.cells {aa wa ma : Option Addr} {ac wc_ mc n : Nat} (h : AK Wb wr A Wd Bd Lo (.slice aa n ac) (.slice wa n wc_) (.slice ma n mc) g) (hn : Lo.length = n) (h0 : 0 < n) : ∃ ga gw gm, aa = some ⟨ga, 0, none⟩ ∧ wa = some ⟨gw, 0, none⟩ ∧ ma = some ⟨gm, 0, none⟩ := by
  obtain ⟨_, _, e1, k1⟩ := h.k0.ra.len
  obtain ⟨_, _, e2, k2⟩ := h.k0.rw_.len
  obtain ⟨_, _, e3, k3⟩ := h.k0.rm.len
  injection e1 with e1
  injection e2 with e2
  injection e3 with e3
  subst e1 e2 e3
  obtain ⟨ga, rfl⟩ := k1 (by rw [plcs_len, hn]; exact h0)
  obtain ⟨gw, rfl⟩ := k2 (by rw [wcl_len, hn]; exact h0)
  obtain ⟨gm, rfl⟩ := k3 (by rw [mcl_len, hn]; exact h0)
  exact ⟨_, _, _, rfl, rfl, rfl⟩
theorem AK.at_a {ga n c : Nat} (h : AK Wb wr A Wd Bd Lo (.slice (some ⟨ga, 0, none⟩) n c) sw sm g) {k : Nat} (hk : k < Lo.length) : wr.cell? ⟨ga, k, none⟩ = some (.int .i64 (place Lo k : Nat)) := h.k0.ra.at_ (plcs_at hk)
theorem AK.at_w {gw n c : Nat} (h : AK Wb wr A Wd Bd Lo sa (.slice (some ⟨gw, 0, none⟩) n c) sm g) {k : Nat} (hk : k < Lo.length) : wr.cell? ⟨gw, k, none⟩ = some (.slice (some ⟨g.getD k 0, 0, none⟩) (oat Lo k).ws.length (oat Lo k).ws.length) := h.k0.rw_.at_ (wcl_at hk)
theorem AK.at_m {gm n c : Nat} (h : AK Wb wr A Wd Bd Lo sa sw (.slice (some ⟨gm, 0, none⟩) n c) g) {k : Nat} (hk : k < Lo.length) : wr.cell? ⟨gm, k, none⟩ = some (.bool (oat Lo k).mark) := h.k0.rm.at_ (mcl_at hk)
theorem AK.at_g (h : AK Wb wr A Wd Bd Lo sa sw sm g) {k : Nat} (hk : k < Lo.length) {j : Nat} (hj : j < (oat Lo k).ws.length) : wr.cell? ⟨g.getD k 0, j, none⟩ = some (.int .u64 ((oat Lo k).ws.getD j 0 : Nat)) := by
  rw [cell_of_row wr _ j _ _ _ (h.k0.gw k (by rw [h.gl]; exact hk))]
  have := ucells_at hj
  simpa using this
end
end Go.Proofs.Ytlfgolnnkcehbaa
