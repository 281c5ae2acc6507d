/- awake of chapter 6's statements: a value found, and put. -/
import Derived.Test.YtjngbogbbglbnabZPaKnown0
import Derived.Deep.RegionHeld3
namespace Go.Proofs.Ytjngbogbbglbnab
open Go.RowKit

def p1 : ByteArray := ⟨#[97, 46, 49, 46, 98]⟩
theorem aw1 : (getR gK p1).isSome = true ∧ (optSay (getR gK p1)).same (gI 2) = true := by decide +kernel
theorem aw2 : outE (setR gK p1 (gI 3)) = 0 := by decide +kernel
theorem aw3 : (getR (outG (setR gK p1 (gI 3))) p1).isSome = true ∧ (optSay (getR (outG (setR gK p1 (gI 3))) p1)).same (gI 3) = true := by decide +kernel
theorem aw4 : gK.nodes ≤ 5000 ∧ (outG (setR gK p1 (gI 3))).nodes ≤ 5000 := by decide +kernel
theorem awI (n : Int) : (gI n).nodes ≤ 5000 := by simp [gI, GV.nodes]

theorem out_ok {B : Nat} {w' : World} {R : Except Int GV} {e : Ending} (h : OutSay B w' R e) (h0 : outE R = 0) : ∃ v', e = .returned (.tuple #[v', .int .i64 0]) ∧ From B w' (outG R) v' ∧ (outG R).err = 0 := by
 rcases h with ⟨er, rfl, h1, _⟩ | ⟨y, v', rfl, h1, h2, h3⟩
 ·exact absurd h0 h1
 ·exact ⟨v', h1, h2, h3⟩
/-- What known and Get tell, as the walk asks them. -/
theorem known_get (p : ByteArray) (b : Bool) (gx : GV) (hp : p.size ≤ 140737488355328) (h : (getR gK p).isSome = b) (hx : (optSay (getR gK p)) = gx) (v : Value) (w : World) (hL : Lies w gK v) :
  Calls Try.prog 11 #[v, .string p] w fun e w' => ∃ v', e = .returned (.tuple #[v', .bool b]) ∧ Lies w' gx v' ∧ Below w.heap.size w w' :=
 (get_any gK p v w hL (by have := aw4.1; omega) hp).mono fun e w' hh => by
  obtain ⟨⟨v', h1, h2⟩, h3⟩ := hh;rw [h] at h1;rw [hx] at h2;exact ⟨v', h1, h2.lies, h3⟩

set_option maxHeartbeats 2000000 in
set_option maxRecDepth 1000000 in
theorem awake6_any (w : World) : Calls Try.prog 5 #[] w fun e w' => e = .returned (.bool true) ∧ Below w.heap.size w w' := by
 obtain ⟨g1, hg1⟩ : ∃ g, optSay (getR gK p1) = g := ⟨_, rfl⟩;obtain ⟨g2, hg2⟩ : ∃ g, outG (setR gK p1 (gI 3)) = g := ⟨_, rfl⟩;obtain ⟨g3, hg3⟩ : ∃ g, optSay (getR g2 p1) = g := ⟨_, rfl⟩;have h3 := aw3;rw [hg2, hg3] at h3;have h4 := aw4.2;rw [hg2] at h4;have HGet : Hid (∀ v W, Lies W gK v → Calls Try.prog 11 #[v, .string ⟨#[97, 46, 49, 46, 98]⟩] W fun e w' => ∃ v', e = .returned (.tuple #[v', .bool true]) ∧ Lies w' g1 v' ∧ Below W.heap.size W w') := hidI (fun v W hL => known_get p1 true g1 (by decide) aw1.1 hg1 v W hL)
 have HSet : Hid (∀ v W, Lies W gK v → Calls Try.prog 7 #[v, .string ⟨#[97, 46, 49, 46, 98]⟩, .agg #[.int .i64 3, .int .i64 3, .string ⟨#[]⟩, .slice none 0 0, .slice none 0 0]] W fun e w' => ∃ v', e = .returned (.tuple #[v', .int .i64 0]) ∧ Lies w' g2 v' ∧ Below W.heap.size W w') := hidI (fun v W hL =>
  (set_any gK (gI 3) p1 v _ W hL (lies_I W 3 ⟨by decide, by decide⟩) (by have := aw4.1; omega) (by have := awI 3; omega) (by decide)).mono fun e w' hh => by
   obtain ⟨v', k1, k2, _⟩ := out_ok hh.1 aw2;rw [hg2] at k2;exact ⟨v', k1, k2.lies, hh.2⟩)
 have HGet2 : Hid (∀ v W, Lies W g2 v → Calls Try.prog 11 #[v, .string ⟨#[97, 46, 49, 46, 98]⟩] W fun e w' => ∃ v', e = .returned (.tuple #[v', .bool true]) ∧ Lies w' g3 v' ∧ Below W.heap.size W w') := hidI (fun v W hL =>
  (get_any g2 p1 v W hL (by omega) (by decide)).mono fun e w' hh => by
   obtain ⟨⟨v', k1, k2⟩, k3⟩ := hh;rw [h3.1] at k1;rw [hg3] at k2;exact ⟨v', k1, k2.lies, k3⟩)
 have HI : Hid (∀ n W, Calls Try.prog 20 #[.int .i64 n] W fun e w' => e = .returned (.agg #[.int .i64 3, .int .i64 n, .string ⟨#[]⟩, .slice none 0 0, .slice none 0 0]) ∧ Below W.heap.size W w') := hidI (fun n W => I_any n W);have HK := hidI known6_any;have hs1 := aw1.2;rw [hg1] at hs1
 have HS1 : Hid (∀ v W, Lies W g1 v → Calls Try.prog 14 #[v, .agg #[.int .i64 3, .int .i64 2, .string ⟨#[]⟩, .slice none 0 0, .slice none 0 0]] W fun e w' => e = .returned (.bool true) ∧ Below W.heap.size W w') := hidI (fun v W hL => by
  have h := same6_any g1 (gI 2) v _ W hL (lies_I W 2 ⟨by decide, by decide⟩);rw [hs1] at h;exact h)
 have HS3 : Hid (∀ v W, Lies W g3 v → Calls Try.prog 14 #[v, .agg #[.int .i64 3, .int .i64 3, .string ⟨#[]⟩, .slice none 0 0, .slice none 0 0]] W fun e w' => e = .returned (.bool true) ∧ Below W.heap.size W w') := hidI (fun v W hL => by
  have h := same6_any g3 (gI 3) v _ W hL (lies_I W 3 ⟨by decide, by decide⟩);rw [h3.2] at h;exact h)
 clear hg1 hg2 hg3 h3 h4 hs1
 go_enter Try.func5, Try.ntmps5
 go_wp2_with fail;refine (HK.out _).mono ?_;rintro e w1 ⟨b, a, rfl, _, _, hL1, b1⟩;have HL1 := hidI hL1;have HB1 := hidI b1;clear hL1 b1;go_wp2_with fail;refine (HGet.out _ _ HL1.out).mono ?_;rintro e w2 ⟨v2, rfl, hL2, b2⟩;obtain ⟨k2, n2, s2, la2, ln2, lc2, fa2, fn2, fc2, rfl⟩ := hL2.agg;have hB2 := HB1.out.trans (b2.mono HB1.out.size);have hu2 : Below w2.heap.size w2 (w2.alloc (.cells #[.int .i64 k2, .int .i64 n2, .string s2, .slice la2 ln2 lc2, .slice fa2 fn2 fc2] 25)) := (Below.refl _ _).alloc (Nat.le_refl _) _;have HX2 := hidI (Blk5.new w2 (.int .i64 k2) (.int .i64 n2) (.string s2) (.slice la2 ln2 lc2) (.slice fa2 fn2 fc2));have HL2 := hidI (hL2.below hu2);have HB2 := hidI (hB2.trans (hu2.mono hB2.size));clear hL2 b2 hB2 hu2 HL1 HB1;go_wp2_with fail;refine (HK.out _).mono ?_;rintro e w3 ⟨b', a', rfl, _, _, hL3, b3⟩;have HX3 := hidI (Blk5.below HX2.out b3);have HL3 := hidI hL3;have HL2' := hidI (HL2.out.below b3);have HB3 := hidI (HB2.out.trans (b3.mono HB2.out.size));clear hL3 b3 HX2 HL2 HB2;go_wp2_with fail;refine (HI.out _ _).mono ?_;rintro e w4 ⟨rfl, b4⟩;have HX4 := hidI (Blk5.below HX3.out b4);have HL4 := hidI (HL3.out.below b4);have HL2 := hidI (HL2'.out.below b4);have HB4 := hidI (HB3.out.trans (b4.mono HB3.out.size));clear b4 HX3 HL3 HB3 HL2';go_wp2_with fail;refine (HSet.out _ _ HL4.out).mono ?_;rintro e w5 ⟨v5, rfl, hL5, b5⟩;obtain ⟨k5, n5, s5, la5, ln5, lc5, fa5, fn5, fc5, rfl⟩ := hL5.agg;have hu5 : Below w5.heap.size w5 (w5.alloc (.cells #[.int .i64 k5, .int .i64 n5, .string s5, .slice la5 ln5 lc5, .slice fa5 fn5 fc5] 25)) := (Below.refl _ _).alloc (Nat.le_refl _) _;have HX5 := hidI (Blk5.below (Blk5.below HX4.out b5) hu5);have HL5 := hidI (hL5.below hu5);have HL2' := hidI ((HL2.out.below b5).below hu5);have hB5 := HB4.out.trans (b5.mono HB4.out.size);have HB5 := hidI (hB5.trans (hu5.mono hB5.size));clear b5 hL5 hu5 HX4 HL4 HB4 HL2 hB5;go_wp2_with fail;refine (HGet2.out _ _ HL5.out).mono ?_;rintro e w6 ⟨v6, rfl, hL6, b6⟩;obtain ⟨k6, n6, s6, la6, ln6, lc6, fa6, fn6, fc6, rfl⟩ := hL6.agg;have hu6 : Below w6.heap.size w6 (w6.alloc (.cells #[.int .i64 k6, .int .i64 n6, .string s6, .slice la6 ln6 lc6, .slice fa6 fn6 fc6] 25)) := (Below.refl _ _).alloc (Nat.le_refl _) _;have hX6 := Blk5.below (Blk5.below HX5.out b6) hu6;have hY6 := Blk5.new w6 (.int .i64 k6) (.int .i64 n6) (.string s6) (.slice la6 ln6 lc6) (.slice fa6 fn6 fc6);have HL6 := hidI (hL6.below hu6);have HL2 := hidI ((HL2'.out.below b6).below hu6);have hB6 := HB5.out.trans (b6.mono HB5.out.size);have HB6 := hidI (hB6.trans (hu6.mono hB6.size))
 have HSS : Hid (∀ u, Below (w6.alloc (.cells #[.int .i64 k6, .int .i64 n6, .string s6, .slice la6 ln6 lc6, .slice fa6 fn6 fc6] 25)).heap.size (w6.alloc (.cells #[.int .i64 k6, .int .i64 n6, .string s6, .slice la6 ln6 lc6, .slice fa6 fn6 fc6] 25)) u → (u.cell? ⟨w2.heap.size, 0, none⟩ = some (.int .i64 k2) ∧ u.cell? ⟨w2.heap.size, 1, none⟩ = some (.int .i64 n2) ∧ u.cell? ⟨w2.heap.size, 2, none⟩ = some (.string s2) ∧ u.cell? ⟨w2.heap.size, 3, none⟩ = some (.slice la2 ln2 lc2) ∧ u.cell? ⟨w2.heap.size, 4, none⟩ = some (.slice fa2 fn2 fc2) ∧ u.cell? ⟨w6.heap.size, 0, none⟩ = some (.int .i64 k6) ∧ u.cell? ⟨w6.heap.size, 1, none⟩ = some (.int .i64 n6) ∧ u.cell? ⟨w6.heap.size, 2, none⟩ = some (.string s6) ∧ u.cell? ⟨w6.heap.size, 3, none⟩ = some (.slice la6 ln6 lc6) ∧ u.cell? ⟨w6.heap.size, 4, none⟩ = some (.slice fa6 fn6 fc6))) := hidI (fun u hu => by
  obtain ⟨x0, x1, x2, x3, x4⟩ := Blk5.cells (Blk5.below hX6 hu);obtain ⟨y0, y1, y2, y3, y4⟩ := Blk5.cells (Blk5.below hY6 hu);exact ⟨x0, x1, x2, x3, x4, y0, y1, y2, y3, y4⟩)
 clear b6 hL6 hu6 HX5 HL5 HB5 HL2' hB6 hX6 hY6;go_wp2_with fail;have Y0 : Below (w6.alloc (.cells #[.int .i64 k6, .int .i64 n6, .string s6, .slice la6 ln6 lc6, .slice fa6 fn6 fc6] 25)).heap.size (w6.alloc (.cells #[.int .i64 k6, .int .i64 n6, .string s6, .slice la6 ln6 lc6, .slice fa6 fn6 fc6] 25)) (w6.alloc (.cells #[.int .i64 k6, .int .i64 n6, .string s6, .slice la6 ln6 lc6, .slice fa6 fn6 fc6] 25)).drew := (Below.refl _ _).drew;have hS := HSS.out _ Y0;have Y1 := hidI Y0;clear Y0
 go_region_held3 (fun u => u.cell? ⟨w2.heap.size, 0, none⟩ = some (.int .i64 k2) ∧ u.cell? ⟨w2.heap.size, 1, none⟩ = some (.int .i64 n2) ∧ u.cell? ⟨w2.heap.size, 2, none⟩ = some (.string s2) ∧ u.cell? ⟨w2.heap.size, 3, none⟩ = some (.slice la2 ln2 lc2) ∧ u.cell? ⟨w2.heap.size, 4, none⟩ = some (.slice fa2 fn2 fc2) ∧ u.cell? ⟨w6.heap.size, 0, none⟩ = some (.int .i64 k6) ∧ u.cell? ⟨w6.heap.size, 1, none⟩ = some (.int .i64 n6) ∧ u.cell? ⟨w6.heap.size, 2, none⟩ = some (.string s6) ∧ u.cell? ⟨w6.heap.size, 3, none⟩ = some (.slice la6 ln6 lc6) ∧ u.cell? ⟨w6.heap.size, 4, none⟩ = some (.slice fa6 fn6 fc6)) (with_reducible exact hS) (first
  | (go_at_call 20; refine (HI.out _ _).mono ?_; rintro e wn ⟨rfl, bn⟩; have Y1 := hidI (Y1.out.trans (bn.mono Y1.out.size)); have hS := HSS.out _ Y1.out)
  | (go_at_call 14; refine (HS1.out _ _ (HL2.out.below Y1.out)).mono ?_; rintro e wn ⟨rfl, bn⟩; have Y1 := hidI (Y1.out.trans (bn.mono Y1.out.size)); have hS := HSS.out _ Y1.out)
  | (go_at_call 14; refine (HS3.out _ _ (HL6.out.below Y1.out)).mono ?_; rintro e wn ⟨rfl, bn⟩; have Y1 := hidI (Y1.out.trans (bn.mono Y1.out.size)); have hS := HSS.out _ Y1.out))
 all_goals
  have hbF := HB6.out.trans (Y1.out.mono HB6.out.size);have HBF := hidI hbF;clear hS hbF;go_wp2_with fail;go_ret;exact ⟨rfl, HBF.out⟩
end Go.Proofs.Ytjngbogbbglbnab
