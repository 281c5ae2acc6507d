/- The walk of the statement ValueDocs, over the contracts of what it calls. -/
import Derived.Test.YtkjijepepbgciaaFreshA
import Derived.Test.YtkjijepepbgciaaFrom
import Derived.Test.YtkjijepepbgciaaHelp2
namespace Go.Proofs.Ytkjijepepbgciaa
open Go.RowKit

/-- The six cells of a field in its row. -/
theorem frow_six {w : World} {a : Option Addr} {d : List Fl} (h : FRow w a d) {i : Nat} (hi : i < d.length) : ∃ b o, a = some ⟨b, o, none⟩ ∧ ∀ w', RowKit.Below w.heap.size w w' →
    w'.cell? ⟨b, o + i * 6, none⟩ = some (.string (d[i]'hi).nm) ∧ w'.cell? ⟨b, o + i * 6 + 1, none⟩ = some (.int .i64 (d[i]'hi).k) ∧ w'.cell? ⟨b, o + i * 6 + 1 + 1, none⟩ = some (.int .i64 (d[i]'hi).n) ∧ w'.cell? ⟨b, o + i * 6 + 1 + 2, none⟩ = some (.string (d[i]'hi).s) ∧ w'.cell? ⟨b, o + i * 6 + 1 + 3, none⟩ = some (.slice (d[i]'hi).la (d[i]'hi).ln (d[i]'hi).lc) ∧ w'.cell? ⟨b, o + i * 6 + 1 + 4, none⟩ = some (.slice (d[i]'hi).fa (d[i]'hi).fn (d[i]'hi).fc) := by
  rcases h with rfl | ⟨b, o, rfl, hc⟩
  · exact absurd hi (Nat.not_lt_zero _)
  · refine ⟨b, o, rfl, fun w' hb => ?_⟩
    have key : ∀ q u, q < 6 → (d[i]'hi).enc[q]? = some u → w'.cell? ⟨b, o + i * 6 + q, none⟩ = some u := fun q u hq hu => by
      rw [Nat.add_assoc]
      exact below_keeps hb _ _ _ (hc _ _ ((fldCells_at d i q hq hi).trans hu))
    exact ⟨key 0 _ (by omega) rfl, key 1 _ (by omega) rfl, key 2 _ (by omega) rfl, key 3 _ (by omega) rfl, key 4 _ (by omega) rfl, key 5 _ (by omega) rfl⟩

theorem Blk5.set0 {w : World} {b : Nat} {x0 x1 x2 x3 x4 u : Value} (h : Blk5 w b x0 x1 x2 x3 x4) : Blk5 (w.setCell ⟨b, 0, none⟩ u) b u x1 x2 x3 x4 := by
  unfold Blk5
  rw [heap_setCell_same w b 0 _ _ u h]
  rfl
theorem Blk5.set1 {w : World} {b : Nat} {x0 x1 x2 x3 x4 u : Value} (h : Blk5 w b x0 x1 x2 x3 x4) : Blk5 (w.setCell ⟨b, 1, none⟩ u) b x0 u x2 x3 x4 := by
  unfold Blk5
  rw [heap_setCell_same w b 1 _ _ u h]
  rfl
/-- All five put anew. -/
def put5w (w : World) (b : Nat) (y0 y1 y2 y3 y4 : Value) : World := ((((w.setCell ⟨b, 0, none⟩ y0).setCell ⟨b, 1, none⟩ y1).setCell ⟨b, 2, none⟩ y2).setCell ⟨b, 3, none⟩ y3).setCell ⟨b, 4, none⟩ y4
theorem Blk5.put {w : World} {b : Nat} {x0 x1 x2 x3 x4 y0 y1 y2 y3 y4 : Value} (h : Blk5 w b x0 x1 x2 x3 x4) : Blk5 (put5w w b y0 y1 y2 y3 y4) b y0 y1 y2 y3 y4 := ((((h.set0).set1).set2).set3).set4
theorem below_put {w w' : World} {B b : Nat} {y0 y1 y2 y3 y4 : Value} (h : RowKit.Below B w w') (hb : B ≤ b) : RowKit.Below B w (put5w w' b y0 y1 y2 y3 y4) := ((((h.setCell hb _).setCell hb _).setCell hb _).setCell hb _).setCell hb _
theorem lies_put {w : World} {g : GV} {v : Value} {b : Nat} {y0 y1 y2 y3 y4 : Value} {B : Nat} (h : From B w g v) (hb : b < B) : From B (put5w w b y0 y1 y2 y3 y4) g v := ((((h.setCell hb _).setCell hb _).setCell hb _).setCell hb _).setCell hb _

set_option maxHeartbeats 8000000 in
set_option maxRecDepth 1000000 in
theorem docs_walk (d : List Fl) (fa : Option Addr) (fc : Nat) (turn : Int) (w : World) (n t Z : Nat) (G : GV) (R : Nat → List Fl) (sz : Nat → Nat) (hn : d.length = n) (hlen : n ≤ 2000000) (ht : bits .and .i64 turn 1023 = (t : Int)) (ht2 : t < 1024) (hr : FRow w fa d)
    (hR0 : R 0 = []) (hRs : ∀ j (hj : (j + t) % n < d.length), R (j + 1) = R j ++ [d[(j + t) % n]'hj]) (hRl : ∀ j, (R j).length = j)
    (hVF : ∀ u, RowKit.Below w.heap.size w u → Calls Try.prog 32 #[.slice fa n fc] u fun e w' => e = .returned (.bool false) ∧ RowKit.Below u.heap.size u w')
    (hMK : ∀ u, RowKit.Below w.heap.size w u → Calls Try.prog 33 #[.slice fa n fc] u fun e w' => ∃ v, e = .returned (.tuple #[v, .int .i64 0]) ∧ Lies w' G v ∧ RowKit.Below u.heap.size u w')
    (hM2 : ∀ (u : World) (a : Option Addr) (c : Nat), RowKit.Below w.heap.size w u → FRow u a (R n) → Calls Try.prog 33 #[.slice a n c] u fun e w' => ∃ v, e = .returned (.tuple #[v, .int .i64 0]) ∧ Lies w' G v ∧ RowKit.Below u.heap.size u w')
    (hSZ : ∀ (u : World) (v : Value), Lies u G v → Calls Try.prog 23 #[v] u fun e w' => e = .returned (.tuple #[.int .i64 (Z : Int), .int .i64 0]) ∧ RowKit.Below u.heap.size u w')
    (hGL : ∀ (u : World) (k m : Int) (s : ByteArray) (la : Option Addr) (ln lc : Nat) (fa : Option Addr) (fn fc : Nat), Lies u G (.agg #[.int .i64 k, .int .i64 m, .string s, .slice la ln lc, .slice fa fn fc]) → fn = n)
    (hFD : ∀ (u : World) (v : Value) (x : Fl), x ∈ d → Lies u G v → Calls Try.prog 34 #[v, .string x.nm] u fun e w' => ∃ v', e = .returned (.tuple #[v', .bool true]) ∧ From u.heap.size w' x.g v' ∧ RowKit.Below u.heap.size u w')
    (hSX : ∀ (u : World) (x : Fl), x ∈ d → RowKit.Below w.heap.size w u → Calls Try.prog 23 #[.agg #[.int .i64 x.k, .int .i64 x.n, .string x.s, .slice x.la x.ln x.lc, .slice x.fa x.fn x.fc]] u fun e w' => e = .returned (.tuple #[.int .i64 (x.g.size : Int), .int .i64 0]) ∧ RowKit.Below u.heap.size u w')
    (hXL : ∀ x ∈ d, Lies w x.g (.agg #[.int .i64 x.k, .int .i64 x.n, .string x.s, .slice x.la x.ln x.lc, .slice x.fa x.fn x.fc])) (hXS : ∀ x ∈ d, x.nm.size ≤ 24 ∧ x.g.size ≤ 2048)
    (hZ : Z = 2 + sz n) (hsz0 : sz 0 = 0) (hszs : ∀ j (hj : j < d.length), sz (j + 1) = sz j + (1 + (d[j]'hj).nm.size + (d[j]'hj).g.size)) (hszl : ∀ j, j ≤ n → sz j ≤ 2048)
    (hSM : ∀ (u : World) (va vb : Value) (T : GV), Lies u T va → Lies u T vb → Calls Try.prog 37 #[va, vb] u fun e w' => e = .returned (.bool true) ∧ RowKit.Below u.heap.size u w') :
    Calls Try.prog 8 #[.slice fa n fc, .int .i64 turn] w fun e w' => e = .returned (.bool true) ∧ RowKit.Below w.heap.size w w' := by
  have hml : maxLen = 9223372036854775807 := rfl
  obtain ⟨i0, hi, hz0, hz1, hz2⟩ := info_parts infoField
  have HN : Hid (d.length = n) := hn
  have HR : Hid (FRow w fa d) := hr
  have HR0 : Hid (R 0 = []) := hR0
  have HRs : Hid (∀ j (hj : (j + t) % n < d.length), R (j + 1) = R j ++ [d[(j + t) % n]'hj]) := hRs
  have HRl : Hid (∀ j, (R j).length = j) := hRl
  have HVF : Hid _ := hVF
  have HMK : Hid _ := hMK
  have HM2 : Hid _ := hM2
  have HSZ : Hid _ := hSZ
  have HGL : Hid _ := hGL
  have HFD : Hid _ := hFD
  have HSX : Hid _ := hSX
  have HXL : Hid _ := hXL
  have HXS : Hid _ := hXS
  have HZ : Hid (Z = 2 + sz n) := hZ
  have HS0 : Hid (sz 0 = 0) := hsz0
  have HSS : Hid _ := hszs
  have HSL : Hid _ := hszl
  have HSM : Hid _ := hSM
  clear hn hr hR0 hRs hRl hVF hMK hM2 hSZ hGL hFD hSX hXL hXS hZ hsz0 hszs hszl hSM
  go_enter Try.func8, Try.ntmps8
  go_wp2_with (first | (go_at_call 13; refine (awake_any _).mono ?_; rintro e w1 ⟨rfl, b1⟩) | (go_at_call 32; refine (HVF.out _ b1).mono ?_; rintro e w2 ⟨rfl, b2⟩; have B2 : RowKit.Below w.heap.size w w2 := b1.trans (b2.mono b1.size); clear b2))
  refine (HMK.out _ B2).mono ?_
  rintro e w3 ⟨v3, rfl, L3, b3⟩
  obtain ⟨k3, n3, s3, la3, ln3, lc3, fa3, fn3, fc3, rfl⟩ := L3.agg
  have hfn3 := HGL.out _ _ _ _ _ _ _ _ _ _ L3
  subst hfn3
  have B3 : RowKit.Below w.heap.size w w3 := B2.trans (b3.mono B2.size)
  have a3 := (RowKit.Below.refl _ w3).alloc (Nat.le_refl _) (.cells #[.int .i64 k3, .int .i64 n3, .string s3, .slice la3 ln3 lc3, .slice fa3 fn3 fc3] 29)
  have Y3 : Hid (RowKit.Below w.heap.size w (w3.alloc (.cells #[.int .i64 k3, .int .i64 n3, .string s3, .slice la3 ln3 lc3, .slice fa3 fn3 fc3] 29))) := B3.alloc B3.size _
  have P3 : Hid (Blk5 _ w3.heap.size _ _ _ _ _) := Blk5.new w3 (.int .i64 k3) (.int .i64 n3) (.string s3) (.slice la3 ln3 lc3) (.slice fa3 fn3 fc3)
  have HL3 : Hid (Lies _ G _) := L3.below a3
  clear b1 b3 B2 B3 L3 a3
  go_wp2_with fail
  go_loopw [7, 8] (fun v i wr => ∃ (j : Nat), i = .int .i64 j ∧ j ≤ fn3 ∧ wr.ownsRow (w3.heap.size + 1) 36 6 v j (fldCells (R j)) ∧ RowKit.Below (w3.heap.size + 1) (w3.alloc (.cells #[.int .i64 k3, .int .i64 n3, .string s3, .slice la3 ln3 lc3, .slice fa3 fn3 fc3] 29)) wr) (fun _ i _ => fn3 - (intOf i).toNat)
  case atStart => exact ⟨0, rfl, by omega, by rw [HR0.out]; exact World.ownsRow_nil _ _ _ _, RowKit.Below.refl _ _⟩
  case round =>
    obtain ⟨j, rfl, hj, hown, hbw⟩ := hrel
    have hbs := hbw.size
    simp at hbs
    have hbw0 : RowKit.Below w.heap.size w wr := Y3.out.trans (hbw.mono (by have := Y3.out.size; simp at this; omega))
    by_cases hlt : j < fn3
    · obtain ⟨m, hm⟩ : ∃ m, m = (j + t) % fn3 := ⟨_, rfl⟩
      have hmn : m < fn3 := by rw [hm]; exact Nat.mod_lt _ (by omega)
      have hmd : m < d.length := by rw [HN.out]; exact hmn
      have hrem : Int.tmod ((j : Int) + (t : Int)) (fn3 : Int) = (m : Int) := by
        have h := (Int.ofNat_tmod (j + t) fn3).symm
        rw [Int.natCast_add] at h
        rw [hm]
        exact h
      have hnz : ((fn3 : Int) == 0) = false := by simp; omega
      obtain ⟨x, hx⟩ : ∃ x, x = d[m]'hmd := ⟨_, rfl⟩
      have HRx : Hid (R (j + 1) = R j ++ [x]) := by
        subst hm
        rw [hx]
        exact HRs.out j hmd
      obtain ⟨b, o, rfl, hc⟩ := frow_six HR.out hmd
      rw [← hx] at hc
      obtain ⟨en, e0, e1, e2, e3, e4⟩ := hc wr hbw0
      clear hc hm hx
      have HOWN : Hid _ := hown.alloc (.cells #[.string x.nm, .int .i64 x.k, .int .i64 x.n, .string x.s, .slice x.la x.ln x.lc, .slice x.fa x.fn x.fc] 36)
      have HLT : Hid (∀ k, _ → w3.heap.size + 1 ≤ k) := fun k hk => (hown.lt k hk).1
      clear hown
      go_wp2_with (at_builtin; refine wpList_append_own _ rfl _ _ 27 rfl (w3.heap.size + 1) 36 i0 _ 6 96 Try.underlying27 hi hz0 hz1 hz2 rfl (by decide) _ _ _ rfl HOWN.out _ _ _ x.enc rfl ?c0 ?c1 ?c2 ?c3 ?c4 ?c5 ?_)
      case c0 => rfl
      case c1 =>
        intro k u hu
        have hk : k < 6 := by simpa [Fl.enc] using (List.getElem?_eq_some_iff.1 hu).1
        obtain rfl | rfl | rfl | rfl | rfl | rfl : k = 0 ∨ k = 1 ∨ k = 2 ∨ k = 3 ∨ k = 4 ∨ k = 5 := by omega
        all_goals (simp [Fl.enc] at hu; subst hu; simp [Addr.add])
      case c2 => exact enc_one x
      case c3 => omega
      case c4 => omega
      case c5 => simp; omega
      intro v3 w4 hown4 hgrow4 _
      have hbw4 : RowKit.Below (w3.heap.size + 1) (w3.alloc (.cells #[.int .i64 k3, .int .i64 n3, .string s3, .slice la3 ln3 lc3, .slice fa3 fn3 fc3] 29)) w4 := by
        refine (hbw.alloc (by omega) _).grown hgrow4 (by simp; omega) ?_
        exact HLT.out
      have HOWN4 : Hid (w4.ownsRow (w3.heap.size + 1) 36 6 v3 (j + 1) (fldCells (R (j + 1)))) := by
        show World.ownsRow _ _ _ _ _ _ _
        rw [HRx.out, fldCells_snoc]
        exact hown4
      clear hown4 hgrow4 HOWN en e0 e1 e2 e3 e4
      go_wp2_with fail
      go_roundw
      case rel => exact ⟨j + 1, by go_num, by omega, HOWN4.out, hbw4⟩
      case measure => simp [intOf]; omega
    · obtain rfl : fn3 = j := by omega
      obtain ⟨a, c, rfl, q1, q2, q3⟩ := own_frow hown (HRl.out fn3)
      have HF3 : Hid (FRow wr a (R fn3)) := q3
      have hb3 : RowKit.Below (w3.alloc (.cells #[.int .i64 k3, .int .i64 n3, .string s3, .slice la3 ln3 lc3, .slice fa3 fn3 fc3] 29)).heap.size (w3.alloc (.cells #[.int .i64 k3, .int .i64 n3, .string s3, .slice la3 ln3 lc3, .slice fa3 fn3 fc3] 29)) wr := hbw.mono (by simp)
      have P3b : Hid (Blk5 wr w3.heap.size _ _ _ _ _) := P3.out.below hb3
      have HL3b : Hid (Lies wr G _) := HL3.out.below hb3
      have HB3 : Hid (RowKit.Below w.heap.size w wr) := hbw0
      clear hown q3 hb3 hbw P3 HL3 hbw0 hbs Y3
      go_wp2_with fail
      refine (HM2.out _ a c HB3.out HF3.out).mono ?_
      rintro e w5 ⟨v5, rfl, L5, b5⟩
      obtain ⟨k5, n5, s5, la5, ln5, lc5, fa5, fn5, fc5, rfl⟩ := L5.agg
      have B5 : RowKit.Below w.heap.size w w5 := HB3.out.trans (b5.mono HB3.out.size)
      have a5 := (RowKit.Below.refl _ w5).alloc (Nat.le_refl _) (.cells #[.int .i64 k5, .int .i64 n5, .string s5, .slice la5 ln5 lc5, .slice fa5 fn5 fc5] 29)
      have Y5 : Hid (RowKit.Below w.heap.size w (w5.alloc (.cells #[.int .i64 k5, .int .i64 n5, .string s5, .slice la5 ln5 lc5, .slice fa5 fn5 fc5] 29))) := B5.alloc B5.size _
      have p3 := (P3b.out.below b5).below a5
      obtain ⟨c0, c1, c2, c3, c4⟩ := p3.cells
      have P3c : Hid (Blk5 _ w3.heap.size _ _ _ _ _) := p3
      have P5 : Hid (Blk5 _ w5.heap.size _ _ _ _ _) := Blk5.new w5 (.int .i64 k5) (.int .i64 n5) (.string s5) (.slice la5 ln5 lc5) (.slice fa5 fn5 fc5)
      have HL3c : Hid (Lies _ G _) := (HL3b.out.below b5).below a5
      have HL5 : Hid (Lies _ G _) := L5.below a5
      clear b5 B5 a5 p3 P3b HL3b HB3 HF3 L5
      go_wp2_with fail
      refine (HSZ.out _ _ HL3c.out).mono ?_
      rintro e w6 ⟨rfl, b6⟩
      have Y6 : Hid (RowKit.Below w.heap.size w w6) := Y5.out.trans (b6.mono Y5.out.size)
      have P3d : Hid (Blk5 w6 w3.heap.size _ _ _ _ _) := P3c.out.below b6
      have P5d : Hid (Blk5 w6 w5.heap.size _ _ _ _ _) := P5.out.below b6
      have HL3d : Hid (Lies w6 G _) := HL3c.out.below b6
      have HL5d : Hid (Lies w6 G _) := HL5.out.below b6
      clear b6 P3c P5 HL3c HL5 c0 c1 c2 c3 c4 Y5
      go_wp2_with fail
      go_loopw [13, 14] (fun v i wr => ∃ (p q : Nat), v = .int .i64 q ∧ i = .int .i64 p ∧ p ≤ fn3 ∧ q ≤ 4096 ∧ Hid (q = 2 + sz p) ∧ RowKit.Below w6.heap.size w6 wr) (fun _ i _ => fn3 - (intOf i).toNat)
      case atStart => exact ⟨0, 2, rfl, rfl, by omega, by omega, (by rw [HS0.out] : 2 = 2 + sz 0), RowKit.Below.refl _ _⟩
      case round =>
        obtain ⟨p, q, rfl, rfl, hp, hq, HQ, hbw⟩ := hrel
        have hB : RowKit.Below w.heap.size w wr := Y6.out.trans (hbw.mono Y6.out.size)
        by_cases hlt : p < fn3
        · have hpd : p < d.length := by rw [HN.out]; exact hlt
          obtain ⟨x, hx⟩ : ∃ x, x = d[p]'hpd := ⟨_, rfl⟩
          have hxm : x ∈ d := by rw [hx]; exact List.getElem_mem hpd
          obtain ⟨b, o, rfl, hc⟩ := frow_six HR.out hpd
          have HSp : Hid (sz (p + 1) = sz p + (1 + x.nm.size + x.g.size)) := by rw [hx]; exact HSS.out p hpd
          have HSl : Hid (sz (p + 1) ≤ 2048) := HSL.out (p + 1) (by omega)
          rw [← hx] at hc
          have HC : Hid _ := hc
          obtain ⟨hx1, hx2⟩ := HXS.out x hxm
          have HXm : Hid (x ∈ d) := hxm
          clear hc hx hxm
          have HK : Hid (∀ w' : World, RowKit.Below w6.heap.size w6 w' → w'.cell? ⟨w3.heap.size, 0, none⟩ = some (.int .i64 k3) ∧ w'.cell? ⟨w3.heap.size, 1, none⟩ = some (.int .i64 n3) ∧ w'.cell? ⟨w3.heap.size, 2, none⟩ = some (.string s3) ∧ w'.cell? ⟨w3.heap.size, 3, none⟩ = some (.slice la3 ln3 lc3) ∧ w'.cell? ⟨w3.heap.size, 4, none⟩ = some (.slice fa3 fn3 fc3) ∧ w'.cell? ⟨b, o + p * 6, none⟩ = some (.string x.nm)) := fun w' hb => by
            obtain ⟨c0, c1, c2, c3, c4⟩ := (P3d.out.below hb).cells
            exact ⟨c0, c1, c2, c3, c4, (HC.out _ (Y6.out.trans (hb.mono Y6.out.size))).1⟩
          have hbd : RowKit.Below w6.heap.size w6 wr.drew := hbw.drew
          have hbe : RowKit.Below w6.heap.size w6 (wr.alloc (.cells #[.int .i64 0, .int .i64 0, .string ⟨#[]⟩, .slice none 0 0, .slice none 0 0] 29)).drew := (hbw.alloc hbw.size _).drew
          have hbf : RowKit.Below w6.heap.size w6 (wr.drew.alloc (.cells #[.int .i64 0, .int .i64 0, .string ⟨#[]⟩, .slice none 0 0, .slice none 0 0] 29)) := hbd.alloc hbw.size _
          have hS := HK.out _ hbd
          have hSe := HK.out _ hbe
          have hSf := HK.out _ hbf
          have HFx : Hid (∀ (u : World), RowKit.Below w6.heap.size w6 u → Calls Try.prog 34 #[.agg #[.int .i64 k3, .int .i64 n3, .string s3, .slice la3 ln3 lc3, .slice fa3 fn3 fc3], .string x.nm] u fun e w' => ∃ v', e = .returned (.tuple #[v', .bool true]) ∧ From u.heap.size w' x.g v' ∧ RowKit.Below u.heap.size u w') := fun u hb => HFD.out u _ x HXm.out (HL3d.out.below hb)
          have HZe : Hid (Blk5 (wr.alloc (.cells #[.int .i64 0, .int .i64 0, .string ⟨#[]⟩, .slice none 0 0, .slice none 0 0] 29)).drew wr.heap.size (.int .i64 0) (.int .i64 0) (.string ⟨#[]⟩) (.slice none 0 0) (.slice none 0 0)) := Blk5.new wr (.int .i64 0) (.int .i64 0) (.string ⟨#[]⟩) (.slice none 0 0) (.slice none 0 0)
          go_wp2_with fail
          have HSXx : Hid (∀ (u : World), RowKit.Below w.heap.size w u → Calls Try.prog 23 #[.agg #[.int .i64 x.k, .int .i64 x.n, .string x.s, .slice x.la x.ln x.lc, .slice x.fa x.fn x.fc]] u fun e w' => e = .returned (.tuple #[.int .i64 (x.g.size : Int), .int .i64 0]) ∧ RowKit.Below u.heap.size u w') := fun u hu => HSX.out u x HXm.out hu
          have HXLx : Hid (Lies w x.g (.agg #[.int .i64 x.k, .int .i64 x.n, .string x.s, .slice x.la x.ln x.lc, .slice x.fa x.fn x.fc])) := HXL.out x HXm.out
          go_region_held3 (fun w' => w'.cell? ⟨w3.heap.size, 0, none⟩ = some (.int .i64 k3) ∧ w'.cell? ⟨w3.heap.size, 1, none⟩ = some (.int .i64 n3) ∧ w'.cell? ⟨w3.heap.size, 2, none⟩ = some (.string s3) ∧ w'.cell? ⟨w3.heap.size, 3, none⟩ = some (.slice la3 ln3 lc3) ∧ w'.cell? ⟨w3.heap.size, 4, none⟩ = some (.slice fa3 fn3 fc3) ∧ w'.cell? ⟨b, o + p * 6, none⟩ = some (.string x.nm)) (first | with_reducible exact hS | with_reducible exact hSe | with_reducible exact hSf | with_reducible exact hS8 | with_reducible exact hS9) (first
            | (go_at_call 34; refine (HFx.out wr.drew hbd).mono ?_; rintro e w7 ⟨v7, rfl, L7, b7⟩; obtain ⟨k7, n7, s7, la7, ln7, lc7, fa7, fn7, fc7, rfl⟩ := L7.lies.agg; have hb7 : RowKit.Below w6.heap.size w6 w7 := hbd.trans (b7.mono hbd.size); have hS := HK.out _ hb7; have hb8 : RowKit.Below w6.heap.size w6 (w7.alloc (.cells #[.int .i64 k7, .int .i64 n7, .string s7, .slice la7 ln7 lc7, .slice fa7 fn7 fc7] 29)) := hb7.alloc hb7.size _; have hS9 := HK.out _ hb8; have hS8 := HK.out (w7.alloc (.cells #[.int .i64 0, .int .i64 0, .string ⟨#[]⟩, .slice none 0 0, .slice none 0 0] 29)) (hb7.alloc hb7.size _); have HB8 : Hid (RowKit.Below w6.heap.size w6 (w7.alloc (.cells #[.int .i64 k7, .int .i64 n7, .string s7, .slice la7 ln7 lc7, .slice fa7 fn7 fc7] 29))) := hb8; have HQ8 : Hid (Blk5 (w7.alloc (.cells #[.int .i64 k7, .int .i64 n7, .string s7, .slice la7 ln7 lc7, .slice fa7 fn7 fc7] 29)) w7.heap.size (.int .i64 k7) (.int .i64 n7) (.string s7) (.slice la7 ln7 lc7) (.slice fa7 fn7 fc7)) := Blk5.new w7 (.int .i64 k7) (.int .i64 n7) (.string s7) (.slice la7 ln7 lc7) (.slice fa7 fn7 fc7); have HL8 : Hid (Lies (w7.alloc (.cells #[.int .i64 k7, .int .i64 n7, .string s7, .slice la7 ln7 lc7, .slice fa7 fn7 fc7] 29)) x.g (.agg #[.int .i64 k7, .int .i64 n7, .string s7, .slice la7 ln7 lc7, .slice fa7 fn7 fc7])) := L7.lies.below ((RowKit.Below.refl _ _).alloc (Nat.le_refl _) _); have tokA : True := trivial)
            | (go_at_call 34; refine (HFx.out (wr.alloc (.cells #[.int .i64 0, .int .i64 0, .string ⟨#[]⟩, .slice none 0 0, .slice none 0 0] 29)).drew hbe).mono ?_; rintro e w7 ⟨v7, rfl, L7, b7⟩; obtain ⟨k7, n7, s7, la7, ln7, lc7, fa7, fn7, fc7, rfl⟩ := L7.lies.agg; have hb7 : RowKit.Below w6.heap.size w6 w7 := hbe.trans (b7.mono hbe.size); have hS := HK.out _ hb7; have hb8 := below_put (b := wr.heap.size) (y0 := .int .i64 k7) (y1 := .int .i64 n7) (y2 := .string s7) (y3 := .slice la7 ln7 lc7) (y4 := .slice fa7 fn7 fc7) hb7 hbw.size; have hq8 := Blk5.put (y0 := .int .i64 k7) (y1 := .int .i64 n7) (y2 := .string s7) (y3 := .slice la7 ln7 lc7) (y4 := .slice fa7 fn7 fc7) (HZe.out.below b7); have hl8 := (lies_put (b := wr.heap.size) (y0 := .int .i64 k7) (y1 := .int .i64 n7) (y2 := .string s7) (y3 := .slice la7 ln7 lc7) (y4 := .slice fa7 fn7 fc7) L7 HZe.out.lt).lies; unfold put5w at hb8 hq8 hl8; have hS9 := HK.out _ hb8; obtain ⟨f0, f1, f2, f3, f4⟩ := (HZe.out.below b7).free; obtain ⟨z0, z1, z2, z3, z4⟩ := (HZe.out.below b7).cells; have HB8 : Hid (RowKit.Below w6.heap.size w6 _) := hb8; have HQ8 : Hid (Blk5 _ wr.heap.size (.int .i64 k7) (.int .i64 n7) (.string s7) (.slice la7 ln7 lc7) (.slice fa7 fn7 fc7)) := hq8; have HL8 : Hid (Lies _ x.g (.agg #[.int .i64 k7, .int .i64 n7, .string s7, .slice la7 ln7 lc7, .slice fa7 fn7 fc7])) := hl8; clear hq8 hl8; have tokB : True := trivial))
          all_goals first
            | (have _t := tokA
               clear hS hSe hSf hS8 hS9 L7 b7 hb7 hb8 HZe HK HFx hbd hbe hbf
               obtain ⟨en, e0, e1, e2, e3, e4⟩ := HC.out _ (Y6.out.trans (HB8.out.mono Y6.out.size))
               go_wp2_with fail
               refine (HSXx.out _ (Y6.out.trans (HB8.out.mono Y6.out.size))).mono ?_
               rintro e w9 ⟨rfl, b9⟩
               have hb9 : RowKit.Below w6.heap.size w6 w9 := HB8.out.trans (b9.mono HB8.out.size)
               have HQ9 : Hid (Blk5 w9 w7.heap.size (.int .i64 k7) (.int .i64 n7) (.string s7) (.slice la7 ln7 lc7) (.slice fa7 fn7 fc7)) := HQ8.out.below b9
               have HL9 : Hid (Lies w9 x.g (.agg #[.int .i64 k7, .int .i64 n7, .string s7, .slice la7 ln7 lc7, .slice fa7 fn7 fc7])) := HL8.out.below b9
               clear b9 en e0 e1 e2 e3 e4
               have HK2 : Hid (∀ w' : World, RowKit.Below w9.heap.size w9 w' → w'.cell? ⟨w7.heap.size, 0, none⟩ = some (.int .i64 k7) ∧ w'.cell? ⟨w7.heap.size, 1, none⟩ = some (.int .i64 n7) ∧ w'.cell? ⟨w7.heap.size, 2, none⟩ = some (.string s7) ∧ w'.cell? ⟨w7.heap.size, 3, none⟩ = some (.slice la7 ln7 lc7) ∧ w'.cell? ⟨w7.heap.size, 4, none⟩ = some (.slice fa7 fn7 fc7) ∧ w'.cell? ⟨b, o + p * 6 + 1, none⟩ = some (.int .i64 x.k) ∧ w'.cell? ⟨b, o + p * 6 + 1 + 1, none⟩ = some (.int .i64 x.n) ∧ w'.cell? ⟨b, o + p * 6 + 1 + 2, none⟩ = some (.string x.s) ∧ w'.cell? ⟨b, o + p * 6 + 1 + 3, none⟩ = some (.slice x.la x.ln x.lc) ∧ w'.cell? ⟨b, o + p * 6 + 1 + 4, none⟩ = some (.slice x.fa x.fn x.fc)) := fun w' hb => by
                 obtain ⟨c0, c1, c2, c3, c4⟩ := (HQ9.out.below hb).cells
                 obtain ⟨_, e0, e1, e2, e3, e4⟩ := HC.out _ (Y6.out.trans ((hb9.trans (hb.mono hb9.size)).mono Y6.out.size))
                 exact ⟨c0, c1, c2, c3, c4, e0, e1, e2, e3, e4⟩
               have hd9 : RowKit.Below w9.heap.size w9 w9.drew := (RowKit.Below.refl _ _).drew
               have hS := HK2.out _ hd9
               have HSx : Hid (∀ u, RowKit.Below w9.heap.size w9 u → Calls Try.prog 37 #[.agg #[.int .i64 k7, .int .i64 n7, .string s7, .slice la7 ln7 lc7, .slice fa7 fn7 fc7], .agg #[.int .i64 x.k, .int .i64 x.n, .string x.s, .slice x.la x.ln x.lc, .slice x.fa x.fn x.fc]] u fun e w' => e = .returned (.bool true) ∧ RowKit.Below u.heap.size u w') := fun u hu => HSM.out u _ _ x.g (HL9.out.below hu) (HXLx.out.below (Y6.out.trans ((hb9.trans (hu.mono hb9.size)).mono Y6.out.size)))
               go_wp2_with fail
               go_region_held3 (fun w' => w'.cell? ⟨w7.heap.size, 0, none⟩ = some (.int .i64 k7) ∧ w'.cell? ⟨w7.heap.size, 1, none⟩ = some (.int .i64 n7) ∧ w'.cell? ⟨w7.heap.size, 2, none⟩ = some (.string s7) ∧ w'.cell? ⟨w7.heap.size, 3, none⟩ = some (.slice la7 ln7 lc7) ∧ w'.cell? ⟨w7.heap.size, 4, none⟩ = some (.slice fa7 fn7 fc7) ∧ w'.cell? ⟨b, o + p * 6 + 1, none⟩ = some (.int .i64 x.k) ∧ w'.cell? ⟨b, o + p * 6 + 1 + 1, none⟩ = some (.int .i64 x.n) ∧ w'.cell? ⟨b, o + p * 6 + 1 + 2, none⟩ = some (.string x.s) ∧ w'.cell? ⟨b, o + p * 6 + 1 + 3, none⟩ = some (.slice x.la x.ln x.lc) ∧ w'.cell? ⟨b, o + p * 6 + 1 + 4, none⟩ = some (.slice x.fa x.fn x.fc)) (first | with_reducible exact hS) (first
                 | (go_at_call 37; refine (HSx.out _ hd9).mono ?_; rintro e w10 ⟨rfl, b10⟩; have hb10 : RowKit.Below w9.heap.size w9 w10 := hd9.trans (b10.mono hd9.size); have hS := HK2.out _ hb10))
               all_goals
                 have hbz : RowKit.Below w6.heap.size w6 w10 := hb9.trans (hb10.mono hb9.size)
                 obtain ⟨en, e0, e1, e2, e3, e4⟩ := HC.out _ (Y6.out.trans (hbz.mono Y6.out.size))
                 clear hS e0 e1 e2 e3 e4 hb10 b10
                 go_wp2_with fail
                 go_roundw
                 case rel =>
                   refine ⟨p + 1, q + 1 + x.nm.size + x.g.size, by go_num, by go_num, by omega, ?_, ?_, hbz⟩
                   · have := HQ.out
                     have := HSp.out
                     have := HSl.out
                     omega
                   · show _ = _
                     rw [HSp.out, HQ.out]
                     omega
                 case measure => simp [intOf]; omega)
            | (have _t := tokB
               clear hS hSe hSf hS9 L7 b7 hb7 hb8 HZe HK HFx hbd hbe hbf f0 f1 f2 f3 f4 z0 z1 z2 z3 z4
               obtain ⟨en, e0, e1, e2, e3, e4⟩ := HC.out _ (Y6.out.trans (HB8.out.mono Y6.out.size))
               go_wp2_with fail
               refine (HSXx.out _ (Y6.out.trans (HB8.out.mono Y6.out.size))).mono ?_
               rintro e w9 ⟨rfl, b9⟩
               have hb9 : RowKit.Below w6.heap.size w6 w9 := HB8.out.trans (b9.mono HB8.out.size)
               have HQ9 : Hid (Blk5 w9 wr.heap.size (.int .i64 k7) (.int .i64 n7) (.string s7) (.slice la7 ln7 lc7) (.slice fa7 fn7 fc7)) := HQ8.out.below b9
               have HL9 : Hid (Lies w9 x.g (.agg #[.int .i64 k7, .int .i64 n7, .string s7, .slice la7 ln7 lc7, .slice fa7 fn7 fc7])) := HL8.out.below b9
               clear b9 en e0 e1 e2 e3 e4
               have HK2 : Hid (∀ w' : World, RowKit.Below w9.heap.size w9 w' → w'.cell? ⟨wr.heap.size, 0, none⟩ = some (.int .i64 k7) ∧ w'.cell? ⟨wr.heap.size, 1, none⟩ = some (.int .i64 n7) ∧ w'.cell? ⟨wr.heap.size, 2, none⟩ = some (.string s7) ∧ w'.cell? ⟨wr.heap.size, 3, none⟩ = some (.slice la7 ln7 lc7) ∧ w'.cell? ⟨wr.heap.size, 4, none⟩ = some (.slice fa7 fn7 fc7) ∧ w'.cell? ⟨b, o + p * 6 + 1, none⟩ = some (.int .i64 x.k) ∧ w'.cell? ⟨b, o + p * 6 + 1 + 1, none⟩ = some (.int .i64 x.n) ∧ w'.cell? ⟨b, o + p * 6 + 1 + 2, none⟩ = some (.string x.s) ∧ w'.cell? ⟨b, o + p * 6 + 1 + 3, none⟩ = some (.slice x.la x.ln x.lc) ∧ w'.cell? ⟨b, o + p * 6 + 1 + 4, none⟩ = some (.slice x.fa x.fn x.fc)) := fun w' hb => by
                 obtain ⟨c0, c1, c2, c3, c4⟩ := (HQ9.out.below hb).cells
                 obtain ⟨_, e0, e1, e2, e3, e4⟩ := HC.out _ (Y6.out.trans ((hb9.trans (hb.mono hb9.size)).mono Y6.out.size))
                 exact ⟨c0, c1, c2, c3, c4, e0, e1, e2, e3, e4⟩
               have hd9 : RowKit.Below w9.heap.size w9 w9.drew := (RowKit.Below.refl _ _).drew
               have hS := HK2.out _ hd9
               have HSx : Hid (∀ u, RowKit.Below w9.heap.size w9 u → Calls Try.prog 37 #[.agg #[.int .i64 k7, .int .i64 n7, .string s7, .slice la7 ln7 lc7, .slice fa7 fn7 fc7], .agg #[.int .i64 x.k, .int .i64 x.n, .string x.s, .slice x.la x.ln x.lc, .slice x.fa x.fn x.fc]] u fun e w' => e = .returned (.bool true) ∧ RowKit.Below u.heap.size u w') := fun u hu => HSM.out u _ _ x.g (HL9.out.below hu) (HXLx.out.below (Y6.out.trans ((hb9.trans (hu.mono hb9.size)).mono Y6.out.size)))
               go_wp2_with fail
               go_region_held3 (fun w' => w'.cell? ⟨wr.heap.size, 0, none⟩ = some (.int .i64 k7) ∧ w'.cell? ⟨wr.heap.size, 1, none⟩ = some (.int .i64 n7) ∧ w'.cell? ⟨wr.heap.size, 2, none⟩ = some (.string s7) ∧ w'.cell? ⟨wr.heap.size, 3, none⟩ = some (.slice la7 ln7 lc7) ∧ w'.cell? ⟨wr.heap.size, 4, none⟩ = some (.slice fa7 fn7 fc7) ∧ w'.cell? ⟨b, o + p * 6 + 1, none⟩ = some (.int .i64 x.k) ∧ w'.cell? ⟨b, o + p * 6 + 1 + 1, none⟩ = some (.int .i64 x.n) ∧ w'.cell? ⟨b, o + p * 6 + 1 + 2, none⟩ = some (.string x.s) ∧ w'.cell? ⟨b, o + p * 6 + 1 + 3, none⟩ = some (.slice x.la x.ln x.lc) ∧ w'.cell? ⟨b, o + p * 6 + 1 + 4, none⟩ = some (.slice x.fa x.fn x.fc)) (first | with_reducible exact hS) (first
                 | (go_at_call 37; refine (HSx.out _ hd9).mono ?_; rintro e w10 ⟨rfl, b10⟩; have hb10 : RowKit.Below w9.heap.size w9 w10 := hd9.trans (b10.mono hd9.size); have hS := HK2.out _ hb10))
               all_goals
                 have hbz : RowKit.Below w6.heap.size w6 w10 := hb9.trans (hb10.mono hb9.size)
                 obtain ⟨en, e0, e1, e2, e3, e4⟩ := HC.out _ (Y6.out.trans (hbz.mono Y6.out.size))
                 clear hS e0 e1 e2 e3 e4 hb10 b10
                 go_wp2_with fail
                 go_roundw
                 case rel =>
                   refine ⟨p + 1, q + 1 + x.nm.size + x.g.size, by go_num, by go_num, by omega, ?_, ?_, hbz⟩
                   · have := HQ.out
                     have := HSp.out
                     have := HSl.out
                     omega
                   · show _ = _
                     rw [HSp.out, HQ.out]
                     omega
                 case measure => simp [intOf]; omega)
        · obtain rfl : fn3 = p := by omega
          have p3 := P3d.out.below hbw
          have p5 := P5d.out.below hbw
          obtain ⟨x0, x1, x2, x3, x4⟩ := p3.cells
          obtain ⟨y0, y1, y2, y3, y4⟩ := p5.cells
          have HP3 : Hid (Blk5 wr w3.heap.size _ _ _ _ _) := p3
          have M3 : Hid (Lies wr G _) := HL3d.out.below hbw
          have M5 : Hid (Lies wr G _) := HL5d.out.below hbw
          have HB : Hid (RowKit.Below w.heap.size w wr) := hB
          have hqz : q = Z := by rw [HQ.out, HZ.out]
          subst hqz
          clear p3 p5 hbw hB
          go_wp2_with (first | (go_at_call 37; refine (HSM.out _ _ _ G M5.out M3.out).mono ?_; rintro e w9 ⟨rfl, b9⟩; have B9 : RowKit.Below w.heap.size w w9 := HB.out.trans (b9.mono HB.out.size); obtain ⟨z0, z1, z2, z3, z4⟩ := (Blk5.below HP3.out b9).cells; clear b9))
          go_ret
          exact ⟨by simp, B9⟩
set_option maxHeartbeats 4000000 in
set_option maxRecDepth 1000000 in
theorem docs_vast (fa : Option Addr) (fc n : Nat) (turn : Int) (w : World)
    (hVF : ∀ u, RowKit.Below w.heap.size w u → Calls Try.prog 32 #[.slice fa n fc] u fun e w' => e = .returned (.bool true) ∧ RowKit.Below u.heap.size u w') :
    Calls Try.prog 8 #[.slice fa n fc, .int .i64 turn] w fun e w' => e = .returned (.bool true) ∧ RowKit.Below w.heap.size w w' := by
  have HVF : Hid _ := hVF
  clear hVF
  go_enter Try.func8, Try.ntmps8
  go_wp2_with (first | (go_at_call 13; refine (awake_any _).mono ?_; rintro e w1 ⟨rfl, b1⟩) | (go_at_call 32; refine (HVF.out _ b1).mono ?_; rintro e w2 ⟨rfl, b2⟩; have B2 : RowKit.Below w.heap.size w w2 := b1.trans (b2.mono b1.size); clear b2))
  go_ret
  exact ⟨rfl, B2⟩

set_option maxHeartbeats 4000000 in
set_option maxRecDepth 1000000 in
theorem docs_zero (fa : Option Addr) (fc n : Nat) (turn E : Int) (G : GV) (w : World) (hE : ¬ E = 0)
    (hVF : ∀ u, RowKit.Below w.heap.size w u → Calls Try.prog 32 #[.slice fa n fc] u fun e w' => e = .returned (.bool false) ∧ RowKit.Below u.heap.size u w')
    (hMK : ∀ u, RowKit.Below w.heap.size w u → Calls Try.prog 33 #[.slice fa n fc] u fun e w' => ∃ v, e = .returned (.tuple #[v, .int .i64 E]) ∧ Lies w' G v ∧ RowKit.Below u.heap.size u w')
    (hZ : ∀ (u : World) (v : Value), Lies u G v → Calls Try.prog 38 #[v] u fun e w' => e = .returned (.bool true) ∧ RowKit.Below u.heap.size u w') :
    Calls Try.prog 8 #[.slice fa n fc, .int .i64 turn] w fun e w' => e = .returned (.bool true) ∧ RowKit.Below w.heap.size w w' := by
  have HVF : Hid _ := hVF
  have HMK : Hid _ := hMK
  have HZ : Hid _ := hZ
  clear hVF hMK hZ
  go_enter Try.func8, Try.ntmps8
  go_wp2_with (first | (go_at_call 13; refine (awake_any _).mono ?_; rintro e w1 ⟨rfl, b1⟩) | (go_at_call 32; refine (HVF.out _ b1).mono ?_; rintro e w2 ⟨rfl, b2⟩; have B2 : RowKit.Below w.heap.size w w2 := b1.trans (b2.mono b1.size); clear b2))
  refine (HMK.out _ B2).mono ?_
  rintro e w3 ⟨v3, rfl, L3, b3⟩
  obtain ⟨k3, n3, s3, la3, ln3, lc3, fa3, fn3, fc3, rfl⟩ := L3.agg
  have B3 : RowKit.Below w.heap.size w w3 := B2.trans (b3.mono B2.size)
  have a3 := (RowKit.Below.refl _ w3).alloc (Nat.le_refl _) (.cells #[.int .i64 k3, .int .i64 n3, .string s3, .slice la3 ln3 lc3, .slice fa3 fn3 fc3] 29)
  have Y3 : Hid (RowKit.Below w.heap.size w (w3.alloc (.cells #[.int .i64 k3, .int .i64 n3, .string s3, .slice la3 ln3 lc3, .slice fa3 fn3 fc3] 29))) := B3.alloc B3.size _
  have HL3 : Hid (Lies _ G _) := L3.below a3
  clear b1 b3 B2 B3 L3 a3
  go_wp2_with fail
  refine (HZ.out _ _ HL3.out).mono ?_
  rintro e w4 ⟨rfl, b4⟩
  have B4 : RowKit.Below w.heap.size w w4 := Y3.out.trans (b4.mono Y3.out.size)
  clear b4
  go_wp2_with fail
  go_ret
  exact ⟨rfl, B4⟩
end Go.Proofs.Ytkjijepepbgciaa
