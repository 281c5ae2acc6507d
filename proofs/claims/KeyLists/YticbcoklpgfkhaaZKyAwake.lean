/- The statements' own 'is' and 'awake' of stage 5. -/
import Derived.Test.YticbcoklpgfkhaaKyBack
import Derived.Test.YticbcoklpgfkhaaZKyJoin
import Derived.Test.YticbcoklpgfkhaaCHelpD
import Derived.Test.YticbcoklpgfkhaaSame2
namespace Go.Proofs.Yticbcoklpgfkhaa
open Go.RowKit

theorem same_left : ∀ a b c : GV, a.same b = true → a.same c = true → b.same c = true := by
  intro a
  induction a with
  | nil => intro b c h; simp [GV.same] at h
  | mk k n s ln l fn nm f ihl ihf =>
    intro b c h h'
    cases b with
    | nil => simp [GV.same] at h
    | mk k1 n1 s1 ln1 l1 fn1 nm1 f1 =>
      cases c with
      | nil => simp [GV.same] at h'
      | mk k2 n2 s2 ln2 l2 fn2 nm2 f2 =>
        simp [GV.same] at h h' ⊢
        obtain ⟨⟨⟨⟨⟨⟨h1, h2⟩, h3⟩, h4⟩, h5⟩, h6⟩, h7⟩ := h
        obtain ⟨⟨⟨⟨⟨⟨h1', h2'⟩, h3'⟩, h4'⟩, h5'⟩, h6'⟩, h7'⟩ := h'
        subst h1 h2 h3 h4 h5 h1' h2' h3' h4' h5'
        exact ⟨⟨⟨⟨⟨⟨rfl, rfl⟩, rfl⟩, rfl⟩, rfl⟩, fun i hi => ihl i _ _ (h6 i hi) (h6' i hi)⟩, fun i hi => ⟨(h7 i hi).1.symm.trans (h7' i hi).1, ihf i _ _ (h7 i hi).2 (h7' i hi).2⟩⟩
/-- Two good values of one key are the same. -/
theorem key_same {g g' : GV} (h : g.err = 0) (h' : g'.err = 0) (hn : g.every GV.nOk = true) (hn' : g'.every GV.nOk = true) (e : g.key = g'.key) : g.same g' = true := by
  obtain ⟨_, _, g0, h1, h2⟩ := begins_same (l := g.key) (rest := []) (rest' := []) ⟨h, by simp⟩ ⟨h', by simp [e]⟩ hn hn'
  exact same_left g0 g g' h1 h2
/-- The bytes of a row as a text. -/
theorem byts_text {w : World} {a : Option Addr} {c : Nat} {t : List UInt8} (h : Byts w a t) : (convert 29 9 (.slice a t.length c)).run Try.prog w = .ok (.string ⟨t.toArray⟩) w := by
  cases a with
  | none =>
    cases t with
    | nil => exact run_convert_bytes_nil w 29 5 Try.underlying29 Try.underlying5 0 c 9 Try.underlying9
    | cons x t =>
      obtain ⟨b, o, e, _⟩ := h 0 (by simp)
      exact absurd e (by simp)
  | some ad =>
    refine run_convert_bytes_back w 29 9 5 ad c t Try.underlying29 Try.underlying5 Try.underlying9 ?_
    intro j hj
    obtain ⟨b, o, e, hc⟩ := h j hj
    cases e
    rw [show (⟨b, o, none⟩ : Addr).add j = ⟨b, o + j, none⟩ by simp [Addr.add]]
    exact hc

set_option maxHeartbeats 2000000 in
set_option maxRecDepth 1000000 in
theorem is_yes (g : GV) (v : Value) (a : Option Addr) (c : Nat) (w : World) (hL : Lies w g v) (hN : g.nodes ≤ 16384) (he : g.err = 0) (hB : Byts w a g.key) :
    Calls Try.prog 13 #[v, .slice a g.key.length c] w fun e w' => e = .returned (.bool true) ∧ RowKit.Below w.heap.size w w' := by
  obtain ⟨k, n, s, la, ln, lc, fa, fn, fc, rfl⟩ := hL.agg
  have hbx := (RowKit.Below.refl w.heap.size w).alloc (Nat.le_refl _) (.cells #[.int .i64 k, .int .i64 n, .string s, .slice la ln lc, .slice fa fn fc] 25)
  have HO := mkHid (Of_any g _ _ (hL.below hbx) hN)
  have HBX := mkHid hbx
  have HB := mkHid hB
  have HE := mkHid he
  obtain ⟨t, ht⟩ : ∃ t, t = g.key := ⟨_, rfl⟩
  obtain ⟨N, hNN⟩ : ∃ N, N = g.key.length := ⟨_, rfl⟩
  have HT : Hid (∀ u : World, RowKit.Below w.heap.size w u → (convert 29 9 (.slice a N c)).run Try.prog u = .ok (.string ⟨t.toArray⟩) u) := fun u hu => by
    rw [hNN, ht]
    exact byts_text (HB.out.below hu)
  unfold OfSay at HO
  rw [← ht] at HO
  rw [← hNN]
  clear hL hbx hB he ht hNN
  go_enter Try.func13, Try.ntmps13
  go_wp2_with fail
  refine HO.out.mono ?_
  rintro e w2 ⟨hb, ⟨hne, _⟩ | ⟨_, v', rfl, ho⟩⟩
  · exact absurd HE.out hne
  · have hb2 := HBX.out.trans (hb.mono HBX.out.size)
    have q1 := HT.out w2 hb2
    have q2 := own_string ho
    obtain ⟨a1, c1, rfl, _⟩ := own_slice ho
    have HB2 := mkHid hb2
    clear hb hb2 ho
    go_wp2_with fail
    go_ret
    exact ⟨by simp, HB2.out⟩

set_option maxHeartbeats 4000000 in
set_option maxRecDepth 1000000 in
theorem awake5_any (w : World) : Calls Try.prog 12 #[] w fun e w' => e = .returned (.bool true) ∧ RowKit.Below w.heap.size w w' := by
  have hml : maxLen = 9223372036854775807 := rfl
  have he : (gT ⟨#[97]⟩).err = 0 := by decide +kernel
  have hkey : (gT ⟨#[97]⟩).key = [40, 97, 0, 0] := by decide +kernel
  have hok : (gT ⟨#[97]⟩).every GV.nOk = true := by decide +kernel
  have HTT : Hid (∀ u : World, Calls Try.prog 34 #[.string ⟨#[97]⟩] u fun e w' => e = .returned (.agg #[.int .i64 4, .int .i64 0, .string ⟨#[97]⟩, .slice none 0 0, .slice none 0 0]) ∧ RowKit.Below u.heap.size u w') := fun u => T_any ⟨#[97]⟩ u
  have HB4 : Hid (∀ u : World, Byts (u.alloc (.cells #[.int .u8 40, .int .u8 97, .int .u8 0, .int .u8 0] 5)) (some ⟨u.heap.size, 0, none⟩) [40, 97, 0, 0]) := by
    intro u i hi
    refine ⟨u.heap.size, 0, rfl, ?_⟩
    have hi2 : i < 4 := by simpa using hi
    obtain rfl | rfl | rfl | rfl : i = 0 ∨ i = 1 ∨ i = 2 ∨ i = 3 := by omega
    all_goals simp
  have HBK : Hid (∀ u : World, Calls Try.prog 9 #[.slice (some ⟨u.heap.size, 0, none⟩) 4 4] (u.alloc (.cells #[.int .u8 40, .int .u8 97, .int .u8 0, .int .u8 0] 5)) fun e w' => BackSay [40, 97, 0, 0] (u.alloc (.cells #[.int .u8 40, .int .u8 97, .int .u8 0, .int .u8 0] 5)) e w') := fun u => Back_any _ 4 [40, 97, 0, 0] _ (HB4.out u) (by simp) (by omega) (by simp)
  have HIS : Hid (∀ u : World, Calls Try.prog 13 #[.agg #[.int .i64 4, .int .i64 0, .string ⟨#[97]⟩, .slice none 0 0, .slice none 0 0], .slice (some ⟨u.heap.size, 0, none⟩) 4 4] (u.alloc (.cells #[.int .u8 40, .int .u8 97, .int .u8 0, .int .u8 0] 5)) fun e w' => e = .returned (.bool true) ∧ RowKit.Below (u.alloc (.cells #[.int .u8 40, .int .u8 97, .int .u8 0, .int .u8 0] 5)).heap.size (u.alloc (.cells #[.int .u8 40, .int .u8 97, .int .u8 0, .int .u8 0] 5)) w') := by
    intro u
    have h := is_yes (gT ⟨#[97]⟩) (vT ⟨#[97]⟩) (some ⟨u.heap.size, 0, none⟩) 4 (u.alloc (.cells #[.int .u8 40, .int .u8 97, .int .u8 0, .int .u8 0] 5)) (lies_T _ _ (by decide)) (by decide +kernel) he (by rw [hkey]; exact HB4.out u)
    rw [hkey] at h
    exact h
  have HIS2 : Hid (∀ (u : World) (a : Addr), Byts u (some a) [40, 97, 0, 0] → Calls Try.prog 13 #[.agg #[.int .i64 4, .int .i64 0, .string ⟨#[97]⟩, .slice none 0 0, .slice none 0 0], .slice (some a) 4 4] u fun e w' => e = .returned (.bool true) ∧ RowKit.Below u.heap.size u w') := by
    intro u a hBy
    have h := is_yes (gT ⟨#[97]⟩) (vT ⟨#[97]⟩) (some a) 4 u (lies_T _ _ (by decide)) (by decide +kernel) he (by rw [hkey]; exact hBy)
    rw [hkey] at h
    exact h
  have HKS : Hid (∀ g : GV, g.err = 0 → g.every GV.nOk = true → [40, 97, 0, 0] = g.key → g.same (gT ⟨#[97]⟩) = true) := fun g h1 h2 h3 => key_same h1 he h2 hok (by rw [← h3, hkey])
  have HNO : Hid (¬ ∀ g : GV, g.err = 0 → g.every GV.nOk = true → [40, 97, 0, 0] ≠ g.key) := fun h => h _ he hok hkey.symm
  clear he hkey hok
  go_enter Try.func12, Try.ntmps12
  go_wp2_with fail
  refine (HBK.out w).mono ?_
  rintro e w1 ⟨hb1, ⟨f, hf1, hf2, rfl, hfr⟩ | ⟨hno, _⟩⟩
  · have ha := (RowKit.Below.refl w.heap.size w).alloc (Nat.le_refl _) (.cells #[.int .u8 40, .int .u8 97, .int .u8 0, .int .u8 0] 5)
    have hbw := ha.trans (hb1.mono ha.size)
    have hsame := HKS.out f.g hf1 (nOk_lies hfr.lies) hf2
    obtain ⟨nm, kk, n2, s, la, ln, lc, fa, fn, fc, gg⟩ := f
    have hLg : Lies w1 gg (.agg #[.int .i64 kk, .int .i64 n2, .string s, .slice la ln lc, .slice fa fn fc]) := hfr.lies
    obtain ⟨W3, hW3⟩ : ∃ W3, W3 = w1.alloc (.cells #[.int .i64 kk, .int .i64 n2, .string s, .slice la ln lc, .slice fa fn fc] 25) := ⟨_, rfl⟩
    have hb3 : RowKit.Below w1.heap.size w1 W3 := by rw [hW3]; exact (RowKit.Below.refl _ _).alloc (Nat.le_refl _) _
    have hbox : Blk5 W3 w1.heap.size (.int .i64 kk) (.int .i64 n2) (.string s) (.slice la ln lc) (.slice fa fn fc) := by rw [hW3]; exact Blk5.new w1 _ _ _ _ _
    have HKK : Hid (∀ u : World, RowKit.Below W3.heap.size W3 u → u.cell? ⟨w1.heap.size, 0, none⟩ = some (.int .i64 kk) ∧ u.cell? ⟨w1.heap.size, 1, none⟩ = some (.int .i64 n2) ∧ u.cell? ⟨w1.heap.size, 2, none⟩ = some (.string s) ∧ u.cell? ⟨w1.heap.size, 3, none⟩ = some (.slice la ln lc) ∧ u.cell? ⟨w1.heap.size, 4, none⟩ = some (.slice fa fn fc)) := fun u hu => (hbox.below hu).cells
    have HSM : Hid (∀ u : World, RowKit.Below W3.heap.size W3 u → Calls Try.prog 25 #[.agg #[.int .i64 kk, .int .i64 n2, .string s, .slice la ln lc, .slice fa fn fc], .agg #[.int .i64 4, .int .i64 0, .string ⟨#[97]⟩, .slice none 0 0, .slice none 0 0]] u fun e w' => e = .returned (.bool true) ∧ RowKit.Below u.heap.size u w') := by
      intro u hu
      have h := Same_any gg (gT ⟨#[97]⟩) _ (vT ⟨#[97]⟩) u (hLg.below (hb3.trans (hu.mono hb3.size))) (lies_T u _ (by decide))
      rw [hsame] at h
      exact h
    have HB3 : Hid (RowKit.Below w.heap.size w W3) := hbw.trans (hb3.mono hbw.size)
    have hd3 : RowKit.Below W3.heap.size W3 (w1.alloc (.cells #[.int .i64 kk, .int .i64 n2, .string s, .slice la ln lc, .slice fa fn fc] 25)).drew := by rw [hW3]; exact (RowKit.Below.refl _ _).drew
    have hA : RowKit.Below W3.heap.size W3 ((w1.alloc (.cells #[.int .i64 kk, .int .i64 n2, .string s, .slice la ln lc, .slice fa fn fc] 25)).alloc (.cells #[.int .u8 40, .int .u8 97, .int .u8 0, .int .u8 0] 5)).drew := by rw [hW3]; exact ((RowKit.Below.refl _ _).alloc (Nat.le_refl _) _).drew
    have hBy0 : Byts ((w1.alloc (.cells #[.int .i64 kk, .int .i64 n2, .string s, .slice la ln lc, .slice fa fn fc] 25)).alloc (.cells #[.int .u8 40, .int .u8 97, .int .u8 0, .int .u8 0] 5)).drew (some ⟨w1.heap.size + 1, 0, none⟩) [40, 97, 0, 0] := by
      have h := HB4.out (w1.alloc (.cells #[.int .i64 kk, .int .i64 n2, .string s, .slice la ln lc, .slice fa fn fc] 25))
      simp only [World.alloc, Array.size_push] at h
      exact h
    have HBY := mkHid hBy0
    have hS := HKK.out _ hd3
    simp only [Fl.val]
    clear ha hbw hsame hLg hW3 hb3 hbox hb1 hf1 hf2 hfr hBy0
    go_wp2_with fail
    go_region_held3 (fun u => u.cell? ⟨w1.heap.size, 0, none⟩ = some (.int .i64 kk) ∧ u.cell? ⟨w1.heap.size, 1, none⟩ = some (.int .i64 n2) ∧ u.cell? ⟨w1.heap.size, 2, none⟩ = some (.string s) ∧ u.cell? ⟨w1.heap.size, 3, none⟩ = some (.slice la ln lc) ∧ u.cell? ⟨w1.heap.size, 4, none⟩ = some (.slice fa fn fc)) (first | with_reducible exact hS | with_reducible exact HKK.out _ (h4.alloc h4.size _) | with_reducible exact HKK.out _ hA) (first
      | (go_at_call 34; refine (HTT.out _).mono ?_; rintro e w4 ⟨rfl, b4⟩; have h4 : RowKit.Below W3.heap.size W3 w4 := (by first | with_reducible exact hd3.trans (b4.mono hd3.size) | with_reducible exact hA.trans (b4.mono hA.size) | with_reducible exact h5.trans (b4.mono h5.size)); have hS := HKK.out _ h4; have b4' := mkHid b4)
      | (go_at_call 13; refine (show Calls _ _ _ _ _ from by first | with_reducible exact HIS.out w4 | with_reducible exact HIS2.out _ _ (HBY.out.below b4'.out)).mono ?_; rintro e w5 ⟨rfl, b5⟩; have h5 : RowKit.Below W3.heap.size W3 w5 := (by first | with_reducible exact h4.trans (b5.mono h4.size) | with_reducible exact (h4.alloc h4.size _).trans (b5.mono (h4.alloc h4.size _).size)); have hS := HKK.out _ h5)
      | (go_at_call 25; refine (HSM.out _ (by assumption)).mono ?_; rintro e w6 ⟨rfl, b6⟩; have h6 : RowKit.Below W3.heap.size W3 w6 := h4.trans (b6.mono h4.size); have hS := HKK.out _ h6))
    all_goals
      go_wp2_with fail
      go_ret
      exact ⟨rfl, HB3.out.trans (h6.mono HB3.out.size)⟩
  · exact absurd hno HNO.out
end Go.Proofs.Yticbcoklpgfkhaa
