/- The document's own Split (tidemarkref5): the values of a joint key. (Written by tools/mkrsplit.py.) -/
import Derived.Test.YticbcoklpgfkhaaUKyRBk2
import Derived.Test.YticbcoklpgfkhaaR4
import Derived.Test.YticbcoklpgfkhaaR6
namespace Go.Proofs.Yticbcoklpgfkhaa
open Go.RowKit

/-- What the document's own Split tells. -/
def RSplitSay (l : List UInt8) (n : Nat) (w : World) (e : Ending) (w' : World) : Prop :=
  RowKit.Below w.heap.size w w' ∧ ((∃ v fs, fs.length = n ∧ l = keysF fs ∧ Sp w w' v fs ∧ e = .returned (.tuple #[v, .bool true])) ∨ ((∀ gs, ¬ KeysAre gs n l) ∧ e = .returned (.tuple #[.slice none 0 0, .bool false])))
theorem same_key : ∀ a b : GV, a.same b = true → a.key = b.key := by
  intro a
  induction a with
  | nil => intro b h; simp [GV.same] at h
  | mk k n s ln l fn nm f ihl ihf =>
    intro b h
    cases b with
    | nil => simp [GV.same] at h
    | mk k1 n1 s1 ln1 l1 fn1 nm1 f1 =>
      simp [GV.same] at h
      obtain ⟨⟨⟨⟨⟨⟨h1, h2⟩, h3⟩, h4⟩, h5⟩, h6⟩, h7⟩ := h
      subst h1 h2 h3 h4 h5
      have e1 : (List.range ln).flatMap (fun i => 1 :: (l i).key) = (List.range ln).flatMap (fun i => 1 :: (l1 i).key) := by
        rw [List.flatMap_def, List.flatMap_def, List.map_congr_left fun i hi => by rw [ihl i _ (h6 i (by simpa using hi))]]
      have e2 : (List.range fn).flatMap (fun i => 1 :: (lettersK (nm i).data.toList ++ (f i).key)) = (List.range fn).flatMap (fun i => 1 :: (lettersK (nm1 i).data.toList ++ (f1 i).key)) := by
        rw [List.flatMap_def, List.flatMap_def, List.map_congr_left fun i hi => by rw [ihf i _ (h7 i (by simpa using hi)).2, (h7 i (by simpa using hi)).1]]
      simp only [GV.key, e1, e2]
theorem no_keys {l : List UInt8} {n j p : Nat} (h : NoKey l p 0) (hj : j < n) (hu : ∀ gs, KeysAre gs n l → l.drop p = (gs.drop j).flatMap GV.key) : ∀ gs, ¬ KeysAre gs n l := by
  intro gs hk
  have h1 := hu gs hk
  have hjg : j < gs.length := by rw [hk.1]; exact hj
  rw [List.drop_eq_getElem_cons hjg, List.flatMap_cons] at h1
  have hg := hk.2.1 gs[j] (List.getElem_mem hjg)
  exact h _ _ (fit_good hg.1 hg.2) h1
theorem is_keys {l : List UInt8} {n j p q : Nat} {g : GV} (h : IsKey l p 0 g q) (hj : j < n) (hu : ∀ gs, KeysAre gs n l → l.drop p = (gs.drop j).flatMap GV.key) : ∀ gs, KeysAre gs n l → g.err = 0 ∧ l.drop p = g.key ++ l.drop q ∧ l.drop q = (gs.drop (j + 1)).flatMap GV.key := by
  intro gs hk
  have h1 := hu gs hk
  have hjg : j < gs.length := by rw [hk.1]; exact hj
  rw [List.drop_eq_getElem_cons hjg, List.flatMap_cons] at h1
  have hg := hk.2.1 gs[j] (List.getElem_mem hjg)
  obtain ⟨h2, h3⟩ := h _ _ (fit_good hg.1 hg.2) h1
  refine ⟨by rw [same_err h2]; exact hg.1, ?_, h3⟩
  rw [same_key _ _ h2, h3]
  exact h1
theorem take_key {l : List UInt8} {p q : Nat} {k : List UInt8} (hpq : p ≤ q) (h : (l.drop p).take (q - p) = k) : l.drop p = k ++ l.drop q := by
  rw [← h, show l.drop q = (l.drop p).drop (q - p) by rw [List.drop_drop]; congr 1; omega, List.take_append_drop]
theorem key_take {l : List UInt8} {p q : Nat} {k : List UInt8} (hpq : p ≤ q) (hq : q ≤ l.length) (h : l.drop p = k ++ l.drop q) : (l.drop p).take (q - p) = k := by
  have hl := congrArg List.length h
  rw [List.length_append, List.length_drop, List.length_drop] at hl
  rw [h, show q - p = k.length by omega, List.take_left]
theorem text_beq {a b : List UInt8} : ((⟨a.toArray⟩ : ByteArray).toList == (⟨b.toArray⟩ : ByteArray).toList) = decide (a = b) := by
  rw [ByteArray.toList_eq, ByteArray.toList_eq]
  show (a.toArray.toList == b.toArray.toList) = _
  rw [Bool.eq_iff_iff]
  simp

set_option maxHeartbeats 8000000 in
set_option maxRecDepth 1000000 in
theorem rsplit_any (a0 : Option Addr) (c : Nat) (l : List UInt8) (n : Nat) (w : World) (hB : Byts w a0 l) (hlc : l.length ≤ c) (_hcm : c ≤ maxLen) (hn : (n : Int) ≤ 9223372036854775807) (hl : l.length ≤ 4194304) :
    Calls Try.prog 22 #[.slice a0 l.length c, .int .i64 n] w fun e w' => RSplitSay l n w e w' := by
  have hml : maxLen = 9223372036854775807 := rfl
  obtain ⟨i0, hi, hz0, hz1, hz2⟩ := info_parts infoVal
  have HB := mkHid hB
  obtain ⟨N, hN⟩ : ∃ N, N = l.length := ⟨_, rfl⟩
  have HN := mkHid hN
  rw [← hN] at hl hlc ⊢
  clear hB hN
  go_enter Try.func22, Try.ntmps22
  go_wp2_with fail
  go_loopw [6, 7, 8] (fun v at_ i wr => ∃ (j p : Nat) (fs : List Fl), i = .int .i64 j ∧ j ≤ n ∧ at_ = .int .i64 p ∧ p ≤ N ∧ fs.length = j ∧ l = keysF fs ++ l.drop p ∧ Sp w wr v fs ∧ (∀ gs, KeysAre gs n l → l.drop p = (gs.drop j).flatMap GV.key) ∧ j ≤ p) (fun _ _ i _ => n - (intOf i).toNat)
  case atStart =>
    refine ⟨0, 0, [], rfl, by omega, rfl, by omega, rfl, rfl, ⟨RowKit.Below.refl _ _, ⟨rfl, Or.inl ⟨rfl, rfl⟩⟩, fun f hf => absurd hf (by simp)⟩, ?_, Nat.le_refl _⟩
    rintro gs ⟨_, _, h⟩
    exact h
  case round =>
    obtain ⟨j, p, fs, rfl, hj, rfl, hp, hfs, hlk, hsp, huq, hjp⟩ := hrel
    have hown := hsp.own
    rw [hfs] at hown
    obtain ⟨va, vc, rfl, hvc, hvm⟩ := own_nil hown
    have HWN := mkHid hown
    have HFS := mkHid hfs
    have HBW := mkHid hsp.below
    by_cases hlt : j < n
    · have hlt2 : (j : Int) < (n : Int) := by omega
      have HSP := mkHid hsp
      have HUQ := mkHid huq
      have HLK := mkHid hlk
      have HBK : Hid (Calls Try.prog 41 #[.slice a0 N c, .int .i64 p, .int .i64 0] wr fun e w' => RBSay l p 0 wr e w') := by
        have h := rback_any a0 c l (by rw [← HN.out]; omega) 10 0 p wr (by omega) (HB.out.below hsp.below)
        rw [← HN.out] at h
        exact h
      clear hown hfs hsp huq hlk
      go_wp2_with fail
      refine HBK.out.mono ?_
      rintro e w5 ⟨b5, ⟨g, q, kk, nn, s, la, ln, lc, fa, fn, fc, rfl, hfr, hpq, hql, hms, hik⟩ | ⟨hno, q, kk, nn, s, la, ln, lc, fa, fn, fc, rfl⟩⟩
      · obtain ⟨W5, hW5⟩ : ∃ W5, W5 = w5.alloc (.cells #[.int .i64 kk, .int .i64 nn, .string s, .slice la ln lc, .slice fa fn fc] 25) := ⟨_, rfl⟩
        have a5 : RowKit.Below w5.heap.size w5 W5 := by rw [hW5]; exact (RowKit.Below.refl _ w5).alloc (Nat.le_refl _) _
        have p5 : Blk5 W5 w5.heap.size (.int .i64 kk) (.int .i64 nn) (.string s) (.slice la ln lc) (.slice fa fn fc) := by rw [hW5]; exact Blk5.new w5 _ _ _ _ _
        have HBR := mkHid (b5.trans (a5.mono b5.size))
        have HB5 := mkHid (HBW.out.trans (HBR.out.mono HBW.out.size))
        have HBX : Hid (∀ u, RowKit.Below W5.heap.size W5 u → u.cell? ⟨w5.heap.size, 0, none⟩ = some (.int .i64 kk) ∧ u.cell? ⟨w5.heap.size, 1, none⟩ = some (.int .i64 nn) ∧ u.cell? ⟨w5.heap.size, 2, none⟩ = some (.string s) ∧ u.cell? ⟨w5.heap.size, 3, none⟩ = some (.slice la ln lc) ∧ u.cell? ⟨w5.heap.size, 4, none⟩ = some (.slice fa fn fc)) := fun u hu => (p5.below hu).cells
        have hf5 : From wr.heap.size W5 g (.agg #[.int .i64 kk, .int .i64 nn, .string s, .slice la ln lc, .slice fa fn fc]) := hfr.below a5
        have hgm : g.mass ≤ 4194304 := by rw [← HN.out] at hql; omega
        have HGD : Hid (∀ u, RowKit.Below W5.heap.size W5 u → Calls Try.prog 21 #[.agg #[.int .i64 kk, .int .i64 nn, .string s, .slice la ln lc, .slice fa fn fc]] u fun e w' => e = .returned (.int .i64 g.err) ∧ RowKit.Below u.heap.size u w') := fun u hu => rgood_any g _ u (hf5.lies.below hu) hgm
        have HF5 := mkHid hf5
        have HIK := mkHid hik
        have HQL := mkHid hql
        have HW5 := mkHid hW5
        have hqN : q ≤ N := by rw [HN.out]; exact hql
        have hSd : RowKit.Below W5.heap.size W5 W5.drew := (RowKit.Below.refl _ _).drew
        obtain ⟨b, o, rfl⟩ : ∃ b o, a0 = some ⟨b, o, none⟩ := by
          obtain ⟨b, o, e, _⟩ := HB.out 0 (by rw [← HN.out]; omega)
          exact ⟨b, o, e⟩
        clear b5 a5 p5 hf5 hfr hik hql hW5 hgm
        by_cases he : g.err = 0
        · have HK0 : Hid (g.err = 0) := he
          obtain ⟨K, hK⟩ : ∃ K, K = g.key := ⟨_, rfl⟩
          have HK := mkHid hK
          have HOF : Hid (∀ u, RowKit.Below W5.heap.size W5 u → Calls Try.prog 23 #[.agg #[.int .i64 kk, .int .i64 nn, .string s, .slice la ln lc, .slice fa fn fc]] u fun e w' => BytesSay u g.key e w') := fun u hu => rof_any g _ u (HF5.out.lies.below hu) (err_zeroM he).1 (by have := key_most he; omega)
          obtain ⟨T, hT⟩ : ∃ T, T = (l.drop p).take (q - p) := ⟨_, rfl⟩
          have hTl : T.length = q - p := by rw [hT, List.length_take, List.length_drop, ← HN.out]; omega
          have HST : Hid (∀ u, RowKit.Below W5.heap.size W5 u → (convert 29 9 (.slice (some ⟨b, o + p, none⟩) (q - p) (c - p))).run Try.prog u = .ok (.string ⟨T.toArray⟩) u) := by
            intro u hu
            have h := byts_text (c := c - p) (((HB.out.below (HB5.out.trans (hu.mono HB5.out.size))).drop rfl p).take (q - p))
            rw [← hT, hTl] at h
            exact h
          have hpi : (0 : Int) ≤ (p : Int) ∧ (p : Int) ≤ (q : Int) ∧ (q : Int) ≤ (c : Int) := by omega
          obtain ⟨hpi1, hpi2, hpi3⟩ := hpi
          have hqc : q ≤ c := by omega
          have hpc : ¬ c = p := by omega
          have HTT := mkHid hT
          rw [he] at HGD
          clear he hK hT hTl
          by_cases hkt : K = T
          · have keq : ((⟨K.toArray⟩ : ByteArray).toList == (⟨T.toArray⟩ : ByteArray).toList) = true := by rw [text_beq]; exact decide_eq_true hkt
            have HKT := mkHid hkt
            have HPQ : Hid (p ≤ q) := by show _ ≤ _; omega
            have HDR : Hid (l.drop p = g.key ++ l.drop q) := take_key HPQ.out (by rw [← HTT.out, ← HKT.out, HK.out])
            have HLK2 : Hid (l = keysF (fs ++ [⟨⟨#[]⟩, kk, nn, s, la, ln, lc, fa, fn, fc, g⟩]) ++ l.drop q) := by
              show _ = _
              rw [keysF_snoc, List.append_assoc, ← HDR.out]
              exact HLK.out
            have HUQ2 : Hid (∀ gs, KeysAre gs n l → l.drop q = (gs.drop (j + 1)).flatMap GV.key) := fun gs hg => (is_keys HIK.out hlt HUQ.out gs hg).2.2
            have HMO : Hid (∀ (w7 w8 : World) (v8 : Value), RowKit.Below W5.heap.size W5 w7 → w8.ownsRow w.heap.size 25 5 v8 (j + 1) (valCells (fs.map Fl.val) ++ [.int .i64 kk, .int .i64 nn, .string s, .slice la ln lc, .slice fa fn fc]) → World.grownBy (w7.alloc (.cells #[.int .i64 kk, .int .i64 nn, .string s, .slice la ln lc, .slice fa fn fc] 25)) w8 (Value.slice va j vc).ownBlock → (v8.ownBlock = (Value.slice va j vc).ownBlock ∨ v8.ownBlock = some (w7.alloc (.cells #[.int .i64 kk, .int .i64 nn, .string s, .slice la ln lc, .slice fa fn fc] 25)).heap.size) → Sp w w8 v8 (fs ++ [⟨⟨#[]⟩, kk, nn, s, la, ln, lc, fa, fn, fc, g⟩])) := by
              intro w7 w8 v8 h7 ho hg hat
              have h57 := HBR.out.trans (h7.mono HBR.out.size)
              have hbb := h57.alloc h57.size (.cells #[.int .i64 kk, .int .i64 nn, .string s, .slice la ln lc, .slice fa fn fc] 25)
              refine HSP.out.more hbb ?_ HK0.out (by rw [HFS.out]; exact ho) hg hat
              refine (HF5.out.below h7).keep fun b' o' u _ hc => ?_
              exact below_keeps ((RowKit.Below.refl _ _).alloc (Nat.le_refl _) _) _ _ _ hc
            clear hkt
            go_wp2_with fail
            rw [← HW5.out]
            refine wp_region_held_drew (S := fun u => RowKit.Below W5.heap.size W5 u) (by kernel_rfl) hSd (fun hHeld => ?_)
            refine wpAnyH_take (i := 0) (oi := ⟨some 24, .move (.tmp 11), 4, "ref.go:131", #[], none⟩) (v := .bool true) rfl (by kernel_rfl) (by kernel_rfl) (by kernel_rfl) (fun _ _ _ h => h) (Or.inl ⟨by rfl, ?_⟩) hHeld ?_
            · intro wq hSq
              have s0 := hSq
              clear hSq hHeld
              go_simp
            (try simp only [Act.put, List.setIfInBounds_toArray, List.set_cons_zero, List.set_cons_succ])
            refine wpAnyH_take (i := 1) (oi := ⟨some 25, .unOp .not 4 (.tmp 24), 4, "ref.go:131", #[⟨0, .data⟩], none⟩) (v := .bool false) rfl (by kernel_rfl) (by kernel_rfl) (by kernel_rfl) (fun _ _ _ h => h) (Or.inl ⟨by rfl, ?_⟩) hHeld ?_
            · intro wq hSq
              have s0 := hSq
              clear hSq hHeld
              go_simp
            (try simp only [Act.put, List.setIfInBounds_toArray, List.set_cons_zero, List.set_cons_succ])
            refine wpAnyH_take (i := 2) (oi := ⟨some 26, .move (.tmp 25), 4, "ref.go:131", #[⟨1, .data⟩], none⟩) (v := .bool false) rfl (by kernel_rfl) (by kernel_rfl) (by kernel_rfl) (fun _ _ _ h => h) (Or.inl ⟨by rfl, ?_⟩) hHeld ?_
            · intro wq hSq
              have s0 := hSq
              clear hSq hHeld
              go_simp
            (try simp only [Act.put, List.setIfInBounds_toArray, List.set_cons_zero, List.set_cons_succ])
            refine wpAnyH_take (i := 3) (oi := ⟨some 27, .load 25 (.tmp 9), 25, "ref.go:131", #[⟨2, .guard⟩], some (2, false)⟩) (v := .agg #[.int .i64 kk, .int .i64 nn, .string s, .slice la ln lc, .slice fa fn fc]) rfl (by kernel_rfl) (by kernel_rfl) (by kernel_rfl) (fun _ _ _ h => h) (Or.inl ⟨by rfl, ?_⟩) hHeld ?_
            · intro wq hSq
              have s0 := hSq
              clear hSq hHeld
              obtain ⟨e0, e1, e2, e3, e4⟩ := HBX.out wq s0
              go_simp
            (try simp only [Act.put, List.setIfInBounds_toArray, List.set_cons_zero, List.set_cons_succ])
            refine wpAnyH_ready (rs := [4]) (by kernel_rfl) (by simp) ?_
            refine AllReadyH.cons (o := ⟨some 28, .call ⟨.value (.func 21), #[.tmp 27], #[25]⟩, 3, "ref.go:131", #[⟨3, .data⟩, ⟨2, .chain⟩, ⟨2, .guard⟩], some (2, false)⟩) rfl (fun Kr4 hKr4 => ?_) AllReadyH.nil
            go_simp
            go_at_call 21
            refine (HGD.out _ hSd).mono ?_
            rintro e w6 ⟨rfl, b6⟩
            have hS4 : RowKit.Below W5.heap.size W5 w6 := hSd.trans (b6.mono hSd.size)
            have hS6 := hS4
            clear hHeld b6
            go_wp2_with fail
            refine hKr4.out _ _ ?_ (fun hHeld => ?_)
            · exact hS4
            clear hKr4 Kr4 hS4
            (try simp only [Act.put, List.setIfInBounds_toArray, List.set_cons_zero, List.set_cons_succ])
            refine wpAnyH_take (i := 5) (oi := ⟨some 29, .binOp .neq 3 (.tmp 28) (.const (.int .i64 0)) 3, 4, "ref.go:131", #[⟨4, .data⟩, ⟨2, .guard⟩], some (2, false)⟩) (v := .bool false) rfl (by kernel_rfl) (by kernel_rfl) (by kernel_rfl) (fun _ _ _ h => h) (Or.inl ⟨by rfl, ?_⟩) hHeld ?_
            · intro wq hSq
              have s0 := hSq
              clear hSq hHeld
              go_simp
            (try simp only [Act.put, List.setIfInBounds_toArray, List.set_cons_zero, List.set_cons_succ])
            refine wpAnyH_take (i := 6) (oi := ⟨some 30, .pick (.tmp 26) (.const (.bool true)) (.tmp 29), 4, "ref.go:131", #[⟨2, .data⟩, ⟨5, .data⟩], none⟩) (v := .bool false) rfl (by kernel_rfl) (by kernel_rfl) (by kernel_rfl) (fun _ _ _ h => h) (Or.inl ⟨by rfl, ?_⟩) hHeld ?_
            · intro wq hSq
              have s0 := hSq
              clear hSq hHeld
              go_simp
            (try simp only [Act.put, List.setIfInBounds_toArray, List.set_cons_zero, List.set_cons_succ])
            refine wpAnyH_take (i := 7) (oi := ⟨some 31, .move (.tmp 30), 4, "ref.go:131", #[⟨6, .data⟩, ⟨4, .chain⟩], none⟩) (v := .bool false) rfl (by kernel_rfl) (by kernel_rfl) (by kernel_rfl) (fun _ _ _ h => h) (Or.inl ⟨by rfl, ?_⟩) hHeld ?_
            · intro wq hSq
              have s0 := hSq
              clear hSq hHeld
              go_simp
            (try simp only [Act.put, List.setIfInBounds_toArray, List.set_cons_zero, List.set_cons_succ])
            refine wpAnyH_take (i := 8) (oi := ⟨some 32, .load 25 (.tmp 9), 25, "ref.go:131", #[⟨7, .guard⟩], some (7, false)⟩) (v := .agg #[.int .i64 kk, .int .i64 nn, .string s, .slice la ln lc, .slice fa fn fc]) rfl (by kernel_rfl) (by kernel_rfl) (by kernel_rfl) (fun _ _ _ h => h) (Or.inl ⟨by rfl, ?_⟩) hHeld ?_
            · intro wq hSq
              have s0 := hSq
              clear hSq hHeld
              obtain ⟨e0, e1, e2, e3, e4⟩ := HBX.out wq s0
              go_simp
            (try simp only [Act.put, List.setIfInBounds_toArray, List.set_cons_zero, List.set_cons_succ])
            refine wpAnyH_take (i := 11) (oi := ⟨some 35, .move (.tmp 0), 29, "ref.go:131", #[⟨7, .guard⟩], some (7, false)⟩) (v := .slice (some ⟨b, o, none⟩) N c) rfl (by kernel_rfl) (by kernel_rfl) (by kernel_rfl) (fun _ _ _ h => h) (Or.inl ⟨by rfl, ?_⟩) hHeld ?_
            · intro wq hSq
              have s0 := hSq
              clear hSq hHeld
              go_simp
            (try simp only [Act.put, List.setIfInBounds_toArray, List.set_cons_zero, List.set_cons_succ])
            refine wpAnyH_take (i := 12) (oi := ⟨some 36, .move (.tmp 7), 3, "ref.go:131", #[⟨7, .guard⟩], some (7, false)⟩) (v := .int .i64 (p : Int)) rfl (by kernel_rfl) (by kernel_rfl) (by kernel_rfl) (fun _ _ _ h => h) (Or.inl ⟨by rfl, ?_⟩) hHeld ?_
            · intro wq hSq
              have s0 := hSq
              clear hSq hHeld
              go_simp
            (try simp only [Act.put, List.setIfInBounds_toArray, List.set_cons_zero, List.set_cons_succ])
            refine wpAnyH_take (i := 13) (oi := ⟨some 37, .move (.tmp 10), 3, "ref.go:131", #[⟨7, .guard⟩], some (7, false)⟩) (v := .int .i64 (q : Int)) rfl (by kernel_rfl) (by kernel_rfl) (by kernel_rfl) (fun _ _ _ h => h) (Or.inl ⟨by rfl, ?_⟩) hHeld ?_
            · intro wq hSq
              have s0 := hSq
              clear hSq hHeld
              go_simp
            (try simp only [Act.put, List.setIfInBounds_toArray, List.set_cons_zero, List.set_cons_succ])
            refine wpAnyH_take (i := 14) (oi := ⟨some 38, .slice 29 (.tmp 35) (some (.tmp 36)) (some (.tmp 37)) none, 29, "ref.go:131", #[⟨11, .data⟩, ⟨12, .data⟩, ⟨13, .data⟩, ⟨7, .guard⟩], some (7, false)⟩) (v := .slice (some ⟨b, o + p, none⟩) (q - p) (c - p)) rfl (by kernel_rfl) (by kernel_rfl) (by kernel_rfl) (fun _ _ _ h => h) (Or.inl ⟨by rfl, ?_⟩) hHeld ?_
            · intro wq hSq
              have s0 := hSq
              clear hSq hHeld
              go_simp
            (try simp only [Act.put, List.setIfInBounds_toArray, List.set_cons_zero, List.set_cons_succ])
            refine wpAnyH_take (i := 15) (oi := ⟨some 39, .convert 29 9 (.tmp 38), 9, "ref.go:131", #[⟨14, .data⟩, ⟨7, .guard⟩], some (7, false)⟩) (v := .string ⟨T.toArray⟩) rfl (by kernel_rfl) (by kernel_rfl) (by kernel_rfl) (fun _ _ _ h => h) (Or.inl ⟨by rfl, ?_⟩) hHeld ?_
            · intro wq hSq
              have s0 := hSq
              clear hSq hHeld
              have qs := HST.out wq s0
              go_simp
            (try simp only [Act.put, List.setIfInBounds_toArray, List.set_cons_zero, List.set_cons_succ])
            refine wpAnyH_ready (rs := [9]) (by kernel_rfl) (by simp) ?_
            refine AllReadyH.cons (o := ⟨some 33, .call ⟨.value (.func 23), #[.tmp 32], #[25]⟩, 29, "ref.go:131", #[⟨8, .data⟩, ⟨7, .chain⟩, ⟨7, .guard⟩], some (7, false)⟩) rfl (fun Kr9 hKr9 => ?_) AllReadyH.nil
            go_simp
            go_at_call 23
            refine (HOF.out _ hS6).mono ?_
            rintro e w7 ⟨v7, rfl, o7, b7⟩
            have hS9 : RowKit.Below W5.heap.size W5 w7 := hS6.trans (b7.mono hS6.size)
            have hS7 := hS9
            have st7 := own_string o7
            rw [← HK.out] at st7
            clear hHeld b7 o7
            go_wp2_with fail
            refine hKr9.out _ _ ?_ (fun hHeld => ?_)
            · exact hS9
            clear hKr9 Kr9 hS9
            (try simp only [Act.put, List.setIfInBounds_toArray, List.set_cons_zero, List.set_cons_succ])
            refine wpAnyH_ready (rs := [10]) (by kernel_rfl) (by simp) ?_
            refine AllReadyH.cons (o := ⟨some 34, .convert 29 9 (.tmp 33), 9, "ref.go:131", #[⟨9, .data⟩, ⟨7, .guard⟩], some (7, false)⟩) rfl (fun Kr10 hKr10 => ?_) AllReadyH.nil
            clear hHeld
            go_simp
            refine hKr10.out _ _ ?_ (fun hHeld => ?_)
            · exact hS7
            clear hKr10 Kr10 st7
            (try simp only [Act.put, List.setIfInBounds_toArray, List.set_cons_zero, List.set_cons_succ])
            refine wpAnyH_take (i := 16) (oi := ⟨some 40, .binOp .neq 9 (.tmp 34) (.tmp 39) 9, 4, "ref.go:131", #[⟨10, .data⟩, ⟨15, .data⟩, ⟨7, .guard⟩], some (7, false)⟩) (v := .bool false) rfl (by kernel_rfl) (by kernel_rfl) (by kernel_rfl) (fun _ _ _ h => h) (Or.inl ⟨by rfl, ?_⟩) hHeld ?_
            · intro wq hSq
              have s0 := hSq
              clear hSq hHeld
              have hkt := HKT.out
              go_simp
            (try simp only [Act.put, List.setIfInBounds_toArray, List.set_cons_zero, List.set_cons_succ])
            refine wpAnyH_take (i := 17) (oi := ⟨some 41, .pick (.tmp 31) (.const (.bool true)) (.tmp 40), 4, "ref.go:131", #[⟨7, .data⟩, ⟨16, .data⟩], none⟩) (v := .bool false) rfl (by kernel_rfl) (by kernel_rfl) (by kernel_rfl) (fun _ _ _ h => h) (Or.inl ⟨by rfl, ?_⟩) hHeld ?_
            · intro wq hSq
              have s0 := hSq
              clear hSq hHeld
              go_simp
            (try simp only [Act.put, List.setIfInBounds_toArray, List.set_cons_zero, List.set_cons_succ])
            refine wpAnyH_done (by kernel_rfl) ?_ _
            clear hHeld
            have hb7w := HB5.out.trans (hS7.mono HB5.out.size)
            have HOW : Hid (∀ O2 : Obj, (w7.alloc O2).ownsRow w.heap.size 25 5 (.slice va j vc) j (valCells (fs.map Fl.val))) := fun O2 => own_below HWN.out ((HBR.out.trans (hS7.mono HBR.out.size)).alloc (HBR.out.trans (hS7.mono HBR.out.size)).size O2)
            obtain ⟨e0, e1, e2, e3, e4⟩ := HBX.out w7 hS7
            have HOW2 := mkHid (HOW.out (.cells #[.int .i64 kk, .int .i64 nn, .string s, .slice la ln lc, .slice fa fn fc] 25))
            have HC7 : Hid (∀ k u, [Value.int .i64 kk, .int .i64 nn, .string s, .slice la ln lc, .slice fa fn fc][k]? = some u → (w7.alloc (.cells #[.int .i64 kk, .int .i64 nn, .string s, .slice la ln lc, .slice fa fn fc] 25)).cell? ((⟨w7.heap.size, 0, none⟩ : Addr).add k) = some u) := by
              intro k u hk
              have h := cell_of_row (w7.alloc (.cells #[.int .i64 kk, .int .i64 nn, .string s, .slice la ln lc, .slice fa fn fc] 25)) w7.heap.size k _ _ _ (heap_alloc_new w7 _)
              rw [show (⟨w7.heap.size, 0, none⟩ : Addr).add k = ⟨w7.heap.size, k, none⟩ by simp [Addr.add]; omega, h]
              simpa using hk
            have HS7 := mkHid hS7
            have hs7 := hS7.size
            have hws : w.heap.size ≤ wr.heap.size := HBW.out.size
            have hs57 : wr.heap.size ≤ W5.heap.size := HBR.out.size
            clear hS6 hS7 hb7w hSd
            go_wp2_with (at_builtin; refine wpList_append_own_at _ rfl _ _ 22 rfl w.heap.size 25 i0 _ 5 80 Try.underlying22 hi hz0 hz1 hz2 rfl (by decide) _ _ _ rfl HOW2.out ⟨w7.heap.size, 0, none⟩ 1 1 [.int .i64 kk, .int .i64 nn, .string s, .slice la ln lc, .slice fa fn fc] rfl rfl ?c1 ?c2 ?c3 ?c4 ?c5 ?_)
            case c1 => exact HC7.out
            case c2 => intro u hu; simp at hu; rcases hu with rfl | rfl | rfl | rfl | rfl <;> rfl
            case c3 => omega
            case c4 => omega
            case c5 => simp; omega
            intro v8 w8 o8 g8 _ at8
            have HSP8 := mkHid (HMO.out w7 w8 v8 HS7.out o8 g8 (by rcases at8 with e | e; exact Or.inl e; right; rw [e]; simp))
            clear o8 g8 at8 e0 e1 e2 e3 e4
            go_wp2_with fail
            go_roundw
            case rel => exact ⟨j + 1, q, fs ++ [⟨⟨#[]⟩, kk, nn, s, la, ln, lc, fa, fn, fc, g⟩], by go_num, by omega, rfl, by rw [HN.out]; exact HQL.out, by simp [HFS.out], HLK2.out, HSP8.out, HUQ2.out, by omega⟩
            case measure => simp [intOf]; omega
          · have keq : ((⟨K.toArray⟩ : ByteArray).toList == (⟨T.toArray⟩ : ByteArray).toList) = false := by rw [text_beq]; exact decide_eq_false hkt
            have HNO : Hid (∀ gs, ¬ KeysAre gs n l) := fun gs hg => hkt (by
              obtain ⟨_, h2, _⟩ := is_keys HIK.out hlt HUQ.out gs hg
              rw [HK.out, HTT.out]
              exact (key_take (by omega) HQL.out h2).symm)
            have HKT := mkHid hkt
            clear hkt
            go_wp2_with fail
            rw [← HW5.out]
            refine wp_region_held_drew (S := fun u => RowKit.Below W5.heap.size W5 u) (by kernel_rfl) hSd (fun hHeld => ?_)
            refine wpAnyH_take (i := 0) (oi := ⟨some 24, .move (.tmp 11), 4, "ref.go:131", #[], none⟩) (v := .bool true) rfl (by kernel_rfl) (by kernel_rfl) (by kernel_rfl) (fun _ _ _ h => h) (Or.inl ⟨by rfl, ?_⟩) hHeld ?_
            · intro wq hSq
              have s0 := hSq
              clear hSq hHeld
              go_simp
            (try simp only [Act.put, List.setIfInBounds_toArray, List.set_cons_zero, List.set_cons_succ])
            refine wpAnyH_take (i := 1) (oi := ⟨some 25, .unOp .not 4 (.tmp 24), 4, "ref.go:131", #[⟨0, .data⟩], none⟩) (v := .bool false) rfl (by kernel_rfl) (by kernel_rfl) (by kernel_rfl) (fun _ _ _ h => h) (Or.inl ⟨by rfl, ?_⟩) hHeld ?_
            · intro wq hSq
              have s0 := hSq
              clear hSq hHeld
              go_simp
            (try simp only [Act.put, List.setIfInBounds_toArray, List.set_cons_zero, List.set_cons_succ])
            refine wpAnyH_take (i := 2) (oi := ⟨some 26, .move (.tmp 25), 4, "ref.go:131", #[⟨1, .data⟩], none⟩) (v := .bool false) rfl (by kernel_rfl) (by kernel_rfl) (by kernel_rfl) (fun _ _ _ h => h) (Or.inl ⟨by rfl, ?_⟩) hHeld ?_
            · intro wq hSq
              have s0 := hSq
              clear hSq hHeld
              go_simp
            (try simp only [Act.put, List.setIfInBounds_toArray, List.set_cons_zero, List.set_cons_succ])
            refine wpAnyH_take (i := 3) (oi := ⟨some 27, .load 25 (.tmp 9), 25, "ref.go:131", #[⟨2, .guard⟩], some (2, false)⟩) (v := .agg #[.int .i64 kk, .int .i64 nn, .string s, .slice la ln lc, .slice fa fn fc]) rfl (by kernel_rfl) (by kernel_rfl) (by kernel_rfl) (fun _ _ _ h => h) (Or.inl ⟨by rfl, ?_⟩) hHeld ?_
            · intro wq hSq
              have s0 := hSq
              clear hSq hHeld
              obtain ⟨e0, e1, e2, e3, e4⟩ := HBX.out wq s0
              go_simp
            (try simp only [Act.put, List.setIfInBounds_toArray, List.set_cons_zero, List.set_cons_succ])
            refine wpAnyH_ready (rs := [4]) (by kernel_rfl) (by simp) ?_
            refine AllReadyH.cons (o := ⟨some 28, .call ⟨.value (.func 21), #[.tmp 27], #[25]⟩, 3, "ref.go:131", #[⟨3, .data⟩, ⟨2, .chain⟩, ⟨2, .guard⟩], some (2, false)⟩) rfl (fun Kr4 hKr4 => ?_) AllReadyH.nil
            go_simp
            go_at_call 21
            refine (HGD.out _ hSd).mono ?_
            rintro e w6 ⟨rfl, b6⟩
            have hS4 : RowKit.Below W5.heap.size W5 w6 := hSd.trans (b6.mono hSd.size)
            have hS6 := hS4
            clear hHeld b6
            go_wp2_with fail
            refine hKr4.out _ _ ?_ (fun hHeld => ?_)
            · exact hS4
            clear hKr4 Kr4 hS4
            (try simp only [Act.put, List.setIfInBounds_toArray, List.set_cons_zero, List.set_cons_succ])
            refine wpAnyH_take (i := 5) (oi := ⟨some 29, .binOp .neq 3 (.tmp 28) (.const (.int .i64 0)) 3, 4, "ref.go:131", #[⟨4, .data⟩, ⟨2, .guard⟩], some (2, false)⟩) (v := .bool false) rfl (by kernel_rfl) (by kernel_rfl) (by kernel_rfl) (fun _ _ _ h => h) (Or.inl ⟨by rfl, ?_⟩) hHeld ?_
            · intro wq hSq
              have s0 := hSq
              clear hSq hHeld
              go_simp
            (try simp only [Act.put, List.setIfInBounds_toArray, List.set_cons_zero, List.set_cons_succ])
            refine wpAnyH_take (i := 6) (oi := ⟨some 30, .pick (.tmp 26) (.const (.bool true)) (.tmp 29), 4, "ref.go:131", #[⟨2, .data⟩, ⟨5, .data⟩], none⟩) (v := .bool false) rfl (by kernel_rfl) (by kernel_rfl) (by kernel_rfl) (fun _ _ _ h => h) (Or.inl ⟨by rfl, ?_⟩) hHeld ?_
            · intro wq hSq
              have s0 := hSq
              clear hSq hHeld
              go_simp
            (try simp only [Act.put, List.setIfInBounds_toArray, List.set_cons_zero, List.set_cons_succ])
            refine wpAnyH_take (i := 7) (oi := ⟨some 31, .move (.tmp 30), 4, "ref.go:131", #[⟨6, .data⟩, ⟨4, .chain⟩], none⟩) (v := .bool false) rfl (by kernel_rfl) (by kernel_rfl) (by kernel_rfl) (fun _ _ _ h => h) (Or.inl ⟨by rfl, ?_⟩) hHeld ?_
            · intro wq hSq
              have s0 := hSq
              clear hSq hHeld
              go_simp
            (try simp only [Act.put, List.setIfInBounds_toArray, List.set_cons_zero, List.set_cons_succ])
            refine wpAnyH_take (i := 8) (oi := ⟨some 32, .load 25 (.tmp 9), 25, "ref.go:131", #[⟨7, .guard⟩], some (7, false)⟩) (v := .agg #[.int .i64 kk, .int .i64 nn, .string s, .slice la ln lc, .slice fa fn fc]) rfl (by kernel_rfl) (by kernel_rfl) (by kernel_rfl) (fun _ _ _ h => h) (Or.inl ⟨by rfl, ?_⟩) hHeld ?_
            · intro wq hSq
              have s0 := hSq
              clear hSq hHeld
              obtain ⟨e0, e1, e2, e3, e4⟩ := HBX.out wq s0
              go_simp
            (try simp only [Act.put, List.setIfInBounds_toArray, List.set_cons_zero, List.set_cons_succ])
            refine wpAnyH_take (i := 11) (oi := ⟨some 35, .move (.tmp 0), 29, "ref.go:131", #[⟨7, .guard⟩], some (7, false)⟩) (v := .slice (some ⟨b, o, none⟩) N c) rfl (by kernel_rfl) (by kernel_rfl) (by kernel_rfl) (fun _ _ _ h => h) (Or.inl ⟨by rfl, ?_⟩) hHeld ?_
            · intro wq hSq
              have s0 := hSq
              clear hSq hHeld
              go_simp
            (try simp only [Act.put, List.setIfInBounds_toArray, List.set_cons_zero, List.set_cons_succ])
            refine wpAnyH_take (i := 12) (oi := ⟨some 36, .move (.tmp 7), 3, "ref.go:131", #[⟨7, .guard⟩], some (7, false)⟩) (v := .int .i64 (p : Int)) rfl (by kernel_rfl) (by kernel_rfl) (by kernel_rfl) (fun _ _ _ h => h) (Or.inl ⟨by rfl, ?_⟩) hHeld ?_
            · intro wq hSq
              have s0 := hSq
              clear hSq hHeld
              go_simp
            (try simp only [Act.put, List.setIfInBounds_toArray, List.set_cons_zero, List.set_cons_succ])
            refine wpAnyH_take (i := 13) (oi := ⟨some 37, .move (.tmp 10), 3, "ref.go:131", #[⟨7, .guard⟩], some (7, false)⟩) (v := .int .i64 (q : Int)) rfl (by kernel_rfl) (by kernel_rfl) (by kernel_rfl) (fun _ _ _ h => h) (Or.inl ⟨by rfl, ?_⟩) hHeld ?_
            · intro wq hSq
              have s0 := hSq
              clear hSq hHeld
              go_simp
            (try simp only [Act.put, List.setIfInBounds_toArray, List.set_cons_zero, List.set_cons_succ])
            refine wpAnyH_take (i := 14) (oi := ⟨some 38, .slice 29 (.tmp 35) (some (.tmp 36)) (some (.tmp 37)) none, 29, "ref.go:131", #[⟨11, .data⟩, ⟨12, .data⟩, ⟨13, .data⟩, ⟨7, .guard⟩], some (7, false)⟩) (v := .slice (some ⟨b, o + p, none⟩) (q - p) (c - p)) rfl (by kernel_rfl) (by kernel_rfl) (by kernel_rfl) (fun _ _ _ h => h) (Or.inl ⟨by rfl, ?_⟩) hHeld ?_
            · intro wq hSq
              have s0 := hSq
              clear hSq hHeld
              go_simp
            (try simp only [Act.put, List.setIfInBounds_toArray, List.set_cons_zero, List.set_cons_succ])
            refine wpAnyH_take (i := 15) (oi := ⟨some 39, .convert 29 9 (.tmp 38), 9, "ref.go:131", #[⟨14, .data⟩, ⟨7, .guard⟩], some (7, false)⟩) (v := .string ⟨T.toArray⟩) rfl (by kernel_rfl) (by kernel_rfl) (by kernel_rfl) (fun _ _ _ h => h) (Or.inl ⟨by rfl, ?_⟩) hHeld ?_
            · intro wq hSq
              have s0 := hSq
              clear hSq hHeld
              have qs := HST.out wq s0
              go_simp
            (try simp only [Act.put, List.setIfInBounds_toArray, List.set_cons_zero, List.set_cons_succ])
            refine wpAnyH_ready (rs := [9]) (by kernel_rfl) (by simp) ?_
            refine AllReadyH.cons (o := ⟨some 33, .call ⟨.value (.func 23), #[.tmp 32], #[25]⟩, 29, "ref.go:131", #[⟨8, .data⟩, ⟨7, .chain⟩, ⟨7, .guard⟩], some (7, false)⟩) rfl (fun Kr9 hKr9 => ?_) AllReadyH.nil
            go_simp
            go_at_call 23
            refine (HOF.out _ hS6).mono ?_
            rintro e w7 ⟨v7, rfl, o7, b7⟩
            have hS9 : RowKit.Below W5.heap.size W5 w7 := hS6.trans (b7.mono hS6.size)
            have hS7 := hS9
            have st7 := own_string o7
            rw [← HK.out] at st7
            clear hHeld b7 o7
            go_wp2_with fail
            refine hKr9.out _ _ ?_ (fun hHeld => ?_)
            · exact hS9
            clear hKr9 Kr9 hS9
            (try simp only [Act.put, List.setIfInBounds_toArray, List.set_cons_zero, List.set_cons_succ])
            refine wpAnyH_ready (rs := [10]) (by kernel_rfl) (by simp) ?_
            refine AllReadyH.cons (o := ⟨some 34, .convert 29 9 (.tmp 33), 9, "ref.go:131", #[⟨9, .data⟩, ⟨7, .guard⟩], some (7, false)⟩) rfl (fun Kr10 hKr10 => ?_) AllReadyH.nil
            clear hHeld
            go_simp
            refine hKr10.out _ _ ?_ (fun hHeld => ?_)
            · exact hS7
            clear hKr10 Kr10 st7
            (try simp only [Act.put, List.setIfInBounds_toArray, List.set_cons_zero, List.set_cons_succ])
            refine wpAnyH_take (i := 16) (oi := ⟨some 40, .binOp .neq 9 (.tmp 34) (.tmp 39) 9, 4, "ref.go:131", #[⟨10, .data⟩, ⟨15, .data⟩, ⟨7, .guard⟩], some (7, false)⟩) (v := .bool true) rfl (by kernel_rfl) (by kernel_rfl) (by kernel_rfl) (fun _ _ _ h => h) (Or.inl ⟨by rfl, ?_⟩) hHeld ?_
            · intro wq hSq
              have s0 := hSq
              clear hSq hHeld
              have hkt := HKT.out
              go_simp
            (try simp only [Act.put, List.setIfInBounds_toArray, List.set_cons_zero, List.set_cons_succ])
            refine wpAnyH_take (i := 17) (oi := ⟨some 41, .pick (.tmp 31) (.const (.bool true)) (.tmp 40), 4, "ref.go:131", #[⟨7, .data⟩, ⟨16, .data⟩], none⟩) (v := .bool true) rfl (by kernel_rfl) (by kernel_rfl) (by kernel_rfl) (fun _ _ _ h => h) (Or.inl ⟨by rfl, ?_⟩) hHeld ?_
            · intro wq hSq
              have s0 := hSq
              clear hSq hHeld
              go_simp
            (try simp only [Act.put, List.setIfInBounds_toArray, List.set_cons_zero, List.set_cons_succ])
            refine wpAnyH_done (by kernel_rfl) ?_ _
            clear hHeld
            go_wp2_with fail
            go_ret2
            refine ⟨?_, Or.inr ⟨HNO.out, rfl⟩⟩
            exact HB5.out.trans (hS7.mono HB5.out.size)
        · have HNO : Hid (∀ gs, ¬ KeysAre gs n l) := fun gs hg => he (is_keys HIK.out hlt HUQ.out gs hg).1
          obtain ⟨er, her⟩ : ∃ er, er = g.err := ⟨_, rfl⟩
          rw [← her] at HGD he
          have heb : (er == 0) = false := by simpa using he
          have HER := mkHid he
          clear he her
          go_wp2_with fail
          rw [← HW5.out]
          refine wp_region_held_drew (S := fun u => RowKit.Below W5.heap.size W5 u) (by kernel_rfl) hSd (fun hHeld => ?_)
          refine wpAnyH_take (i := 0) (oi := ⟨some 24, .move (.tmp 11), 4, "ref.go:131", #[], none⟩) (v := .bool true) rfl (by kernel_rfl) (by kernel_rfl) (by kernel_rfl) (fun _ _ _ h => h) (Or.inl ⟨by rfl, ?_⟩) hHeld ?_
          · intro wq hSq
            have s0 := hSq
            clear hSq hHeld
            go_simp
          (try simp only [Act.put, List.setIfInBounds_toArray, List.set_cons_zero, List.set_cons_succ])
          refine wpAnyH_take (i := 1) (oi := ⟨some 25, .unOp .not 4 (.tmp 24), 4, "ref.go:131", #[⟨0, .data⟩], none⟩) (v := .bool false) rfl (by kernel_rfl) (by kernel_rfl) (by kernel_rfl) (fun _ _ _ h => h) (Or.inl ⟨by rfl, ?_⟩) hHeld ?_
          · intro wq hSq
            have s0 := hSq
            clear hSq hHeld
            go_simp
          (try simp only [Act.put, List.setIfInBounds_toArray, List.set_cons_zero, List.set_cons_succ])
          refine wpAnyH_take (i := 2) (oi := ⟨some 26, .move (.tmp 25), 4, "ref.go:131", #[⟨1, .data⟩], none⟩) (v := .bool false) rfl (by kernel_rfl) (by kernel_rfl) (by kernel_rfl) (fun _ _ _ h => h) (Or.inl ⟨by rfl, ?_⟩) hHeld ?_
          · intro wq hSq
            have s0 := hSq
            clear hSq hHeld
            go_simp
          (try simp only [Act.put, List.setIfInBounds_toArray, List.set_cons_zero, List.set_cons_succ])
          refine wpAnyH_take (i := 3) (oi := ⟨some 27, .load 25 (.tmp 9), 25, "ref.go:131", #[⟨2, .guard⟩], some (2, false)⟩) (v := .agg #[.int .i64 kk, .int .i64 nn, .string s, .slice la ln lc, .slice fa fn fc]) rfl (by kernel_rfl) (by kernel_rfl) (by kernel_rfl) (fun _ _ _ h => h) (Or.inl ⟨by rfl, ?_⟩) hHeld ?_
          · intro wq hSq
            have s0 := hSq
            clear hSq hHeld
            obtain ⟨e0, e1, e2, e3, e4⟩ := HBX.out wq s0
            go_simp
          (try simp only [Act.put, List.setIfInBounds_toArray, List.set_cons_zero, List.set_cons_succ])
          refine wpAnyH_ready (rs := [4]) (by kernel_rfl) (by simp) ?_
          refine AllReadyH.cons (o := ⟨some 28, .call ⟨.value (.func 21), #[.tmp 27], #[25]⟩, 3, "ref.go:131", #[⟨3, .data⟩, ⟨2, .chain⟩, ⟨2, .guard⟩], some (2, false)⟩) rfl (fun Kr4 hKr4 => ?_) AllReadyH.nil
          go_simp
          go_at_call 21
          refine (HGD.out _ hSd).mono ?_
          rintro e w6 ⟨rfl, b6⟩
          have hS4 : RowKit.Below W5.heap.size W5 w6 := hSd.trans (b6.mono hSd.size)
          have hS6 := hS4
          clear hHeld b6
          go_wp2_with fail
          refine hKr4.out _ _ ?_ (fun hHeld => ?_)
          · exact hS4
          clear hKr4 Kr4 hS4
          (try simp only [Act.put, List.setIfInBounds_toArray, List.set_cons_zero, List.set_cons_succ])
          refine wpAnyH_take (i := 5) (oi := ⟨some 29, .binOp .neq 3 (.tmp 28) (.const (.int .i64 0)) 3, 4, "ref.go:131", #[⟨4, .data⟩, ⟨2, .guard⟩], some (2, false)⟩) (v := .bool true) rfl (by kernel_rfl) (by kernel_rfl) (by kernel_rfl) (fun _ _ _ h => h) (Or.inl ⟨by rfl, ?_⟩) hHeld ?_
          · intro wq hSq
            have s0 := hSq
            clear hSq hHeld
            have her := HER.out
            go_simp
          (try simp only [Act.put, List.setIfInBounds_toArray, List.set_cons_zero, List.set_cons_succ])
          refine wpAnyH_take (i := 6) (oi := ⟨some 30, .pick (.tmp 26) (.const (.bool true)) (.tmp 29), 4, "ref.go:131", #[⟨2, .data⟩, ⟨5, .data⟩], none⟩) (v := .bool true) rfl (by kernel_rfl) (by kernel_rfl) (by kernel_rfl) (fun _ _ _ h => h) (Or.inl ⟨by rfl, ?_⟩) hHeld ?_
          · intro wq hSq
            have s0 := hSq
            clear hSq hHeld
            go_simp
          (try simp only [Act.put, List.setIfInBounds_toArray, List.set_cons_zero, List.set_cons_succ])
          refine wpAnyH_take (i := 7) (oi := ⟨some 31, .move (.tmp 30), 4, "ref.go:131", #[⟨6, .data⟩, ⟨4, .chain⟩], none⟩) (v := .bool true) rfl (by kernel_rfl) (by kernel_rfl) (by kernel_rfl) (fun _ _ _ h => h) (Or.inl ⟨by rfl, ?_⟩) hHeld ?_
          · intro wq hSq
            have s0 := hSq
            clear hSq hHeld
            go_simp
          (try simp only [Act.put, List.setIfInBounds_toArray, List.set_cons_zero, List.set_cons_succ])
          refine wpAnyH_take (i := 8) (oi := ⟨some 32, .load 25 (.tmp 9), 25, "ref.go:131", #[⟨7, .guard⟩], some (7, false)⟩) (v := undef) rfl (by kernel_rfl) (by kernel_rfl) (by kernel_rfl) (fun _ _ _ h => h) (Or.inr ⟨by rfl, rfl⟩) hHeld ?_
          (try simp only [Act.put, List.setIfInBounds_toArray, List.set_cons_zero, List.set_cons_succ])
          refine wpAnyH_take (i := 9) (oi := ⟨some 33, .call ⟨.value (.func 23), #[.tmp 32], #[25]⟩, 29, "ref.go:131", #[⟨8, .data⟩, ⟨7, .chain⟩, ⟨7, .guard⟩], some (7, false)⟩) (v := undef) rfl (by kernel_rfl) (by kernel_rfl) (by kernel_rfl) (fun _ _ _ h => h) (Or.inr ⟨by rfl, rfl⟩) hHeld ?_
          (try simp only [Act.put, List.setIfInBounds_toArray, List.set_cons_zero, List.set_cons_succ])
          refine wpAnyH_take (i := 10) (oi := ⟨some 34, .convert 29 9 (.tmp 33), 9, "ref.go:131", #[⟨9, .data⟩, ⟨7, .guard⟩], some (7, false)⟩) (v := undef) rfl (by kernel_rfl) (by kernel_rfl) (by kernel_rfl) (fun _ _ _ h => h) (Or.inr ⟨by rfl, rfl⟩) hHeld ?_
          (try simp only [Act.put, List.setIfInBounds_toArray, List.set_cons_zero, List.set_cons_succ])
          refine wpAnyH_take (i := 11) (oi := ⟨some 35, .move (.tmp 0), 29, "ref.go:131", #[⟨7, .guard⟩], some (7, false)⟩) (v := undef) rfl (by kernel_rfl) (by kernel_rfl) (by kernel_rfl) (fun _ _ _ h => h) (Or.inr ⟨by rfl, rfl⟩) hHeld ?_
          (try simp only [Act.put, List.setIfInBounds_toArray, List.set_cons_zero, List.set_cons_succ])
          refine wpAnyH_take (i := 12) (oi := ⟨some 36, .move (.tmp 7), 3, "ref.go:131", #[⟨7, .guard⟩], some (7, false)⟩) (v := undef) rfl (by kernel_rfl) (by kernel_rfl) (by kernel_rfl) (fun _ _ _ h => h) (Or.inr ⟨by rfl, rfl⟩) hHeld ?_
          (try simp only [Act.put, List.setIfInBounds_toArray, List.set_cons_zero, List.set_cons_succ])
          refine wpAnyH_take (i := 13) (oi := ⟨some 37, .move (.tmp 10), 3, "ref.go:131", #[⟨7, .guard⟩], some (7, false)⟩) (v := undef) rfl (by kernel_rfl) (by kernel_rfl) (by kernel_rfl) (fun _ _ _ h => h) (Or.inr ⟨by rfl, rfl⟩) hHeld ?_
          (try simp only [Act.put, List.setIfInBounds_toArray, List.set_cons_zero, List.set_cons_succ])
          refine wpAnyH_take (i := 14) (oi := ⟨some 38, .slice 29 (.tmp 35) (some (.tmp 36)) (some (.tmp 37)) none, 29, "ref.go:131", #[⟨11, .data⟩, ⟨12, .data⟩, ⟨13, .data⟩, ⟨7, .guard⟩], some (7, false)⟩) (v := undef) rfl (by kernel_rfl) (by kernel_rfl) (by kernel_rfl) (fun _ _ _ h => h) (Or.inr ⟨by rfl, rfl⟩) hHeld ?_
          (try simp only [Act.put, List.setIfInBounds_toArray, List.set_cons_zero, List.set_cons_succ])
          refine wpAnyH_take (i := 15) (oi := ⟨some 39, .convert 29 9 (.tmp 38), 9, "ref.go:131", #[⟨14, .data⟩, ⟨7, .guard⟩], some (7, false)⟩) (v := undef) rfl (by kernel_rfl) (by kernel_rfl) (by kernel_rfl) (fun _ _ _ h => h) (Or.inr ⟨by rfl, rfl⟩) hHeld ?_
          (try simp only [Act.put, List.setIfInBounds_toArray, List.set_cons_zero, List.set_cons_succ])
          refine wpAnyH_take (i := 16) (oi := ⟨some 40, .binOp .neq 9 (.tmp 34) (.tmp 39) 9, 4, "ref.go:131", #[⟨10, .data⟩, ⟨15, .data⟩, ⟨7, .guard⟩], some (7, false)⟩) (v := undef) rfl (by kernel_rfl) (by kernel_rfl) (by kernel_rfl) (fun _ _ _ h => h) (Or.inr ⟨by rfl, rfl⟩) hHeld ?_
          (try simp only [Act.put, List.setIfInBounds_toArray, List.set_cons_zero, List.set_cons_succ])
          refine wpAnyH_take (i := 17) (oi := ⟨some 41, .pick (.tmp 31) (.const (.bool true)) (.tmp 40), 4, "ref.go:131", #[⟨7, .data⟩, ⟨16, .data⟩], none⟩) (v := .bool true) rfl (by kernel_rfl) (by kernel_rfl) (by kernel_rfl) (fun _ _ _ h => h) (Or.inl ⟨by rfl, ?_⟩) hHeld ?_
          · intro wq hSq
            have s0 := hSq
            clear hSq hHeld
            go_simp
          (try simp only [Act.put, List.setIfInBounds_toArray, List.set_cons_zero, List.set_cons_succ])
          refine wpAnyH_done (by kernel_rfl) ?_ _
          clear hHeld
          go_wp2_with fail
          go_ret2
          refine ⟨?_, Or.inr ⟨HNO.out, rfl⟩⟩
          exact HB5.out.trans (hS6.mono HB5.out.size)
      · have HNO : Hid (∀ gs, ¬ KeysAre gs n l) := no_keys hno hlt HUQ.out
        obtain ⟨W5, hW5⟩ : ∃ W5, W5 = w5.alloc (.cells #[.int .i64 kk, .int .i64 nn, .string s, .slice la ln lc, .slice fa fn fc] 25) := ⟨_, rfl⟩
        have a5 : RowKit.Below w5.heap.size w5 W5 := by rw [hW5]; exact (RowKit.Below.refl _ w5).alloc (Nat.le_refl _) _
        have hbr := b5.trans (a5.mono b5.size)
        have HB5 := mkHid (HBW.out.trans (hbr.mono HBW.out.size))
        have HW5 := mkHid hW5
        have hSd : RowKit.Below W5.heap.size W5 W5.drew := (RowKit.Below.refl _ _).drew
        clear b5 a5 hbr hno hW5
        go_wp2_with fail
        rw [← HW5.out]
        refine wp_region_held_drew (S := fun u => RowKit.Below W5.heap.size W5 u) (by kernel_rfl) hSd (fun hHeld => ?_)
        refine wpAnyH_take (i := 0) (oi := ⟨some 24, .move (.tmp 11), 4, "ref.go:131", #[], none⟩) (v := .bool false) rfl (by kernel_rfl) (by kernel_rfl) (by kernel_rfl) (fun _ _ _ h => h) (Or.inl ⟨by rfl, ?_⟩) hHeld ?_
        · intro wq hSq
          have s0 := hSq
          clear hSq hHeld
          go_simp
        (try simp only [Act.put, List.setIfInBounds_toArray, List.set_cons_zero, List.set_cons_succ])
        refine wpAnyH_take (i := 1) (oi := ⟨some 25, .unOp .not 4 (.tmp 24), 4, "ref.go:131", #[⟨0, .data⟩], none⟩) (v := .bool true) rfl (by kernel_rfl) (by kernel_rfl) (by kernel_rfl) (fun _ _ _ h => h) (Or.inl ⟨by rfl, ?_⟩) hHeld ?_
        · intro wq hSq
          have s0 := hSq
          clear hSq hHeld
          go_simp
        (try simp only [Act.put, List.setIfInBounds_toArray, List.set_cons_zero, List.set_cons_succ])
        refine wpAnyH_take (i := 2) (oi := ⟨some 26, .move (.tmp 25), 4, "ref.go:131", #[⟨1, .data⟩], none⟩) (v := .bool true) rfl (by kernel_rfl) (by kernel_rfl) (by kernel_rfl) (fun _ _ _ h => h) (Or.inl ⟨by rfl, ?_⟩) hHeld ?_
        · intro wq hSq
          have s0 := hSq
          clear hSq hHeld
          go_simp
        (try simp only [Act.put, List.setIfInBounds_toArray, List.set_cons_zero, List.set_cons_succ])
        refine wpAnyH_take (i := 3) (oi := ⟨some 27, .load 25 (.tmp 9), 25, "ref.go:131", #[⟨2, .guard⟩], some (2, false)⟩) (v := undef) rfl (by kernel_rfl) (by kernel_rfl) (by kernel_rfl) (fun _ _ _ h => h) (Or.inr ⟨by rfl, rfl⟩) hHeld ?_
        (try simp only [Act.put, List.setIfInBounds_toArray, List.set_cons_zero, List.set_cons_succ])
        refine wpAnyH_take (i := 4) (oi := ⟨some 28, .call ⟨.value (.func 21), #[.tmp 27], #[25]⟩, 3, "ref.go:131", #[⟨3, .data⟩, ⟨2, .chain⟩, ⟨2, .guard⟩], some (2, false)⟩) (v := undef) rfl (by kernel_rfl) (by kernel_rfl) (by kernel_rfl) (fun _ _ _ h => h) (Or.inr ⟨by rfl, rfl⟩) hHeld ?_
        (try simp only [Act.put, List.setIfInBounds_toArray, List.set_cons_zero, List.set_cons_succ])
        refine wpAnyH_take (i := 5) (oi := ⟨some 29, .binOp .neq 3 (.tmp 28) (.const (.int .i64 0)) 3, 4, "ref.go:131", #[⟨4, .data⟩, ⟨2, .guard⟩], some (2, false)⟩) (v := undef) rfl (by kernel_rfl) (by kernel_rfl) (by kernel_rfl) (fun _ _ _ h => h) (Or.inr ⟨by rfl, rfl⟩) hHeld ?_
        (try simp only [Act.put, List.setIfInBounds_toArray, List.set_cons_zero, List.set_cons_succ])
        refine wpAnyH_take (i := 6) (oi := ⟨some 30, .pick (.tmp 26) (.const (.bool true)) (.tmp 29), 4, "ref.go:131", #[⟨2, .data⟩, ⟨5, .data⟩], none⟩) (v := .bool true) rfl (by kernel_rfl) (by kernel_rfl) (by kernel_rfl) (fun _ _ _ h => h) (Or.inl ⟨by rfl, ?_⟩) hHeld ?_
        · intro wq hSq
          have s0 := hSq
          clear hSq hHeld
          go_simp
        (try simp only [Act.put, List.setIfInBounds_toArray, List.set_cons_zero, List.set_cons_succ])
        refine wpAnyH_take (i := 7) (oi := ⟨some 31, .move (.tmp 30), 4, "ref.go:131", #[⟨6, .data⟩, ⟨4, .chain⟩], none⟩) (v := .bool true) rfl (by kernel_rfl) (by kernel_rfl) (by kernel_rfl) (fun _ _ _ h => h) (Or.inl ⟨by rfl, ?_⟩) hHeld ?_
        · intro wq hSq
          have s0 := hSq
          clear hSq hHeld
          go_simp
        (try simp only [Act.put, List.setIfInBounds_toArray, List.set_cons_zero, List.set_cons_succ])
        refine wpAnyH_take (i := 8) (oi := ⟨some 32, .load 25 (.tmp 9), 25, "ref.go:131", #[⟨7, .guard⟩], some (7, false)⟩) (v := undef) rfl (by kernel_rfl) (by kernel_rfl) (by kernel_rfl) (fun _ _ _ h => h) (Or.inr ⟨by rfl, rfl⟩) hHeld ?_
        (try simp only [Act.put, List.setIfInBounds_toArray, List.set_cons_zero, List.set_cons_succ])
        refine wpAnyH_take (i := 9) (oi := ⟨some 33, .call ⟨.value (.func 23), #[.tmp 32], #[25]⟩, 29, "ref.go:131", #[⟨8, .data⟩, ⟨7, .chain⟩, ⟨7, .guard⟩], some (7, false)⟩) (v := undef) rfl (by kernel_rfl) (by kernel_rfl) (by kernel_rfl) (fun _ _ _ h => h) (Or.inr ⟨by rfl, rfl⟩) hHeld ?_
        (try simp only [Act.put, List.setIfInBounds_toArray, List.set_cons_zero, List.set_cons_succ])
        refine wpAnyH_take (i := 10) (oi := ⟨some 34, .convert 29 9 (.tmp 33), 9, "ref.go:131", #[⟨9, .data⟩, ⟨7, .guard⟩], some (7, false)⟩) (v := undef) rfl (by kernel_rfl) (by kernel_rfl) (by kernel_rfl) (fun _ _ _ h => h) (Or.inr ⟨by rfl, rfl⟩) hHeld ?_
        (try simp only [Act.put, List.setIfInBounds_toArray, List.set_cons_zero, List.set_cons_succ])
        refine wpAnyH_take (i := 11) (oi := ⟨some 35, .move (.tmp 0), 29, "ref.go:131", #[⟨7, .guard⟩], some (7, false)⟩) (v := undef) rfl (by kernel_rfl) (by kernel_rfl) (by kernel_rfl) (fun _ _ _ h => h) (Or.inr ⟨by rfl, rfl⟩) hHeld ?_
        (try simp only [Act.put, List.setIfInBounds_toArray, List.set_cons_zero, List.set_cons_succ])
        refine wpAnyH_take (i := 12) (oi := ⟨some 36, .move (.tmp 7), 3, "ref.go:131", #[⟨7, .guard⟩], some (7, false)⟩) (v := undef) rfl (by kernel_rfl) (by kernel_rfl) (by kernel_rfl) (fun _ _ _ h => h) (Or.inr ⟨by rfl, rfl⟩) hHeld ?_
        (try simp only [Act.put, List.setIfInBounds_toArray, List.set_cons_zero, List.set_cons_succ])
        refine wpAnyH_take (i := 13) (oi := ⟨some 37, .move (.tmp 10), 3, "ref.go:131", #[⟨7, .guard⟩], some (7, false)⟩) (v := undef) rfl (by kernel_rfl) (by kernel_rfl) (by kernel_rfl) (fun _ _ _ h => h) (Or.inr ⟨by rfl, rfl⟩) hHeld ?_
        (try simp only [Act.put, List.setIfInBounds_toArray, List.set_cons_zero, List.set_cons_succ])
        refine wpAnyH_take (i := 14) (oi := ⟨some 38, .slice 29 (.tmp 35) (some (.tmp 36)) (some (.tmp 37)) none, 29, "ref.go:131", #[⟨11, .data⟩, ⟨12, .data⟩, ⟨13, .data⟩, ⟨7, .guard⟩], some (7, false)⟩) (v := undef) rfl (by kernel_rfl) (by kernel_rfl) (by kernel_rfl) (fun _ _ _ h => h) (Or.inr ⟨by rfl, rfl⟩) hHeld ?_
        (try simp only [Act.put, List.setIfInBounds_toArray, List.set_cons_zero, List.set_cons_succ])
        refine wpAnyH_take (i := 15) (oi := ⟨some 39, .convert 29 9 (.tmp 38), 9, "ref.go:131", #[⟨14, .data⟩, ⟨7, .guard⟩], some (7, false)⟩) (v := undef) rfl (by kernel_rfl) (by kernel_rfl) (by kernel_rfl) (fun _ _ _ h => h) (Or.inr ⟨by rfl, rfl⟩) hHeld ?_
        (try simp only [Act.put, List.setIfInBounds_toArray, List.set_cons_zero, List.set_cons_succ])
        refine wpAnyH_take (i := 16) (oi := ⟨some 40, .binOp .neq 9 (.tmp 34) (.tmp 39) 9, 4, "ref.go:131", #[⟨10, .data⟩, ⟨15, .data⟩, ⟨7, .guard⟩], some (7, false)⟩) (v := undef) rfl (by kernel_rfl) (by kernel_rfl) (by kernel_rfl) (fun _ _ _ h => h) (Or.inr ⟨by rfl, rfl⟩) hHeld ?_
        (try simp only [Act.put, List.setIfInBounds_toArray, List.set_cons_zero, List.set_cons_succ])
        refine wpAnyH_take (i := 17) (oi := ⟨some 41, .pick (.tmp 31) (.const (.bool true)) (.tmp 40), 4, "ref.go:131", #[⟨7, .data⟩, ⟨16, .data⟩], none⟩) (v := .bool true) rfl (by kernel_rfl) (by kernel_rfl) (by kernel_rfl) (fun _ _ _ h => h) (Or.inl ⟨by rfl, ?_⟩) hHeld ?_
        · intro wq hSq
          have s0 := hSq
          clear hSq hHeld
          go_simp
        (try simp only [Act.put, List.setIfInBounds_toArray, List.set_cons_zero, List.set_cons_succ])
        refine wpAnyH_done (by kernel_rfl) ?_ _
        clear hHeld
        go_wp2_with fail
        go_ret2
        refine ⟨?_, Or.inr ⟨HNO.out, rfl⟩⟩
        exact HB5.out.trans (hSd.mono HB5.out.size)
    · obtain rfl : j = n := by omega
      have hnn : ¬ (j : Int) < (j : Int) := by omega
      by_cases hpn : p = N
      · have HE : Hid (RSplitSay l j w (.returned (.tuple #[.slice va j vc, .bool true])) wr) := by
          refine ⟨hsp.below, Or.inl ⟨_, fs, hfs, ?_, hsp, rfl⟩⟩
          have h := hlk
          rw [List.drop_eq_nil_of_le (by rw [← HN.out]; omega), List.append_nil] at h
          exact h
        have hpi : ((p : Int) == (N : Int)) = true := by rw [hpn]; simp
        clear hsp huq hlk hfs hown
        subst hpn
        go_wp2_with fail
        go_ret2
        exact HE.out
      · have HE : Hid (RSplitSay l j w (.returned (.tuple #[.slice none 0 0, .bool false])) wr) := by
          refine ⟨hsp.below, Or.inr ⟨fun gs hg => ?_, rfl⟩⟩
          have h := huq gs hg
          have h3 : gs.drop j = [] := List.drop_eq_nil_of_le (by rw [hg.1]; omega)
          rw [h3] at h
          have h2 := congrArg List.length h
          rw [List.length_drop, ← HN.out] at h2
          simp at h2
          omega
        have hpi : ((p : Int) == (N : Int)) = false := by simp; omega
        clear hsp huq hlk hfs hown
        go_wp2_with fail
        go_ret2
        exact HE.out
end Go.Proofs.Yticbcoklpgfkhaa
