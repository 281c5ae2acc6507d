/- The walk of the statement PathApart. -/
import Derived.Test.YtjngbogbbglbnaaZPaHold
import Derived.Test.YtjngbogbbglbnaaK3
namespace Go.Proofs.Ytjngbogbbglbnaa
open Go.RowKit

theorem same_self {w : World} : ∀ {g : GV} {v : Value}, Lies w g v → g.same g = true := by
  intro g
  induction g with
  | nil => intro v h; exact False.elim h
  | mk k n s ln l fn nm f ihl ihf =>
    intro v h
    obtain ⟨la, lc, fa, fc, rfl, _, _, _, _, _, _, _, hl, hf⟩ := h
    simp only [GV.same, decide_true, Bool.true_and, Bool.and_eq_true, List.all_eq_true, List.mem_range]
    refine ⟨fun i hi => ?_, fun i hi => ?_⟩
    · obtain ⟨b, o, v', _, h1, _⟩ := hl i hi
      exact ihl i h1
    · obtain ⟨b, o, v', _, _, _, h1, _⟩ := hf i hi
      exact ihf i h1
/-- That some of the first j steps differ. -/
def apB (a b : List ByteArray) (j : Nat) : Bool := (List.range j).any fun i => !decide (a.getD i ⟨#[]⟩ = b.getD i ⟨#[]⟩)
theorem apB_succ (a b : List ByteArray) (j : Nat) : apB a b (j + 1) = (apB a b j || !decide (a.getD j ⟨#[]⟩ = b.getD j ⟨#[]⟩)) := by
  unfold apB
  rw [List.range_succ, List.any_append]
  simp
theorem parted_at : ∀ (a b : List ByteArray) (i : Nat), i < a.length → i < b.length → a.getD i ⟨#[]⟩ ≠ b.getD i ⟨#[]⟩ → parted a b
  | [], _, i, h, _, _ => absurd h (Nat.not_lt_zero _)
  | _ :: _, [], i, _, h, _ => absurd h (Nat.not_lt_zero _)
  | s :: a, t :: b, 0, _, _, h => Or.inl fun e => h (by simp [e])
  | s :: a, t :: b, i + 1, h1, h2, h => Or.inr (parted_at a b i (by simpa using h1) (by simpa using h2) (by simpa using h))
theorem apB_parted {a b : List ByteArray} {j : Nat} (h : apB a b j = true) (h1 : j ≤ a.length) (h2 : j ≤ b.length) : parted a b := by
  obtain ⟨i, hi, hd⟩ := List.any_eq_true.1 h
  have hi2 : i < j := by simpa using hi
  exact parted_at a b i (by omega) (by omega) (by simpa using hd)
theorem strs_at {w : World} {pa : Option Addr} {a : List ByteArray} (h : Strs w pa a) {i : Nat} (hi : i < a.length) : ∃ b o, pa = some ⟨b, o, none⟩ ∧ w.cell? ⟨b, o + i, none⟩ = some (.string (a.getD i ⟨#[]⟩)) := by
  obtain ⟨b, o, e, hc⟩ := h i hi
  refine ⟨b, o, e, ?_⟩
  rw [hc, List.getD_eq_getElem?_getD, List.getElem?_eq_getElem hi]
  rfl

set_option maxHeartbeats 4000000 in
set_option maxRecDepth 1000000 in
theorem apart_any (gv gx : GV) (p q : ByteArray) (v x : Value) (w : World) (hv : Lies w gv v) (hx : Lies w gx x) (hp : p.size ≤ 140737488355328) (hq : q.size ≤ 140737488355328) :
    Calls Try.prog 7 #[v, .string p, .string q, x] w fun e w' => e = .returned (.bool true) ∧ Below w.heap.size w w' := by
  obtain ⟨k, n, s, la, ln, lc, fa, fn, fc, rfl⟩ := hv.agg
  obtain ⟨k', n', s', la', ln', lc', fa', fn', fc', rfl⟩ := hx.agg
  have HP0 : Hid (∀ u, Below w.heap.size w u → Below w.heap.size w u) := hidI (fun _ h => h)
  have HP1 := hbox HP0 hv
  have hx1 : Lies (w.alloc (.cells #[.int .i64 k, .int .i64 n, .string s, .slice la ln lc, .slice fa fn fc] 25)) gx _ := hx.below ((Below.refl _ _).alloc (Nat.le_refl _) _)
  have HP2 := hbox HP1 hx1
  have hsz : (w.alloc (.cells #[.int .i64 k, .int .i64 n, .string s, .slice la ln lc, .slice fa fn fc] 25)).heap.size = w.heap.size + 1 := by simp
  rw [hsz] at HP2
  have HAW := hidI awake6_any
  have hsum : sumN (fun i => if i = 0 then gv else gx) 2 = gv.nodes + gx.nodes := by simp [sumN, List.range_succ]
  clear HP0 HP1 hv hx hx1 hsz
  go_enter Try.func7, Try.ntmps7
  try dsimp only [List.append]
  go_wp2_with fail
  refine (HAW.out _).mono ?_
  rintro e w1 ⟨rfl, b1⟩
  have HP3 := hgrow HP2 b1
  obtain ⟨⟨_, hBv⟩, hBx⟩ := HP3.out _ (Below.refl _ _)
  obtain ⟨c0, c1, c2, c3, c4⟩ := Blk5.cells hBv.1
  obtain ⟨d0, d1, d2, d3, d4⟩ := Blk5.cells hBx.1
  have a2 : Below w1.heap.size w1 (w1.alloc (.cells #[.int .i64 k, .int .i64 n, .string s, .slice la ln lc, .slice fa fn fc, .int .i64 k', .int .i64 n', .string s', .slice la' ln' lc', .slice fa' fn' fc'] 25)) := (Below.refl _ _).alloc (Nat.le_refl _) _
  have hV := vals_two (heap_alloc_new w1 (.cells #[.int .i64 k, .int .i64 n, .string s, .slice la ln lc, .slice fa fn fc, .int .i64 k', .int .i64 n', .string s', .slice la' ln' lc', .slice fa' fn' fc'] 25)) (hBv.2.below a2) (hBx.2.below a2)
  have HVA := hidI (Vast_any (some ⟨w1.heap.size, 0, none⟩) 2 2 _ _ (by unfold maxLen; omega) hV)
  rw [hsum] at HVA
  have HP4 := hgrow HP3 a2
  clear b1 hBv hBx a2 hV hsum HP2 HP3
  by_cases hbig : 5000 ≤ gv.nodes + gx.nodes
  · rw [decide_eq_true hbig] at HVA
    go_wp2_with fail
    refine HVA.out.mono ?_
    rintro e w3 ⟨rfl, b3⟩
    have HE := hidI ((hgrow HP4 b3).out _ (Below.refl _ _)).1.1
    clear b3
    go_wp2_with fail
    go_ret
    exact ⟨rfl, HE.out⟩
  rw [decide_eq_false hbig] at HVA
  have HNv : Hid (gv.nodes ≤ 5000) := hidI (by omega)
  have HNx : Hid (gx.nodes ≤ 5000) := hidI (by omega)
  clear hbig
  go_wp2_with fail
  refine HVA.out.mono ?_
  rintro e w3 ⟨rfl, b3⟩
  have HP5 := hgrow HP4 b3
  obtain ⟨⟨_, hBv⟩, hBx⟩ := HP5.out _ (Below.refl _ _)
  clear c0 c1 c2 c3 c4 d0 d1 d2 d3 d4
  obtain ⟨c0, c1, c2, c3, c4⟩ := Blk5.cells hBv.1
  obtain ⟨d0, d1, d2, d3, d4⟩ := Blk5.cells hBx.1
  have HSE := hidI (set_any gv gx p _ _ w3 hBv.2 hBx.2 (by have := HNv.out; omega) (by have := HNx.out; omega) hp)
  clear b3 hBv hBx HP4 HVA
  go_wp2_with fail
  refine HSE.out.mono ?_
  rintro e w4 ⟨hO, b4⟩
  have HP6 := hgrow HP5 b4
  clear b4 HP5 HSE c0 c1 c2 c3 c4 d0 d1 d2 d3 d4
  rcases hO with ⟨er, hR, her, he⟩ | ⟨y, vy, hR, rfl, hFr, hye⟩
  · obtain rfl : e = .returned (.tuple #[.agg #[.int .i64 0, .int .i64 0, .string ⟨#[]⟩, .slice none 0 0, .slice none 0 0], .int .i64 er]) := he
    have heb : (er != 0) = true := by rw [bne_iff_ne]; exact her
    have HR := hidI hR
    clear hR her
    go_wp2_with fail
    refine (zero6_any _).mono ?_
    rintro e w5 ⟨rfl, b5⟩
    have HE := hidI ((hgrow (hdrop (xs := #[.int .i64 0, .int .i64 0, .string ⟨#[]⟩, .slice none 0 0, .slice none 0 0]) HP6) b5).out _ (Below.refl _ _)).1.1
    clear b5
    go_wp2_with fail
    go_ret
    exact ⟨rfl, HE.out⟩
  have hLy := hFr.lies
  obtain ⟨ky, ny, sy, lay, lny, lcy, fay, fny, fcy, rfl⟩ := hLy.agg
  have HP7 := hbox HP6 hLy
  have HR := hidI hR
  clear hFr hLy hR hye HP6
  have HSP := hidI (fun W => Steps_any p W hp)
  have HSQ := hidI (fun W => Steps_any q W hq)
  have HY : Hid (y.nodes ≤ 16384) := by
    obtain ⟨l, h1, _, _, h2, _⟩ := set_in HR.out
    have h3 := put_nodes l gv 1 _ y h2
    rw [sumG_1] at h3
    have h4 := (steps_all h1).2.1
    have h5 := HNv.out
    have h6 := HNx.out
    show y.nodes ≤ 16384
    omega
  obtain ⟨a, ha⟩ : ∃ a, stepsR p.data.toList = some a := by
    obtain ⟨l, h1, _⟩ := set_in HR.out
    exact ⟨l, h1⟩
  have HA := hidI ha
  clear ha
  go_wp2_with fail
  refine (HSP.out _).mono ?_
  rintro e w5 ⟨hT, b5⟩
  obtain ⟨pa, pc, rfl, hpc, hpm, hSa⟩ : ∃ pa pc, e = .returned (.tuple #[.slice pa a.length pc, .int .i64 0]) ∧ a.length ≤ pc ∧ pc ≤ maxLen ∧ Strs w5 pa a := by
    rcases hT with ⟨h, _⟩ | ⟨l, pa, pc, h, h1, h2, h3, h4⟩
    · rw [HA.out] at h; cases h
    · rw [HA.out] at h
      injection h with h
      subst h
      exact ⟨pa, pc, h1, h2, h3, h4⟩
  have HP8 := hgrow HP7 b5
  have HSa := hidI hSa
  clear b5 hT hSa HP7
  go_wp2_with fail
  refine (HSQ.out _).mono ?_
  rintro e w6 ⟨hT, b6⟩
  have HP9 := hgrow HP8 b6
  have HSa6 := hidI (HSa.out.below b6)
  clear b6 HSa HP8
  rcases hT with ⟨hqn, rfl⟩ | ⟨b, qa, qc, hqb, rfl, hqc, hqm, hSb⟩
  · have HE := hidI ((HP9.out _ (Below.refl _ _)).1.1.1)
    go_wp2_with fail
    go_ret
    exact ⟨rfl, HE.out⟩
  have HSb := hidI hSb
  have HQ := hidI hqb
  clear hSb hqb
  obtain ⟨na, hna⟩ : ∃ na, na = a.length := ⟨_, rfl⟩
  obtain ⟨nb, hnb⟩ : ∃ nb, nb = b.length := ⟨_, rfl⟩
  rw [← hna, ← hnb]
  rw [← hna] at hpc
  rw [← hnb] at hqc
  have HNA := hidI hna
  have HNB := hidI hnb
  have hna8 : na ≤ 8 := by rw [hna]; exact (steps_all HA.out).2.1
  have hnb8 : nb ≤ 8 := by rw [hnb]; exact (steps_all HQ.out).2.1
  clear hna hnb
  go_wp2_with fail
  go_loopw [14, 15] (fun fv iv wr => ∃ (j : Nat) (z : Bool), iv = .int .i64 j ∧ fv = .bool z ∧ j ≤ na ∧ j ≤ nb ∧ Hid (apB a b j = z) ∧ Below w6.heap.size w6 wr) (fun _ iv _ => na - (intOf iv).toNat)
  case atStart => exact ⟨0, false, rfl, rfl, by omega, by omega, hidI rfl, Below.refl _ _⟩
  case round =>
    obtain ⟨j, z, rfl, rfl, hja, hjb, HZ, hb⟩ := hrel
    have HBR := hidI hb
    by_cases hgo : j < na ∧ j < nb
    · obtain ⟨hlta, hltb⟩ := hgo
      have hia : (j : Int) < (na : Int) := by omega
      have hib : (j : Int) < (nb : Int) := by omega
      obtain ⟨ba, oa, rfl, hca⟩ := strs_at HSa6.out (i := j) (by rw [← HNA.out]; exact hlta)
      obtain ⟨bb, ob, rfl, hcb⟩ := strs_at HSb.out (i := j) (by rw [← HNB.out]; exact hltb)
      have hca2 : wr.drew.cell? ⟨ba, oa + j, none⟩ = _ := below_keeps ((hb.trans ((Below.refl wr.heap.size wr).drew.mono hb.size))) _ _ _ hca
      have hcb2 : wr.drew.cell? ⟨bb, ob + j, none⟩ = _ := below_keeps ((hb.trans ((Below.refl wr.heap.size wr).drew.mono hb.size))) _ _ _ hcb
      obtain ⟨A, hA⟩ : ∃ A, A = a.getD j ⟨#[]⟩ := ⟨_, rfl⟩
      obtain ⟨B, hB⟩ : ∃ B, B = b.getD j ⟨#[]⟩ := ⟨_, rfl⟩
      rw [← hA] at hca2
      rw [← hB] at hcb2
      have HA2 := hidI hA
      have HB2 := hidI hB
      have hS := And.intro hca2 hcb2
      clear hA hB hca hcb hca2 hcb2 hb
      cases z with
      | true =>
        go_wp2_with fail
        refine wp_region_held_drew (S := fun _ => True) (by kernel_rfl) trivial (fun hHeld => ?_)
        refine wpAnyH_take (i := 0) (oi := ⟨some 67, .move (.tmp 14), 4, "law.go:149", #[], none⟩) (v := .bool true) rfl (by kernel_rfl) (by kernel_rfl) (by kernel_rfl) (fun _ _ _ h => h) (Or.inl ⟨by rfl, ?_⟩) hHeld ?_
        · intro wq hSq
          clear hSq hHeld
          go_simp
        (try simp only [Act.put, List.setIfInBounds_toArray, List.set_cons_zero, List.set_cons_succ])
        refine wpAnyH_take (i := 1) (oi := ⟨some 68, .move (.tmp 67), 4, "law.go:149", #[⟨0, .data⟩], none⟩) (v := .bool true) rfl (by kernel_rfl) (by kernel_rfl) (by kernel_rfl) (fun _ _ _ h => h) (Or.inl ⟨by rfl, ?_⟩) hHeld ?_
        · intro wq hSq
          clear hSq hHeld
          go_simp
        (try simp only [Act.put, List.setIfInBounds_toArray, List.set_cons_zero, List.set_cons_succ])
        refine wpAnyH_take (i := 2) (oi := ⟨some 69, .move (.tmp 11), 41, "law.go:149", #[⟨1, .guard⟩], some (1, false)⟩) (v := undef) rfl (by kernel_rfl) (by kernel_rfl) (by kernel_rfl) (fun _ _ _ h => h) (Or.inr ⟨by rfl, rfl⟩) hHeld ?_
        (try simp only [Act.put, List.setIfInBounds_toArray, List.set_cons_zero, List.set_cons_succ])
        refine wpAnyH_take (i := 3) (oi := ⟨some 70, .move (.tmp 15), 3, "law.go:149", #[⟨1, .guard⟩], some (1, false)⟩) (v := undef) rfl (by kernel_rfl) (by kernel_rfl) (by kernel_rfl) (fun _ _ _ h => h) (Or.inr ⟨by rfl, rfl⟩) hHeld ?_
        (try simp only [Act.put, List.setIfInBounds_toArray, List.set_cons_zero, List.set_cons_succ])
        refine wpAnyH_take (i := 4) (oi := ⟨some 71, .indexAddr 41 (.tmp 69) (.tmp 70), 0, "law.go:149", #[⟨2, .data⟩, ⟨3, .data⟩, ⟨1, .guard⟩], some (1, false)⟩) (v := undef) rfl (by kernel_rfl) (by kernel_rfl) (by kernel_rfl) (fun _ _ _ h => h) (Or.inr ⟨by rfl, rfl⟩) hHeld ?_
        (try simp only [Act.put, List.setIfInBounds_toArray, List.set_cons_zero, List.set_cons_succ])
        refine wpAnyH_take (i := 5) (oi := ⟨some 72, .load 9 (.tmp 71), 9, "law.go:149", #[⟨4, .data⟩, ⟨1, .guard⟩], some (1, false)⟩) (v := undef) rfl (by kernel_rfl) (by kernel_rfl) (by kernel_rfl) (fun _ _ _ h => h) (Or.inr ⟨by rfl, rfl⟩) hHeld ?_
        (try simp only [Act.put, List.setIfInBounds_toArray, List.set_cons_zero, List.set_cons_succ])
        refine wpAnyH_take (i := 6) (oi := ⟨some 73, .move (.tmp 12), 41, "law.go:149", #[⟨1, .guard⟩], some (1, false)⟩) (v := undef) rfl (by kernel_rfl) (by kernel_rfl) (by kernel_rfl) (fun _ _ _ h => h) (Or.inr ⟨by rfl, rfl⟩) hHeld ?_
        (try simp only [Act.put, List.setIfInBounds_toArray, List.set_cons_zero, List.set_cons_succ])
        refine wpAnyH_take (i := 7) (oi := ⟨some 74, .move (.tmp 15), 3, "law.go:149", #[⟨1, .guard⟩], some (1, false)⟩) (v := undef) rfl (by kernel_rfl) (by kernel_rfl) (by kernel_rfl) (fun _ _ _ h => h) (Or.inr ⟨by rfl, rfl⟩) hHeld ?_
        (try simp only [Act.put, List.setIfInBounds_toArray, List.set_cons_zero, List.set_cons_succ])
        refine wpAnyH_take (i := 8) (oi := ⟨some 75, .indexAddr 41 (.tmp 73) (.tmp 74), 0, "law.go:149", #[⟨6, .data⟩, ⟨7, .data⟩, ⟨1, .guard⟩], some (1, false)⟩) (v := undef) rfl (by kernel_rfl) (by kernel_rfl) (by kernel_rfl) (fun _ _ _ h => h) (Or.inr ⟨by rfl, rfl⟩) hHeld ?_
        (try simp only [Act.put, List.setIfInBounds_toArray, List.set_cons_zero, List.set_cons_succ])
        refine wpAnyH_take (i := 9) (oi := ⟨some 76, .load 9 (.tmp 75), 9, "law.go:149", #[⟨8, .data⟩, ⟨1, .guard⟩], some (1, false)⟩) (v := undef) rfl (by kernel_rfl) (by kernel_rfl) (by kernel_rfl) (fun _ _ _ h => h) (Or.inr ⟨by rfl, rfl⟩) hHeld ?_
        (try simp only [Act.put, List.setIfInBounds_toArray, List.set_cons_zero, List.set_cons_succ])
        refine wpAnyH_take (i := 10) (oi := ⟨some 77, .binOp .neq 9 (.tmp 72) (.tmp 76) 9, 4, "law.go:149", #[⟨5, .data⟩, ⟨9, .data⟩, ⟨1, .guard⟩], some (1, false)⟩) (v := undef) rfl (by kernel_rfl) (by kernel_rfl) (by kernel_rfl) (fun _ _ _ h => h) (Or.inr ⟨by rfl, rfl⟩) hHeld ?_
        (try simp only [Act.put, List.setIfInBounds_toArray, List.set_cons_zero, List.set_cons_succ])
        refine wpAnyH_take (i := 11) (oi := ⟨some 78, .pick (.tmp 68) (.const (.bool true)) (.tmp 77), 4, "law.go:149", #[⟨1, .data⟩, ⟨10, .data⟩], none⟩) (v := .bool true) rfl (by kernel_rfl) (by kernel_rfl) (by kernel_rfl) (fun _ _ _ h => h) (Or.inl ⟨by rfl, ?_⟩) hHeld ?_
        · intro wq hSq
          clear hSq hHeld
          go_simp
        (try simp only [Act.put, List.setIfInBounds_toArray, List.set_cons_zero, List.set_cons_succ])
        refine wpAnyH_take (i := 12) (oi := ⟨some 14, .assign (.tmp 78), 4, "law.go:149", #[⟨11, .data⟩, ⟨1, .chain⟩, ⟨0, .phase⟩, ⟨1, .phase⟩, ⟨2, .phase⟩, ⟨3, .phase⟩, ⟨4, .phase⟩, ⟨5, .phase⟩, ⟨6, .phase⟩, ⟨7, .phase⟩, ⟨8, .phase⟩, ⟨9, .phase⟩, ⟨10, .phase⟩, ⟨11, .phase⟩], none⟩) (v := .bool true) rfl (by kernel_rfl) (by kernel_rfl) (by kernel_rfl) (fun _ _ _ h => h) (Or.inl ⟨by rfl, ?_⟩) hHeld ?_
        · intro wq hSq
          clear hSq hHeld
          go_simp
        (try simp only [Act.put, List.setIfInBounds_toArray, List.set_cons_zero, List.set_cons_succ])
        refine wpAnyH_done (by kernel_rfl) ?_ _
        clear hHeld
        go_wp2_with fail
        go_roundw
        case rel => exact ⟨j + 1, true, by go_num, rfl, by omega, by omega, hidI (by rw [apB_succ, HZ.out]; rfl), HBR.out.drew⟩
        case measure => simp [intOf]; omega
      | false =>
        by_cases hAB : A = B
        · subst hAB
          have heq : (A.toList == A.toList) = true := by simp
          go_wp2_with fail
          go_region_held3 (fun u => u.cell? ⟨ba, oa + j, none⟩ = some (.string A) ∧ u.cell? ⟨bb, ob + j, none⟩ = some (.string A)) (with_reducible exact hS) (fail)
          go_wp2_with fail
          go_roundw
          case rel => exact ⟨j + 1, false, by go_num, rfl, by omega, by omega, hidI (by rw [apB_succ, HZ.out, ← HA2.out, ← HB2.out]; simp), HBR.out.drew⟩
          case measure => simp [intOf]; omega
        · have heq : (A.toList == B.toList) = false := by simpa using str_ne hAB
          go_wp2_with fail
          go_region_held3 (fun u => u.cell? ⟨ba, oa + j, none⟩ = some (.string A) ∧ u.cell? ⟨bb, ob + j, none⟩ = some (.string B)) (with_reducible exact hS) (fail)
          go_wp2_with fail
          go_roundw
          case rel => exact ⟨j + 1, true, by go_num, rfl, by omega, by omega, hidI (by rw [apB_succ, HZ.out, ← HA2.out, ← HB2.out]; simp [hAB]), HBR.out.drew⟩
          case measure => simp [intOf]; omega
    · have HZ2 : Hid (z = true → parted a b) := hidI (fun hz => apB_parted (by rw [HZ.out]; exact hz) (by rw [← HNA.out]; exact hja) (by rw [← HNB.out]; exact hjb))
      have HNY := HY
      cases z with
      | false =>
        have HE := hidI ((HP9.out _ hb).1.1.1)
        by_cases c1 : j < na
        · have hia : (j : Int) < (na : Int) := by omega
          have hib : ¬ (j : Int) < (nb : Int) := by omega
          clear hb
          go_wp2_with fail
          go_ret
          exact ⟨rfl, HE.out⟩
        · have hia : ¬ (j : Int) < (na : Int) := by omega
          clear hb
          go_wp2_with fail
          go_ret
          exact ⟨rfl, HE.out⟩
      | true =>
        have hgq := set_apart HR.out HA.out HQ.out (HZ2.out rfl)
        have hgo2 : ¬ (j < na ∧ j < nb) := hgo
        obtain ⟨⟨⟨_, hBv⟩, _⟩, hBy⟩ := HP9.out _ hb
        obtain ⟨c0, c1, c2, c3, c4⟩ := Blk5.cells hBv.1
        have HG1 := hidI (get_any gv q _ wr hBv.2 (by have := HNv.out; omega) hq)
        have HPR := hgrow HP9 hb
        have HG2 := hidI (fun u (hu : Below wr.heap.size wr u) => get_any y q _ u ((HPR.out u hu).2.2) HNY.out hq)
        rw [hgq] at HG2
        clear hb hBv hBy
        by_cases c1' : j < na
        · have hia : (j : Int) < (na : Int) := by omega
          have hib : ¬ (j : Int) < (nb : Int) := by omega
          go_wp2_with fail
          refine HG1.out.mono ?_
          rintro e w7 ⟨⟨v7, rfl, hF7⟩, b7⟩
          have hL7 := hF7.lies
          obtain ⟨k7, n7, s7, la7, ln7, lc7, fa7, fn7, fc7, rfl⟩ := hL7.agg
          have HP10 := hbox (hgrow HPR b7) hL7
          have HG4 := hdrop (xs := #[.int .i64 k7, .int .i64 n7, .string s7, .slice la7 ln7 lc7, .slice fa7 fn7 fc7]) (hgrow HG2 b7)
          have HC := hidI (HG4.out _ (Below.refl _ _))
          obtain ⟨d0, d1, d2, d3, d4⟩ := Blk5.cells ((HP10.out _ (Below.refl _ _)).1.2).1
          clear hF7 hL7 b7 HPR HG2 HG4 HG1 c0 c1 c2 c3 c4
          go_wp2_with fail
          refine HC.out.mono ?_
          rintro e w8 ⟨⟨v8, rfl, hF8⟩, b8⟩
          have hL8 := hF8.lies
          obtain ⟨k8, n8, s8, la8, ln8, lc8, fa8, fn8, fc8, rfl⟩ := hL8.agg
          have HP11 := hbox (hgrow HP10 b8) hL8
          obtain ⟨⟨_, hB7⟩, hB8⟩ := HP11.out _ (Below.refl _ _)
          obtain ⟨c0, c1, c2, c3, c4⟩ := Blk5.cells hB7.1
          obtain ⟨e0, e1, e2, e3, e4⟩ := Blk5.cells hB8.1
          have HSM := hidI (same6_any _ _ _ _ _ hB7.2 hB8.2)
          rw [same_self hB7.2] at HSM
          clear hF8 hL8 b8 HC d0 d1 d2 d3 d4 hB7 hB8 HP10
          obtain ⟨r, hr⟩ : ∃ r, (getR gv q).isSome = r := ⟨_, rfl⟩
          rw [hr]
          clear hr
          cases r
          all_goals
            go_wp2_with fail
            refine HSM.out.mono ?_
            rintro e w9 ⟨rfl, b9⟩
            have HE := hidI (((hgrow HP11 b9).out _ (Below.refl _ _)).1.1.1.1.1)
            clear b9
            go_wp2_with fail
            go_ret
            exact ⟨rfl, HE.out⟩
        · have hia : ¬ (j : Int) < (na : Int) := by omega
          go_wp2_with fail
          refine HG1.out.mono ?_
          rintro e w7 ⟨⟨v7, rfl, hF7⟩, b7⟩
          have hL7 := hF7.lies
          obtain ⟨k7, n7, s7, la7, ln7, lc7, fa7, fn7, fc7, rfl⟩ := hL7.agg
          have HP10 := hbox (hgrow HPR b7) hL7
          have HG4 := hdrop (xs := #[.int .i64 k7, .int .i64 n7, .string s7, .slice la7 ln7 lc7, .slice fa7 fn7 fc7]) (hgrow HG2 b7)
          have HC := hidI (HG4.out _ (Below.refl _ _))
          obtain ⟨d0, d1, d2, d3, d4⟩ := Blk5.cells ((HP10.out _ (Below.refl _ _)).1.2).1
          clear hF7 hL7 b7 HPR HG2 HG4 HG1 c0 c1 c2 c3 c4
          go_wp2_with fail
          refine HC.out.mono ?_
          rintro e w8 ⟨⟨v8, rfl, hF8⟩, b8⟩
          have hL8 := hF8.lies
          obtain ⟨k8, n8, s8, la8, ln8, lc8, fa8, fn8, fc8, rfl⟩ := hL8.agg
          have HP11 := hbox (hgrow HP10 b8) hL8
          obtain ⟨⟨_, hB7⟩, hB8⟩ := HP11.out _ (Below.refl _ _)
          obtain ⟨c0, c1, c2, c3, c4⟩ := Blk5.cells hB7.1
          obtain ⟨e0, e1, e2, e3, e4⟩ := Blk5.cells hB8.1
          have HSM := hidI (same6_any _ _ _ _ _ hB7.2 hB8.2)
          rw [same_self hB7.2] at HSM
          clear hF8 hL8 b8 HC d0 d1 d2 d3 d4 hB7 hB8 HP10
          obtain ⟨r, hr⟩ : ∃ r, (getR gv q).isSome = r := ⟨_, rfl⟩
          rw [hr]
          clear hr
          cases r
          all_goals
            go_wp2_with fail
            refine HSM.out.mono ?_
            rintro e w9 ⟨rfl, b9⟩
            have HE := hidI (((hgrow HP11 b9).out _ (Below.refl _ _)).1.1.1.1.1)
            clear b9
            go_wp2_with fail
            go_ret
            exact ⟨rfl, HE.out⟩
end Go.Proofs.Ytjngbogbbglbnaa
