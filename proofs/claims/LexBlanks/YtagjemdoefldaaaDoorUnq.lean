/- Contract of utf.Unquote, given what utf.unit answers at the rests of the text: it returns what the plain function below says; nothing that was there is changed. -/
import Derived.Test.YtagjemdoefldaaaDoorSmall
import Derived.Deep.Cut
namespace Go.Proofs.YtagjemdoefldaaaDoor
open Go.RowKit

theorem extract_size (t : ByteArray) (a : Nat) (_h : a ≤ t.size) : (t.extract a t.size).size = t.size - a := by
  simp [ByteArray.size_extract]
theorem extract_rest (s : ByteArray) (k n : Nat) (h : k + n ≤ s.size) : (s.extract k s.size).extract n (s.extract k s.size).size = s.extract (k + n) s.size := by
  rw [extract_size s k (by omega), ByteArray.extract_extract]
  congr 1
  omega

def endB (t : ByteArray) : Bool := (t.toList == [34])
def slashB (t : ByteArray) : Bool := Lib.hasPrefix t.data.toList [92]
def highB (t : ByteArray) : Bool := decide (128 ≤ (t.data.toList.getD 0 0).toNat)

theorem shortR_le (s : ByteArray) : 0 ≤ shortR s ∧ shortR s ≤ 255 := by
  unfold shortR
  split
  · have := UInt8.toNat_lt (([34, 92, 8, 12, 10, 13, 9, 47] : List UInt8).getD (shortIdx s).toNat 0)
    omega
  · omega

def unqFrom (uR : ByteArray → Int) (uOk : ByteArray → Bool) : Nat → ByteArray → List UInt8 → List UInt8 × Int
  | 0, _, _ => ([], 4)
  | f + 1, t, acc =>
    let t1 := t.extract (plainLen t) t.size
    let acc1 := acc ++ (t.extract 0 (plainLen t)).data.toList
    if endB t1 = true then (acc1, 0)
    else if slashB t1 = true then
      if uOk t1 = true then
        if uR t1 < 55296 ∨ 57343 < uR t1 then unqFrom uR uOk f (t1.extract 6 t1.size) (acc1 ++ Lib.encodeRune (uR t1))
        else if 56320 ≤ uR t1 ∨ uOk (t1.extract 6 t1.size) = false ∨ uR (t1.extract 6 t1.size) < 56320 ∨ 57343 < uR (t1.extract 6 t1.size) then ([], 11)
        else unqFrom uR uOk f ((t1.extract 6 t1.size).extract 6 (t1.extract 6 t1.size).size) (acc1 ++ Lib.encodeRune (65536 + (uR t1 - 55296) * 1024 + (uR (t1.extract 6 t1.size) - 56320)))
      else if shortOk t1 = true then unqFrom uR uOk f (t1.extract 2 t1.size) (acc1 ++ Lib.encodeRune (shortR t1))
      else ([], 4)
    else if highB t1 = true then ([], 11) else ([], 4)

set_option maxHeartbeats 4000000 in
set_option maxRecDepth 1000000 in
theorem unquote_in (uR : ByteArray → Int) (uOk : ByteArray → Bool) (s : ByteArray) (w : World) (hs : 4 * s.size + 16 ≤ 140737488355328) (hq : Lib.hasPrefix s.data.toList [34] = true) (h1 : 1 ≤ s.size)
    (hUr : ∀ t, 0 ≤ uR t ∧ uR t ≤ 65535) (hU6 : ∀ t, uOk t = true → 6 ≤ t.size)
    (hU : Hid (∀ (k : Nat) (t : ByteArray) (W : World), 1 ≤ k → k ≤ s.size → t = s.extract k s.size → slashB t = true → Below w.heap.size w W → Calls Tryd.prog 70 #[.string t] W fun e w' => e = .returned (.tuple #[.int .i32 (uR t), .bool (uOk t)]) ∧ Below W.heap.size W w'))
    (hU2 : Hid (∀ (k : Nat) (t : ByteArray) (W : World), 1 ≤ k → k ≤ s.size → t = s.extract k s.size → uOk t = true → Below w.heap.size w W → Calls Tryd.prog 70 #[.string (t.extract 6 t.size)] W fun e w' => e = .returned (.tuple #[.int .i32 (uR (t.extract 6 t.size)), .bool (uOk (t.extract 6 t.size))]) ∧ Below W.heap.size W w')) :
    Calls Tryd.prog 54 #[.string s] w fun e w' => e = .returned (.tuple #[.string ⟨(unqFrom uR uOk s.size (s.extract 1 s.size) []).1.toArray⟩, .int .i64 (unqFrom uR uOk s.size (s.extract 1 s.size) []).2]) ∧ Below w.heap.size w w' := by
  have hs0 : s.size ≤ maxLen := by unfold maxLen; omega
  have HUR : Hid (∀ t, 0 ≤ uR t ∧ uR t ≤ 65535) := hUr
  have HU6 : Hid (∀ t, uOk t = true → 6 ≤ t.size) := hU6
  clear hUr hU6
  generalize hRES : unqFrom uR uOk s.size (s.extract 1 s.size) [] = RES
  have HRES : Hid (unqFrom uR uOk s.size (s.extract 1 s.size) [] = RES) := hRES
  clear hRES
  go_enter Tryd.func54, Tryd.ntmps54
  go_wp2_with fail
  refine wp_scope_named (4 * s.size + 10) ?_
  intro J L hL hret hgo
  have key : ∀ (f n k : Nat) (rest : Code) (t : ByteArray) (acc : List UInt8) (W : World) (u5 u6 u7 u8 u9 u10 u11 u12 u13 u14 u15 u16 u17 u18 u19 u20 u21 u22 u23 u24 u25 u26 u27 u28 u29 u30 u31 u32 u33 u34 u35 u36 u37 u38 u39 u40 u41 u42 u43 u44 u45 u46 u47 u48 u49 u50 u51 u52 u53 u54 u55 u56 u57 u58 u59 u60 u61 u62 u63 u64 u65 u66 u67 u68 u69 u70 u71 u72 u73 u74 u75 u76 u77 u78 u79 u80 u81 u82 u83 u84 u85 u86 u87 u88 u89 u90 : Value), L 1 = some (Code.seq Code.skip rest) → t.size < f → 4 * f + 4 ≤ n → acc.length + 2 * t.size ≤ 2 * s.size → Lib.IsBuilderF 53 5 w.heap.size w.heap.size (Lib.byteCells acc) W → Below w.heap.size w W → w.heap.size < W.heap.size →
      1 ≤ k → k ≤ s.size → t = s.extract k s.size → unqFrom uR uOk f t acc = RES →
      Code.wp Tryd.prog rest (J n) { tmps := #[.string t, undef, .string ⟨#[]⟩, .int .i64 0, .pointer (some ⟨w.heap.size, 0, none⟩), u5, u6, u7, u8, u9, u10, u11, u12, u13, u14, u15, u16, u17, u18, u19, u20, u21, u22, u23, u24, u25, u26, u27, u28, u29, u30, u31, u32, u33, u34, u35, u36, u37, u38, u39, u40, u41, u42, u43, u44, u45, u46, u47, u48, u49, u50, u51, u52, u53, u54, u55, u56, u57, u58, u59, u60, u61, u62, u63, u64, u65, u66, u67, u68, u69, u70, u71, u72, u73, u74, u75, u76, u77, u78, u79, u80, u81, u82, u83, u84, u85, u86, u87, u88, u89, u90], defers := [] } W := by
    intro f
    induction f with
    | zero => intro n k rest t acc W u5 u6 u7 u8 u9 u10 u11 u12 u13 u14 u15 u16 u17 u18 u19 u20 u21 u22 u23 u24 u25 u26 u27 u28 u29 u30 u31 u32 u33 u34 u35 u36 u37 u38 u39 u40 u41 u42 u43 u44 u45 u46 u47 u48 u49 u50 u51 u52 u53 u54 u55 u56 u57 u58 u59 u60 u61 u62 u63 u64 u65 u66 u67 u68 u69 u70 u71 u72 u73 u74 u75 u76 u77 u78 u79 u80 u81 u82 u83 u84 u85 u86 u87 u88 u89 u90 hr hf; omega
    | succ f ih =>
      intro n k rest t acc W u5 u6 u7 u8 u9 u10 u11 u12 u13 u14 u15 u16 u17 u18 u19 u20 u21 u22 u23 u24 u25 u26 u27 u28 u29 u30 u31 u32 u33 u34 u35 u36 u37 u38 u39 u40 u41 u42 u43 u44 u45 u46 u47 u48 u49 u50 u51 u52 u53 u54 u55 u56 u57 u58 u59 u60 u61 u62 u63 u64 u65 u66 u67 u68 u69 u70 u71 u72 u73 u74 u75 u76 u77 u78 u79 u80 u81 u82 u83 u84 u85 u86 u87 u88 u89 u90 hr hf hn hal hI hB hz hk1 hks hkt hres
      have IH := ih
      have HR : Hid (L 1 = some (Code.seq Code.skip rest)) := hr
      have e1 := (hL.out 1).symm.trans hr
      cases (show some (Code.seq Code.skip _) = some (Code.seq Code.skip rest) from e1)
      clear e1 hr ih
      have HIH : Hid _ := IH
      clear IH
      have ht0 : t.size ≤ maxLen := by unfold maxLen; omega
      have htk1 : t.size + k ≤ s.size := by have := extract_size s k hks; rw [← hkt] at this; omega
      have htk2 : s.size ≤ t.size + k := by have := extract_size s k hks; rw [← hkt] at this; omega
      have HKT : Hid (t = s.extract k s.size) := hkt
      have Hres : Hid (unqFrom uR uOk (f + 1) t acc = RES) := hres
      clear hkt hres
      go_wp2_with fail
      refine (plain_any t _ ht0).mono ?_
      rintro e W1 ⟨rfl, b1⟩
      have hpl := plainLen_le t
      have hI1 := isBuilder_below hI b1
      have hB1 : Below w.heap.size w W1 := hB.trans (b1.mono (by omega))
      have hz1 : w.heap.size < W1.heap.size := Nat.lt_of_lt_of_le hz b1.size
      clear hI hB hz b1
      have hxs : (t.extract 0 (plainLen t)).size = plainLen t := by simp [ByteArray.size_extract]; omega
      have hxr1 : (t.extract (plainLen t) t.size).size + plainLen t ≤ t.size := by rw [extract_size t (plainLen t) hpl]; omega
      have HXR : Hid ((t.extract (plainLen t) t.size).size + plainLen t ≤ t.size) := hxr1
      clear hxr1
      have HX : Hid ((t.extract 0 (plainLen t)).size = plainLen t) := hxs
      clear hxs
      go_wp2_with fail
      refine (Tryd.Builder_WriteString_k w.heap.size w.heap.size _ _ _ hI1 (by rw [Lib.byteCells_length, HX.out]; omega) (by omega)).mono ?_
      rintro e W2 ⟨rfl, k1, k2, k3⟩
      have hI2 : Lib.IsBuilderF 53 5 w.heap.size w.heap.size (Lib.byteCells (acc ++ (t.extract 0 (plainLen t)).data.toList)) W2 := by
        rw [Lib.byteCells_append]; exact Or.inr k1
      have hB2 : Below w.heap.size w W2 := hB1.trans k2
      have hz2 : w.heap.size < W2.heap.size := Nat.lt_of_lt_of_le hz1 k2.size
      have hacc2 : (acc ++ (t.extract 0 (plainLen t)).data.toList).length ≤ acc.length + plainLen t := by
        rw [List.length_append, Array.length_toList]; exact Nat.le_of_eq (congrArg _ HX.out)
      have hres := Hres.out
      unfold unqFrom at hres
      simp only [] at hres
      have hst : t.extract (plainLen t) t.size = s.extract (k + plainLen t) s.size := by
        have := extract_rest s k (plainLen t) (by omega)
        rw [← HKT.out] at this
        exact this
      clear Hres HKT
      generalize acc ++ (t.extract 0 (plainLen t)).data.toList = acc2 at hI2 hacc2 hres
      clear k1 k2 k3 hI1 hB1 hz1
      generalize ht1 : t.extract (plainLen t) t.size = t1 at hres HXR hst
      have HT1 : Hid (t.extract (plainLen t) t.size = t1) := ht1
      have HST : Hid (t1 = s.extract (k + plainLen t) s.size) := hst
      have Hres : Hid (_ = RES) := hres
      clear ht1 hst hres
      have hxr := HXR.out
      clear HXR
      have ht1m : t1.size ≤ maxLen := by unfold maxLen at ht0 ⊢; omega
      go_upto_region 10 with fail
      rw [HT1.out]
      clear HT1
      cases hE : endB t1
      · have hE2 : (t1.toList == [34]) = false := hE
        cases hS : slashB t1
        · have hS2 : Lib.hasPrefix t1.data.toList [92] = false := hS
          go_wp2_with fail
          refine (Tryd.strings_HasPrefix _ _ _).mono ?_
          rintro e w1 ⟨rfl, rfl⟩
          obtain ⟨m, rfl⟩ : ∃ m, n = m + 1 := ⟨n - 1, by omega⟩
          by_cases h0 : t1.size = 0
          · have hl0 : t1.toList = [] := by rw [ByteArray.toList_eq]; exact List.eq_nil_of_length_eq_zero (by simpa using h0)
            have hR : ([], (4 : Int)) = RES := by
              have hH : highB t1 = false := by unfold highB; rw [← ByteArray.toList_eq, hl0]; rfl
              simpa [hE, hS, hH] using Hres.out
            have HRR : Hid (RES = ([], (4 : Int))) := hR.symm
            clear hR
            go_wp2_with fail
            go_step3
            refine hgo.out m 0 _ _ _ ((hL.out 0).trans rfl) ?_
            go_wp2_with fail
            refine hret.out _ _ _ ?_
            go_ret2
            refine ⟨?_, hB2⟩
            rw [HRR.out]
            rfl
          · have h00 : 0 < t1.size := by omega
            have hl0 : ¬ t1.toList = [] := by
              rw [ByteArray.toList_eq]; intro e
              have : t1.data.toList.length = 0 := by rw [e]; rfl
              exact h0 (by simpa using this)
            have hl1 : t1.toList.isEmpty = false := by simpa using hl0
            have hget : t1.data.toList.getD 0 0 = t1[0]'h00 := by
              rw [List.getD_eq_getElem?_getD, List.getElem?_eq_getElem (by simpa using h00)]
              rfl
            by_cases h128 : 128 ≤ (t1[0]'h00).toNat
            · have h128i : (128 : Int) ≤ ((t1[0]'h00).toNat : Int) := by omega
              have hR : ([], (11 : Int)) = RES := by
                have hH : highB t1 = true := by unfold highB; rw [hget]; simpa using h128
                simpa [hE, hS, hH] using Hres.out
              have HRR : Hid (RES = ([], (11 : Int))) := hR.symm
              clear hR hget
              go_wp2_with fail
              go_step3
              refine hgo.out m 3 _ _ _ ((hL.out 3).trans rfl) ?_
              go_wp2_with fail
              refine hret.out _ _ _ ?_
              go_ret2
              refine ⟨?_, hB2⟩
              rw [HRR.out]
              rfl
            · have h128i : ((t1[0]'h00).toNat : Int) < 128 := by omega
              have hR : ([], (4 : Int)) = RES := by
                have hH : highB t1 = false := by unfold highB; rw [hget]; simpa using h128
                simpa [hE, hS, hH] using Hres.out
              have HRR : Hid (RES = ([], (4 : Int))) := hR.symm
              clear hR hget
              go_wp2_with fail
              go_step3
              refine hgo.out m 0 _ _ _ ((hL.out 0).trans rfl) ?_
              go_wp2_with fail
              refine hret.out _ _ _ ?_
              go_ret2
              refine ⟨?_, hB2⟩
              rw [HRR.out]
              rfl
        · have hS2 : Lib.hasPrefix t1.data.toList [92] = true := hS
          go_wp2_with fail
          refine (Tryd.strings_HasPrefix _ _ _).mono ?_
          rintro e w1 ⟨rfl, rfl⟩
          go_wp2_with fail
          go_step3
          obtain ⟨m, rfl⟩ : ∃ m, n = m + 4 := ⟨n - 4, by omega⟩
          refine hgo.out (m + 3) 2 _ _ _ ((hL.out 2).trans rfl) ?_
          go_wp2_with fail
          refine (hU.out (k + plainLen t) t1 _ (by omega) (by omega) HST.out hS hB2).mono ?_
          rintro e W3 ⟨rfl, b3⟩
          have hI3 := isBuilder_below hI2 b3
          have hB3 : Below w.heap.size w W3 := hB2.trans (b3.mono (by omega))
          have hz3 : w.heap.size < W3.heap.size := Nat.lt_of_lt_of_le hz2 b3.size
          clear hI2 hB2 hz2 b3
          have hu0 := (HUR.out t1).1
          have hu1 := (HUR.out t1).2
          cases hO : uOk t1
          · cases hSh : shortOk t1
            · have hR : ([], (4 : Int)) = RES := by simpa [hE, hS, hO, hSh] using Hres.out
              have HRR : Hid (RES = ([], (4 : Int))) := hR.symm
              clear hR
              go_wp2_with fail
              refine (short_any t1 _ ht1m).mono ?_
              rintro e W4 ⟨rfl, rfl⟩
              go_wp2_with fail
              go_step3
              refine hgo.out (m + 2) 0 _ _ _ ((hL.out 0).trans rfl) ?_
              go_wp2_with fail
              refine hret.out _ _ _ ?_
              go_ret2
              refine ⟨?_, hB3⟩
              rw [HRR.out]
              rfl
            · have hR : unqFrom uR uOk f (t1.extract 2 t1.size) (acc2 ++ Lib.encodeRune (shortR t1)) = RES := by simpa [hE, hS, hO, hSh] using Hres.out
              have HRR : Hid (unqFrom uR uOk f (t1.extract 2 t1.size) (acc2 ++ Lib.encodeRune (shortR t1)) = RES) := hR
              clear hR
              have h2s : 2 ≤ t1.size := by
                have := hSh
                simp only [shortOk, Bool.and_eq_true, decide_eq_true_eq] at this
                exact this.1
              have hxx : Hid ((t1.extract 2 t1.size).size = t1.size - 2) := extract_size t1 2 h2s
              have hbnd := shortR_le t1
              go_wp2_with fail
              refine (short_any t1 _ ht1m).mono ?_
              rintro e W4 ⟨rfl, rfl⟩
              go_wp2_with fail
              go_step3
              refine hgo.out (m + 2) 5 _ _ _ ((hL.out 5).trans rfl) ?_
              go_wp2_with fail
              refine (Tryd.Builder_WriteRune_k w.heap.size w.heap.size _ (shortR t1) (by omega) (by omega) _ hI3 (by rw [Lib.byteCells_length]; omega) (by omega)).mono ?_
              rintro e W5 ⟨rfl, q1, q2, q3⟩
              have hI5 : Lib.IsBuilderF 53 5 w.heap.size w.heap.size (Lib.byteCells (acc2 ++ Lib.encodeRune (shortR t1))) W5 := by
                rw [Lib.byteCells_append, Lib.byteCells_encodeRune]; exact Or.inr q1
              have hl4 := Lib.runeCells_le (shortR t1)
              rw [Lib.runeCells_length] at hl4
              have hq2 := q2.size
              go_wp2_with fail
              go_step3
              refine hgo.out (m + 1) 1 _ _ _ ((hL.out 1).trans rfl) ?_
              refine wp_seq (wp_skip ?_)
              refine HIH.out (m + 1) (k + plainLen t + 2) _ _ _ _ _ _ _ _ _ _ _ _ _ _ _ _ _ _ _ _ _ _ _ _ _ _ _ _ _ _ _ _ _ _ _ _ _ _ _ _ _ _ _ _ _ _ _ _ _ _ _ _ _ _ _ _ _ _ _ _ _ _ _ _ _ _ _ _ _ _ _ _ _ _ _ _ _ _ _ _ _ _ _ _ _ _ _ _ _ _ HR.out ?_ ?_ ?_ hI5 (hB3.trans q2) ?_ ?_ ?_ ?_ HRR.out
              · rw [hxx.out]; omega
              · omega
              · rw [List.length_append, hxx.out]; omega
              · omega
              · omega
              · omega
              · rw [HST.out]
                exact extract_rest s (k + plainLen t) 2 (by have := HST.out; rw [this, extract_size s _ (by omega)] at h2s; omega)
          · have h6s := HU6.out t1 hO
            have hk6 : k + plainLen t + 6 ≤ s.size := by
              have h := h6s
              rw [HST.out, extract_size s _ (by omega)] at h
              omega
            have hres := Hres.out
            simp only [hE, hS, hO, Bool.false_eq_true, if_false, if_true] at hres
            have hxx0 : (t1.extract 6 t1.size).size + 6 ≤ t1.size := by rw [extract_size t1 6 h6s]; omega
            have HX2 : Hid ((t1.extract 6 t1.size).size + 6 ≤ t1.size) := hxx0
            have hst2 : t1.extract 6 t1.size = s.extract (k + plainLen t + 6) s.size := by
              rw [HST.out]
              exact extract_rest s (k + plainLen t) 6 hk6
            have hC := fun W hBW => hU2.out (k + plainLen t) t1 W (by omega) (by omega) HST.out hO hBW
            clear hxx0 Hres
            generalize ht2 : t1.extract 6 t1.size = t2 at hres HX2 hst2 hC
            have HT2 : Hid (t1.extract 6 t1.size = t2) := ht2
            have HST2 : Hid (t2 = s.extract (k + plainLen t + 6) s.size) := hst2
            have Hres : Hid (_ = RES) := hres
            have HC : Hid (∀ W, _ → _) := hC
            clear ht2 hst2 hres hC
            have hx2 := HX2.out
            clear HX2
            have ht2m : t2.size ≤ maxLen := by unfold maxLen at ht1m ⊢; omega
            go_wp2_with fail
            go_step3
            refine hgo.out (m + 2) 4 _ _ _ ((hL.out 4).trans rfl) ?_
            go_upto_region 20 with fail
            rw [HT2.out]
            by_cases hOut : uR t1 < 55296 ∨ 57343 < uR t1
            · have hR : unqFrom uR uOk f t2 (acc2 ++ Lib.encodeRune (uR t1)) = RES := by simpa only [if_pos hOut] using Hres.out
              have HRR : Hid (unqFrom uR uOk f t2 (acc2 ++ Lib.encodeRune (uR t1)) = RES) := hR
              clear hR Hres
              by_cases hlo : uR t1 < 55296
              all_goals
                go_wp2_with fail
                go_step3
                refine hgo.out (m + 1) 5 _ _ _ ((hL.out 5).trans rfl) ?_
                go_wp2_with fail
                refine (Tryd.Builder_WriteRune_k w.heap.size w.heap.size _ (uR t1) (by omega) (by omega) _ hI3 (by rw [Lib.byteCells_length]; omega) (by omega)).mono ?_
                rintro e W5 ⟨rfl, q1, q2, q3⟩
                have hI5 : Lib.IsBuilderF 53 5 w.heap.size w.heap.size (Lib.byteCells (acc2 ++ Lib.encodeRune (uR t1))) W5 := by
                  rw [Lib.byteCells_append, Lib.byteCells_encodeRune]; exact Or.inr q1
                have hl4 := Lib.runeCells_le (uR t1)
                rw [Lib.runeCells_length] at hl4
                have hq2 := q2.size
                go_wp2_with fail
                go_step3
                refine hgo.out m 1 _ _ _ ((hL.out 1).trans rfl) ?_
                refine wp_seq (wp_skip ?_)
                refine HIH.out m (k + plainLen t + 6) _ _ _ _ _ _ _ _ _ _ _ _ _ _ _ _ _ _ _ _ _ _ _ _ _ _ _ _ _ _ _ _ _ _ _ _ _ _ _ _ _ _ _ _ _ _ _ _ _ _ _ _ _ _ _ _ _ _ _ _ _ _ _ _ _ _ _ _ _ _ _ _ _ _ _ _ _ _ _ _ _ _ _ _ _ _ _ _ _ _ HR.out ?_ ?_ ?_ hI5 (hB3.trans q2) ?_ ?_ ?_ ?_ HRR.out
                · omega
                · omega
                · rw [List.length_append]; omega
                · omega
                · omega
                · omega
                · exact HST2.out
            · have hlo : 55296 ≤ uR t1 := by omega
              have hhi : uR t1 ≤ 57343 := by omega
              have hres := Hres.out
              simp only [if_neg hOut] at hres
              have HR2 : Hid (_ = RES) := hres
              clear hres Hres hOut
              have hv0 := (HUR.out t2).1
              have hv1 := (HUR.out t2).2
              go_wp2_with fail
              refine (HC.out _ hB3).mono ?_
              rintro e W4 ⟨rfl, b4⟩
              have hI4 := isBuilder_below hI3 b4
              have hB4 : Below w.heap.size w W4 := hB3.trans (b4.mono (by omega))
              have hz4 : w.heap.size < W4.heap.size := Nat.lt_of_lt_of_le hz3 b4.size
              clear hI3 hB3 hz3 b4
              by_cases hBad : 56320 ≤ uR t1 ∨ uOk t2 = false ∨ uR t2 < 56320 ∨ 57343 < uR t2
              · have hR : ([], (11 : Int)) = RES := by simpa only [if_pos hBad] using HR2.out
                have HRR : Hid (RES = ([], (11 : Int))) := hR.symm
                clear hR HR2
                have HBad : Hid (56320 ≤ uR t1 ∨ uOk t2 = false ∨ uR t2 < 56320 ∨ 57343 < uR t2) := hBad
                clear hBad
                cases hO2 : uOk t2
                · by_cases hge : 56320 ≤ uR t1
                  all_goals
                    go_wp2_with fail
                    go_step3
                    refine hgo.out (m + 1) 3 _ _ _ ((hL.out 3).trans rfl) ?_
                    go_wp2_with fail
                    refine hret.out _ _ _ ?_
                    go_ret2
                    refine ⟨?_, hB4⟩
                    rw [HRR.out]
                    rfl
                · have hb3 : 56320 ≤ uR t1 ∨ uR t2 < 56320 ∨ 57343 < uR t2 := by
                    rcases HBad.out with h | h | h | h
                    · exact Or.inl h
                    · rw [hO2] at h; cases h
                    · exact Or.inr (Or.inl h)
                    · exact Or.inr (Or.inr h)
                  clear HBad
                  rcases hb3 with h | h | h
                  · go_wp2_with fail
                    go_step3
                    refine hgo.out (m + 1) 3 _ _ _ ((hL.out 3).trans rfl) ?_
                    go_wp2_with fail
                    refine hret.out _ _ _ ?_
                    go_ret2
                    refine ⟨?_, hB4⟩
                    rw [HRR.out]
                    rfl
                  · by_cases hge : 56320 ≤ uR t1
                    all_goals
                      go_wp2_with fail
                      go_step3
                      refine hgo.out (m + 1) 3 _ _ _ ((hL.out 3).trans rfl) ?_
                      go_wp2_with fail
                      refine hret.out _ _ _ ?_
                      go_ret2
                      refine ⟨?_, hB4⟩
                      rw [HRR.out]
                      rfl
                  · have hnl : ¬ uR t2 < 56320 := by omega
                    by_cases hge : 56320 ≤ uR t1
                    all_goals
                      go_wp2_with fail
                      go_step3
                      refine hgo.out (m + 1) 3 _ _ _ ((hL.out 3).trans rfl) ?_
                      go_wp2_with fail
                      refine hret.out _ _ _ ?_
                      go_ret2
                      refine ⟨?_, hB4⟩
                      rw [HRR.out]
                      rfl
              · have hR : unqFrom uR uOk f (t2.extract 6 t2.size) (acc2 ++ Lib.encodeRune (65536 + (uR t1 - 55296) * 1024 + (uR t2 - 56320))) = RES := by simpa only [if_neg hBad] using HR2.out
                have HRR : Hid (unqFrom uR uOk f (t2.extract 6 t2.size) (acc2 ++ Lib.encodeRune (65536 + (uR t1 - 55296) * 1024 + (uR t2 - 56320))) = RES) := hR
                clear hR HR2
                have hO2 : uOk t2 = true := by
                  cases h : uOk t2
                  · exact absurd (Or.inr (Or.inl h)) hBad
                  · rfl
                have hge : uR t1 < 56320 := by omega
                have hl2 : 56320 ≤ uR t2 := by omega
                have hl3 : uR t2 ≤ 57343 := by omega
                clear hBad
                have h62 := HU6.out t2 hO2
                have hxx : Hid ((t2.extract 6 t2.size).size = t2.size - 6) := extract_size t2 6 h62
                go_wp2_with fail
                go_step3
                go_wp2_with fail
                refine (Tryd.Builder_WriteRune_k w.heap.size w.heap.size _ (65536 + (uR t1 - 55296) * 1024 + (uR t2 - 56320)) (by omega) (by omega) _ hI4 (by rw [Lib.byteCells_length]; omega) (by omega)).mono ?_
                rintro e W5 ⟨rfl, q1, q2, q3⟩
                have hI5 : Lib.IsBuilderF 53 5 w.heap.size w.heap.size (Lib.byteCells (acc2 ++ Lib.encodeRune (65536 + (uR t1 - 55296) * 1024 + (uR t2 - 56320)))) W5 := by
                  rw [Lib.byteCells_append, Lib.byteCells_encodeRune]; exact Or.inr q1
                have hl4 := Lib.runeCells_le (65536 + (uR t1 - 55296) * 1024 + (uR t2 - 56320))
                rw [Lib.runeCells_length] at hl4
                have hq2 := q2.size
                go_wp2_with fail
                go_step3
                refine hgo.out (m + 1) 1 _ _ _ ((hL.out 1).trans rfl) ?_
                refine wp_seq (wp_skip ?_)
                refine HIH.out (m + 1) (k + plainLen t + 6 + 6) _ _ _ _ _ _ _ _ _ _ _ _ _ _ _ _ _ _ _ _ _ _ _ _ _ _ _ _ _ _ _ _ _ _ _ _ _ _ _ _ _ _ _ _ _ _ _ _ _ _ _ _ _ _ _ _ _ _ _ _ _ _ _ _ _ _ _ _ _ _ _ _ _ _ _ _ _ _ _ _ _ _ _ _ _ _ _ _ _ _ HR.out ?_ ?_ ?_ hI5 (hB4.trans q2) ?_ ?_ ?_ ?_ HRR.out
                · rw [hxx.out]; omega
                · omega
                · rw [List.length_append, hxx.out]; omega
                · omega
                · omega
                · have h := h62
                  rw [HST2.out, extract_size s _ (by omega)] at h
                  omega
                · rw [HST2.out]
                  exact extract_rest s (k + plainLen t + 6) 6 (by have h := h62; rw [HST2.out, extract_size s _ (by omega)] at h; omega)
      · have hE2 : (t1.toList == [34]) = true := hE
        have hR : (acc2, (0 : Int)) = RES := by
          have := Hres.out
          simpa [hE] using this
        have HRR : Hid (RES = (acc2, (0 : Int))) := hR.symm
        clear hR
        go_wp2_with fail
        refine (Tryd.Builder_String_any_k w.heap.size w.heap.size _ _ hI2 (by omega)).mono ?_
        rintro e W3 ⟨rfl, n1, n2, n3⟩
        go_wp2_with fail
        refine hret.out _ _ _ ?_
        go_ret2
        refine ⟨?_, hB2.trans n2⟩
        rw [HRR.out]
        rfl
  have hx0 : Hid ((s.extract 1 s.size).size = s.size - 1) := extract_size s 1 h1
  have Hkey : Hid _ := key
  clear key
  go_wp2_with fail
  refine (Tryd.strings_HasPrefix _ _ _).mono ?_
  rintro e w1 ⟨rfl, rfl⟩
  go_wp2_with fail
  go_step3
  rename_i K0 a0
  refine a0 _ _ ?_
  refine Hkey.out s.size _ 1 _ _ [] _ _ _ _ _ _ _ _ _ _ _ _ _ _ _ _ _ _ _ _ _ _ _ _ _ _ _ _ _ _ _ _ _ _ _ _ _ _ _ _ _ _ _ _ _ _ _ _ _ _ _ _ _ _ _ _ _ _ _ _ _ _ _ _ _ _ _ _ _ _ _ _ _ _ _ _ _ _ _ _ _ _ _ _ _ _ _ ((hL.out 1).trans rfl) ?_ ?_ ?_ (Lib.IsBuilderF.of (Lib.fresh_isBuilder 53 5 _)) ((Below.refl _ _).alloc (Nat.le_refl _) _) ?_ (Nat.le_refl _) h1 rfl HRES.out
  · rw [hx0.out]; omega
  · omega
  · rw [hx0.out]; simp; omega
  · simp

set_option maxHeartbeats 4000000 in
set_option maxRecDepth 1000000 in
theorem unquote_form (s : ByteArray) (w : World) (hq : Lib.hasPrefix s.data.toList [34] = false) :
    Calls Tryd.prog 54 #[.string s] w fun e w' => e = .returned (.tuple #[.string ⟨#[]⟩, .int .i64 4]) ∧ Below w.heap.size w w' := by
  go_enter Tryd.func54, Tryd.ntmps54
  go_wp2_with fail
  refine wp_scope_abs 1 ?_
  intro J hret hnor hgo
  go_wp2_with fail
  refine (Tryd.strings_HasPrefix _ _ _).mono ?_
  rintro e w1 ⟨rfl, rfl⟩
  go_wp2_with fail
  go_step3
  refine hgo.out 0 0 _ _ _ rfl ?_
  go_wp2_with fail
  refine hret.out _ _ _ ?_
  go_ret2
  exact ⟨rfl, (Below.refl _ _).alloc (Nat.le_refl _) _⟩
end Go.Proofs.YtagjemdoefldaaaDoor
