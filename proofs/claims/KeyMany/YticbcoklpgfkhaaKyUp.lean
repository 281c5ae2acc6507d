/- The reader of keys: a value of any bytes. (Written by mkkyup.py.) -/
import Derived.Test.YticbcoklpgfkhaaKySt
namespace Go.Proofs.Yticbcoklpgfkhaa
open Go.RowKit

/-- The value's box. -/
def BoxK (w w' : World) (k n : Int) (s : ByteArray) (la : Option Addr) (ln lc : Nat) (fa : Option Addr) (fn fc : Nat) : Prop := Blk5 w' w.heap.size (.int .i64 k) (.int .i64 n) (.string s) (.slice la ln lc) (.slice fa fn fc)
def BoxAny (w w' : World) : Prop := ∃ k n s la ln lc fa fn fc, BoxK w w' k n s la ln lc fa fn fc
/-- The slots that last. -/
structure FrmK (w : World) (R : Nat) (wv : Value) (t : Array Value) : Prop where
  size : t.size = 91
  s0 : t[0]? = some (.pointer (some ⟨R, 0, none⟩))
  s2 : t[2]? = some (.pointer (some ⟨w.heap.size, 0, none⟩))
  s4 : t[4]? = some wv
/-- What holds at each label. -/
def JK (w : World) (R B : Nat) (l0 : List UInt8) (lb k : Nat) (a' : Act) (w' : World) : Prop :=
  ∃ (t : Array Value) (wv : Value) (st : List Opn) (l : List UInt8), a' = { tmps := t, defers := [] } ∧ FrmK w R wv t ∧ KSt w R B w' l wv st ∧ (lb ≠ 6 → l.length + st.length ≤ l0.length) ∧
    ((lb = 0 ∧ k = l.length * 10 + 1 ∧ CntK l0.length l.length 0 st ∧ BoxAny w w' ∧ Leads (.kind [] l0) (.kind (st.map Opn.fr) l)) ∨
     (lb = 1 ∧ k = l.length * 10 + 5 ∧ CntK l0.length l.length 1 st ∧ (∃ kk n s la ln lc fa fn fc g, BoxK w w' kk n s la ln lc fa fn fc ∧ Off (hid (w.heap.size + 1) wv st) w' g (.agg #[.int .i64 kk, .int .i64 n, .string s, .slice la ln lc, .slice fa fn fc]) ∧ Leads (.kind [] l0) (.whole g (st.map Opn.fr) l))) ∨
     (lb = 2 ∧ k = l.length * 10 + 9 ∧ CntK l0.length l.length 1 st ∧ BoxK w w' 2 0 ⟨#[]⟩ none 0 0 none 0 0 ∧ Leads (.kind [] l0) (.kind (st.map Opn.fr) (20 :: l))) ∨
     (lb = 3 ∧ k = l.length * 10 + 9 ∧ CntK l0.length l.length 1 st ∧ BoxK w w' 3 0 ⟨#[]⟩ none 0 0 none 0 0 ∧ Leads (.kind [] l0) (.kind (st.map Opn.fr) (30 :: l))) ∨
     (lb = 4 ∧ k = l.length * 10 + 9 ∧ CntK l0.length l.length 1 st ∧ BoxK w w' 4 0 ⟨#[]⟩ none 0 0 none 0 0 ∧ Leads (.kind [] l0) (.kind (st.map Opn.fr) (40 :: l))) ∨
     (lb = 5 ∧ k = l.length * 10 + 9 ∧ CntK l0.length l.length 1 st ∧ l.length + st.length + 1 ≤ l0.length ∧ (∃ doc : Bool, BoxK w w' (if doc = true then 6 else 5) 0 ⟨#[]⟩ none 0 0 none 0 0 ∧ Leads (.kind [] l0) (.next (⟨doc, [], []⟩ :: st.map Opn.fr) l))) ∨
     (lb = 6 ∧ k = 0 ∧ BoxAny w w' ∧ Leads (.kind [] l0) (.done none)) ∨
     (lb = 7 ∧ k = l.length * 10 + 4 ∧ BoxAny w w' ∧ ∃ x rest, st = x :: rest ∧ CntK l0.length l.length 0 [x] ∧ CntK l0.length l.length 1 rest ∧ Leads (.kind [] l0) (.next (st.map Opn.fr) l)))
/-- What the reader tells of a value. -/
def KvSay (w : World) (R B : Nat) (l0 : List UInt8) (e : Ending) (w' : World) : Prop :=
  OnlyAt R w w' ∧ ∃ r, Leads (.kind [] l0) (.done r) ∧ match r with
    | none => e = .returned (.tuple #[.agg #[.int .i64 0, .int .i64 0, .string ⟨#[]⟩, .slice none 0 0, .slice none 0 0], .bool false])
    | some q => ∃ kk n s la ln lc fa fn fc, e = .returned (.tuple #[.agg #[.int .i64 kk, .int .i64 n, .string s, .slice la ln lc, .slice fa fn fc], .bool true]) ∧ Rk w' R B q.2 ∧ From w.heap.size w' q.1 (.agg #[.int .i64 kk, .int .i64 n, .string s, .slice la ln lc, .slice fa fn fc])

set_option maxHeartbeats 40000000 in
set_option maxRecDepth 1000000 in
theorem kvalue_any (R B : Nat) (l0 : List UInt8) (w : World) (h : Rk w R B l0) (hB : B ≤ w.heap.size) (hl : l0.length ≤ 1000000) :
    Calls Try.prog 47 #[.pointer (some ⟨R, 0, none⟩)] w fun e w' => KvSay w R B l0 e w' := by
  have hml : maxLen = 9223372036854775807 := rfl
  have hRl := h.lt
  have HR := mkHid h
  obtain ⟨Q, hQ⟩ : ∃ Q : Ending → World → Prop, Q = fun e w' => KvSay w R B l0 e w' := ⟨_, rfl⟩
  have HQ := mkHid hQ
  rw [← hQ]
  clear h hQ
  go_enter Try.func47, Try.ntmps47
  go_wp2_with fail
  refine wp_scope_ghost2 (JK w R B l0) ?_ ?_
  · rintro k IH lb a' w' ⟨t, wv, st, l, rfl, hF, hS, hlen, hJ⟩
    obtain ⟨u, rfl⟩ := frame91 t hF.size
    have e0 : u 0 = .pointer (some ⟨R, 0, none⟩) := by simpa using hF.s0
    have e2 : u 2 = .pointer (some ⟨w.heap.size, 0, none⟩) := by simpa using hF.s2
    have e4 : u 4 = wv := by simpa using hF.s4
    rw [e0, e2, e4]
    clear e0 e2 e4 hF
    have HIH := mkHid IH
    clear IH
    have hneX : w.heap.size ≠ R := by omega
    have hBX : B ≤ w.heap.size := hB
    rcases hJ with ⟨rfl, rfl, hC, hX, hLd⟩ | ⟨rfl, rfl, hC, hX⟩ | ⟨rfl, rfl, hC, hX, hLd⟩ | ⟨rfl, rfl, hC, hX, hLd⟩ | ⟨rfl, rfl, hC, hX, hLd⟩ | ⟨rfl, rfl, hC, hlen5, doc, hX, hLd⟩ | ⟨rfl, rfl, hX, hLd⟩ | ⟨rfl, rfl, hX, x, rest, rfl, hC0, hC1, hLd⟩
    · refine ⟨_, rfl, ?_⟩
      replace hlen := hlen (by decide)
      have HK := mkHid (kkind_any R B l w' hS.rd)
      have HS := mkHid hS
      have HC := mkHid hC
      have HL := mkHid hLd
      obtain ⟨kk, n, s, la, ln, lc, fa, fn, fc, hX⟩ := hX
      have HX := mkHid hX
      have hKC : (kindR l = 1 ∧ ∃ t, l = 10 :: t) ∨ (kindR l = 2 ∧ ∃ t, l = 20 :: t) ∨ (kindR l = 3 ∧ ∃ t, l = 30 :: t) ∨ (kindR l = 4 ∧ ∃ t, l = 40 :: t) ∨ (kindR l = 5 ∧ ∃ t, l = 50 :: t) ∨ (kindR l = 6 ∧ ∃ t, l = 60 :: t) ∨ (¬ (kindR l = 1 ∨ kindR l = 2 ∨ kindR l = 3 ∨ kindR l = 4 ∨ kindR l = 5 ∨ kindR l = 6) ∧ stepK (.kind (st.map Opn.fr) l) = .done none) := kind_cases l (st.map Opn.fr)
      obtain ⟨x, hx⟩ : ∃ x, x = kindR l := ⟨_, rfl⟩
      rw [← hx] at HK hKC
      clear hS hC hLd hX hx
      rcases hKC with ⟨rfl, t, rfl⟩ | ⟨rfl, t, rfl⟩ | ⟨rfl, t, rfl⟩ | ⟨rfl, t, rfl⟩ | ⟨rfl, t, rfl⟩ | ⟨rfl, t, rfl⟩ | ⟨hno, hst⟩
      · simp only [List.length_cons] at hlen
        have HC1 : Hid (CntK l0.length t.length 1 st) := HC.out.up (by simp)
        go_wp2_with fail
        refine HK.out.mono ?_
        rintro e w2 ⟨rfl, r2, o2⟩
        have X2 := HX.out.only o2 hneX
        obtain ⟨c0, c1, c2, c3, c4⟩ := Blk5.cells X2
        obtain ⟨f0, f1, f2, f3, f4⟩ := Blk5.free X2
        obtain ⟨W3, hW3⟩ : ∃ W3, W3 = ((((w2.setCell ⟨w.heap.size, 0, none⟩ (.int .i64 1)).setCell ⟨w.heap.size, 1, none⟩ (.int .i64 0)).setCell ⟨w.heap.size, 2, none⟩ (.string ⟨#[]⟩)).setCell ⟨w.heap.size, 3, none⟩ (.slice none 0 0)).setCell ⟨w.heap.size, 4, none⟩ (.slice none 0 0) := ⟨_, rfl⟩
        have HW : Hid (KSt w R B W3 t wv st) := by
          rw [hW3]
          exact HS.out.step ((((((Chg.of_only o2).box _ _).box _ _).box _ _).box _ _).box _ _) hRl (((((r2.other hBX _).other hBX _).other hBX _).other hBX _).other hBX _)
        have HBX : Hid (BoxK w W3 1 0 ⟨#[]⟩ none 0 0 none 0 0) := by
          rw [hW3]
          exact ((((X2.set0).set1).set2).set3).set4
        have HW3 := mkHid hW3
        clear hW3 X2 o2 r2
        go_wp2_with fail
        go_step3
        rw [← HW3.out]
        refine ⟨_, ?_, _, wv, st, t, rfl, ⟨rfl, rfl, rfl, rfl⟩, HW.out, fun _ => by omega, Or.inr (Or.inl ⟨rfl, rfl, HC1.out, _, _, _, _, _, _, _, _, _, gN, HBX.out, ?_, HL.out.step⟩)⟩
        · simp only [List.length_cons]; omega
        · exact lies_plain (by unfold Int64; omega) (by unfold Int64; omega) (Nat.zero_le _)
      · simp only [List.length_cons] at hlen
        have HC1 : Hid (CntK l0.length t.length 1 st) := HC.out.up (by simp)
        go_wp2_with fail
        refine HK.out.mono ?_
        rintro e w2 ⟨rfl, r2, o2⟩
        have X2 := HX.out.only o2 hneX
        obtain ⟨c0, c1, c2, c3, c4⟩ := Blk5.cells X2
        obtain ⟨f0, f1, f2, f3, f4⟩ := Blk5.free X2
        obtain ⟨W3, hW3⟩ : ∃ W3, W3 = ((((w2.setCell ⟨w.heap.size, 0, none⟩ (.int .i64 2)).setCell ⟨w.heap.size, 1, none⟩ (.int .i64 0)).setCell ⟨w.heap.size, 2, none⟩ (.string ⟨#[]⟩)).setCell ⟨w.heap.size, 3, none⟩ (.slice none 0 0)).setCell ⟨w.heap.size, 4, none⟩ (.slice none 0 0) := ⟨_, rfl⟩
        have HW : Hid (KSt w R B W3 t wv st) := by
          rw [hW3]
          exact HS.out.step ((((((Chg.of_only o2).box _ _).box _ _).box _ _).box _ _).box _ _) hRl (((((r2.other hBX _).other hBX _).other hBX _).other hBX _).other hBX _)
        have HBX : Hid (BoxK w W3 2 0 ⟨#[]⟩ none 0 0 none 0 0) := by
          rw [hW3]
          exact ((((X2.set0).set1).set2).set3).set4
        have HW3 := mkHid hW3
        clear hW3 X2 o2 r2
        go_wp2_with fail
        go_step3
        rw [← HW3.out]
        refine ⟨_, ?_, _, wv, st, t, rfl, ⟨rfl, rfl, rfl, rfl⟩, HW.out, fun _ => by omega, Or.inr (Or.inr (Or.inl ⟨rfl, rfl, HC1.out, HBX.out, HL.out⟩))⟩
        simp only [List.length_cons]; omega
      · simp only [List.length_cons] at hlen
        have HC1 : Hid (CntK l0.length t.length 1 st) := HC.out.up (by simp)
        go_wp2_with fail
        refine HK.out.mono ?_
        rintro e w2 ⟨rfl, r2, o2⟩
        have X2 := HX.out.only o2 hneX
        obtain ⟨c0, c1, c2, c3, c4⟩ := Blk5.cells X2
        obtain ⟨f0, f1, f2, f3, f4⟩ := Blk5.free X2
        obtain ⟨W3, hW3⟩ : ∃ W3, W3 = ((((w2.setCell ⟨w.heap.size, 0, none⟩ (.int .i64 3)).setCell ⟨w.heap.size, 1, none⟩ (.int .i64 0)).setCell ⟨w.heap.size, 2, none⟩ (.string ⟨#[]⟩)).setCell ⟨w.heap.size, 3, none⟩ (.slice none 0 0)).setCell ⟨w.heap.size, 4, none⟩ (.slice none 0 0) := ⟨_, rfl⟩
        have HW : Hid (KSt w R B W3 t wv st) := by
          rw [hW3]
          exact HS.out.step ((((((Chg.of_only o2).box _ _).box _ _).box _ _).box _ _).box _ _) hRl (((((r2.other hBX _).other hBX _).other hBX _).other hBX _).other hBX _)
        have HBX : Hid (BoxK w W3 3 0 ⟨#[]⟩ none 0 0 none 0 0) := by
          rw [hW3]
          exact ((((X2.set0).set1).set2).set3).set4
        have HW3 := mkHid hW3
        clear hW3 X2 o2 r2
        go_wp2_with fail
        go_step3
        rw [← HW3.out]
        refine ⟨_, ?_, _, wv, st, t, rfl, ⟨rfl, rfl, rfl, rfl⟩, HW.out, fun _ => by omega, Or.inr (Or.inr (Or.inr (Or.inl ⟨rfl, rfl, HC1.out, HBX.out, HL.out⟩)))⟩
        simp only [List.length_cons]; omega
      · simp only [List.length_cons] at hlen
        have HC1 : Hid (CntK l0.length t.length 1 st) := HC.out.up (by simp)
        go_wp2_with fail
        refine HK.out.mono ?_
        rintro e w2 ⟨rfl, r2, o2⟩
        have X2 := HX.out.only o2 hneX
        obtain ⟨c0, c1, c2, c3, c4⟩ := Blk5.cells X2
        obtain ⟨f0, f1, f2, f3, f4⟩ := Blk5.free X2
        obtain ⟨W3, hW3⟩ : ∃ W3, W3 = ((((w2.setCell ⟨w.heap.size, 0, none⟩ (.int .i64 4)).setCell ⟨w.heap.size, 1, none⟩ (.int .i64 0)).setCell ⟨w.heap.size, 2, none⟩ (.string ⟨#[]⟩)).setCell ⟨w.heap.size, 3, none⟩ (.slice none 0 0)).setCell ⟨w.heap.size, 4, none⟩ (.slice none 0 0) := ⟨_, rfl⟩
        have HW : Hid (KSt w R B W3 t wv st) := by
          rw [hW3]
          exact HS.out.step ((((((Chg.of_only o2).box _ _).box _ _).box _ _).box _ _).box _ _) hRl (((((r2.other hBX _).other hBX _).other hBX _).other hBX _).other hBX _)
        have HBX : Hid (BoxK w W3 4 0 ⟨#[]⟩ none 0 0 none 0 0) := by
          rw [hW3]
          exact ((((X2.set0).set1).set2).set3).set4
        have HW3 := mkHid hW3
        clear hW3 X2 o2 r2
        go_wp2_with fail
        go_step3
        rw [← HW3.out]
        refine ⟨_, ?_, _, wv, st, t, rfl, ⟨rfl, rfl, rfl, rfl⟩, HW.out, fun _ => by omega, Or.inr (Or.inr (Or.inr (Or.inr (Or.inl ⟨rfl, rfl, HC1.out, HBX.out, HL.out⟩))))⟩
        simp only [List.length_cons]; omega
      · simp only [List.length_cons] at hlen
        have HC1 : Hid (CntK l0.length t.length 1 st) := HC.out.up (by simp)
        go_wp2_with fail
        refine HK.out.mono ?_
        rintro e w2 ⟨rfl, r2, o2⟩
        have X2 := HX.out.only o2 hneX
        obtain ⟨c0, c1, c2, c3, c4⟩ := Blk5.cells X2
        obtain ⟨f0, f1, f2, f3, f4⟩ := Blk5.free X2
        obtain ⟨W3, hW3⟩ : ∃ W3, W3 = ((((w2.setCell ⟨w.heap.size, 0, none⟩ (.int .i64 5)).setCell ⟨w.heap.size, 1, none⟩ (.int .i64 0)).setCell ⟨w.heap.size, 2, none⟩ (.string ⟨#[]⟩)).setCell ⟨w.heap.size, 3, none⟩ (.slice none 0 0)).setCell ⟨w.heap.size, 4, none⟩ (.slice none 0 0) := ⟨_, rfl⟩
        have HW : Hid (KSt w R B W3 t wv st) := by
          rw [hW3]
          exact HS.out.step ((((((Chg.of_only o2).box _ _).box _ _).box _ _).box _ _).box _ _) hRl (((((r2.other hBX _).other hBX _).other hBX _).other hBX _).other hBX _)
        have HBX : Hid (BoxK w W3 5 0 ⟨#[]⟩ none 0 0 none 0 0) := by
          rw [hW3]
          exact ((((X2.set0).set1).set2).set3).set4
        have HW3 := mkHid hW3
        clear hW3 X2 o2 r2
        go_wp2_with fail
        go_step3
        rw [← HW3.out]
        refine ⟨_, ?_, _, wv, st, t, rfl, ⟨rfl, rfl, rfl, rfl⟩, HW.out, fun _ => by omega, Or.inr (Or.inr (Or.inr (Or.inr (Or.inr (Or.inl ⟨rfl, rfl, HC1.out, by omega, false, HBX.out, HL.out.step⟩)))))⟩
        simp only [List.length_cons]; omega
      · simp only [List.length_cons] at hlen
        have HC1 : Hid (CntK l0.length t.length 1 st) := HC.out.up (by simp)
        go_wp2_with fail
        refine HK.out.mono ?_
        rintro e w2 ⟨rfl, r2, o2⟩
        have X2 := HX.out.only o2 hneX
        obtain ⟨c0, c1, c2, c3, c4⟩ := Blk5.cells X2
        obtain ⟨f0, f1, f2, f3, f4⟩ := Blk5.free X2
        obtain ⟨W3, hW3⟩ : ∃ W3, W3 = ((((w2.setCell ⟨w.heap.size, 0, none⟩ (.int .i64 6)).setCell ⟨w.heap.size, 1, none⟩ (.int .i64 0)).setCell ⟨w.heap.size, 2, none⟩ (.string ⟨#[]⟩)).setCell ⟨w.heap.size, 3, none⟩ (.slice none 0 0)).setCell ⟨w.heap.size, 4, none⟩ (.slice none 0 0) := ⟨_, rfl⟩
        have HW : Hid (KSt w R B W3 t wv st) := by
          rw [hW3]
          exact HS.out.step ((((((Chg.of_only o2).box _ _).box _ _).box _ _).box _ _).box _ _) hRl (((((r2.other hBX _).other hBX _).other hBX _).other hBX _).other hBX _)
        have HBX : Hid (BoxK w W3 6 0 ⟨#[]⟩ none 0 0 none 0 0) := by
          rw [hW3]
          exact ((((X2.set0).set1).set2).set3).set4
        have HW3 := mkHid hW3
        clear hW3 X2 o2 r2
        go_wp2_with fail
        go_step3
        rw [← HW3.out]
        refine ⟨_, ?_, _, wv, st, t, rfl, ⟨rfl, rfl, rfl, rfl⟩, HW.out, fun _ => by omega, Or.inr (Or.inr (Or.inr (Or.inr (Or.inr (Or.inl ⟨rfl, rfl, HC1.out, by omega, true, HBX.out, HL.out.step⟩)))))⟩
        simp only [List.length_cons]; omega
      · have hlt : l.tail.length ≤ l.length := by simp
        have HNO := mkHid hno
        have HST := mkHid hst
        have k1 : (x == 1) = false := by simp; omega
        have k2 : (x == 2) = false := by simp; omega
        have k3 : (x == 3) = false := by simp; omega
        have k4 : (x == 4) = false := by simp; omega
        have k5 : (x == 5) = false := by simp; omega
        have k6 : (x == 6) = false := by simp; omega
        clear hno hst
        go_wp2_with fail
        refine HK.out.mono ?_
        rintro e w2 ⟨rfl, r2, o2⟩
        have X2 := HX.out.only o2 hneX
        obtain ⟨c0, c1, c2, c3, c4⟩ := Blk5.cells X2
        obtain ⟨f0, f1, f2, f3, f4⟩ := Blk5.free X2
        obtain ⟨W3, hW3⟩ : ∃ W3, W3 = ((((w2.setCell ⟨w.heap.size, 0, none⟩ (.int .i64 x)).setCell ⟨w.heap.size, 1, none⟩ (.int .i64 0)).setCell ⟨w.heap.size, 2, none⟩ (.string ⟨#[]⟩)).setCell ⟨w.heap.size, 3, none⟩ (.slice none 0 0)).setCell ⟨w.heap.size, 4, none⟩ (.slice none 0 0) := ⟨_, rfl⟩
        have HW : Hid (KSt w R B W3 l.tail wv st) := by
          rw [hW3]
          exact HS.out.step ((((((Chg.of_only o2).box _ _).box _ _).box _ _).box _ _).box _ _) hRl (((((r2.other hBX _).other hBX _).other hBX _).other hBX _).other hBX _)
        have HBX : Hid (BoxK w W3 x 0 ⟨#[]⟩ none 0 0 none 0 0) := by
          rw [hW3]
          exact ((((X2.set0).set1).set2).set3).set4
        have HW3 := mkHid hW3
        clear hW3 X2 o2 r2
        go_wp2_with fail
        go_step3
        rw [← HW3.out]
        refine ⟨0, by omega, _, wv, st, l.tail, rfl, ⟨rfl, rfl, rfl, rfl⟩, HW.out, fun h => absurd rfl h, Or.inr (Or.inr (Or.inr (Or.inr (Or.inr (Or.inr (Or.inl ⟨rfl, rfl, ⟨_, _, _, _, _, _, _, _, _, HBX.out⟩, ?_⟩))))))⟩
        have := HL.out.step
        rw [HST.out] at this
        exact this
    · refine ⟨_, rfl, ?_⟩
      replace hlen := hlen (by decide)
      obtain ⟨kk, n, s, la, ln, lc, fa, fn, fc, g1, hX, hOf, hLd⟩ := hX
      obtain ⟨c0, c1, c2, c3, c4⟩ := Blk5.cells hX
      obtain ⟨f0, f1, f2, f3, f4⟩ := Blk5.free hX
      have HX := mkHid hX
      cases st with
      | nil =>
        obtain ⟨wa, wc, rfl, hwc⟩ := own_slice hS.stk.own
        have HE : Hid (∀ w2, Chg (fun k => k = R ∨ k = w.heap.size) w' w2 → Rk w2 R B l → Q (.returned (.tuple #[.agg #[.int .i64 kk, .int .i64 n, .string s, .slice la ln lc, .slice fa fn fc], .bool true])) w2) := by
          intro w2 hc hr
          rw [HQ.out]
          have hs2 := hS.step hc hRl hr
          refine ⟨hs2.only, some (g1, l), hLd.step, kk, n, s, la, ln, lc, fa, fn, fc, rfl, hr, ?_⟩
          have ho2 : Off (hid (w.heap.size + 1) (.slice wa 0 wc) []) w2 g1 (.agg #[.int .i64 kk, .int .i64 n, .string s, .slice la ln lc, .slice fa fn fc]) := hOf.keep fun b hb hp => by
            have := (hid_false.1 hp).1
            exact ⟨hp, hc.block b hb (by rintro (e | e) <;> omega)⟩
          exact Lies.mono (fun b o u h0 => by
            obtain ⟨h1, h2⟩ := mask_cell.1 h0
            exact mask_cell.2 ⟨by omega, h2⟩) (off_from ho2)
        have HRD := mkHid hS.rd
        clear hS hC hX hOf hLd
        go_wp2_with fail
        refine jumps_ret (bodyPost_ret (v := .tuple #[.agg #[.int .i64 kk, .int .i64 n, .string s, .slice la ln lc, .slice fa fn fc], .bool true]) ?_ rfl ?_)
        · have hres : Try.f47.results = #[.cell 2 25, .tmp 3] := by kernel_rfl
          simp only [results, hres]
          go_simp
        · refine HE.out _ ?_ ?_
          · exact (((((Chg.refl _ w').box _ _).box _ _).box _ _).box _ _).box _ _
          · exact ((((HRD.out.other hBX _).other hBX _).other hBX _).other hBX _).other hBX _
      | cons x rest =>
        obtain ⟨g, cp, rfl, hgl, hgB⟩ := own_form (n := rest.length) hS.stk.own
        obtain ⟨m, hm⟩ : ∃ m, m = rest.length := ⟨_, rfl⟩
        have HM := mkHid hm
        have hmm : m ≤ 1000000 := by simp at hlen; omega
        have hm1 : (m : Int) < (m : Int) + 1 := by omega
        have hm0 : (((m : Int) + 1) == 0) = false := by simp; omega
        have hm2 : (0 : Int) ≤ (m : Int) := by omega
        have hm3 : (m : Int) + 1 - 1 = (m : Int) := by omega
        have hm4 : (m : Int) < ((m + 1 : Nat) : Int) := by omega
        have hm5 : ¬ ((m : Int) < 0) := by omega
        obtain ⟨hm6, hm7, hm8, hm9⟩ := wrap_smallK m hmm
        have hsz := hS.only.size
        have HC1 : Hid (CntK l0.length l.length 1 rest) := fun z hz => hC z (by simp [hz])
        have HCX : Hid (x.fs.length + l.length + 1 ≤ l0.length) := hC x (by simp)
        obtain ⟨cur, hcur, hk0, hk3, hk4, hk5⟩ := hS.stk.topRow
        obtain ⟨f, hf⟩ : ∃ f : Fl, f = ⟨⟨x.nm.toArray⟩, kk, n, s, la, ln, lc, fa, fn, fc, g1⟩ := ⟨_, rfl⟩
        have hnx := hS.nms x (by simp)
        have hrx := hS.stk.rows x (by simp)
        have hcx := HCX.out
        have hltn : x.fs.length ≤ 1000000 := by omega
        have hneg : x.row.ownBlock ≠ some g := hS.stk.top_ne (x := x) (by simp) (k := g) rfl
        have hBl : w.heap.size + 1 ≤ w'.heap.size := by have := hX.lt; omega
        have HADD : Hid (∀ u : World, u.heap = w'.heap → Calls Try.prog 66 #[.pointer (some ⟨g, m * 6, none⟩), .agg #[.int .i64 kk, .int .i64 n, .string s, .slice la ln lc, .slice fa fn fc]] u fun e w2 => e = .returned (.tuple #[]) ∧ AddSay (w.heap.size + 1) g (rest.length * 6 + (if x.doc = true then 4 else 3)) x.fs.length x.ty x.width x.row cur (x.zs ++ (if x.doc = true then f.enc else f.val.cells.toList)) u w2) := by
          intro u hu
          have hcu : u.heap[g]? = some (.cells cur 104 (0, 0)) := by rw [hu]; exact hcur
          have hru : u.ownsRow (w.heap.size + 1) x.ty x.width x.row x.fs.length x.zs := own_keep hrx fun k _ => by rw [hu]
          have hus : w.heap.size + 1 ≤ u.heap.size := by rw [hu]; exact hBl
          rw [hm]
          unfold Opn.ty Opn.width at hru ⊢
          cases hdoc : x.doc with
          | false =>
            rw [hdoc] at hru
            simp only [Bool.false_eq_true, if_false] at hru ⊢
            have h := add_list (w.heap.size + 1) g (rest.length * 6) x.fs.length x.c x.a cur x.zs kk n s la ln lc fa fn fc u hcu (by rw [hk0, Opn.kind, hdoc]; rfl) (by rw [hk3, Opn.l, hdoc]; rfl) hru hneg hltn hus
            rw [hf]
            exact h
          | true =>
            rw [hdoc] at hru
            simp only [if_true] at hru ⊢
            have h := add_doc (w.heap.size + 1) g (rest.length * 6) x.fs.length x.c x.a ⟨x.nm.toArray⟩ cur x.zs kk n s la ln lc fa fn fc u hcu (by rw [hk0, Opn.kind, hdoc]; rfl) (by rw [hk4, Opn.f, hdoc]; rfl) hk5 hgB hru hneg hltn hus
            rw [hf]
            exact h
        have HAS : Hid (∀ (u w2 : World), u.heap = w'.heap → u.os = w'.os → u.tape = w'.tape → u.output = w'.output → AddSay (w.heap.size + 1) g (rest.length * 6 + (if x.doc = true then 4 else 3)) x.fs.length x.ty x.width x.row cur (x.zs ++ (if x.doc = true then f.enc else f.val.cells.toList)) u w2 → AddSay (w.heap.size + 1) g (rest.length * 6 + (if x.doc = true then 4 else 3)) x.fs.length x.ty x.width x.row cur (x.zs ++ (if x.doc = true then f.enc else f.val.cells.toList)) w' w2) := by
          rintro u w2 hu h1 h2 h3 ⟨g2, c2, a1, a2, a3, a4⟩
          exact ⟨g2, c2, a1, a2, by rw [← hu]; exact a3, a4.os.trans h1, a4.tape.trans h2, a4.output.trans h3, by rw [← hu]; exact a4.size, fun k hk hn => by rw [← hu]; exact a4.block k (by rw [hu]; exact hk) hn⟩
        have HNX := mkHid hnx
        have HCUR := mkHid hcur
        have HF := mkHid hf
        have HS := mkHid hS
        have HOF := mkHid hOf
        have HL := mkHid hLd
        rw [← hm]
        clear hS hX hOf hLd hC hm hcur hk0 hk3 hk4 hk5 hnx hrx hcx hltn hneg hBl hf
        go_wp2_with fail
        have hS0 : w'.drew.cell? ⟨w.heap.size, 0, none⟩ = some (.int .i64 kk) ∧ w'.drew.cell? ⟨w.heap.size, 1, none⟩ = some (.int .i64 n) ∧ w'.drew.cell? ⟨w.heap.size, 2, none⟩ = some (.string s) ∧ w'.drew.cell? ⟨w.heap.size, 3, none⟩ = some (.slice la ln lc) ∧ w'.drew.cell? ⟨w.heap.size, 4, none⟩ = some (.slice fa fn fc) := ⟨c0, c1, c2, c3, c4⟩
        go_region_held3 (fun u5 => u5.cell? ⟨w.heap.size, 0, none⟩ = some (.int .i64 kk) ∧ u5.cell? ⟨w.heap.size, 1, none⟩ = some (.int .i64 n) ∧ u5.cell? ⟨w.heap.size, 2, none⟩ = some (.string s) ∧ u5.cell? ⟨w.heap.size, 3, none⟩ = some (.slice la ln lc) ∧ u5.cell? ⟨w.heap.size, 4, none⟩ = some (.slice fa fn fc)) (first | with_reducible exact hS0 | with_reducible exact hS1) (first
          | (go_at_call 66; refine (HADD.out _ ?_).mono ?_; rfl; rintro e w2 ⟨rfl, hA⟩; obtain ⟨g2, c2', HW, hch⟩ := HS.out.add (f := f) hB HCUR.out (by rw [HF.out]; have := HNX.out; show x.nm.toArray.size ≤ _; simp; omega) (by rw [HF.out]; exact HOF.out) (HAS.out w'.drew _ rfl rfl rfl rfl hA); have HX2 : BoxK w w2 kk n s la ln lc fa fn fc := Blk5.chgK HX.out hch; have hS1 := Blk5.cells HX2))
        all_goals
          have HW2 := mkHid HW
          have HBX := mkHid HX2
          clear HW HX2 hS0 hS1 hA hch
          go_wp2_with fail
          go_step3
          refine ⟨_, ?_, _, .slice (some ⟨g, 0, none⟩) (m + 1) cp, _ :: rest, l, rfl, ⟨rfl, rfl, rfl, rfl⟩, by rw [HM.out]; exact HW2.out, fun _ => by simpa using hlen, Or.inr (Or.inr (Or.inr (Or.inr (Or.inr (Or.inr (Or.inr (⟨rfl, rfl, ⟨_, _, _, _, _, _, _, _, _, HBX.out⟩, _, rest, rfl, ?_, HC1.out, ?_⟩)))))))⟩
          · omega
          · intro z hz
            simp at hz
            have := HCX.out
            rw [hz]
            simp only [Opn.more, List.length_append, List.length_cons, List.length_nil]
            omega
          · have h := HL.out.step
            rw [HF.out]
            exact h
    · refine ⟨_, rfl, ?_⟩
      replace hlen := hlen (by decide)
      have HK := mkHid (one_all R B l w' hS.rd)
      obtain ⟨c0, c1, c2, c3, c4⟩ := Blk5.cells hX
      obtain ⟨f0, f1, f2, f3, f4⟩ := Blk5.free hX
      have HS := mkHid hS
      have HC := mkHid hC
      have HL := mkHid hLd
      have HX := mkHid hX
      obtain ⟨x, hx⟩ : ∃ x, x = oneR l := ⟨_, rfl⟩
      have HXL : Hid (Int64 x ∧ stepK (.kind (st.map Opn.fr) (20 :: l)) = .whole (gB x) (st.map Opn.fr) l.tail ∧ l.tail.length ≤ l.length) := by
        rw [hx]
        cases l with
        | nil => exact ⟨by unfold Int64 oneR; decide, rfl, Nat.le_refl _⟩
        | cons y t =>
          refine ⟨?_, rfl, by simp⟩
          have := y.toNat_lt
          show Int64 (y.toNat : Int)
          unfold Int64
          omega
      rw [← hx] at HK
      have hlt := HXL.out.2.2
      clear hS hC hLd hX hx
      go_wp2_with fail
      refine HK.out.mono ?_
      rintro e w2 ⟨rfl, r2, o2⟩
      have X2 := HX.out.only o2 hneX
      obtain ⟨d0, d1, d2, d3, d4⟩ := Blk5.cells X2
      obtain ⟨f0, f1, f2, f3, f4⟩ := Blk5.free X2
      obtain ⟨W3, hW3⟩ : ∃ W3, W3 = w2.setCell ⟨w.heap.size, 1, none⟩ (.int .i64 x) := ⟨_, rfl⟩
      have HW : Hid (KSt w R B W3 l.tail wv st) := by
        rw [hW3]
        exact HS.out.step ((Chg.of_only o2).box _ _) hRl (r2.other hBX _)
      have HBX : Hid (BoxK w W3 2 x ⟨#[]⟩ none 0 0 none 0 0) := by
        rw [hW3]
        exact X2.set1
      have HW3 := mkHid hW3
      clear hW3 X2 o2 r2
      go_wp2_with fail
      go_step3
      rw [← HW3.out]
      refine ⟨_, ?_, _, wv, st, l.tail, rfl, ⟨rfl, rfl, rfl, rfl⟩, HW.out, fun _ => by omega, Or.inr (Or.inl ⟨rfl, rfl, HC.out.up (by omega), _, _, _, _, _, _, _, _, _, gB x, HBX.out, ?_, ?_⟩)⟩
      · omega
      · exact lies_plain (by unfold Int64; omega) HXL.out.1 (Nat.zero_le _)
      · have := HL.out.step
        rw [HXL.out.2.1] at this
        exact this
    · refine ⟨_, rfl, ?_⟩
      replace hlen := hlen (by decide)
      obtain ⟨c0, c1, c2, c3, c4⟩ := Blk5.cells hX
      obtain ⟨f0, f1, f2, f3, f4⟩ := Blk5.free hX
      have HS := mkHid hS
      have HC := mkHid hC
      have HL := mkHid hLd
      have HX := mkHid hX
      by_cases h8 : 8 ≤ l.length
      · have HK := mkHid (knumber_any R B l w' hS.rd h8)
        obtain ⟨x, hx⟩ : ∃ x, x = (ofBe (l.take 8) : Int) - 9223372036854775808 := ⟨_, rfl⟩
        have HXL : Hid (Int64 x ∧ stepK (.kind (st.map Opn.fr) (30 :: l)) = .whole (gI x) (st.map Opn.fr) (l.drop 8)) := by
          rw [hx]
          refine ⟨?_, ?_⟩
          · have := ofBe_lt (l := l.take 8) (by simp; omega)
            unfold Int64
            omega
          · show kindK _ 30 l = _
            unfold kindK
            rw [if_neg (by decide), if_neg (by decide), if_pos rfl, if_pos h8]
            rfl
        rw [← hx] at HK
        have hlt : (l.drop 8).length + 8 = l.length := by simp; omega
        clear hS hC hLd hX hx
        go_wp2_with fail
        refine HK.out.mono ?_
        rintro e w2 ⟨rfl, r2, o2⟩
        have X2 := HX.out.only o2 hneX
        obtain ⟨d0, d1, d2, d3, d4⟩ := Blk5.cells X2
        obtain ⟨f0, f1, f2, f3, f4⟩ := Blk5.free X2
        obtain ⟨W3, hW3⟩ : ∃ W3, W3 = w2.setCell ⟨w.heap.size, 1, none⟩ (.int .i64 x) := ⟨_, rfl⟩
        have HW : Hid (KSt w R B W3 (l.drop 8) wv st) := by
          rw [hW3]
          exact HS.out.step ((Chg.of_only o2).box _ _) hRl (r2.other hBX _)
        have HBX : Hid (BoxK w W3 3 x ⟨#[]⟩ none 0 0 none 0 0) := by
          rw [hW3]
          exact X2.set1
        have HW3 := mkHid hW3
        clear hW3 X2 o2 r2
        go_wp2_with fail
        go_step3
        rw [← HW3.out]
        refine ⟨_, ?_, _, wv, st, l.drop 8, rfl, ⟨rfl, rfl, rfl, rfl⟩, HW.out, fun _ => by omega, Or.inr (Or.inl ⟨rfl, rfl, HC.out.up (by omega), _, _, _, _, _, _, _, _, _, gI x, HBX.out, ?_, ?_⟩)⟩
        · omega
        · exact lies_plain (by unfold Int64; omega) HXL.out.1 (Nat.zero_le _)
        · have := HL.out.step
          rw [HXL.out.2] at this
          exact this
      · have HK := mkHid (knumber_no R B l w' hS.rd h8)
        have HXL : Hid (stepK (.kind (st.map Opn.fr) (30 :: l)) = .done none) := by
          show kindK _ 30 l = _
          unfold kindK
          rw [if_neg (by decide), if_neg (by decide), if_pos rfl, if_neg h8]
        clear hS hC hLd hX
        go_wp2_with fail
        refine HK.out.mono ?_
        rintro e w2 ⟨rfl, rfl⟩
        obtain ⟨W3, hW3⟩ : ∃ W3, W3 = w2.setCell ⟨w.heap.size, 1, none⟩ (.int .i64 0) := ⟨_, rfl⟩
        have HW : Hid (KSt w R B W3 l wv st) := by
          rw [hW3]
          exact HS.out.step ((Chg.refl _ w2).box _ _) hRl (HS.out.rd.other hBX _)
        have HBX : Hid (BoxK w W3 3 0 ⟨#[]⟩ none 0 0 none 0 0) := by
          rw [hW3]
          exact HX.out.set1
        have HW3 := mkHid hW3
        clear hW3
        go_wp2_with fail
        go_step3
        rw [← HW3.out]
        refine ⟨0, by omega, _, wv, st, l, rfl, ⟨rfl, rfl, rfl, rfl⟩, HW.out, fun h => absurd rfl h, Or.inr (Or.inr (Or.inr (Or.inr (Or.inr (Or.inr (Or.inl ⟨rfl, rfl, ⟨_, _, _, _, _, _, _, _, _, HBX.out⟩, ?_⟩))))))⟩
        have := HL.out.step
        rw [HXL.out] at this
        exact this
    · refine ⟨_, rfl, ?_⟩
      replace hlen := hlen (by decide)
      obtain ⟨c0, c1, c2, c3, c4⟩ := Blk5.cells hX
      obtain ⟨f0, f1, f2, f3, f4⟩ := Blk5.free hX
      have HS := mkHid hS
      have HC := mkHid hC
      have HL := mkHid hLd
      have HX := mkHid hX
      have hsz := hS.only.size
      have hlw := hX.lt
      have HK := mkHid (kletters_any R B l w' hS.rd (by omega) (by omega))
      unfold LetSay at HK
      have HXL : Hid (stepK (.kind (st.map Opn.fr) (40 :: l)) = (match lettersR l with | none => .done none | some q => .whole (gT ⟨q.1.toArray⟩) (st.map Opn.fr) q.2)) := rfl
      cases hr : lettersR l with
      | none =>
        rw [hr] at HK HXL
        clear hS hC hLd hX hr
        go_wp2_with fail
        refine HK.out.mono ?_
        rintro e w2 ⟨o2, rfl, l2, r2⟩
        have X2 := HX.out.only o2 hneX
        obtain ⟨d0, d1, d2, d3, d4⟩ := Blk5.cells X2
        obtain ⟨f0, f1, f2, f3, f4⟩ := Blk5.free X2
        obtain ⟨W3, hW3⟩ : ∃ W3, W3 = w2.setCell ⟨w.heap.size, 2, none⟩ (.string ⟨#[]⟩) := ⟨_, rfl⟩
        have HW : Hid (KSt w R B W3 l2 wv st) := by
          rw [hW3]
          exact HS.out.step ((Chg.of_only o2).box _ _) hRl (r2.other hBX _)
        have HBX : Hid (BoxK w W3 4 0 ⟨#[]⟩ none 0 0 none 0 0) := by
          rw [hW3]
          exact X2.set2
        have HW3 := mkHid hW3
        clear hW3 X2 o2 r2
        go_wp2_with fail
        go_step3
        rw [← HW3.out]
        refine ⟨0, by omega, _, wv, st, l2, rfl, ⟨rfl, rfl, rfl, rfl⟩, HW.out, fun h => absurd rfl h, Or.inr (Or.inr (Or.inr (Or.inr (Or.inr (Or.inr (Or.inl ⟨rfl, rfl, ⟨_, _, _, _, _, _, _, _, _, HBX.out⟩, ?_⟩))))))⟩
        have := HL.out.step
        rw [HXL.out] at this
        exact this
      | some q =>
        rw [hr] at HK HXL
        have hq := letters_inv l q.1 q.2 hr
        have hql : q.1.length + q.2.length + 2 ≤ l.length := by
          have := lettersK_ge q.1
          rw [hq, List.length_append]
          omega
        obtain ⟨sx, hsx⟩ : ∃ sx : ByteArray, sx = ⟨q.1.toArray⟩ := ⟨_, rfl⟩
        have HSX : Hid (sx.size ≤ 140737488355328) := by
          rw [hsx]
          show q.1.toArray.size ≤ _
          simp
          omega
        simp only [← hsx] at HK HXL
        clear hS hC hLd hX hr hq hsx
        go_wp2_with fail
        refine HK.out.mono ?_
        rintro e w2 ⟨o2, rfl, r2⟩
        have X2 := HX.out.only o2 hneX
        obtain ⟨d0, d1, d2, d3, d4⟩ := Blk5.cells X2
        obtain ⟨f0, f1, f2, f3, f4⟩ := Blk5.free X2
        obtain ⟨W3, hW3⟩ : ∃ W3, W3 = w2.setCell ⟨w.heap.size, 2, none⟩ (.string sx) := ⟨_, rfl⟩
        have HW : Hid (KSt w R B W3 q.2 wv st) := by
          rw [hW3]
          exact HS.out.step ((Chg.of_only o2).box _ _) hRl (r2.other hBX _)
        have HBX : Hid (BoxK w W3 4 0 sx none 0 0 none 0 0) := by
          rw [hW3]
          exact X2.set2
        have HW3 := mkHid hW3
        clear hW3 X2 o2 r2
        go_wp2_with fail
        go_step3
        rw [← HW3.out]
        refine ⟨_, ?_, _, wv, st, q.2, rfl, ⟨rfl, rfl, rfl, rfl⟩, HW.out, fun _ => by omega, Or.inr (Or.inl ⟨rfl, rfl, HC.out.up (by omega), _, _, _, _, _, _, _, _, _, gT sx, HBX.out, ?_, ?_⟩)⟩
        · omega
        · exact lies_plain (by unfold Int64; omega) (by unfold Int64; omega) HSX.out
        · have := HL.out.step
          rw [HXL.out] at this
          exact this
    · refine ⟨_, rfl, ?_⟩
      replace hlen := hlen (by decide)
      obtain ⟨aw, cw, rfl, hcw⟩ := own_slice hS.stk.own
      obtain ⟨kd, hkd⟩ : ∃ kd : Int, kd = if doc = true then 6 else 5 := ⟨_, rfl⟩
      rw [← hkd] at hX
      obtain ⟨c0, c1, c2, c3, c4⟩ := Blk5.cells hX
      obtain ⟨i0, hi, hz0, hz1, hz2⟩ := info_parts infoOpen
      obtain ⟨m, hm⟩ : ∃ m, m = st.length := ⟨_, rfl⟩
      have hmm : m ≤ 1000000 := by omega
      obtain ⟨y, hy⟩ : ∃ y : Opn, y = ⟨doc, [], none, 0, [], []⟩ := ⟨_, rfl⟩
      have hyenc : y.enc = [.int .i64 kd, .int .i64 0, .string ⟨#[]⟩, .slice none 0 0, .slice none 0 0, .string ⟨#[]⟩] := by
        rw [hy, hkd]
        cases doc <;> rfl
      have hsz := hS.only.size
      have hbl := hX.lt
      have HOW : Hid ((w'.alloc (.cells #[.int .i64 kd, .int .i64 0, .string ⟨#[]⟩, .slice none 0 0, .slice none 0 0, .string ⟨#[]⟩] 104)).ownsRow (w.heap.size + 1) 104 6 (.slice aw m cw) m (stCells st)) := by
        rw [hm]
        exact hS.stk.own.alloc (.cells #[.int .i64 kd, .int .i64 0, .string ⟨#[]⟩, .slice none 0 0, .slice none 0 0, .string ⟨#[]⟩] 104)
      have HPU : Hid (∀ (w3 : World) (v' : Value), w3.ownsRow (w.heap.size + 1) 104 6 v' (m + 1) (stCells st ++ [.int .i64 kd, .int .i64 0, .string ⟨#[]⟩, .slice none 0 0, .slice none 0 0, .string ⟨#[]⟩]) → World.grownBy (w'.alloc (.cells #[.int .i64 kd, .int .i64 0, .string ⟨#[]⟩, .slice none 0 0, .slice none 0 0, .string ⟨#[]⟩] 104)) w3 (Value.slice aw m cw).ownBlock → (v'.ownBlock = (Value.slice aw m cw).ownBlock ∨ v'.ownBlock = some (w'.alloc (.cells #[.int .i64 kd, .int .i64 0, .string ⟨#[]⟩, .slice none 0 0, .slice none 0 0, .string ⟨#[]⟩] 104)).heap.size) → KSt w R B w3 l v' (y :: st) ∧ BoxK w w3 kd 0 ⟨#[]⟩ none 0 0 none 0 0) := by
        intro w3 v' ho hg hat
        rw [hm] at ho hg hat
        have h := hS.push (y := y) hB (by rw [hy]; rfl) (by rw [hy]) (by rw [hy]) (by rw [hy]) (by rw [hyenc]; exact ho) hg hat hbl
        refine ⟨h.1, ?_⟩
        unfold BoxK Blk5
        rw [h.2]
        exact hX
      have HL := mkHid hLd
      have HC1 := mkHid hC
      have HY := mkHid hy
      have HM := mkHid hm
      have hsl := stCells_len st
      rw [← hm] at hsl
      rw [← hm]
      clear hS hC hLd hX hkd hyenc hm hy
      go_wp2_with (at_builtin; refine wpList_append_own_at _ rfl _ _ 96 rfl (w.heap.size + 1) 104 i0 (.agg #[.int .i64 0, .int .i64 0, .string ⟨#[]⟩, .slice none 0 0, .slice none 0 0, .string ⟨#[]⟩]) 6 96 Try.underlying96 hi hz0 hz1 hz2 rfl (by decide) _ _ _ rfl HOW.out _ 1 1 [.int .i64 kd, .int .i64 0, .string ⟨#[]⟩, .slice none 0 0, .slice none 0 0, .string ⟨#[]⟩] rfl rfl ?c1 ?c2 ?c3 ?c4 ?c5 ?_)
      case c1 =>
        intro j v hj
        rw [show (⟨w'.heap.size, 0, none⟩ : Addr).add j = ⟨w'.heap.size, j, none⟩ by simp [Addr.add]; omega, cell_of_row _ w'.heap.size j _ _ _ (heap_alloc_new w' _)]
        simpa using hj
      case c2 => simp [Value.oneCell']
      case c3 => omega
      case c4 => omega
      case c5 => simp; omega
      intro v1 w3 o3 g3 _ at3
      obtain ⟨hW, hBx⟩ := HPU.out w3 v1 o3 g3 (by simpa using at3)
      have HW := mkHid hW
      have HBX := mkHid hBx
      clear o3 g3 at3 hW hBx
      go_wp2_with fail
      rename_i hK
      go_step3
      refine hK _ _ ?_
      refine use_label (lb := 7) (k' := l.length * 10 + 4) HIH.out rfl (by omega) ?_
      refine ⟨_, v1, y :: st, l, rfl, ⟨rfl, rfl, rfl, rfl⟩, HW.out, fun _ => by simp; omega, Or.inr (Or.inr (Or.inr (Or.inr (Or.inr (Or.inr (Or.inr (⟨rfl, rfl, ⟨_, _, _, _, _, _, _, _, _, HBX.out⟩, y, st, rfl, ?_, HC1.out, ?_⟩)))))))⟩
      · intro z hz
        simp at hz
        rw [hz, HY.out]
        simp
        omega
      · have := HL.out
        rw [HY.out]
        exact this
    · refine ⟨_, rfl, ?_⟩
      obtain ⟨kk, n, s, la, ln, lc, fa, fn, fc, hX⟩ := hX
      obtain ⟨c0, c1, c2, c3, c4⟩ := Blk5.cells hX
      obtain ⟨f0, f1, f2, f3, f4⟩ := Blk5.free hX
      have HE : Hid (∀ w2, Chg (fun k => k = R ∨ k = w.heap.size) w' w2 → Rk w2 R B l → Q (.returned (.tuple #[.agg #[.int .i64 0, .int .i64 0, .string ⟨#[]⟩, .slice none 0 0, .slice none 0 0], .bool false])) w2) := by
        intro w2 hc hr
        rw [HQ.out]
        exact ⟨(hS.step hc hRl hr).only, none, hLd, rfl⟩
      have HRD := mkHid hS.rd
      clear hS hX hLd
      go_wp2_with fail
      refine jumps_ret (bodyPost_ret (v := .tuple #[.agg #[.int .i64 0, .int .i64 0, .string ⟨#[]⟩, .slice none 0 0, .slice none 0 0], .bool false]) ?_ rfl ?_)
      · have hres : Try.f47.results = #[.cell 2 25, .tmp 3] := by kernel_rfl
        simp only [results, hres]
        go_simp
      · refine HE.out _ ?_ ?_
        · exact (((((Chg.refl _ w').box _ _).box _ _).box _ _).box _ _).box _ _
        · exact ((((HRD.out.other hBX _).other hBX _).other hBX _).other hBX _).other hBX _
    · refine ⟨_, rfl, ?_⟩
      replace hlen := hlen (by decide)
      simp only [List.length_cons] at hlen
      obtain ⟨g, cp, rfl, hgl, hgB⟩ := own_form (n := rest.length) hS.stk.own
      obtain ⟨kk0, n0, s0, la0, ln0, lc0, fa0, fn0, fc0, hX⟩ := hX
      have HK := mkHid (one_all R B l w' hS.rd)
      obtain ⟨m, hm⟩ : ∃ m, m = rest.length := ⟨_, rfl⟩
      have HM := mkHid hm
      have hmm : m ≤ 1000000 := by omega
      have hcp : m + 1 ≤ cp ∧ cp ≤ maxLen := by
        have h := hS.stk.own
        rcases h.2 with ⟨e, _⟩ | ⟨g', cap, cur, e, _, _, q1, q2, _⟩
        · exact absurd e (by simp)
        · cases e
          exact ⟨by rw [hm]; simpa using q1, q2⟩
      obtain ⟨hcp1, hcp2⟩ := hcp
      have hcp4 : m ≤ cp := Nat.le_of_succ_le hcp1
      have hcp3 : (m : Int) ≤ (cp : Int) := Int.ofNat_le.2 hcp4
      have hm1 : (m : Int) < (m : Int) + 1 := by omega
      have hm2 : (0 : Int) ≤ (m : Int) := by omega
      have hm3 : (m : Int) + 1 - 1 = (m : Int) := by omega
      have hm4 : (m : Int) < ((m + 1 : Nat) : Int) := by omega
      have hm5 : ¬ ((m : Int) < 0) := by omega
      obtain ⟨hm6, hm7, hm8, hm9⟩ := wrap_smallK m hmm
      have hsz := hS.only.size
      have hbl := hX.lt
      have hgX : g ≠ w.heap.size := by omega
      have hXg : w.heap.size ≠ g := by omega
      have hgR : g ≠ R := by omega
      have HX := mkHid hX
      have HS := mkHid hS
      have HL := mkHid hLd
      have HC0 := mkHid hC0
      have HC1 := mkHid hC1
      rw [← hm]
      have hlt : l.tail.length ≤ l.length := by simp
      have HSR : Hid (∀ w2, OnlyAt R w' w2 → Rk w2 R B l.tail → KSt w R B w2 l.tail (.slice (some ⟨g, 0, none⟩) (rest.length + 1) cp) (x :: rest) ∧ BoxK w w2 kk0 n0 s0 la0 ln0 lc0 fa0 fn0 fc0) := by
        intro w2 o2 r2
        exact ⟨HS.out.step (Chg.of_only o2) hRl r2, HX.out.only o2 hneX⟩
      obtain ⟨c, hc⟩ : ∃ c, c = oneR l := ⟨_, rfl⟩
      have hcc : (c = 0 ∧ ∃ t, l = 0 :: t) ∨ (c = 1 ∧ ∃ t, l = 1 :: t) ∨ (¬ (c = 0 ∨ c = 1) ∧ stepK (.next (x.fr :: rest.map Opn.fr) l) = .done none) := by rw [hc]; exact next_cases l x.fr (rest.map Opn.fr)
      rw [← hc] at HK
      clear hS hX hLd hC0 hC1 hm hc
      rcases hcc with ⟨rfl, t, rfl⟩ | ⟨rfl, t, rfl⟩ | ⟨hno, hst⟩
      · obtain ⟨kd, hkd⟩ : ∃ kd, kd = x.kind := ⟨_, rfl⟩
        obtain ⟨la, ln, lc, fa, fn, fc, hxl, hxf⟩ := x.slices
        simp only [List.length_cons, List.tail_cons] at hlt hlen HSR HK ⊢
        have HQ7 : Hid (∀ w2, OnlyAt R w' w2 → Rk w2 R B t → (w2.drew.cell? ⟨g, m * 6, none⟩ = some (.int .i64 kd) ∧ w2.drew.cell? ⟨g, m * 6 + 1, none⟩ = some (.int .i64 0) ∧ w2.drew.cell? ⟨g, m * 6 + 2, none⟩ = some (.string ⟨#[]⟩) ∧ w2.drew.cell? ⟨g, m * 6 + 3, none⟩ = some (.slice la ln lc) ∧ w2.drew.cell? ⟨g, m * 6 + 4, none⟩ = some (.slice fa fn fc))) := by
          intro w2 o2 r2
          have h := (HSR.out w2 o2 r2).1.stk.top5
          rw [hxl, hxf, ← hkd, ← HM.out] at h
          exact h
        have HEND : Hid (∀ w2 W3, OnlyAt R w' w2 → Rk w2 R B t → W3 = (((((w2.setCell ⟨w.heap.size, 0, none⟩ (.int .i64 kd)).setCell ⟨w.heap.size, 1, none⟩ (.int .i64 0)).setCell ⟨w.heap.size, 2, none⟩ (.string ⟨#[]⟩)).setCell ⟨w.heap.size, 3, none⟩ (.slice la ln lc)).setCell ⟨w.heap.size, 4, none⟩ (.slice fa fn fc)).drew → KSt w R B W3 t (.slice (some ⟨g, 0, none⟩) rest.length cp) rest ∧ BoxK w W3 kd 0 ⟨#[]⟩ la ln lc fa fn fc ∧ Off (hid (w.heap.size + 1) (.slice (some ⟨g, 0, none⟩) rest.length cp) rest) W3 (partsG x.doc x.parts) (.agg #[.int .i64 kd, .int .i64 0, .string ⟨#[]⟩, .slice la ln lc, .slice fa fn fc])) := by
          intro w2 W3 o2 r2 hW3
          obtain ⟨hS2, hX2⟩ := HSR.out w2 o2 r2
          have hCH : Chg (fun k => k = R ∨ k = w.heap.size) w2 W3 := by
            rw [hW3]
            exact ((((((Chg.refl _ w2).box _ _).box _ _).box _ _).box _ _).box _ _).drew
          refine ⟨hS2.pop.step hCH hRl ?_, ?_, ?_⟩
          · rw [hW3]
            exact (((((r2.other hBX _).other hBX _).other hBX _).other hBX _).other hBX _).drew
          · rw [hW3]
            exact Blk5.drew (((((Blk5.set0 hX2).set1).set2).set3).set4)
          · have h := hS2.stk.close (m := rest.length) (hS2.trees x (by simp))
            have e : x.val = .agg #[.int .i64 kd, .int .i64 0, .string ⟨#[]⟩, .slice la ln lc, .slice fa fn fc] := by
              unfold Opn.val
              rw [hxl, hxf, hkd]
            rw [e] at h
            refine h.keep fun k hk hp => ⟨hp, hCH.block k hk ?_⟩
            have := (hid_false.1 hp).1
            rintro (e | e) <;> omega
        clear hkd hxl hxf
        go_wp2_with fail
        refine HK.out.mono ?_
        rintro e w2 ⟨rfl, r2, o2⟩
        obtain ⟨d0, d1, d2, d3, d4⟩ := Blk5.cells (HSR.out w2 o2 r2).2
        obtain ⟨f0, f1, f2, f3, f4⟩ := Blk5.free (HSR.out w2 o2 r2).2
        have hS0 := HQ7.out w2 o2 r2
        obtain ⟨W3, hW3⟩ : ∃ W3, W3 = (((((w2.setCell ⟨w.heap.size, 0, none⟩ (.int .i64 kd)).setCell ⟨w.heap.size, 1, none⟩ (.int .i64 0)).setCell ⟨w.heap.size, 2, none⟩ (.string ⟨#[]⟩)).setCell ⟨w.heap.size, 3, none⟩ (.slice la ln lc)).setCell ⟨w.heap.size, 4, none⟩ (.slice fa fn fc)).drew := ⟨_, rfl⟩
        have HE3 := mkHid (HEND.out w2 W3 o2 r2 hW3)
        have e3 : ∀ q, W3.cell? ⟨g, q, none⟩ = w2.cell? ⟨g, q, none⟩ := by
          intro q
          rw [hW3]
          show World.cell? (World.setCell _ _ _) _ = _
          rw [cell_setCell_other hgX, cell_setCell_other hgX, cell_setCell_other hgX, cell_setCell_other hgX, cell_setCell_other hgX]
        have hS1 : W3.cell? ⟨g, m * 6, none⟩ = some (.int .i64 kd) ∧ W3.cell? ⟨g, m * 6 + 1, none⟩ = some (.int .i64 0) ∧ W3.cell? ⟨g, m * 6 + 2, none⟩ = some (.string ⟨#[]⟩) ∧ W3.cell? ⟨g, m * 6 + 3, none⟩ = some (.slice la ln lc) ∧ W3.cell? ⟨g, m * 6 + 4, none⟩ = some (.slice fa fn fc) := by
          rw [e3, e3, e3, e3, e3]
          exact hS0
        have HW3 := mkHid hW3
        rw [hW3] at hS1
        clear o2 r2 e3 hW3
        go_wp2_with fail
        go_region_held3 (fun v6 => v6.cell? ⟨g, m * 6, none⟩ = some (.int .i64 kd) ∧ v6.cell? ⟨g, m * 6 + 1, none⟩ = some (.int .i64 0) ∧ v6.cell? ⟨g, m * 6 + 2, none⟩ = some (.string ⟨#[]⟩) ∧ v6.cell? ⟨g, m * 6 + 3, none⟩ = some (.slice la ln lc) ∧ v6.cell? ⟨g, m * 6 + 4, none⟩ = some (.slice fa fn fc)) (first | with_reducible exact hS0 | with_reducible exact hS1) (fail)
        all_goals
          rw [← HW3.out]
          clear hS0 hS1
          go_wp2_with fail
          go_step3
          refine ⟨_, ?_, _, .slice (some ⟨g, 0, none⟩) m cp, rest, t, rfl, ⟨rfl, rfl, rfl, rfl⟩, by rw [HM.out]; exact HE3.out.1, fun _ => by omega, Or.inr (Or.inl ⟨rfl, rfl, fun z hz => by have := HC1.out z hz; simp only [List.length_cons] at this; omega, _, _, _, _, _, _, _, _, _, partsG x.doc x.parts, HE3.out.2.1, by rw [HM.out]; exact HE3.out.2.2, HL.out.step⟩)⟩
          · first | omega | (simp only [List.length_cons]; omega)
      · simp only [List.length_cons, List.tail_cons] at hlt hlen HSR HK ⊢
        cases hdoc : x.doc with
        | false =>
          have HKD : Hid (∀ w2, OnlyAt R w' w2 → Rk w2 R B t → w2.cell? ⟨g, m * 6, none⟩ = some (.int .i64 5)) := by
            intro w2 o2 r2
            have h := (HSR.out w2 o2 r2).1.stk.top.1
            rw [← HM.out, Opn.kind, hdoc] at h
            exact h
          have HST : Hid (stepK (.next (x.fr :: rest.map Opn.fr) (1 :: t)) = .kind (x.fr :: rest.map Opn.fr) t) := by
            show nextK x.fr _ 1 t = _
            unfold nextK
            rw [if_neg (by decide), if_pos rfl, if_neg (by show ¬ x.doc = true; rw [hdoc]; decide)]
          clear hdoc
          go_wp2_with fail
          refine HK.out.mono ?_
          rintro e w2 ⟨rfl, r2, o2⟩
          have ck := HKD.out w2 o2 r2
          have HS2 := mkHid (HSR.out w2 o2 r2)
          clear o2 r2
          go_wp2_with fail
          go_step3
          refine ⟨_, ?_, _, .slice (some ⟨g, 0, none⟩) (m + 1) cp, x :: rest, t, rfl, ⟨rfl, rfl, rfl, rfl⟩, by rw [HM.out]; exact HS2.out.1, fun _ => by simp only [List.length_cons]; omega, Or.inl ⟨rfl, rfl, ?_, ⟨_, _, _, _, _, _, _, _, _, (by first | exact HBX.out | exact HS2.out.2)⟩, ?_⟩⟩
          · first | omega | (simp only [List.length_cons]; omega)
          · intro z hz
            simp at hz
            rcases hz with rfl | hz
            · have := HC0.out z (by simp)
              simp only [List.length_cons] at this
              omega
            · have := HC1.out z hz
              simp only [List.length_cons] at this
              omega
          · have := HL.out.step
            rw [List.map_cons, HST.out] at this
            exact this
        | true =>
          have HKD : Hid (∀ w2, OnlyAt R w' w2 → Rk w2 R B t → w2.cell? ⟨g, m * 6, none⟩ = some (.int .i64 6)) := by
            intro w2 o2 r2
            have h := (HSR.out w2 o2 r2).1.stk.top.1
            rw [← HM.out, Opn.kind, hdoc] at h
            exact h
          have HST : Hid (stepK (.next (x.fr :: rest.map Opn.fr) (1 :: t)) = match lettersR t with | none => .done none | some q => .kind (⟨true, q.1, x.parts⟩ :: rest.map Opn.fr) q.2) := by
            show nextK x.fr _ 1 t = _
            unfold nextK
            rw [if_neg (by decide), if_pos rfl, if_pos (by show x.doc = true; exact hdoc)]
            rfl
          have HDOC := mkHid hdoc
          clear hdoc
          go_wp2_with fail
          refine HK.out.mono ?_
          rintro e w2 ⟨rfl, r2, o2⟩
          have ck := HKD.out w2 o2 r2
          have hS2 := HSR.out w2 o2 r2
          have HS2 := mkHid hS2
          have hs2 := o2.size
          have HLT := mkHid (kletters_any R B t w2 r2 (by omega) (by omega))
          unfold LetSay at HLT
          clear o2 r2 hS2
          cases hr : lettersR t with
          | none =>
            rw [hr] at HLT HST
            clear hr
            go_wp2_with fail
            refine HLT.out.mono ?_
            rintro e w3 ⟨o3, rfl, l3, r3⟩
            have hS3 := HS2.out.1.step (Chg.of_only o3) hRl r3
            have hX3 := HS2.out.2.only o3 hneX
            obtain ⟨_, cn, fz⟩ := hS3.stk.top
            rw [← HM.out] at cn fz
            have HW := mkHid (hS3.name (nm := []) hB (by simp))
            have HBX := mkHid (Blk5.other (g := g) (i := m * 6 + 5) (u := .string ⟨#[]⟩) hX3 hXg)
            clear o3 r3 hS3 hX3
            go_wp2_with fail
            go_step3
            refine ⟨0, by omega, _, .slice (some ⟨g, 0, none⟩) (m + 1) cp, _ :: rest, l3, rfl, ⟨rfl, rfl, rfl, rfl⟩, by rw [HM.out]; exact HW.out, fun h => absurd rfl h, Or.inr (Or.inr (Or.inr (Or.inr (Or.inr (Or.inr (Or.inl ⟨rfl, rfl, ⟨_, _, _, _, _, _, _, _, _, HBX.out⟩, ?_⟩))))))⟩
            have := HL.out.step
            rw [List.map_cons, HST.out] at this
            exact this
          | some q =>
            rw [hr] at HLT HST
            have hq := letters_inv t q.1 q.2 hr
            have hql : q.1.length + q.2.length + 2 ≤ t.length := by
              have := lettersK_ge q.1
              rw [hq, List.length_append]
              omega
            clear hr hq
            go_wp2_with fail
            refine HLT.out.mono ?_
            rintro e w3 ⟨o3, rfl, r3⟩
            have hS3 := HS2.out.1.step (Chg.of_only o3) hRl r3
            have hX3 := HS2.out.2.only o3 hneX
            obtain ⟨_, cn, fz⟩ := hS3.stk.top
            rw [← HM.out] at cn fz
            have HW := mkHid (hS3.name (nm := q.1) hB (by omega))
            have HBX := mkHid (Blk5.other (g := g) (i := m * 6 + 5) (u := .string ⟨q.1.toArray⟩) hX3 hXg)
            clear o3 r3 hS3 hX3
            go_wp2_with fail
            go_step3
            refine ⟨_, ?_, _, .slice (some ⟨g, 0, none⟩) (m + 1) cp, _ :: rest, q.2, rfl, ⟨rfl, rfl, rfl, rfl⟩, by rw [HM.out]; exact HW.out, fun _ => by simp only [List.length_cons]; omega, Or.inl ⟨rfl, rfl, ?_, ⟨_, _, _, _, _, _, _, _, _, (by first | exact HBX.out | exact HS2.out.2)⟩, ?_⟩⟩
            · first | omega | (simp only [List.length_cons]; omega)
            · intro z hz
              simp at hz
              rcases hz with rfl | hz
              · have := HC0.out x (by simp)
                simp only [List.length_cons] at this
                show x.fs.length + _ + _ ≤ _
                omega
              · have := HC1.out z hz
                simp only [List.length_cons] at this
                omega
            · have := HL.out.step
              rw [List.map_cons, HST.out] at this
              have e : Opn.fr { x with nm := q.1 } = ⟨true, q.1, x.parts⟩ := by
                unfold Opn.fr
                rw [HDOC.out]
              rw [List.map_cons, e]
              exact this
      · have k0 : (c == 0) = false := by simp; omega
        have k1 : (c == 1) = false := by simp; omega
        have HST := mkHid hst
        clear hno hst
        go_wp2_with fail
        refine HK.out.mono ?_
        rintro e w2 ⟨rfl, r2, o2⟩
        have HS2 := mkHid (HSR.out w2 o2 r2)
        clear o2 r2
        go_wp2_with fail
        go_step3
        refine ⟨0, by omega, _, .slice (some ⟨g, 0, none⟩) (m + 1) cp, x :: rest, l.tail, rfl, ⟨rfl, rfl, rfl, rfl⟩, by rw [HM.out]; exact HS2.out.1, fun h => absurd rfl h, Or.inr (Or.inr (Or.inr (Or.inr (Or.inr (Or.inr (Or.inl ⟨rfl, rfl, ⟨_, _, _, _, _, _, _, _, _, HS2.out.2⟩, ?_⟩))))))⟩
        have := HL.out.step
        rw [List.map_cons, HST.out] at this
        exact this
  · intro pass
    have HPA := mkHid pass
    clear pass
    have hbx := (RowKit.Below.refl w.heap.size w).alloc (Nat.le_refl _) (.cells #[.int .i64 0, .int .i64 0, .string ⟨#[]⟩, .slice none 0 0, .slice none 0 0] 25)
    have HS0 : Hid (KSt w R B (w.alloc (.cells #[.int .i64 0, .int .i64 0, .string ⟨#[]⟩, .slice none 0 0, .slice none 0 0] 25)) l0 (.slice none 0 0) []) := ⟨OnlyAt.of_below hbx, HR.out.keep fun k hk _ => hbx.block k hk, ⟨⟨rfl, Or.inl ⟨rfl, rfl⟩⟩, fun x hx => absurd hx (by simp), List.Pairwise.nil⟩, fun x hx => absurd hx (by simp), fun x hx => absurd hx (by simp)⟩
    have HBX : Hid (BoxK w (w.alloc (.cells #[.int .i64 0, .int .i64 0, .string ⟨#[]⟩, .slice none 0 0, .slice none 0 0] 25)) 0 0 ⟨#[]⟩ none 0 0 none 0 0) := Blk5.new w _ _ _ _ _
    clear hbx
    go_wp2_with fail
    rename_i hK
    go_step3
    refine hK _ _ ?_
    refine use_first (lb := 0) (k := l0.length * 10 + 1) HPA.out rfl ?_
    exact ⟨_, .slice none 0 0, [], l0, rfl, ⟨rfl, rfl, rfl, rfl⟩, HS0.out, fun _ => by simp, Or.inl ⟨rfl, rfl, fun x hx => absurd hx (by simp), ⟨_, _, _, _, _, _, _, _, _, HBX.out⟩, Leads.refl _⟩⟩
end Go.Proofs.Yticbcoklpgfkhaa
