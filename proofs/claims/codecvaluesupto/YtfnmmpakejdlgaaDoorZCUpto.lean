/- valueUpTo of any bytes. (Written by mkupto.py.) -/
import Derived.Test.YtfnmmpakejdlgaaDoorZCUpto0
import Derived.Test.YtfnmmpakejdlgaaDoorK16
import Derived.RegionDies
namespace Go.Proofs.YtfnmmpakejdlgaaDoor
open Go.RowKit

/-- The value's box. -/
def Box5 (w w' : World) (k n : Int) (s : ByteArray) (la : Option Addr) (ln lc : Nat) (fa : Option Addr) (fn fc : Nat) : Prop := Blk5 w' (w.heap.size + 1) (.int .i64 k) (.int .i64 n) (.string s) (.slice la ln lc) (.slice fa fn fc)
def mu (l : List UInt8) (p d wt : Nat) : Nat := (l.length - p) * 100 + d * 10 + wt
/-- What holds at each label. -/
def Jst (w : World) (R b o c : Nat) (l : List UInt8) (lim : Int) (p0 : Nat) (fin : GV × Nat × Int) (lb k : Nat) (a' : Act) (w' : World) : Prop :=
  ∃ (t : Array Value) (p : Nat) (wv : Value) (st : List Opn), a' = { tmps := t, defers := [] } ∧ Frm w R lim wv t ∧ St w R b o c l lim p0 w' p wv st ∧
    ((lb = 0 ∧ k = mu l p st.length 1 ∧ Cnt p0 p 0 st ∧ (∃ kk n s la ln lc fa fn fc, Box5 w w' kk n s la ln lc fa fn fc) ∧ fin = unwind l st (takeR l (8 - st.length) p)) ∨
     (lb = 1 ∧ k = mu l p st.length 4 ∧ Cnt p0 p 1 st ∧ p0 < p ∧ (∃ kk n s la ln lc fa fn fc g, Box5 w w' kk n s la ln lc fa fn fc ∧ ((p : Int) ≤ lim → Off (hid (w.heap.size + 2) wv st) w' g (.agg #[.int .i64 kk, .int .i64 n, .string s, .slice la ln lc, .slice fa fn fc])) ∧ fin = unwind l st (g, p, 0))) ∨
     (lb = 2 ∧ k = mu l p st.length 9 ∧ Cnt p0 p 1 st ∧ p0 < p ∧ Box5 w w' 2 0 ⟨#[]⟩ none 0 0 none 0 0 ∧ fin = unwind l st (boolR l p)) ∨
     (lb = 3 ∧ k = mu l p st.length 9 ∧ Cnt p0 p 1 st ∧ p0 < p ∧ Box5 w w' 3 0 ⟨#[]⟩ none 0 0 none 0 0 ∧ fin = unwind l st (intR l p)) ∨
     (lb = 4 ∧ k = mu l p st.length 9 ∧ Cnt p0 p 1 st ∧ p0 < p ∧ Box5 w w' 4 0 ⟨#[]⟩ none 0 0 none 0 0 ∧ fin = unwind l st (txtR l p)) ∨
     (lb = 5 ∧ k = mu l p st.length 9 ∧ Cnt p0 p 1 st ∧ p0 < p ∧ (∃ doc : Bool, Box5 w w' (if doc = true then 6 else 5) 0 ⟨#[]⟩ none 0 0 none 0 0 ∧ fin = unwind l st (if st.length = 8 then (.nil, 0, 3) else begR (takeR l (8 - (st.length + 1))) l p doc))) ∨
     (lb = 6 ∧ k = mu l p st.length 3 ∧ (∃ kk n s la ln lc fa fn fc, Box5 w w' kk n s la ln lc fa fn fc) ∧ ∃ x rest, st = x :: rest ∧ Cnt p0 p 0 [x] ∧ Cnt p0 p 1 rest ∧ p0 < p ∧ fin = unwind l rest (closeR x.doc (partsR (takeR l (8 - (rest.length + 1))) l x.doc x.left p x.parts x.nm))) ∨
     (lb = 7 ∧ k = mu l p st.length 2 ∧ (∃ kk n s la ln lc fa fn fc, Box5 w w' kk n s la ln lc fa fn fc) ∧ ∃ x rest g cp, st = x :: rest ∧ wv = .slice (some ⟨g, 0, none⟩) (rest.length + 1) cp ∧ t[7]? = some (.pointer (some ⟨g, rest.length * 7, none⟩)) ∧ Cnt p0 p 1 rest ∧ p0 < p ∧ x.left = 0 ∧ fin = unwind l rest (partsG x.doc x.parts, p, 0)))

/-- What valueUpTo tells. -/
def UpSay (w : World) (R b o c : Nat) (l : List UInt8) (lim : Int) (p0 : Nat) (fin : GV × Nat × Int) (e : Ending) (w' : World) : Prop :=
  OnlyAt R w w' ∧ ((fin.2.2 = 0 ∧ ∃ kk n s la ln lc fa fn fc, e = .returned (.agg #[.int .i64 kk, .int .i64 n, .string s, .slice la ln lc, .slice fa fn fc]) ∧ Rd w' R (some ⟨b, o, none⟩) l.length c fin.2.1 ∧ fin.2.1 ≤ l.length ∧ p0 < fin.2.1 ∧ ((fin.2.1 : Int) ≤ lim → From w.heap.size w' fin.1 (.agg #[.int .i64 kk, .int .i64 n, .string s, .slice la ln lc, .slice fa fn fc]))) ∨ (fin.2.2 ≠ 0 ∧ e = .panicked (thr fin.2.2)))

theorem lies_plain {w : World} {k n : Int} {s : ByteArray} (hk : Int64 k) (hn : Int64 n) (hs : s.size ≤ 140737488355328) : Lies w (.mk k n s 0 (fun _ => .nil) 0 (fun _ => ⟨#[]⟩) (fun _ => .nil)) (.agg #[.int .i64 k, .int .i64 n, .string s, .slice none 0 0, .slice none 0 0]) :=
  ⟨none, 0, none, 0, rfl, hk, hn, hs, Nat.le_refl _, by unfold maxLen; omega, Nat.le_refl _, by unfold maxLen; omega, fun i hi => absurd hi (Nat.not_lt_zero _), fun i hi => absurd hi (Nat.not_lt_zero _)⟩
theorem Cnt.up {p0 p k q j : Nat} {st : List Opn} (h : Cnt p0 p k st) (hq : p + j ≤ q + k) : Cnt p0 q j st := fun x hx => by have := h x hx; omega
set_option maxHeartbeats 40000000 in
set_option maxRecDepth 1000000 in
theorem upto_any (R b o c p0 : Nat) (lim : Int) (l : List UInt8) (w : World) (hR : Rd w R (some ⟨b, o, none⟩) l.length c p0) (hB : Byts w (some ⟨b, o, none⟩) l) (hA : Apart R (some ⟨b, o, none⟩) l) (hp0 : p0 ≤ l.length) (hl : l.length ≤ 140737488355328) (hlc : l.length ≤ c) (hcm : c ≤ maxLen) (hT : Tabs w) (hR1 : 1 < R) (hlim : lim ≤ (p0 : Int) + 2048)
    (hAD : AddDoc) :
    Calls Tryd.prog 60 #[.pointer (some ⟨R, 0, none⟩), .int .i64 lim] w fun e w' => UpSay w R b o c l lim p0 (takeR l 8 p0) e w' := by
  have hml : maxLen = 9223372036854775807 := rfl
  have hRl := hR.lt
  obtain ⟨fin, hfin⟩ : ∃ fin, fin = takeR l 8 p0 := ⟨_, rfl⟩
  have HFIN := mkHid hfin
  rw [← hfin]
  obtain ⟨Q, hQ⟩ : ∃ Q : Ending → World → Prop, Q = fun e w' => UpSay w R b o c l lim p0 fin e w' := ⟨_, rfl⟩
  have HQE : Hid (∀ (e : Int) w', OnlyAt R w w' → e ≠ 0 → fin = (.nil, 0, e) → Q (.panicked (thr e)) w') := by
    intro e w' h1 h2 h3
    rw [hQ, h3]
    exact ⟨h1, Or.inr ⟨h2, rfl⟩⟩
  have HBO : Hid (∀ u, OnlyAt R w u → Byts u (some ⟨b, o, none⟩) l) := fun u hu => hB.only hu hA
  have HTO : Hid (∀ u, OnlyAt R w u → Tabs u) := fun u hu => hT.only hu hR1
  have HA := mkHid hA
  have HBW := mkHid hB
  have HR := mkHid hR
  have HQ := mkHid hQ
  have HAD := mkHid hAD
  have hneX : w.heap.size + 1 ≠ R := by omega
  have hneB : w.heap.size ≠ R := by omega
  have hRne : R ≠ w.heap.size := by omega
  have hRX : R ≠ w.heap.size + 1 := by omega
  rw [← hQ]
  clear hQ hR hB hA hT hfin hAD
  go_enter Tryd.func60, Tryd.ntmps60
  go_wp2_with fail
  refine wp_scope_ghost2 (Jst w R b o c l lim p0 fin) ?_ ?_
  · rintro k IH lb a' w' ⟨t, p, wv, st, rfl, hF, hS, hJ⟩
    rcases hJ with ⟨rfl, rfl, hC, hX, hfin⟩ | ⟨rfl, rfl, hC, hpp, hX⟩ | ⟨rfl, rfl, hC, hpp, hX, hfin⟩ | ⟨rfl, rfl, hC, hpp, hX, hfin⟩ | ⟨rfl, rfl, hC, hpp, hX, hfin⟩ | ⟨rfl, rfl, hC, hpp, doc, hX, hfin⟩ | ⟨rfl, rfl, hX, x, rest, rfl, hC0, hC1, hpp, hfin⟩ | ⟨rfl, rfl, hX, x, rest, g, cp, rfl, rfl, h7, hC1, hpp, hleft, hfin⟩
    · refine ⟨_, rfl, ?_⟩
      obtain ⟨u, rfl⟩ := frame113 t hF.size
      have e0 : u 0 = .pointer (some ⟨R, 0, none⟩) := by simpa using hF.s0
      have e1 : u 1 = .int .i64 lim := by simpa using hF.s1
      have e4 : u 4 = .pointer (some ⟨w.heap.size, 0, none⟩) := by simpa using hF.s4
      have e5 : u 5 = .pointer (some ⟨w.heap.size + 1, 0, none⟩) := by simpa using hF.s5
      have e6 : u 6 = wv := by simpa using hF.s6
      rw [e0, e1, e4, e5, e6]
      clear e0 e1 e4 e5 e6 hF
      have HS := mkHid hS
      have HC := mkHid hC
      have hple := hS.ple
      have hdep := hS.dep
      have HTK : Hid (fin = unwind l st (headR l p fun doc => if st.length = 8 then (.nil, 0, 3) else begR (takeR l (8 - (st.length + 1))) l (p + 1) doc)) := by
        show fin = _
        rw [hfin, takeR_eq l _ p]
        have e : (8 - st.length = 0) = (st.length = 8) := by apply propext; omega
        have e2 : 8 - st.length - 1 = 8 - (st.length + 1) := by omega
        simp only [e, e2]
      by_cases hend : p = l.length
      · have HE : Hid (Calls Tryd.prog 59 #[.pointer (some ⟨R, 0, none⟩)] w' fun e w2 => e = .panicked (thr 17) ∧ OnlyAt R w' w2) := one_end R _ c p l w' hS.rd hend (by omega)
        have HF0 : Hid (fin = (.nil, 0, 17)) := by
          show fin = _
          rw [HTK.out]
          have e : ∀ f, headR l p f = (.nil, 0, 17) := fun f => by unfold headR; rw [if_pos (by omega)]
          rw [e, unwind_err l 17 (by decide)]
        clear hS hfin hC hX hend
        go_wp2_with fail
        refine HE.out.mono ?_
        rintro e w2 ⟨rfl, o2⟩
        have O2 := mkHid (HS.out.only.trans o2)
        clear o2
        go_wp2_with fail
        exact jumps_panic ⟨rfl, HQE.out _ _ O2.out (by decide) HF0.out⟩
      · have hlt : p < l.length := by omega
        have hbd : (l[p]'hlt).toNat = byteN l p := by simp [byteN, hlt]
        have H1 : Hid (Calls Tryd.prog 59 #[.pointer (some ⟨R, 0, none⟩)] w' fun e w2 => e = .returned (.int .u8 (byteN l p : Int)) ∧ Rd w2 R (some ⟨b, o, none⟩) l.length c (p + 1) ∧ OnlyAt R w' w2) := by
          rw [← hbd]
          exact one_ok R _ c p l w' hS.rd (HBO.out w' hS.only) hlt (by omega)
        obtain ⟨x, hx⟩ : ∃ x, x = byteN l p := ⟨_, rfl⟩
        have hx2 : x < 256 := by rw [hx, byteN]; exact UInt8.toNat_lt _
        have HH : Hid (∀ f, headR l p f = if x = 1 then (gN, p + 1, 0) else if x = 2 then boolR l (p + 1) else if x = 3 then intR l (p + 1) else if x = 4 then txtR l (p + 1) else if x = 5 then f false else if x = 6 then f true else (.nil, 0, 4)) := by
          intro f
          unfold headR
          rw [if_neg (by omega), ← hx]
        rw [← hx] at H1
        obtain ⟨kk, n, s, la, ln, lc, fa, fn, fc, hX⟩ := hX
        have HX := mkHid hX
        clear hS hfin hC hX hend hbd hx
        go_wp2_with fail
        refine H1.out.mono ?_
        rintro e w2 ⟨rfl, r2, o2⟩
        have X2 := HX.out.only o2 hneX
        obtain ⟨c0, c1, c2, c3, c4⟩ := Blk5.cells X2
        obtain ⟨f0, f1, f2, f3, f4⟩ := Blk5.free X2
        have HX2 := mkHid X2
        have O2 := mkHid o2
        have R2 := mkHid r2
        clear X2 o2 r2
        obtain ⟨W3, hW3⟩ : ∃ W3, W3 = ((((w2.setCell ⟨w.heap.size + 1, 0, none⟩ (.int .i64 x)).setCell ⟨w.heap.size + 1, 1, none⟩ (.int .i64 0)).setCell ⟨w.heap.size + 1, 2, none⟩ (.string ⟨#[]⟩)).setCell ⟨w.heap.size + 1, 3, none⟩ (.slice none 0 0)).setCell ⟨w.heap.size + 1, 4, none⟩ (.slice none 0 0) := ⟨_, rfl⟩
        have HW : Hid (St w R b o c l lim p0 W3 (p + 1) wv st) := by
          rw [hW3]
          exact HS.out.step hRl ((((((Chg.of_only O2.out).box _ _).box _ _).box _ _).box _ _).box _ _) (((((R2.out.other hRX).other hRX).other hRX).other hRX).other hRX) (by omega) (by omega)
        have HBX : Hid (Box5 w W3 x 0 ⟨#[]⟩ none 0 0 none 0 0) := by
          rw [hW3]
          exact ((((HX2.out.set0).set1).set2).set3).set4
        have HO3 : Hid (OnlyAt R w W3) := HW.out.only
        have HW3 := mkHid hW3
        clear hW3
        have HC1 : Hid (Cnt p0 (p + 1) 1 st) := HC.out.up (by omega)
        have hpg := HS.out.pge
        by_cases h1 : x = 1
        · have k1 : ((x : Int) == 1) = true := by simp; omega
          have HR9 : Hid (∀ f, headR l p f = (gN, p + 1, 0)) := by
            intro f
            rw [HH.out f, if_pos h1]
          have HXK : Hid ((x : Int) = 1) := by show (x : Int) = 1; omega
          clear h1
          go_wp2_with fail
          go_step3
          rw [← HW3.out]
          refine ⟨_, ?_, _, p + 1, wv, st, rfl, ⟨rfl, rfl, rfl, rfl, rfl, rfl⟩, HW.out, Or.inr (Or.inl ⟨rfl, rfl, HC1.out, by omega, _, _, _, _, _, _, _, _, _, gN, HBX.out, fun _ => ?_, ?_⟩)⟩
          · unfold mu
            omega
          · rw [HXK.out]
            exact lies_plain (by unfold Int64; omega) (by unfold Int64; omega) (Nat.zero_le _)
          · rw [HTK.out, HR9.out]
        by_cases h2 : x = 2
        · have k2 : ((x : Int) == 2) = true := by simp; omega
          have k1 : ((x : Int) == 1) = false := by simp; omega
          have HR9 : Hid (∀ f, headR l p f = boolR l (p + 1)) := by
            intro f
            rw [HH.out f, if_neg h1, if_pos h2]
          have HXK : Hid ((x : Int) = 2) := by show (x : Int) = 2; omega
          clear h1 h2
          go_wp2_with fail
          go_step3
          rw [← HW3.out]
          refine ⟨_, ?_, _, p + 1, wv, st, rfl, ⟨rfl, rfl, rfl, rfl, rfl, rfl⟩, HW.out, Or.inr (Or.inr (Or.inl ⟨rfl, rfl, HC1.out, by omega, ?_, ?_⟩))⟩
          · unfold mu
            omega
          · rw [← HXK.out]
            exact HBX.out
          · rw [HTK.out, HR9.out]
        by_cases h3 : x = 3
        · have k3 : ((x : Int) == 3) = true := by simp; omega
          have k1 : ((x : Int) == 1) = false := by simp; omega
          have k2 : ((x : Int) == 2) = false := by simp; omega
          have HR9 : Hid (∀ f, headR l p f = intR l (p + 1)) := by
            intro f
            rw [HH.out f, if_neg h1, if_neg h2, if_pos h3]
          have HXK : Hid ((x : Int) = 3) := by show (x : Int) = 3; omega
          clear h1 h2 h3
          go_wp2_with fail
          go_step3
          rw [← HW3.out]
          refine ⟨_, ?_, _, p + 1, wv, st, rfl, ⟨rfl, rfl, rfl, rfl, rfl, rfl⟩, HW.out, Or.inr (Or.inr (Or.inr (Or.inl ⟨rfl, rfl, HC1.out, by omega, ?_, ?_⟩)))⟩
          · unfold mu
            omega
          · rw [← HXK.out]
            exact HBX.out
          · rw [HTK.out, HR9.out]
        by_cases h4 : x = 4
        · have k4 : ((x : Int) == 4) = true := by simp; omega
          have k1 : ((x : Int) == 1) = false := by simp; omega
          have k2 : ((x : Int) == 2) = false := by simp; omega
          have k3 : ((x : Int) == 3) = false := by simp; omega
          have HR9 : Hid (∀ f, headR l p f = txtR l (p + 1)) := by
            intro f
            rw [HH.out f, if_neg h1, if_neg h2, if_neg h3, if_pos h4]
          have HXK : Hid ((x : Int) = 4) := by show (x : Int) = 4; omega
          clear h1 h2 h3 h4
          go_wp2_with fail
          go_step3
          rw [← HW3.out]
          refine ⟨_, ?_, _, p + 1, wv, st, rfl, ⟨rfl, rfl, rfl, rfl, rfl, rfl⟩, HW.out, Or.inr (Or.inr (Or.inr (Or.inr (Or.inl ⟨rfl, rfl, HC1.out, by omega, ?_, ?_⟩))))⟩
          · unfold mu
            omega
          · rw [← HXK.out]
            exact HBX.out
          · rw [HTK.out, HR9.out]
        by_cases h5 : x = 5
        · have k5 : ((x : Int) == 5) = true := by simp; omega
          have k1 : ((x : Int) == 1) = false := by simp; omega
          have k2 : ((x : Int) == 2) = false := by simp; omega
          have k3 : ((x : Int) == 3) = false := by simp; omega
          have k4 : ((x : Int) == 4) = false := by simp; omega
          have k6 : ((x : Int) == 6) = false := by simp; omega
          have HR9 : Hid (∀ f, headR l p f = f false) := by
            intro f
            rw [HH.out f, if_neg h1, if_neg h2, if_neg h3, if_neg h4, if_pos h5]
          have HXK : Hid ((x : Int) = 5) := by show (x : Int) = 5; omega
          clear h1 h2 h3 h4 h5
          go_wp2_with fail
          go_step3
          rw [← HW3.out]
          refine ⟨_, ?_, _, p + 1, wv, st, rfl, ⟨rfl, rfl, rfl, rfl, rfl, rfl⟩, HW.out, Or.inr (Or.inr (Or.inr (Or.inr (Or.inr (Or.inl ⟨rfl, rfl, HC1.out, by omega, false, ?_, ?_⟩)))))⟩
          · unfold mu
            omega
          · show Box5 w W3 5 0 ⟨#[]⟩ none 0 0 none 0 0
            rw [← HXK.out]
            exact HBX.out
          · rw [HTK.out, HR9.out]
        by_cases h6 : x = 6
        · have k6 : ((x : Int) == 6) = true := by simp; omega
          have k1 : ((x : Int) == 1) = false := by simp; omega
          have k2 : ((x : Int) == 2) = false := by simp; omega
          have k3 : ((x : Int) == 3) = false := by simp; omega
          have k4 : ((x : Int) == 4) = false := by simp; omega
          have k5 : ((x : Int) == 5) = false := by simp; omega
          have HR9 : Hid (∀ f, headR l p f = f true) := by
            intro f
            rw [HH.out f, if_neg h1, if_neg h2, if_neg h3, if_neg h4, if_neg h5, if_pos h6]
          have HXK : Hid ((x : Int) = 6) := by show (x : Int) = 6; omega
          clear h1 h2 h3 h4 h5 h6
          go_wp2_with fail
          go_step3
          rw [← HW3.out]
          refine ⟨_, ?_, _, p + 1, wv, st, rfl, ⟨rfl, rfl, rfl, rfl, rfl, rfl⟩, HW.out, Or.inr (Or.inr (Or.inr (Or.inr (Or.inr (Or.inl ⟨rfl, rfl, HC1.out, by omega, true, ?_, ?_⟩)))))⟩
          · unfold mu
            omega
          · show Box5 w W3 6 0 ⟨#[]⟩ none 0 0 none 0 0
            rw [← HXK.out]
            exact HBX.out
          · rw [HTK.out, HR9.out]
        have HR9 : Hid (∀ f, headR l p f = (.nil, 0, 4)) := by
          intro f
          rw [HH.out f, if_neg h1, if_neg h2, if_neg h3, if_neg h4, if_neg h5, if_neg h6]
        have k1 : ((x : Int) == 1) = false := by simp; omega
        have k2 : ((x : Int) == 2) = false := by simp; omega
        have k3 : ((x : Int) == 3) = false := by simp; omega
        have k4 : ((x : Int) == 4) = false := by simp; omega
        have k5 : ((x : Int) == 5) = false := by simp; omega
        have k6 : ((x : Int) == 6) = false := by simp; omega
        clear h1 h2 h3 h4 h5 h6
        go_wp2_with fail
        rw [← HW3.out]
        refine jumps_panic ⟨rfl, HQE.out _ _ HO3.out (by decide) ?_⟩
        rw [HTK.out, HR9.out, unwind_err l 4 (by decide)]
    · refine ⟨_, rfl, ?_⟩
      obtain ⟨kk, n, s, la, ln, lc, fa, fn, fc, gv, hX, hOf, hfin⟩ := hX
      have HS := mkHid hS
      have HX := mkHid hX
      have HOF := mkHid hOf
      have HFI := mkHid hfin
      have HC := mkHid hC
      have hple := hS.ple
      obtain ⟨c0, c1, c2, c3, c4⟩ := Blk5.cells hX
      obtain ⟨f0, f1, f2, f3, f4⟩ := Blk5.free hX
      cases st with
      | nil =>
        obtain ⟨aw, cw, rfl, _, _⟩ := own_nil hS.stk.own
        obtain ⟨u, rfl⟩ := frame113 t hF.size
        have e0 : u 0 = .pointer (some ⟨R, 0, none⟩) := by simpa using hF.s0
        have e1 : u 1 = .int .i64 lim := by simpa using hF.s1
        have e4 : u 4 = .pointer (some ⟨w.heap.size, 0, none⟩) := by simpa using hF.s4
        have e5 : u 5 = .pointer (some ⟨w.heap.size + 1, 0, none⟩) := by simpa using hF.s5
        have e6 : u 6 = .slice aw 0 cw := by simpa using hF.s6
        rw [e0, e1, e4, e5, e6]
        clear e0 e1 e4 e5 e6 hF
        obtain ⟨g0, g1, g2, g3, g4⟩ := hS.box4.free
        obtain ⟨j0, j1, j2, j3, j4⟩ := hS.box4.cells
        clear hS hX hOf hfin hC IH
        go_wp2_with fail
        refine jumps_ret (bodyPost_ret (v := .agg #[.int .i64 kk, .int .i64 n, .string s, .slice la ln lc, .slice fa fn fc]) ?_ rfl ?_)
        · have hres : Tryd.f60.results = #[.cell 4 29] := by kernel_rfl
          simp only [results, hres]
          go_simp
        · rw [HQ.out, HFI.out]
          refine ⟨?_, Or.inl ⟨rfl, kk, n, s, la, ln, lc, fa, fn, fc, rfl, ?_, hple, hpp, fun hlm => ?_⟩⟩
          · exact ((((HS.out.only.setNew (Nat.le_refl _) _).setNew (Nat.le_refl _) _).setNew (Nat.le_refl _) _).setNew (Nat.le_refl _) _).setNew (Nat.le_refl _) _
          · exact ((((HS.out.rd.other hRne).other hRne).other hRne).other hRne).other hRne
          · have h1 : From (w.heap.size + 2) w' gv (.agg #[.int .i64 kk, .int .i64 n, .string s, .slice la ln lc, .slice fa fn fc]) := off_from (HOF.out hlm)
            exact (((((h1.setCell (by omega) _).setCell (by omega) _).setCell (by omega) _).setCell (by omega) _).setCell (by omega) _).le (by omega)
      | cons x rest =>
        obtain ⟨g, cp, rfl, hgl, hgB⟩ := own_form (n := rest.length) hS.stk.own
        obtain ⟨m, hm⟩ : ∃ m, m = rest.length := ⟨_, rfl⟩
        obtain ⟨u, rfl⟩ := frame113 t hF.size
        have e0 : u 0 = .pointer (some ⟨R, 0, none⟩) := by simpa using hF.s0
        have e1 : u 1 = .int .i64 lim := by simpa using hF.s1
        have e4 : u 4 = .pointer (some ⟨w.heap.size, 0, none⟩) := by simpa using hF.s4
        have e5 : u 5 = .pointer (some ⟨w.heap.size + 1, 0, none⟩) := by simpa using hF.s5
        have e6 : u 6 = .slice (some ⟨g, 0, none⟩) (rest.length + 1) cp := by simpa using hF.s6
        rw [e0, e1, e4, e5, e6]
        clear e0 e1 e4 e5 e6 hF
        obtain ⟨r0, r1⟩ := hS.rd.cells
        rw [← hm]
        have HM := mkHid hm
        have hm1 : (m : Int) < (m : Int) + 1 := by omega
        have hmm : m ≤ 100 := by have := hS.dep; simp at this; omega
        have hm0 : (((m : Int) + 1) == 0) = false := by simp; omega
        have hm2 : (0 : Int) ≤ (m : Int) := by omega
        have hm3 : (m : Int) + 1 - 1 = (m : Int) := by omega
        have hm4 : (m : Int) < ((m + 1 : Nat) : Int) := by omega
        have hm5 : ¬ ((m : Int) < 0) := by omega
        obtain ⟨hm6, hm7, hm8, hm9⟩ := wrap_small m hmm
        have HFX : Hid (fin = unwind l rest (closeR x.doc (partsR (takeR l (8 - (rest.length + 1))) l x.doc x.left p (x.parts ++ [(⟨x.nm.toArray⟩, gv)]) x.nm))) := by
          show fin = _
          rw [hfin, unwind, if_neg (by simp)]
        have HC1 : Hid (Cnt p0 p 1 rest) := fun z hz => HC.out z (by simp [hz])
        by_cases hlm : (p : Int) ≤ lim
        · obtain ⟨cur, hcur, hk0, hk3, hk4, hk6⟩ := hS.stk.topRow
          obtain ⟨f, hf⟩ : ∃ f : Fl, f = ⟨⟨x.nm.toArray⟩, kk, n, s, la, ln, lc, fa, fn, fc, gv⟩ := ⟨_, rfl⟩
          have hnx := hS.nms x (by simp)
          have hrx := hS.stk.rows x (by simp)
          have hcx := HC.out x (by simp)
          have hltn : x.fs.length ≤ 1000000 := by omega
          have hneg : x.row.ownBlock ≠ some g := hS.stk.top_ne (x := x) (by simp) (k := g) rfl
          have hBl : w.heap.size + 2 ≤ w'.heap.size := by omega
          have HADD : Hid (∀ u : World, u.heap = w'.heap → Calls Tryd.prog 73 #[.pointer (some ⟨g, m * 7, none⟩), .agg #[.int .i64 kk, .int .i64 n, .string s, .slice la ln lc, .slice fa fn fc]] u fun e w2 => e = .returned (.tuple #[]) ∧ AddSay (w.heap.size + 2) g (rest.length * 7 + (if x.doc = true then 4 else 3)) x.fs.length x.ty x.width x.row cur (x.zs ++ (if x.doc = true then f.enc else f.val.cells.toList)) u w2) := by
            intro u hu
            have hcu : u.heap[g]? = some (.cells cur 102 (0, 0)) := by rw [hu]; exact hcur
            have hru : u.ownsRow (w.heap.size + 2) x.ty x.width x.row x.fs.length x.zs := own_keep hrx fun k _ => by rw [hu]
            have hus : w.heap.size + 2 ≤ u.heap.size := by rw [hu]; exact hBl
            rw [hm]
            unfold Opn.ty Opn.width at hru ⊢
            cases hdoc : x.doc with
            | false =>
              rw [hdoc] at hru
              simp only [Bool.false_eq_true, if_false] at hru ⊢
              have h := add_list (w.heap.size + 2) g (rest.length * 7) x.fs.length x.c x.a cur x.zs kk n s la ln lc fa fn fc u hcu (by rw [hk0, Opn.kind, hdoc]; rfl) (by rw [hk3, Opn.l, hdoc]; rfl) hru hneg hltn hus
              rw [hf]
              exact h
            | true =>
              rw [hdoc] at hru
              simp only [if_true] at hru ⊢
              have h := HAD.out (w.heap.size + 2) g (rest.length * 7) x.fs.length x.c x.a x.na x.nc x.nm cur x.zs kk n s la ln lc fa fn fc u hcu (by rw [hk0, Opn.kind, hdoc]; rfl) (by rw [hk4, Opn.f, hdoc]; rfl) hk6 (fun v hv => ?_) hgB hru hneg hltn hus
              · rw [hf]
                exact h
              · have h1 := hnx.1.only HS.out.only hnx.2.1
                intro i hi
                obtain ⟨b1, o1, e1, hc1⟩ := hnx.1 i hi
                refine ⟨b1, o1, e1, ?_⟩
                obtain ⟨b2, o2, e2, hc2⟩ := h1 i hi
                rw [e1] at e2
                cases e2
                have hb1 := cell_lt' hc1
                rw [World.cell?_of_block (a := ⟨b1, o1 + i, none⟩) (hv b1 (by omega)), World.cell?_of_block (a := ⟨b1, o1 + i, none⟩) (w := w') (by rw [hu])]
                exact hc2
          have HAS : Hid (∀ (u w2 : World), u.heap = w'.heap → u.os = w'.os → u.tape = w'.tape → u.output = w'.output → AddSay (w.heap.size + 2) g (rest.length * 7 + (if x.doc = true then 4 else 3)) x.fs.length x.ty x.width x.row cur (x.zs ++ (if x.doc = true then f.enc else f.val.cells.toList)) u w2 → AddSay (w.heap.size + 2) g (rest.length * 7 + (if x.doc = true then 4 else 3)) x.fs.length x.ty x.width x.row cur (x.zs ++ (if x.doc = true then f.enc else f.val.cells.toList)) w' w2) := by
            rintro u w2 hu h1 h2 h3 ⟨g2, c2, a1, a2, a3, a4⟩
            exact ⟨g2, c2, a1, a2, by rw [← hu]; exact a3, a4.os.trans h1, a4.tape.trans h2, a4.output.trans h3, by rw [← hu]; exact a4.size, fun k hk hn => by rw [← hu]; exact a4.block k (by rw [hu]; exact hk) hn⟩
          have HNX := mkHid hnx
          have HCUR := mkHid hcur
          have HF := mkHid hf
          have HLM := mkHid hlm
          clear hS hX hOf hfin hC IH hm hcur hk0 hk3 hk4 hk6 hnx hrx hcx hltn hneg hBl hf
          go_wp2_with fail
          have hS0 : w'.drew.cell? ⟨w.heap.size + 1, 0, none⟩ = some (.int .i64 kk) ∧ w'.drew.cell? ⟨w.heap.size + 1, 1, none⟩ = some (.int .i64 n) ∧ w'.drew.cell? ⟨w.heap.size + 1, 2, none⟩ = some (.string s) ∧ w'.drew.cell? ⟨w.heap.size + 1, 3, none⟩ = some (.slice la ln lc) ∧ w'.drew.cell? ⟨w.heap.size + 1, 4, none⟩ = some (.slice fa fn fc) := ⟨c0, c1, c2, c3, c4⟩
          go_region_held3 (fun u => u.cell? ⟨w.heap.size + 1, 0, none⟩ = some (.int .i64 kk) ∧ u.cell? ⟨w.heap.size + 1, 1, none⟩ = some (.int .i64 n) ∧ u.cell? ⟨w.heap.size + 1, 2, none⟩ = some (.string s) ∧ u.cell? ⟨w.heap.size + 1, 3, none⟩ = some (.slice la ln lc) ∧ u.cell? ⟨w.heap.size + 1, 4, none⟩ = some (.slice fa fn fc)) (first | with_reducible exact hS0 | with_reducible exact hS1) (first
            | (go_at_call 73; refine (HADD.out _ ?_).mono ?_; rfl; rintro e w2 ⟨rfl, hA⟩; obtain ⟨g2, c2', HW, hch⟩ := HS.out.add (f := f) hRl HLM.out HCUR.out (by rw [HF.out]; have := HNX.out.2.2; show x.nm.toArray.size ≤ _; simp; omega) (by rw [HF.out]; exact HOF.out HLM.out) (HAS.out w'.drew _ rfl rfl rfl rfl hA); have HX2 : Box5 w w2 kk n s la ln lc fa fn fc := Blk5.chg HX.out hch rfl; have hS1 := Blk5.cells HX2))
          all_goals
            have HW2 := mkHid HW
            have HBX := mkHid HX2
            clear HW HX2 hS0 hS1 hA hch
            go_wp2_with fail
            go_step3
            refine ⟨_, ?_, _, p, .slice (some ⟨g, 0, none⟩) (m + 1) cp, _ :: rest, rfl, ⟨rfl, rfl, rfl, rfl, rfl, rfl⟩, by rw [HM.out]; exact HW2.out, Or.inr (Or.inr (Or.inr (Or.inr (Or.inr (Or.inr (Or.inl ⟨rfl, rfl, ⟨_, _, _, _, _, _, _, _, _, HBX.out⟩, _, rest, rfl, ?_, HC1.out, hpp, ?_⟩))))))⟩
            · unfold mu
              simp
            · intro z hz
              simp at hz
              have := HC.out x (by simp)
              rw [hz]
              simp only [Opn.more, List.length_append, List.length_cons, List.length_nil]
              omega
            · rw [HFX.out, HF.out]
              rfl
        · have HC0 : Hid (Cnt p0 p 0 [{ x with parts := x.parts ++ [(⟨x.nm.toArray⟩, gv)] }]) := fun z hz => by
            simp at hz
            have := HC.out x (by simp)
            rw [hz]
            show x.fs.length + p0 + 0 ≤ p
            omega
          have HW : Hid (St w R b o c l lim p0 w' p (.slice (some ⟨g, 0, none⟩) (rest.length + 1) cp) ({ x with parts := x.parts ++ [(⟨x.nm.toArray⟩, gv)] } :: rest)) := hS.parts hlm _
          clear hS hX hOf hfin hC IH hm
          go_wp2_with fail
          go_step3
          refine ⟨_, ?_, _, p, .slice (some ⟨g, 0, none⟩) (m + 1) cp, { x with parts := x.parts ++ [(⟨x.nm.toArray⟩, gv)] } :: rest, rfl, ⟨rfl, rfl, rfl, rfl, rfl, rfl⟩, by rw [HM.out]; exact HW.out, Or.inr (Or.inr (Or.inr (Or.inr (Or.inr (Or.inr (Or.inl ⟨rfl, rfl, ⟨_, _, _, _, _, _, _, _, _, HX.out⟩, _, rest, rfl, HC0.out, HC1.out, hpp, HFX.out⟩))))))⟩
          unfold mu
          simp
    · refine ⟨_, rfl, ?_⟩
      obtain ⟨u, rfl⟩ := frame113 t hF.size
      have e0 : u 0 = .pointer (some ⟨R, 0, none⟩) := by simpa using hF.s0
      have e1 : u 1 = .int .i64 lim := by simpa using hF.s1
      have e4 : u 4 = .pointer (some ⟨w.heap.size, 0, none⟩) := by simpa using hF.s4
      have e5 : u 5 = .pointer (some ⟨w.heap.size + 1, 0, none⟩) := by simpa using hF.s5
      have e6 : u 6 = wv := by simpa using hF.s6
      rw [e0, e1, e4, e5, e6]
      clear e0 e1 e4 e5 e6 hF
      have HS := mkHid hS
      have HFI := mkHid hfin
      have HC := mkHid hC
      have hple := hS.ple
      by_cases hend : p = l.length
      · have HE : Hid (Calls Tryd.prog 59 #[.pointer (some ⟨R, 0, none⟩)] w' fun e w2 => e = .panicked (thr 17) ∧ OnlyAt R w' w2) := one_end R _ c p l w' hS.rd hend (by omega)
        have HF0 : Hid (fin = (.nil, 0, 17)) := by
          show fin = _
          rw [hfin]
          have e : boolR l p = (.nil, 0, 17) := by unfold boolR; rw [if_pos (by omega)]
          rw [e, unwind_err l 17 (by decide)]
        clear hS hfin hC hX hend
        go_wp2_with fail
        refine HE.out.mono ?_
        rintro e w2 ⟨rfl, o2⟩
        have O2 := mkHid (HS.out.only.trans o2)
        clear o2
        go_wp2_with fail
        exact jumps_panic ⟨rfl, HQE.out _ _ O2.out (by decide) HF0.out⟩
      · have hlt : p < l.length := by omega
        have hbd : (l[p]'hlt).toNat = byteN l p := by simp [byteN, hlt]
        have H1 : Hid (Calls Tryd.prog 59 #[.pointer (some ⟨R, 0, none⟩)] w' fun e w2 => e = .returned (.int .u8 (byteN l p : Int)) ∧ Rd w2 R (some ⟨b, o, none⟩) l.length c (p + 1) ∧ OnlyAt R w' w2) := by
          rw [← hbd]
          exact one_ok R _ c p l w' hS.rd (HBO.out w' hS.only) hlt (by omega)
        obtain ⟨x, hx⟩ : ∃ x, x = byteN l p := ⟨_, rfl⟩
        have hx2 : x < 256 := by rw [hx, byteN]; exact UInt8.toNat_lt _
        have HB1 : Hid (boolR l p = if 1 < x then (.nil, 0, 4) else (gB x, p + 1, 0)) := by
          show boolR l p = _
          unfold boolR
          rw [if_neg (by omega), ← hx]
        rw [← hx] at H1
        have HX := mkHid hX
        clear hS hfin hC hX hend hbd hx
        go_wp2_with fail
        refine H1.out.mono ?_
        rintro e w2 ⟨rfl, r2, o2⟩
        have X2 := HX.out.only o2 hneX
        obtain ⟨c0, c1, c2, c3, c4⟩ := Blk5.cells X2
        obtain ⟨f0, f1, f2, f3, f4⟩ := Blk5.free X2
        have HX2 := mkHid X2
        have O2 := mkHid o2
        have R2 := mkHid r2
        clear X2 o2 r2
        by_cases h1 : 1 < x
        · go_wp2_with fail
          refine jumps_panic ⟨rfl, HQE.out _ _ ?_ (by decide) ?_⟩
          · exact ((HS.out.only.trans O2.out).setNew (by omega) _)
          · rw [HFI.out, HB1.out, if_pos h1, unwind_err l 4 (by decide)]
        · have HW : Hid (St w R b o c l lim p0 (w2.setCell ⟨w.heap.size + 1, 1, none⟩ (.int .i64 x)) (p + 1) wv st) := HS.out.step hRl ((Chg.of_only O2.out).box _ _) (R2.out.other hRX) (by omega) (by omega)
          have HBX : Hid (Box5 w (w2.setCell ⟨w.heap.size + 1, 1, none⟩ (.int .i64 x)) 2 x ⟨#[]⟩ none 0 0 none 0 0) := Blk5.set1 HX2.out
          go_wp2_with fail
          go_step3
          refine ⟨_, ?_, _, p + 1, wv, st, rfl, ⟨rfl, rfl, rfl, rfl, rfl, rfl⟩, HW.out, Or.inr (Or.inl ⟨rfl, rfl, HC.out.up (by omega), by omega, _, _, _, _, _, _, _, _, _, gB x, HBX.out, fun _ => ?_, ?_⟩)⟩
          · unfold mu
            omega
          · exact lies_plain (by unfold Int64; omega) (by unfold Int64; omega) (Nat.zero_le _)
          · rw [HFI.out, HB1.out, if_neg h1]
    · refine ⟨_, rfl, ?_⟩
      obtain ⟨u, rfl⟩ := frame113 t hF.size
      have e0 : u 0 = .pointer (some ⟨R, 0, none⟩) := by simpa using hF.s0
      have e1 : u 1 = .int .i64 lim := by simpa using hF.s1
      have e4 : u 4 = .pointer (some ⟨w.heap.size, 0, none⟩) := by simpa using hF.s4
      have e5 : u 5 = .pointer (some ⟨w.heap.size + 1, 0, none⟩) := by simpa using hF.s5
      have e6 : u 6 = wv := by simpa using hF.s6
      rw [e0, e1, e4, e5, e6]
      clear e0 e1 e4 e5 e6 hF
      have HS := mkHid hS
      have HFI := mkHid hfin
      have HC := mkHid hC
      have HX := mkHid hX
      have hple := hS.ple
      obtain ⟨r, hr⟩ : ∃ r, r = numR (l.drop p) 0 0 := ⟨_, rfl⟩
      have HN : Hid (Calls Tryd.prog 40 #[.pointer (some ⟨R, 0, none⟩)] w' fun e w2 => OnlyAt R w' w2 ∧ ((r.2.2 = 0 ∧ e = .returned (.int .u64 (r.1 : Int)) ∧ Rd w2 R (some ⟨b, o, none⟩) l.length c (p + r.2.1) ∧ p + r.2.1 ≤ l.length) ∨ (r.2.2 ≠ 0 ∧ e = .panicked (thr r.2.2)))) := by
        rw [hr]
        exact number_any R _ c p l w' hS.rd (HBO.out w' hS.only) HA.out hple hl
      have HI : Hid (intR l p = if r.2.2 ≠ 0 then (.nil, 0, r.2.2) else (gI (unfR r.1), p + r.2.1, 0)) := by
        show intR l p = _
        rw [hr]
        rfl
      have hlt : r.1 < 18446744073709551616 := by rw [hr]; exact numR_lt _ _ _ (by omega)
      have HPOS : Hid (r.2.2 = 0 → 0 < r.2.1) := by
        rw [hr]
        exact numR_pos _ _ _
      clear hS hfin hC hX hr
      go_wp2_with fail
      refine HN.out.mono ?_
      rintro e w2 ⟨o2, ⟨h0, rfl, r2, hle⟩ | ⟨h0, rfl⟩⟩
      · have X2 := HX.out.only o2 hneX
        obtain ⟨c0, c1, c2, c3, c4⟩ := Blk5.cells X2
        obtain ⟨f0, f1, f2, f3, f4⟩ := Blk5.free X2
        have HX2 := mkHid X2
        have O2 := mkHid o2
        have R2 := mkHid r2
        have H0 := mkHid h0
        obtain ⟨m, hm⟩ : ∃ m, m = r.1 := ⟨_, rfl⟩
        obtain ⟨q, hq⟩ : ∃ q, q = p + r.2.1 := ⟨_, rfl⟩
        obtain ⟨um, hum⟩ : ∃ um, um = unfR m := ⟨_, rfl⟩
        rw [← hm] at hlt ⊢
        rw [← hq] at hle R2
        have hpq : p < q := by have := HPOS.out h0; omega
        have HI2 : Hid (intR l p = (gI um, q, 0)) := by
          show intR l p = _
          rw [HI.out, if_neg (by simpa using h0), hum, hm, hq]
        have hu64 : Int64 um := by rw [hum]; exact unfR_64 m hlt
        have HU : Hid (∀ u, Calls Tryd.prog 69 #[.int .u64 m] u fun e w' => e = .returned (.int .i64 um) ∧ w' = u) := by
          intro u
          rw [hum]
          exact unfolded_any m u hlt
        have HW : Hid (St w R b o c l lim p0 (w2.setCell ⟨w.heap.size + 1, 1, none⟩ (.int .i64 um)) q wv st) := HS.out.step hRl ((Chg.of_only O2.out).box _ _) (R2.out.other hRX) hle (by omega)
        have HBX : Hid (Box5 w (w2.setCell ⟨w.heap.size + 1, 1, none⟩ (.int .i64 um)) 3 um ⟨#[]⟩ none 0 0 none 0 0) := Blk5.set1 HX2.out
        clear X2 o2 r2 h0 hm hq hum
        go_wp2_with (first | (go_at_call 69; refine (HU.out _).mono ?_; rintro e w3 ⟨rfl, rfl⟩))
        go_step3
        refine ⟨_, ?_, _, q, wv, st, rfl, ⟨rfl, rfl, rfl, rfl, rfl, rfl⟩, HW.out, Or.inr (Or.inl ⟨rfl, rfl, HC.out.up (by omega), by omega, _, _, _, _, _, _, _, _, _, gI um, HBX.out, fun _ => ?_, ?_⟩)⟩
        · unfold mu
          omega
        · exact lies_plain (by unfold Int64; omega) hu64 (Nat.zero_le _)
        · rw [HFI.out, HI2.out]
      · have O2 := mkHid (HS.out.only.trans o2)
        have H0 := mkHid h0
        clear o2 h0
        go_wp2_with fail
        refine jumps_panic ⟨rfl, HQE.out _ _ O2.out H0.out ?_⟩
        rw [HFI.out, HI.out, if_pos H0.out, unwind_err l _ H0.out]
    · refine ⟨_, rfl, ?_⟩
      obtain ⟨u, rfl⟩ := frame113 t hF.size
      have e0 : u 0 = .pointer (some ⟨R, 0, none⟩) := by simpa using hF.s0
      have e1 : u 1 = .int .i64 lim := by simpa using hF.s1
      have e4 : u 4 = .pointer (some ⟨w.heap.size, 0, none⟩) := by simpa using hF.s4
      have e5 : u 5 = .pointer (some ⟨w.heap.size + 1, 0, none⟩) := by simpa using hF.s5
      have e6 : u 6 = wv := by simpa using hF.s6
      rw [e0, e1, e4, e5, e6]
      clear e0 e1 e4 e5 e6 hF
      have HS := mkHid hS
      have HFI := mkHid hfin
      have HC := mkHid hC
      have HX := mkHid hX
      have hple := hS.ple
      obtain ⟨r, hr⟩ : ∃ r, r = cntR (l.drop p) 0 2048 2 := ⟨_, rfl⟩
      have HN : Hid (Calls Tryd.prog 71 #[.pointer (some ⟨R, 0, none⟩), .int .u64 0, .int .u64 2048, .int .i64 2] w' fun e w2 => OnlyAt R w' w2 ∧ ((r.2.2 = 0 ∧ e = .returned (.int .i64 (r.1 : Int)) ∧ Rd w2 R (some ⟨b, o, none⟩) l.length c (p + r.2.1) ∧ p + r.2.1 ≤ l.length ∧ r.1 ≤ 2048) ∨ (r.2.2 ≠ 0 ∧ e = .panicked (thr r.2.2)))) := by
        rw [hr]
        exact count_any R _ c p 0 2048 2 l w' hS.rd (HBO.out w' hS.only) HA.out hple hl (by omega) (by decide)
      have HPOS : Hid (r.2.2 = 0 → 0 < r.2.1) := by
        rw [hr]
        exact fun h => (cntR_pos h (by decide)).1
      obtain ⟨p1, hp1⟩ : ∃ p1, p1 = p + r.2.1 := ⟨_, rfl⟩
      obtain ⟨m, hm⟩ : ∃ m, m = r.1 := ⟨_, rfl⟩
      obtain ⟨tr, htr⟩ : ∃ tr, tr = textR l p1 m := ⟨_, rfl⟩
      obtain ⟨nm, hnm⟩ : ∃ nm, nm = (l.drop p1).take m := ⟨_, rfl⟩
      have HI : Hid (txtR l p = if r.2.2 ≠ 0 then (.nil, 0, r.2.2) else if tr ≠ 0 then (.nil, 0, tr) else (gT ⟨nm.toArray⟩, p1 + m, 0)) := by
        show txtR l p = _
        rw [hnm, htr, hm, hp1, hr]
        rfl
      have HT : Hid (∀ u : World, OnlyAt R w u → Rd u R (some ⟨b, o, none⟩) l.length c p1 → p1 ≤ l.length → m ≤ 2048 → Calls Tryd.prog 70 #[.pointer (some ⟨R, 0, none⟩), .int .i64 m] u fun e w' => OnlyAt R u w' ∧ ((tr = 0 ∧ p1 + m ≤ l.length ∧ e = .returned (.slice (partAt b o c p1) m (c - p1)) ∧ Rd w' R (some ⟨b, o, none⟩) l.length c (p1 + m)) ∨ (tr ≠ 0 ∧ e = .panicked (thr tr)))) := by
        intro u hu hRu h1 h2
        rw [htr]
        exact text_any R b o c p1 m l u hRu (HBO.out u hu) HA.out h1 (by omega) hl hlc hcm (HTO.out u hu) hR1
      have HCV : Hid (∀ u : World, OnlyAt R w u → p1 + m ≤ l.length → (convert 22 9 (.slice (partAt b o c p1) m (c - p1))).run Tryd.prog u = .ok (.string ⟨nm.toArray⟩) u) := by
        intro u hu h1
        have hlen : nm.length = m := by rw [hnm]; simp; omega
        have h := byts_string (c := c - p1) (a := partAt b o c p1) (t := nm) (w := u) (by rw [hnm]; exact byts_partAt (HBO.out u hu) h1 hlc)
        rw [hlen] at h
        exact h
      have HNL : Hid (p1 + m ≤ l.length → nm.length = m) := by
        intro h1
        rw [hnm]
        simp
        omega
      obtain ⟨NS, hNS⟩ : ∃ NS : ByteArray, NS = ⟨nm.toArray⟩ := ⟨_, rfl⟩
      rw [← hNS] at HI HCV
      have HNS := mkHid hNS
      have HP1 := mkHid hp1
      have HM := mkHid hm
      clear hS hfin hC hX hr htr hnm hNS hp1 hm
      go_wp2_with fail
      refine HN.out.mono ?_
      rintro e w2 ⟨o2, ⟨h0, rfl, r2, hle, hle2⟩ | ⟨h0, rfl⟩⟩
      · have H0 := mkHid h0
        have HPO := mkHid (HPOS.out h0)
        rw [← HP1.out] at r2 hle
        rw [← HM.out] at hle2 ⊢
        have O2 := mkHid (HS.out.only.trans o2)
        have O2' := mkHid o2
        have R2 := mkHid r2
        clear o2 r2 h0
        go_wp2_with fail
        refine (HT.out _ O2.out R2.out hle hle2).mono ?_
        rintro e w3 ⟨o3, ⟨ht0, hle3, rfl, r3⟩ | ⟨ht0, rfl⟩⟩
        · have X3 := (HX.out.only (O2'.out.trans o3) hneX)
          obtain ⟨c0, c1, c2, c3, c4⟩ := Blk5.cells X3
          obtain ⟨f0, f1, f2, f3, f4⟩ := Blk5.free X3
          have HX3 := mkHid X3
          have O3 := mkHid (O2'.out.trans o3)
          have R3 := mkHid r3
          have hcv := HCV.out w3 (O2.out.trans o3) hle3
          have hpq : p < p1 + m := by have := HPO.out; have := HP1.out; omega
          have HI2 : Hid (txtR l p = (gT NS, p1 + m, 0)) := by
            show txtR l p = _
            rw [HI.out, if_neg (by simpa using H0.out), if_neg (by simpa using ht0)]
          have HSZ : Hid (NS.size ≤ 140737488355328) := by
            have := HNL.out hle3
            rw [HNS.out]
            show nm.toArray.size ≤ _
            simp
            omega
          have HW : Hid (St w R b o c l lim p0 (w3.setCell ⟨w.heap.size + 1, 2, none⟩ (.string NS)) (p1 + m) wv st) := HS.out.step hRl ((Chg.of_only O3.out).box _ _) (R3.out.other hRX) hle3 (by omega)
          have HBX : Hid (Box5 w (w3.setCell ⟨w.heap.size + 1, 2, none⟩ (.string NS)) 4 0 NS none 0 0 none 0 0) := Blk5.set2 HX3.out
          clear X3 o3 r3 ht0
          go_wp2_with fail
          go_step3
          refine ⟨_, ?_, _, p1 + m, wv, st, rfl, ⟨rfl, rfl, rfl, rfl, rfl, rfl⟩, HW.out, Or.inr (Or.inl ⟨rfl, rfl, HC.out.up (by omega), by omega, _, _, _, _, _, _, _, _, _, gT NS, HBX.out, fun _ => ?_, ?_⟩)⟩
          · unfold mu
            omega
          · exact lies_plain (by unfold Int64; omega) (by unfold Int64; omega) HSZ.out
          · rw [HFI.out, HI2.out]
        · have O3 := mkHid (O2.out.trans o3)
          have HT0 := mkHid ht0
          clear o3 ht0
          go_wp2_with fail
          refine jumps_panic ⟨rfl, HQE.out _ _ O3.out HT0.out ?_⟩
          rw [HFI.out, HI.out, if_neg (by simpa using H0.out), if_pos HT0.out, unwind_err l _ HT0.out]
      · have O2 := mkHid (HS.out.only.trans o2)
        have H0 := mkHid h0
        clear o2 h0
        go_wp2_with fail
        refine jumps_panic ⟨rfl, HQE.out _ _ O2.out H0.out ?_⟩
        rw [HFI.out, HI.out, if_pos H0.out, unwind_err l _ H0.out]
    · refine ⟨_, rfl, ?_⟩
      obtain ⟨aw, cw, rfl, hcw1, hcw2⟩ := own_nil hS.stk.own
      have HS := mkHid hS
      have HX := mkHid hX
      have HC := mkHid hC
      have hple := hS.ple
      have hdep := hS.dep
      obtain ⟨m, hm⟩ : ∃ m, m = st.length := ⟨_, rfl⟩
      rw [← hm] at IH
      have HIH := mkHid IH
      have hm8b : m ≤ 8 := by omega
      obtain ⟨kd, hkd⟩ : ∃ kd : Int, kd = if doc = true then 6 else 5 := ⟨_, rfl⟩
      rw [← hkd] at HX hX
      obtain ⟨c0, c1, c2, c3, c4⟩ := Blk5.cells hX
      obtain ⟨u, rfl⟩ := frame113 t hF.size
      have e0 : u 0 = .pointer (some ⟨R, 0, none⟩) := by simpa using hF.s0
      have e1 : u 1 = .int .i64 lim := by simpa using hF.s1
      have e4 : u 4 = .pointer (some ⟨w.heap.size, 0, none⟩) := by simpa using hF.s4
      have e5 : u 5 = .pointer (some ⟨w.heap.size + 1, 0, none⟩) := by simpa using hF.s5
      have e6 : u 6 = .slice aw st.length cw := by simpa using hF.s6
      rw [e0, e1, e4, e5, e6]
      clear e0 e1 e4 e5 e6 hF
      rw [← hm]
      have HM := mkHid hm
      by_cases h8 : m = 8
      · have HF0 : Hid (fin = (.nil, 0, 3)) := by
          show fin = _
          rw [hfin, if_pos (by omega), unwind_err l 3 (by decide)]
        clear hS hX hfin hC IH HIH hm hkd
        subst h8
        go_wp2_with fail
        exact jumps_panic ⟨rfl, HQE.out _ _ HS.out.only (by decide) HF0.out⟩
      · have h8b : ((m : Int) == 8) = false := by simp; omega
        have HF1 : Hid (fin = unwind l st (begR (takeR l (8 - (st.length + 1))) l p doc)) := by
          show fin = _
          rw [hfin, if_neg (by omega)]
        obtain ⟨r, hr⟩ : ∃ r, r = cntR (l.drop p) 0 32 15 := ⟨_, rfl⟩
        have HN : Hid (∀ v : World, v.heap = w'.heap → v.os = w'.os → v.tape = w'.tape → v.output = w'.output → Calls Tryd.prog 71 #[.pointer (some ⟨R, 0, none⟩), .int .u64 0, .int .u64 32, .int .i64 15] v fun e w2 => OnlyAt R w' w2 ∧ ((r.2.2 = 0 ∧ e = .returned (.int .i64 (r.1 : Int)) ∧ Rd w2 R (some ⟨b, o, none⟩) l.length c (p + r.2.1) ∧ p + r.2.1 ≤ l.length ∧ r.1 ≤ 32) ∨ (r.2.2 ≠ 0 ∧ e = .panicked (thr r.2.2)))) := by
          intro v hv h1 h2 h3
          have ho : OnlyAt R w' v := ⟨h1, h2, h3, by rw [hv]; exact Nat.le_refl _, fun k _ _ => by rw [hv]⟩
          have hrd : Rd v R (some ⟨b, o, none⟩) l.length c p := by unfold Rd; rw [hv]; exact hS.rd
          rw [hr]
          refine (count_any R _ c p 0 32 15 l v hrd (HBO.out v (hS.only.trans ho)) HA.out hple hl (by omega) (by decide)).mono ?_
          rintro e w2 ⟨o2, h⟩
          exact ⟨ho.trans o2, h⟩
        have HBG : Hid (begR (takeR l (8 - (st.length + 1))) l p doc = if r.2.2 ≠ 0 then (.nil, 0, r.2.2) else closeR doc (partsR (takeR l (8 - (st.length + 1))) l doc r.1 (p + r.2.1) [] [])) := by
          show begR _ _ _ _ = _
          rw [hr]
          rfl
        have HPOS : Hid (r.2.2 = 0 → 0 < r.2.1) := by
          rw [hr]
          exact fun h => (cntR_pos h (by decide)).1
        have hS0 : w'.drew.cell? ⟨w.heap.size + 1, 0, none⟩ = some (.int .i64 kd) ∧ w'.drew.cell? ⟨w.heap.size + 1, 1, none⟩ = some (.int .i64 0) ∧ w'.drew.cell? ⟨w.heap.size + 1, 2, none⟩ = some (.string ⟨#[]⟩) ∧ w'.drew.cell? ⟨w.heap.size + 1, 3, none⟩ = some (.slice none 0 0) ∧ w'.drew.cell? ⟨w.heap.size + 1, 4, none⟩ = some (.slice none 0 0) := ⟨c0, c1, c2, c3, c4⟩
        by_cases he : r.2.2 = 0
        · obtain ⟨rn, hrn⟩ : ∃ rn, rn = r.1 := ⟨_, rfl⟩
          obtain ⟨q, hq⟩ : ∃ q, q = p + r.2.1 := ⟨_, rfl⟩
          obtain ⟨i0, hi, hz0, hz1, hz2⟩ := info_parts infoOpen
          have HOK : Hid (∀ v : World, v.heap = w'.heap → v.os = w'.os → v.tape = w'.tape → v.output = w'.output → Calls Tryd.prog 71 #[.pointer (some ⟨R, 0, none⟩), .int .u64 0, .int .u64 32, .int .i64 15] v fun e w2 => OnlyAt R w' w2 ∧ e = .returned (.int .i64 (rn : Int)) ∧ Rd w2 R (some ⟨b, o, none⟩) l.length c q ∧ q ≤ l.length ∧ rn ≤ 32) := by
            intro v h0 h1 h2 h3
            refine (HN.out v h0 h1 h2 h3).mono ?_
            rintro e w2 ⟨o2, h | h⟩
            · rw [hrn, hq]
              exact ⟨o2, h.2⟩
            · exact absurd he h.1
          have hpq : p < q := by
            have := HPOS.out he
            omega
          obtain ⟨y, hy⟩ : ∃ y : Opn, y = ⟨doc, rn, [], none, 0, none, 0, [], []⟩ := ⟨_, rfl⟩
          have hyenc : y.enc = [.int .i64 kd, .int .i64 0, .string ⟨#[]⟩, .slice none 0 0, .slice none 0 0, .int .i64 (rn : Int), .slice none 0 0] := by
            rw [hy, hkd]
            cases doc <;> rfl
          have HFI : Hid (fin = unwind l st (closeR y.doc (partsR (takeR l (8 - (st.length + 1))) l y.doc y.left q y.parts y.nm))) := by
            show fin = _
            rw [HF1.out, HBG.out, if_neg (by simpa using he), hy, hrn, hq]
          have HS2 : Hid (∀ w2, OnlyAt R w' w2 → Rd w2 R (some ⟨b, o, none⟩) l.length c q → q ≤ l.length → St w R b o c l lim p0 (w2.alloc (.cells #[.int .i64 kd, .int .i64 0, .string ⟨#[]⟩, .slice none 0 0, .slice none 0 0, .int .i64 (rn : Int), .slice none 0 0] 102)) q (.slice aw st.length cw) st) := by
            intro w2 o2 r2 hle
            have h1 := HS.out.step hRl (Chg.of_only o2) r2 hle (by omega)
            have hb := (RowKit.Below.refl w2.heap.size w2).alloc (Nat.le_refl _) (.cells #[.int .i64 kd, .int .i64 0, .string ⟨#[]⟩, .slice none 0 0, .slice none 0 0, .int .i64 (rn : Int), .slice none 0 0] 102)
            exact h1.step hRl (Chg.of_below hb) (r2.below hb) hle (Nat.le_refl _)
          have HPU : Hid (∀ w2 w3 g3 c3, OnlyAt R w' w2 → Rd w2 R (some ⟨b, o, none⟩) l.length c q → q ≤ l.length → rn ≤ 32 → w3.ownsRow (w.heap.size + 2) 102 7 (.slice (some ⟨g3, 0, none⟩) (m + 1) c3) (m + 1) (stCells st ++ [.int .i64 kd, .int .i64 0, .string ⟨#[]⟩, .slice none 0 0, .slice none 0 0, .int .i64 (rn : Int), .slice none 0 0]) → World.grownBy (w2.alloc (.cells #[.int .i64 kd, .int .i64 0, .string ⟨#[]⟩, .slice none 0 0, .slice none 0 0, .int .i64 (rn : Int), .slice none 0 0] 102)) w3 (Value.slice aw m cw).ownBlock → ((Value.slice (some ⟨g3, 0, none⟩) (m + 1) c3).ownBlock = (Value.slice aw m cw).ownBlock ∨ (Value.slice (some ⟨g3, 0, none⟩) (m + 1) c3).ownBlock = some (w2.alloc (.cells #[.int .i64 kd, .int .i64 0, .string ⟨#[]⟩, .slice none 0 0, .slice none 0 0, .int .i64 (rn : Int), .slice none 0 0] 102)).heap.size) → St w R b o c l lim p0 w3 q (.slice (some ⟨g3, 0, none⟩) (m + 1) c3) (y :: st) ∧ Box5 w w3 kd 0 ⟨#[]⟩ none 0 0 none 0 0) := by
            intro w2 w3 g3 c3 o2 r2 hle hrn2 ho hg hat
            have h1 := HS2.out w2 o2 r2 hle
            rw [hm] at ho hg hat ⊢
            refine ⟨h1.push hRl (by rw [hy]; rfl) (by rw [hy]) (by rw [hy]) (by rw [hyenc]; exact ho) hg hat (by omega) (by rw [hy]; exact ⟨byts_none, fun h0 => absurd h0 (Nat.lt_irrefl _), Nat.zero_le _⟩) (by rw [hy]; exact hrn2), ?_⟩
            have hx2 := (HX.out.only o2 hneX).below ((RowKit.Below.refl w2.heap.size w2).alloc (Nat.le_refl _) (.cells #[.int .i64 kd, .int .i64 0, .string ⟨#[]⟩, .slice none 0 0, .slice none 0 0, .int .i64 (rn : Int), .slice none 0 0] 102))
            have hx3 := hx2.lt
            unfold Box5 Blk5 at hx2 ⊢
            rw [hg.block _ hx3 (fun e => by have := (own_blk HS.out.stk.own e.symm).2; omega)]
            exact hx2
          have HOW : Hid (∀ w2, OnlyAt R w' w2 → (w2.alloc (.cells #[.int .i64 kd, .int .i64 0, .string ⟨#[]⟩, .slice none 0 0, .slice none 0 0, .int .i64 (rn : Int), .slice none 0 0] 102)).ownsRow (w.heap.size + 2) 102 7 (.slice aw m cw) m (stCells st)) := by
            intro w2 o2
            rw [hm]
            refine own_keep hS.stk.own fun k e => ?_
            have hk := own_blk hS.stk.own e
            have hb := (RowKit.Below.refl w2.heap.size w2).alloc (Nat.le_refl _) (.cells #[.int .i64 kd, .int .i64 0, .string ⟨#[]⟩, .slice none 0 0, .slice none 0 0, .int .i64 (rn : Int), .slice none 0 0] 102)
            have := o2.size
            exact (hb.block k (by omega)).trans (o2.block k hk.1 (by omega))
          have HC7 : Hid (∀ (w2 : World) j v, ([.int .i64 kd, .int .i64 0, .string ⟨#[]⟩, .slice none 0 0, .slice none 0 0, .int .i64 (rn : Int), .slice none 0 0] : List Value)[j]? = some v → (w2.alloc (.cells #[.int .i64 kd, .int .i64 0, .string ⟨#[]⟩, .slice none 0 0, .slice none 0 0, .int .i64 (rn : Int), .slice none 0 0] 102)).cell? ((⟨w2.heap.size, 0, none⟩ : Addr).add j) = some v) := by
            intro w2 j v hj
            rw [show (⟨w2.heap.size, 0, none⟩ : Addr).add j = ⟨w2.heap.size, j, none⟩ by simp [Addr.add]; omega, cell_of_row _ w2.heap.size j _ _ _ (heap_alloc_new w2 _)]
            simpa using hj
          have HBS : Hid (∀ w2, OnlyAt R w' w2 → (w2.cell? ⟨w.heap.size + 1, 0, none⟩ = some (.int .i64 kd) ∧ w2.cell? ⟨w.heap.size + 1, 1, none⟩ = some (.int .i64 0) ∧ w2.cell? ⟨w.heap.size + 1, 2, none⟩ = some (.string ⟨#[]⟩) ∧ w2.cell? ⟨w.heap.size + 1, 3, none⟩ = some (.slice none 0 0) ∧ w2.cell? ⟨w.heap.size + 1, 4, none⟩ = some (.slice none 0 0)) ∧ ((w2.alloc (.cells #[.int .i64 kd, .int .i64 0, .string ⟨#[]⟩, .slice none 0 0, .slice none 0 0, .int .i64 (rn : Int), .slice none 0 0] 102)).cell? ⟨w.heap.size + 1, 0, none⟩ = some (.int .i64 kd) ∧ (w2.alloc (.cells #[.int .i64 kd, .int .i64 0, .string ⟨#[]⟩, .slice none 0 0, .slice none 0 0, .int .i64 (rn : Int), .slice none 0 0] 102)).cell? ⟨w.heap.size + 1, 1, none⟩ = some (.int .i64 0) ∧ (w2.alloc (.cells #[.int .i64 kd, .int .i64 0, .string ⟨#[]⟩, .slice none 0 0, .slice none 0 0, .int .i64 (rn : Int), .slice none 0 0] 102)).cell? ⟨w.heap.size + 1, 2, none⟩ = some (.string ⟨#[]⟩) ∧ (w2.alloc (.cells #[.int .i64 kd, .int .i64 0, .string ⟨#[]⟩, .slice none 0 0, .slice none 0 0, .int .i64 (rn : Int), .slice none 0 0] 102)).cell? ⟨w.heap.size + 1, 3, none⟩ = some (.slice none 0 0) ∧ (w2.alloc (.cells #[.int .i64 kd, .int .i64 0, .string ⟨#[]⟩, .slice none 0 0, .slice none 0 0, .int .i64 (rn : Int), .slice none 0 0] 102)).cell? ⟨w.heap.size + 1, 4, none⟩ = some (.slice none 0 0))) := by
            intro w2 o2
            have h1 := HX.out.only o2 hneX
            exact ⟨Blk5.cells h1, Blk5.cells (h1.below ((RowKit.Below.refl w2.heap.size w2).alloc (Nat.le_refl _) (.cells #[.int .i64 kd, .int .i64 0, .string ⟨#[]⟩, .slice none 0 0, .slice none 0 0, .int .i64 (rn : Int), .slice none 0 0] 102)))⟩
          have HMX : Hid (st.length + 1 ≤ 8) := by show _ ≤ _; omega
          have HWS : Hid (w.heap.size + 2 ≤ w'.heap.size) := by have := hX.lt; show _ ≤ _; omega
          have HPP := mkHid hpp
          have HY := mkHid hy
          have hsl := stCells_len st
          clear hS hX hfin hC IH hm hkd hr he HN hq hrn hyenc hy
          go_wp2_with fail
          go_region_held3 (fun v => v.cell? ⟨w.heap.size + 1, 0, none⟩ = some (.int .i64 kd) ∧ v.cell? ⟨w.heap.size + 1, 1, none⟩ = some (.int .i64 0) ∧ v.cell? ⟨w.heap.size + 1, 2, none⟩ = some (.string ⟨#[]⟩) ∧ v.cell? ⟨w.heap.size + 1, 3, none⟩ = some (.slice none 0 0) ∧ v.cell? ⟨w.heap.size + 1, 4, none⟩ = some (.slice none 0 0)) (first | with_reducible exact hS0 | with_reducible exact hS1 | with_reducible exact hS2 | with_reducible exact hS3) (first
            | (go_at_call 71; refine (HOK.out _ ?_ ?_ ?_ ?_).mono ?_; rfl; rfl; rfl; rfl; rintro e w2 ⟨o2, rfl, r2, hle, hle32⟩; obtain ⟨hS1, hS2⟩ := HBS.out w2 o2; have hw2s := o2.size; have hws := HWS.out)
            | (refine step_append_at rfl (.tmp 48) (.tmp 53) 96 rfl (w.heap.size + 2) 102 i0 (.agg #[.int .i64 0, .int .i64 0, .string ⟨#[]⟩, .slice none 0 0, .slice none 0 0, .int .i64 0, .slice none 0 0]) 7 112 Tryd.underlying96 hi hz0 hz1 hz2 rfl (by decide) (.slice aw m cw) m (stCells st) (by simp [Act.eval]) (HOW.out w2 o2) ⟨w2.heap.size, 0, none⟩ 1 1 [.int .i64 kd, .int .i64 0, .string ⟨#[]⟩, .slice none 0 0, .slice none 0 0, .int .i64 (rn : Int), .slice none 0 0] (by simp [Act.eval]) rfl (HC7.out w2) (by simp [Value.oneCell']) (by omega) (by omega) (by simp; omega) ?_; intro v3 w3 hown3 hgrow3 hat3; obtain ⟨g3, c3, rfl, hg3, hB3⟩ := own_form hown3; obtain ⟨HW3, HBX3⟩ := HPU.out w2 w3 g3 c3 o2 r2 hle hle32 hown3 hgrow3 hat3; have hS3 := Blk5.cells HBX3))
          all_goals
            have HWW := mkHid HW3
            have HBX := mkHid HBX3
            clear HW3 HBX3 hown3 hgrow3 hat3 hS0 hS1 hS2 hS3 o2 r2
            go_wp2_with fail
            rename_i hK
            go_step3
            refine hK _ _ ?_
            have hlt : mu l q (y :: st).length 3 < mu l p m 9 := by
              have := HM.out
              unfold mu
              simp
              omega
            refine use_label (lb := 6) (k' := mu l q (y :: st).length 3) HIH.out rfl hlt ?_
            exact ⟨_, q, .slice (some ⟨g3, 0, none⟩) (m + 1) c3, y :: st, rfl, ⟨rfl, rfl, rfl, rfl, rfl, rfl⟩, HWW.out, Or.inr (Or.inr (Or.inr (Or.inr (Or.inr (Or.inr (Or.inl ⟨rfl, rfl, ⟨_, _, _, _, _, _, _, _, _, HBX.out⟩, y, st, rfl, (fun z hz => by simp at hz; rw [hz, HY.out]; simp; have := HPP.out; omega), HC.out.up (by omega), by have := HPP.out; omega, HFI.out⟩))))))⟩
        · have HE : Hid (∀ v : World, v.heap = w'.heap → v.os = w'.os → v.tape = w'.tape → v.output = w'.output → Calls Tryd.prog 71 #[.pointer (some ⟨R, 0, none⟩), .int .u64 0, .int .u64 32, .int .i64 15] v fun e w2 => OnlyAt R w' w2 ∧ e = .panicked (thr r.2.2)) := by
            intro v h0 h1 h2 h3
            refine (HN.out v h0 h1 h2 h3).mono ?_
            rintro e w2 ⟨o2, h | h⟩
            · exact absurd h.1 he
            · exact ⟨o2, h.2⟩
          have HQP : Hid (∀ w2, OnlyAt R w' w2 → Q (.panicked (thr r.2.2)) w2) := by
            intro w2 o2
            refine HQE.out _ _ (HS.out.only.trans o2) he ?_
            rw [HF1.out, HBG.out, if_pos he, unwind_err l _ he]
          clear hS hX hfin hC IH HIH hm hkd hr he HN hS0
          go_wp2_with fail
          go_region_dies
          all_goals
            go_wp2_with fail
            refine (HE.out _ ?_ ?_ ?_ ?_).mono ?_
            · rfl
            · rfl
            · rfl
            · rfl
            rintro e w2 ⟨o2, rfl⟩
            have O2 := mkHid o2
            clear o2
            go_wp2_with fail
            exact jumps_panic ⟨rfl, HQP.out _ O2.out⟩
    · refine ⟨_, rfl, ?_⟩
      obtain ⟨g, cp, rfl, hgl, hgB⟩ := own_form (n := rest.length) hS.stk.own
      obtain ⟨kk, n, s, la, ln, lc, fa, fn, fc, hX⟩ := hX
      have hple := hS.ple
      have hpge := hS.pge
      have hgX : g ≠ w.heap.size + 1 := by omega
      have hXg : w.heap.size + 1 ≠ g := by omega
      have hgR : g ≠ R := by omega
      have hRg : R ≠ g := by omega
      obtain ⟨m, hm⟩ : ∃ m, m = rest.length := ⟨_, rfl⟩
      obtain ⟨⟨d0, d3, d4, d5, d6⟩, z5, z6⟩ := hS.stk.top
      rw [← hm] at d0 d3 d4 d5 d6 z5 z6
      have hnx := hS.nms x (by simp)
      obtain ⟨u, rfl⟩ := frame113 t hF.size
      have e0 : u 0 = .pointer (some ⟨R, 0, none⟩) := by simpa using hF.s0
      have e1 : u 1 = .int .i64 lim := by simpa using hF.s1
      have e4 : u 4 = .pointer (some ⟨w.heap.size, 0, none⟩) := by simpa using hF.s4
      have e5 : u 5 = .pointer (some ⟨w.heap.size + 1, 0, none⟩) := by simpa using hF.s5
      have e6 : u 6 = .slice (some ⟨g, 0, none⟩) (rest.length + 1) cp := by simpa using hF.s6
      rw [e0, e1, e4, e5, e6]
      clear e0 e1 e4 e5 e6 hF
      rw [← hm]
      have HM := mkHid hm
      have hm1 : (m : Int) < (m : Int) + 1 := by omega
      have hmm : m ≤ 100 := by have := hS.dep; simp at this; omega
      have HS := mkHid hS
      have HX := mkHid hX
      have HFI := mkHid hfin
      have HC0 := mkHid hC0
      have HC1 := mkHid hC1
      by_cases hleft : x.left = 0
      · have d5' : w'.cell? ⟨g, m * 7 + 5, none⟩ = some (.int .i64 0) := by rw [d5, hleft]; rfl
        have HLE := mkHid hleft
        clear hS hfin hC0 hC1 hX hm d5 hleft hnx
        go_wp2_with fail
        go_step3
        refine ⟨_, ?_, _, p, .slice (some ⟨g, 0, none⟩) (m + 1) cp, x :: rest, rfl, ⟨rfl, rfl, rfl, rfl, rfl, rfl⟩, by rw [HM.out]; exact HS.out, Or.inr (Or.inr (Or.inr (Or.inr (Or.inr (Or.inr (Or.inr ⟨rfl, rfl, ⟨_, _, _, _, _, _, _, _, _, HX.out⟩, x, rest, g, cp, rfl, by rw [HM.out], ?_, HC1.out, hpp, HLE.out, ?_⟩))))))⟩
        · unfold mu
          omega
        · rw [← HM.out]
          rfl
        · rw [HFI.out, unwind_end l rest x p HLE.out]
      · obtain ⟨lf, hlf⟩ : ∃ lf, x.left = lf + 1 := ⟨x.left - 1, by omega⟩
        have d5' : w'.cell? ⟨g, m * 7 + 5, none⟩ = some (.int .i64 ((lf : Int) + 1)) := by rw [d5, hlf]; rfl
        have hlf32 : lf ≤ 31 := by have := HS.out.lft x (by simp); omega
        have hl0 : (((lf : Int) + 1) == 0) = false := by simp; omega
        have HLF := mkHid hlf
        cases hdoc : x.doc with
        | false =>
          have HDOC := mkHid hdoc
          have d0' : w'.cell? ⟨g, m * 7, none⟩ = some (.int .i64 5) := by rw [d0, Opn.kind, hdoc]; rfl
          obtain ⟨y, hy⟩ : ∃ y : Opn, y = { x with left := lf } := ⟨_, rfl⟩
          have HW : Hid (St w R b o c l lim p0 (w'.setCell ⟨g, m * 7 + 5, none⟩ (.int .i64 lf)) p (.slice (some ⟨g, 0, none⟩) (rest.length + 1) cp) (y :: rest)) := by
            rw [hm]
            refine hS.set (x := x) (i := 5) hRl (by rw [hy]) (by rw [hy]) (by rw [hy]) (by rw [hy]) (by rw [hy]) ?_ (by omega) (by rw [hy]; exact hnx) (by rw [hy]; show lf ≤ 32; omega)
            rw [hy]
            rfl
          have HBX : Hid (Box5 w (w'.setCell ⟨g, m * 7 + 5, none⟩ (.int .i64 lf)) kk n s la ln lc fa fn fc) := HX.out.other hXg
          have HCC : Hid (Cnt p0 p 0 (y :: rest)) := by
            intro z hz
            rcases List.mem_cons.1 hz with rfl | hz
            · have := HC0.out x (by simp)
              rw [hy]
              exact this
            · have := HC1.out z hz
              omega
          have HFI2 : Hid (fin = unwind l (y :: rest) (takeR l (8 - (y :: rest).length) p)) := by
            show fin = _
            rw [HFI.out, unwind_part l rest x y p lf hlf (by rw [hy]) (by rw [hy]) (by rw [hy]) (by rw [hdoc]; rfl) (by rw [hy, hdoc]; rfl), hdoc]
            rfl
          clear hS hfin hC0 hC1 hX hm d5 hlf hleft hnx d0 hdoc hy
          go_wp2_with fail
          go_step3
          refine ⟨_, ?_, _, p, .slice (some ⟨g, 0, none⟩) (m + 1) cp, y :: rest, rfl, ⟨rfl, rfl, rfl, rfl, rfl, rfl⟩, ?_, Or.inl ⟨rfl, rfl, HCC.out, ⟨_, _, _, _, _, _, _, _, _, HBX.out⟩, HFI2.out⟩⟩
          · unfold mu
            simp
          · have h := HW.out
            rw [← HM.out] at h
            exact h
        | true =>
          have HDOC := mkHid hdoc
          have d0' : w'.cell? ⟨g, m * 7, none⟩ = some (.int .i64 6) := by rw [d0, Opn.kind, hdoc]; rfl
          obtain ⟨y, hy⟩ : ∃ y : Opn, y = { x with left := lf } := ⟨_, rfl⟩
          have HW : Hid (St w R b o c l lim p0 (w'.setCell ⟨g, m * 7 + 5, none⟩ (.int .i64 lf)) p (.slice (some ⟨g, 0, none⟩) (rest.length + 1) cp) (y :: rest)) := by
            rw [hm]
            refine hS.set (x := x) (i := 5) hRl (by rw [hy]) (by rw [hy]) (by rw [hy]) (by rw [hy]) (by rw [hy]) ?_ (by omega) (by rw [hy]; exact hnx) (by rw [hy]; show lf ≤ 32; omega)
            rw [hy]
            rfl
          have HBX : Hid (Box5 w (w'.setCell ⟨g, m * 7 + 5, none⟩ (.int .i64 lf)) kk n s la ln lc fa fn fc) := HX.out.other hXg
          obtain ⟨q, hq⟩ : ∃ q, q = nameR l p x.nm := ⟨_, rfl⟩
          have HNM : Hid (Calls Tryd.prog 72 #[.pointer (some ⟨R, 0, none⟩), .slice x.na x.nm.length x.nc] (w'.setCell ⟨g, m * 7 + 5, none⟩ (.int .i64 lf)) fun e w2 => OnlyAt R (w'.setCell ⟨g, m * 7 + 5, none⟩ (.int .i64 lf)) w2 ∧ ((q.2.2 = 0 ∧ ∃ a2 c2, e = .returned (.slice a2 q.1.length c2) ∧ (∀ u : World, Byts u (some ⟨b, o, none⟩) l → Byts u a2 q.1) ∧ Apart R a2 q.1 ∧ q.1.length ≤ 24 ∧ Rd w2 R (some ⟨b, o, none⟩) l.length c q.2.1 ∧ p < q.2.1 ∧ q.2.1 ≤ l.length) ∨ (q.2.2 ≠ 0 ∧ e = .panicked (thr q.2.2)))) := by
            rw [hq]
            exact name_any R b o c p l x.na x.nc x.nm _ HW.out.rd (HBO.out _ HW.out.only) HA.out hple hl hlc hcm (HTO.out _ HW.out.only) hR1 (hnx.1.only HW.out.only hnx.2.1) hnx.2.1 (by omega)
          have HFE : Hid (q.2.2 ≠ 0 → fin = (.nil, 0, q.2.2)) := by
            intro h
            have e : (if x.doc = true then nameR l p x.nm else (x.nm, p, 0)) = q := by rw [hdoc, hq]; rfl
            rw [HFI.out, unwind_name l rest x p lf hlf (by rw [e]; exact h), e]
          have HFO : Hid (∀ a2 c2, q.2.2 = 0 → fin = unwind l ({ x with left := lf, nm := q.1, na := a2, nc := c2 } :: rest) (takeR l (8 - (rest.length + 1)) q.2.1)) := by
            intro a2 c2 h
            have e : (if x.doc = true then nameR l p x.nm else (x.nm, p, 0)) = q := by rw [hdoc, hq]; rfl
            rw [HFI.out, unwind_part l rest x { x with left := lf, nm := q.1, na := a2, nc := c2 } p lf hlf rfl rfl rfl (by rw [e]; exact h) (by rw [e]), e]
          obtain ⟨xl, hxl⟩ : ∃ xl, xl = x.nm.length := ⟨_, rfl⟩
          rw [← hxl] at HNM d6
          have HY := mkHid hy
          have HD6 := mkHid d6
          have hfree : (w'.setCell ⟨g, m * 7 + 5, none⟩ (.int .i64 lf)).frozen? ⟨g, m * 7 + 6, none⟩ = false := by
            have := HW.out.stk.top.2.2
            rw [← hm] at this
            exact this
          have hcell6 : (w'.setCell ⟨g, m * 7 + 5, none⟩ (.int .i64 lf)).cell? ⟨g, m * 7 + 6, none⟩ = some (.slice x.na xl x.nc) := (World.cell?_setCell_other w' ⟨g, m * 7 + 5, none⟩ _ (b := ⟨g, m * 7 + 6, none⟩) (by simp)).trans d6
          have hcell0 : (w'.setCell ⟨g, m * 7 + 5, none⟩ (.int .i64 lf)).cell? ⟨g, m * 7, none⟩ = some (.int .i64 6) := (World.cell?_setCell_other w' ⟨g, m * 7 + 5, none⟩ _ (b := ⟨g, m * 7, none⟩) (by simp)).trans d0'
          clear hS hfin hC0 hC1 hX hm d5 hlf hleft hnx d0 hdoc hy hq hxl d6
          go_wp2_with fail
          refine HNM.out.mono ?_
          rintro e w2 ⟨o2, ⟨h0, a2, c2, rfl, hby, hap, hq24, r2, hpq, hql⟩ | ⟨h0, rfl⟩⟩
          · have hG := o2.block g (by have := cell_lt' hcell6; exact this) hgR
            have hcell6' : w2.cell? ⟨g, m * 7 + 6, none⟩ = some (.slice x.na xl x.nc) := (World.cell?_of_block hG).trans hcell6
            have hfree' : w2.frozen? ⟨g, m * 7 + 6, none⟩ = false := (World.frozen?_of_block hG).trans hfree
            obtain ⟨y2, hy2⟩ : ∃ y2 : Opn, y2 = { x with left := lf, nm := q.1, na := a2, nc := c2 } := ⟨_, rfl⟩
            have HST := HW.out.step hRl (Chg.of_only o2) r2 hql (by omega)
            have HW2 : Hid (St w R b o c l lim p0 (w2.setCell ⟨g, m * 7 + 6, none⟩ (.slice a2 q.1.length c2)) q.2.1 (.slice (some ⟨g, 0, none⟩) (rest.length + 1) cp) (y2 :: rest)) := by
              have h := HST.set (x := y) (y := y2) (i := 6) (u := .slice a2 q.1.length c2) hRl (by rw [hy2, HY.out]) (by rw [hy2, HY.out]) (by rw [hy2, HY.out]) (by rw [hy2, HY.out]) (by rw [hy2, HY.out]) (by rw [hy2, HY.out]; rfl) (by omega) (by rw [hy2]; exact ⟨hby w (HBW.out), hap, hq24⟩) (by rw [hy2]; show lf ≤ 32; omega)
              rw [← HM.out] at h ⊢
              exact h
            have HBX2 : Hid (Box5 w (w2.setCell ⟨g, m * 7 + 6, none⟩ (.slice a2 q.1.length c2)) kk n s la ln lc fa fn fc) := (HBX.out.only o2 hneX).other hXg
            have HCC : Hid (Cnt p0 q.2.1 0 (y2 :: rest)) := by
              intro z hz
              rcases List.mem_cons.1 hz with rfl | hz
              · have := HC0.out x (by simp)
                rw [hy2]
                show x.fs.length + p0 + 0 ≤ q.2.1
                omega
              · have := HC1.out z hz
                omega
            have HFI2 : Hid (fin = unwind l (y2 :: rest) (takeR l (8 - (y2 :: rest).length) q.2.1)) := by
              show fin = _
              rw [HFO.out a2 c2 h0, hy2]
              rfl
            obtain ⟨ql, hqll⟩ : ∃ ql, ql = q.1.length := ⟨_, rfl⟩
            rw [← hqll] at HW2 HBX2 ⊢
            clear hby hap hq24 r2 h0 o2 hG hy2 HST hqll
            go_wp2_with fail
            go_step3
            refine ⟨_, ?_, _, q.2.1, .slice (some ⟨g, 0, none⟩) (m + 1) cp, y2 :: rest, rfl, ⟨rfl, rfl, rfl, rfl, rfl, rfl⟩, ?_, Or.inl ⟨rfl, rfl, HCC.out, ⟨_, _, _, _, _, _, _, _, _, HBX2.out⟩, HFI2.out⟩⟩
            · unfold mu
              simp
              omega
            · have h := HW2.out
              rw [← HM.out] at h
              exact h
          · have O2 := mkHid (HW.out.only.trans o2)
            have H0 := mkHid h0
            clear o2 h0
            go_wp2_with fail
            exact jumps_panic ⟨rfl, HQE.out _ _ O2.out H0.out (HFE.out H0.out)⟩
    · refine ⟨_, rfl, ?_⟩
      obtain ⟨_, _, _, _, _, _, _, _, _, hX⟩ := hX
      obtain ⟨la, ln, lc, fa, fn, fc, hxl, hxf⟩ := x.slices
      obtain ⟨d0, d1, d2, d3, d4⟩ := hS.stk.top5
      obtain ⟨m, hm⟩ : ∃ m, m = rest.length := ⟨_, rfl⟩
      rw [hxl] at d3
      rw [hxf] at d4
      rw [← hm] at d0 d1 d2 d3 d4
      obtain ⟨kd, hkd⟩ : ∃ kd, kd = x.kind := ⟨_, rfl⟩
      rw [← hkd] at d0
      obtain ⟨f0, f1, f2, f3, f4⟩ := Blk5.free hX
      obtain ⟨c0, c1, c2, c3, c4⟩ := Blk5.cells hX
      have hgB := (own_blk hS.stk.own (k := g) rfl).2
      have hgX : g ≠ w.heap.size + 1 := by omega
      have hXg : w.heap.size + 1 ≠ g := by omega
      have e7 : t[7]? = some (.pointer (some ⟨g, rest.length * 7, none⟩)) := h7
      obtain ⟨u, rfl⟩ := frame113 t hF.size
      have e0 : u 0 = .pointer (some ⟨R, 0, none⟩) := by simpa using hF.s0
      have e1 : u 1 = .int .i64 lim := by simpa using hF.s1
      have e4 : u 4 = .pointer (some ⟨w.heap.size, 0, none⟩) := by simpa using hF.s4
      have e5 : u 5 = .pointer (some ⟨w.heap.size + 1, 0, none⟩) := by simpa using hF.s5
      have e6 : u 6 = .slice (some ⟨g, 0, none⟩) (rest.length + 1) cp := by simpa using hF.s6
      rw [e0, e1, e4, e5, e6]
      clear e0 e1 e4 e5 e6 hF
      have e7' : u 7 = .pointer (some ⟨g, rest.length * 7, none⟩) := by simpa using h7
      rw [e7', ← hm]
      have HM := mkHid hm
      have hmm : m ≤ 100 := by have := hS.dep; simp at this; omega
      have hcp : m + 1 ≤ cp ∧ cp ≤ maxLen := by
        obtain ⟨_, _, e, q1, q2⟩ := own_nil hS.stk.own
        cases e
        exact ⟨by rw [hm]; simpa using q1, q2⟩
      obtain ⟨hcp1, hcp2⟩ := hcp
      have hcp3 : (m : Int) ≤ (cp : Int) := by omega
      have hcp4 : m ≤ cp := by omega
      have hm2 : (0 : Int) ≤ (m : Int) := by omega
      have hm3 : (m : Int) + 1 - 1 = (m : Int) := by omega
      obtain ⟨hm6, hm7, hm8, hm9⟩ := wrap_small m hmm
      obtain ⟨W3, hW3⟩ : ∃ W3, W3 = (((((w'.setCell ⟨w.heap.size + 1, 0, none⟩ (.int .i64 kd)).setCell ⟨w.heap.size + 1, 1, none⟩ (.int .i64 0)).setCell ⟨w.heap.size + 1, 2, none⟩ (.string ⟨#[]⟩)).setCell ⟨w.heap.size + 1, 3, none⟩ (.slice la ln lc)).setCell ⟨w.heap.size + 1, 4, none⟩ (.slice fa fn fc)).drew := ⟨_, rfl⟩
      have hCH : Chg (fun k => k = R ∨ k = w.heap.size + 1) w' W3 := by
        rw [hW3]
        exact ((((((Chg.refl _ w').box _ _).box _ _).box _ _).box _ _).box _ _).drew
      have HW : Hid (St w R b o c l lim p0 W3 p (.slice (some ⟨g, 0, none⟩) rest.length cp) rest) := by
        refine hS.pop.step hRl hCH ?_ hS.ple (Nat.le_refl _)
        rw [hW3]
        exact ((((hS.rd.other hRX).other hRX).other hRX).other hRX).other hRX
      have HBX : Hid (Box5 w W3 kd 0 ⟨#[]⟩ la ln lc fa fn fc) := by
        rw [hW3]
        exact Blk5.drew (((((Blk5.set0 hX).set1).set2).set3).set4)
      have HOF : Hid ((p : Int) ≤ lim → Off (hid (w.heap.size + 2) (.slice (some ⟨g, 0, none⟩) rest.length cp) rest) W3 (partsG x.doc x.parts) (.agg #[.int .i64 kd, .int .i64 0, .string ⟨#[]⟩, .slice la ln lc, .slice fa fn fc])) := by
        intro hlm
        have h := hS.stk.close (m := rest.length) (hS.trees hlm x (by simp))
        have e : x.val = .agg #[.int .i64 kd, .int .i64 0, .string ⟨#[]⟩, .slice la ln lc, .slice fa fn fc] := by
          unfold Opn.val
          rw [hxl, hxf, hkd]
        rw [e] at h
        refine h.keep fun k hk hp => ⟨hp, hCH.block k hk ?_⟩
        have := (hid_false.1 hp).1
        rintro (e | e) <;> omega
      have HIH := mkHid IH
      have HFI := mkHid hfin
      have HC1 := mkHid hC1
      have HW3 := mkHid hW3
      have hS0 : w'.drew.cell? ⟨g, m * 7, none⟩ = some (.int .i64 kd) ∧ w'.drew.cell? ⟨g, m * 7 + 1, none⟩ = some (.int .i64 0) ∧ w'.drew.cell? ⟨g, m * 7 + 2, none⟩ = some (.string ⟨#[]⟩) ∧ w'.drew.cell? ⟨g, m * 7 + 3, none⟩ = some (.slice la ln lc) ∧ w'.drew.cell? ⟨g, m * 7 + 4, none⟩ = some (.slice fa fn fc) := ⟨d0, d1, d2, d3, d4⟩
      have e3 : ∀ q, W3.cell? ⟨g, q, none⟩ = w'.cell? ⟨g, q, none⟩ := by
        intro q
        rw [hW3]
        show World.cell? (World.setCell _ _ _) _ = _
        rw [cell_setCell_other hgX, cell_setCell_other hgX, cell_setCell_other hgX, cell_setCell_other hgX, cell_setCell_other hgX]
      have hS1 : W3.cell? ⟨g, m * 7, none⟩ = some (.int .i64 kd) ∧ W3.cell? ⟨g, m * 7 + 1, none⟩ = some (.int .i64 0) ∧ W3.cell? ⟨g, m * 7 + 2, none⟩ = some (.string ⟨#[]⟩) ∧ W3.cell? ⟨g, m * 7 + 3, none⟩ = some (.slice la ln lc) ∧ W3.cell? ⟨g, m * 7 + 4, none⟩ = some (.slice fa fn fc) := by
        rw [e3, e3, e3, e3, e3]
        exact ⟨d0, d1, d2, d3, d4⟩
      rw [hW3] at hS1
      clear hS hX hfin hC1 IH hm hkd hxl hxf hCH e3 hW3 h7 e7'
      go_wp2_with fail
      go_region_held3 (fun v => v.cell? ⟨g, m * 7, none⟩ = some (.int .i64 kd) ∧ v.cell? ⟨g, m * 7 + 1, none⟩ = some (.int .i64 0) ∧ v.cell? ⟨g, m * 7 + 2, none⟩ = some (.string ⟨#[]⟩) ∧ v.cell? ⟨g, m * 7 + 3, none⟩ = some (.slice la ln lc) ∧ v.cell? ⟨g, m * 7 + 4, none⟩ = some (.slice fa fn fc)) (first | with_reducible exact hS0 | with_reducible exact hS1) (fail)
      all_goals
        rw [← HW3.out]
        clear hS0 hS1
        go_wp2_with fail
        rename_i hK
        go_step3
        refine hK _ _ ?_
        have hlt : mu l p rest.length 4 < mu l p (x :: rest).length 2 := by
          unfold mu
          simp
          omega
        refine use_label (lb := 1) (k' := mu l p rest.length 4) HIH.out rfl hlt ?_
        exact ⟨_, p, .slice (some ⟨g, 0, none⟩) m cp, rest, rfl, ⟨rfl, rfl, rfl, rfl, rfl, rfl⟩, by rw [HM.out]; exact HW.out, Or.inr (Or.inl ⟨rfl, rfl, HC1.out, hpp, _, _, _, _, _, _, _, _, _, partsG x.doc x.parts, HBX.out, by rw [HM.out]; exact HOF.out, HFI.out⟩)⟩
  · intro pass
    have HPA := mkHid pass
    clear pass
    have CZ : Hid (St w R b o c l lim p0 ((w.alloc (.cells #[.int .i64 0, .int .i64 0, .string ⟨#[]⟩, .slice none 0 0, .slice none 0 0] 29)).alloc (.cells #[.int .i64 0, .int .i64 0, .string ⟨#[]⟩, .slice none 0 0, .slice none 0 0] 29)) p0 (.slice none 0 0) []) := st_first HR.out hRl hp0
    have HBX : Hid (Box5 w ((w.alloc (.cells #[.int .i64 0, .int .i64 0, .string ⟨#[]⟩, .slice none 0 0, .slice none 0 0] 29)).alloc (.cells #[.int .i64 0, .int .i64 0, .string ⟨#[]⟩, .slice none 0 0, .slice none 0 0] 29)) 0 0 ⟨#[]⟩ none 0 0 none 0 0) := box_first w
    go_wp2_with fail
    rename_i hK
    go_step3
    refine hK _ _ ?_
    refine use_first (lb := 0) (k := mu l p0 0 1) HPA.out rfl ?_
    exact ⟨_, p0, .slice none 0 0, [], rfl, ⟨rfl, rfl, rfl, rfl, rfl, rfl⟩, CZ.out, Or.inl ⟨rfl, rfl, fun x hx => absurd hx (by simp), ⟨_, _, _, _, _, _, _, _, _, HBX.out⟩, HFIN.out⟩⟩
end Go.Proofs.YtfnmmpakejdlgaaDoor
