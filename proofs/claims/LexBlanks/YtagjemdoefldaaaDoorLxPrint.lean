/- Contract of lex.Print: the text of a row of tokens, or the first error. Condition: the library's table of powers of ten is as it is laid. -/
import Derived.Test.YtagjemdoefldaaaDoorLxWord
import Derived.Test.YtagjemdoefldaaaDoorLxMem
namespace Go.Proofs.YtagjemdoefldaaaDoor
open Go.RowKit

/-- A row of tokens in memory; their places are pz's. -/
def TRow (w : World) (a : Option Addr) (l : List Tok) (pz : Nat → Int) : Prop :=
  ∀ (i : Nat) (h : i < l.length), ∃ g o, a = some ⟨g, o, none⟩ ∧ g < w.heap.size ∧ w.cell? ⟨g, o + i * 4, none⟩ = some (.int .i64 (l[i]'h).k) ∧ w.cell? ⟨g, o + i * 4 + 1, none⟩ = some (.string ⟨(l[i]'h).s.toArray⟩) ∧ w.cell? ⟨g, o + i * 4 + 2, none⟩ = some (.int .i64 (l[i]'h).n) ∧ w.cell? ⟨g, o + i * 4 + 3, none⟩ = some (.int .i64 (pz i))

theorem TRow.below {w w' : World} {a : Option Addr} {l : List Tok} {pz : Nat → Int} (h : TRow w a l pz) (hb : Below w.heap.size w w') : TRow w' a l pz := by
  intro i hi
  obtain ⟨g, o, h1, h2, h3, h4, h5, h6⟩ := h i hi
  have e : ∀ q, w'.cell? ⟨g, q, none⟩ = w.cell? ⟨g, q, none⟩ := fun q => hb.cell (show (⟨g, q, none⟩ : Addr).block < w.heap.size from h2)
  exact ⟨g, o, h1, Nat.lt_of_lt_of_le h2 hb.size, (e _).trans h3, (e _).trans h4, (e _).trans h5, (e _).trans h6⟩

theorem toksC_at (l : List Tok) : ∀ (i : Nat) (h : i < l.length) (j : Nat), j < 4 → (toksC l)[i * 4 + j]? = (l[i]'h).cells[j]? := by
  induction l with
  | nil => intro i h; simp at h
  | cons x l ih =>
    intro i h j hj
    rw [show toksC (x :: l) = x.cells ++ toksC l from rfl]
    have hc : x.cells.length = 4 := rfl
    cases i with
    | zero => rw [Nat.zero_mul, Nat.zero_add, List.getElem?_append_left (by omega)]; rfl
    | succ i =>
      rw [List.getElem?_append_right (by omega), hc, show (i + 1) * 4 + j - 4 = i * 4 + j by omega]
      exact ih i (by simpa using h) j hj

/-- A row of one's own is one. -/
theorem own_trow {w : World} {B : Nat} {v : Value} {l : List Tok} (h : w.ownsRow B 29 4 v l.length (toksC l)) : ∃ a c, v = .slice a l.length c ∧ TRow w a l (fun i => ((l[i]?.map (·.p)).getD 0 : Nat)) := by
  rcases h.2 with ⟨rfl, h0⟩ | ⟨g, cap, cur, rfl, h1, h2, h3, h4, h5, h6⟩
  · refine ⟨none, 0, by rw [h0], ?_⟩
    intro i hi
    omega
  · refine ⟨some ⟨g, 0, none⟩, cap, rfl, ?_⟩
    intro i hi
    have hg : g < w.heap.size := (Array.getElem?_eq_some_iff.1 h2).1
    have e : ∀ j, j < 4 → w.cell? ⟨g, 0 + i * 4 + j, none⟩ = (l[i]'hi).cells[j]? := by
      intro j hj
      rw [cell_of_row w g _ _ _ _ h2, ← toksC_at l i hi j hj, ← h6, List.getElem?_take_of_lt (by omega), Nat.zero_add]
      simp
    refine ⟨g, 0, rfl, hg, e 0 (by omega), e 1 (by omega), e 2 (by omega), ?_⟩
    rw [e 3 (by omega)]
    simp only [List.getElem?_eq_getElem hi, Option.map_some, Option.getD_some]
    rfl

/-- The text of a row of tokens. -/
def prF : Nat → List Tok → List UInt8 → List UInt8 × Int
  | _, [], acc => (acc, 0)
  | i, t :: r, acc => if t.k = 0 then (acc, 0) else if (textR t.k t.s t.n).2 = 0 then prF (i + 1) r (acc ++ (if i = 0 then [] else [32]) ++ (textR t.k t.s t.n).1) else ([], (textR t.k t.s t.n).2)
def prR (l : List Tok) : List UInt8 × Int := prF 0 l []

theorem quoteFrom_len (s : ByteArray) : ∀ (f p : Nat), (quoteFrom s f p).length ≤ 6 * f := by
  intro f
  induction f with
  | zero => intro p; simp [quoteFrom]
  | succ f ih =>
    intro p
    unfold quoteFrom
    split
    · have := partOf_len ((Utf8.decode s p).1 : Int)
      have := ih (p + (Utf8.decode s p).2)
      rw [List.length_append]
      omega
    · simp

theorem quoteOf_len (s : ByteArray) : (quoteOf s).length ≤ 6 * s.size + 2 := by
  unfold quoteOf
  have := quoteFrom_len s s.size 0
  simp only [List.length_cons, List.length_append, List.length_nil]
  omega

theorem textR_len (k : Int) (s : List UInt8) (n : Int) (h0 : -9223372036854775808 ≤ n) (h1 : n ≤ 9223372036854775807) : (textR k s n).1.length ≤ 6 * s.length + 24 := by
  unfold textR
  split
  · have := Lib.itoa_length_le n h0 h1
    show (Lib.itoa n).length ≤ _
    omega
  · split
    · simp
    · split
      · split
        · show s.length ≤ _; omega
        · simp
      · split
        · split
          · have := quoteOf_len ⟨s.toArray⟩
            have hs : (⟨s.toArray⟩ : ByteArray).size = s.length := by rw [← size_list]
            show (quoteOf ⟨s.toArray⟩).length ≤ _
            omega
          · simp
        · split
          · split
            · show s.length ≤ _; omega
            · simp
          · simp

theorem textR_err (k : Int) (s : List UInt8) (n : Int) : (textR k s n).2 = 0 ∨ textR k s n = ([], 1) ∨ textR k s n = ([], 11) := by
  unfold textR
  repeat' split
  all_goals first | exact Or.inl rfl | exact Or.inr (Or.inl rfl) | exact Or.inr (Or.inr rfl)

set_option maxHeartbeats 4000000 in
set_option maxRecDepth 1000000 in
theorem print_any (a : Option Addr) (c M : Nat) (l : List Tok) (pz : Nat → Int) (w : World) (hrow : TRow w a l pz) (hM : ∀ t ∈ l, t.s.length ≤ M) (hn : ∀ t ∈ l, -9223372036854775808 ≤ t.n ∧ t.n ≤ 9223372036854775807) (hbig : (l.length + 1) * (6 * M + 40) ≤ 140737488355328) (hw : TabOk w) :
    Calls Tryd.prog 14 #[.slice a l.length c] w fun e w' => e = txRet (prR l) ∧ Below w.heap.size w w' := by
  generalize hR : prR l = R
  have HR : Hid (prF 0 l [] = R) := hR
  have HROW : Hid (TRow w a l pz) := hrow
  have HM : Hid _ := hM
  have HNN : Hid _ := hn
  have HBIG : Hid _ := hbig
  have HW : Hid (TabOk w) := hw
  have hll : l.length ≤ 140737488355328 := by
    have : (l.length + 1) * 1 ≤ (l.length + 1) * (6 * M + 40) := Nat.mul_le_mul_left _ (by omega)
    omega
  clear hR hrow hM hn hbig hw
  generalize hL : l.length = L at hll
  have HL : Hid (l.length = L) := hL
  rw [hL] at HBIG
  clear hL
  go_enter Tryd.func14, Tryd.ntmps14
  go_wp2
  go_loopw [11] (fun iv wr => ∃ (i : Nat) (acc : List UInt8), iv = .int .i64 i ∧ i ≤ L ∧ Lib.IsBuilderF 53 5 w.heap.size w.heap.size (Lib.byteCells acc) wr ∧ Below w.heap.size w wr ∧ w.heap.size < wr.heap.size ∧ acc.length ≤ i * (6 * M + 40) ∧ prF i (l.drop i) acc = R) (fun iv _ => L - (intOf iv).toNat)
  case atStart =>
    exact ⟨0, [], rfl, by omega, Lib.IsBuilderF.of (Lib.fresh_isBuilder 53 5 w), (Below.refl _ w).alloc (Nat.le_refl _) _, by simp, by simp, HR.out⟩
  case round =>
    obtain ⟨i, acc, rfl, hiL, hI, hbw, hwz, hal, hpr⟩ := hrel
    have HPR : Hid (prF i (l.drop i) acc = R) := hpr
    clear hpr
    by_cases hi : i < L
    · have hi' : i < l.length := by rw [HL.out]; exact hi
      obtain ⟨g, o, rfl, hg, e0, e1, e2, e3⟩ := TRow.below (show TRow w a l pz from HROW.out) hbw i hi'
      obtain ⟨x, hx⟩ : ∃ x, x = l[i]'hi' := ⟨_, rfl⟩
      rw [← hx] at e0 e1 e2
      have hmem : x ∈ l := by rw [hx]; exact List.getElem_mem hi'
      have hxs := HM.out x hmem
      obtain ⟨hn0, hn1⟩ := HNN.out x hmem
      have hdrop : l.drop i = x :: l.drop (i + 1) := by rw [hx]; exact List.drop_eq_getElem_cons hi'
      have hpr := HPR.out
      rw [hdrop, prF] at hpr
      have hbig1 : (i + 1 + 1) * (6 * M + 40) ≤ 140737488355328 := Nat.le_trans (Nat.mul_le_mul_right _ (by omega)) HBIG.out
      have hmul : (i + 1 + 1) * (6 * M + 40) = i * (6 * M + 40) + (6 * M + 40) + (6 * M + 40) := by rw [Nat.succ_mul, Nat.succ_mul]
      have hmul1 : (i + 1) * (6 * M + 40) = i * (6 * M + 40) + (6 * M + 40) := by rw [Nat.succ_mul]
      have hsz : (⟨x.s.toArray⟩ : ByteArray).size = x.s.length := by rw [← size_list]
      have hbx : Below wr.heap.size wr (wr.alloc (.cells #[.int .i64 x.k, .string ⟨x.s.toArray⟩, .int .i64 x.n, .int .i64 (pz i)] 29)) := (Below.refl _ wr).alloc (Nat.le_refl _) _
      have hI1 := isBuilder_below hI hbx
      have hbw1 := hbw.trans (hbx.mono hbw.size)
      have hTX := fun W (hb : Below w.heap.size w W) => text_tok x.k ⟨x.s.toArray⟩ x.n (pz i) W (by rw [hsz]; omega) hn0 hn1 (TabOk.mono (show TabOk w from HW.out) hb)
      have hlen := textR_len x.k x.s x.n hn0 hn1
      generalize hT : textR x.k x.s x.n = T at hpr hlen
      have hT' : textR x.k (⟨x.s.toArray⟩ : ByteArray).data.toList x.n = T := hT
      have hTe := textR_err x.k x.s x.n
      rw [hT] at hTe
      rw [hT'] at hTX
      obtain ⟨tx, te⟩ := T
      simp only [Prod.mk.injEq] at hTe hpr hlen
      have HTX : Hid _ := hTX
      have HPR2 : Hid _ := hpr
      have HMUL : Hid (i * (6 * M + 40) + (6 * M + 40) + (6 * M + 40) ≤ 140737488355328) := by rw [← hmul]; exact hbig1
      have HMUL1 : Hid _ := hmul1
      have HAL : Hid (acc.length ≤ i * (6 * M + 40)) := hal
      have HLEN : Hid _ := hlen
      have HXS : Hid _ := hxs
      clear hTX hpr hT hT' hdrop hx hmem hn0 hn1 hbig1 hmul hmul1 hlen hal hsz HPR hxs HBIG HM HNN
      by_cases hk : x.k = 0
      · have HE : Hid (R = (acc, 0)) := by
          show R = (acc, 0)
          have := HPR2.out
          rw [if_pos hk] at this
          exact this.symm
        clear HPR2 HTX hTe
        generalize x.k = xk at *
        subst hk
        go_wp2_with fail
        refine (Tryd.Builder_String_any_k w.heap.size w.heap.size acc _ hI1 (by simp; omega)).mono ?_
        rintro e w2 ⟨rfl, _, b2, _⟩
        go_wp2_with fail
        go_ret2
        refine ⟨?_, hbw1.trans b2⟩
        rw [HE.out]
        rfl
      · have hkb : (x.k == 0) = false := by simp [hk]
        rcases hTe with rfl | ⟨rfl, rfl⟩ | ⟨rfl, rfl⟩
        · have HPR3 : Hid (prF (i + 1) (l.drop (i + 1)) (acc ++ (if i = 0 then [] else [32]) ++ tx) = R) := by
            show prF (i + 1) (l.drop (i + 1)) (acc ++ (if i = 0 then [] else [32]) ++ tx) = R
            have := HPR2.out
            rw [if_neg hk] at this
            simpa using this
          have hsx : (⟨tx.toArray⟩ : ByteArray).size = tx.length := by rw [← size_list]
          have HSX : Hid _ := hsx
          clear HPR2 hk hsx
          by_cases hi0 : i = 0
          · subst hi0
            simp only [Nat.zero_mul, Nat.add_zero] at e0 e1 e2 e3
            go_wp2_with fail
            refine (HTX.out _ hbw1).mono ?_
            rintro e w2 ⟨rfl, b2⟩
            have hI2 := isBuilder_below hI1 b2
            have hbw2 := hbw1.trans (b2.mono hbw1.size)
            have hz2 : w.heap.size < w2.heap.size := Nat.lt_of_lt_of_le (Nat.lt_of_lt_of_le hwz hbx.size) b2.size
            clear HTX b2 hI1 hbw1 hbx
            unfold txRet
            go_wp2_with fail
            refine (Tryd.Builder_WriteString_k w.heap.size w.heap.size _ ⟨tx.toArray⟩ w2 hI2 (by rw [Lib.byteCells_length, HSX.out]; have := HAL.out; have := HLEN.out; have := HMUL.out; have := HXS.out; omega) (by omega)).mono ?_
            rintro e w3 ⟨rfl, k1, k2, _⟩
            have hI3 : Lib.IsBuilderF 53 5 w.heap.size w.heap.size (Lib.byteCells (acc ++ tx)) w3 := by
              rw [Lib.byteCells_append]; exact Or.inr k1
            have hbw3 := hbw2.trans k2
            have hz3 : w.heap.size < w3.heap.size := Nat.lt_of_lt_of_le hz2 k2.size
            clear k1 k2 hI2 hbw2
            go_wp2_with fail
            go_roundw
            case rel =>
              refine ⟨1, acc ++ tx, rfl, by omega, hI3, hbw3, hz3, ?_, ?_⟩
              · rw [List.length_append]
                have := HAL.out; have := HLEN.out; have := HXS.out
                omega
              · have := HPR3.out
                simpa using this
            case measure => simp [intOf]; omega
          · have hi1 : (0 : Int) < (i : Int) := by omega
            go_wp2_with fail
            refine (HTX.out _ hbw1).mono ?_
            rintro e w2 ⟨rfl, b2⟩
            have hI2 := isBuilder_below hI1 b2
            have hbw2 := hbw1.trans (b2.mono hbw1.size)
            have hz2 : w.heap.size < w2.heap.size := Nat.lt_of_lt_of_le (Nat.lt_of_lt_of_le hwz hbx.size) b2.size
            clear HTX b2 hI1 hbw1 hbx
            unfold txRet
            go_wp2_with fail
            refine (Tryd.Builder_WriteString_k w.heap.size w.heap.size _ ⟨#[32]⟩ w2 hI2 (by rw [Lib.byteCells_length]; show acc.length + 1 ≤ _; have := HAL.out; have := HMUL.out; omega) (by omega)).mono ?_
            rintro e w4 ⟨rfl, k1, k2, _⟩
            have hI4 : Lib.IsBuilderF 53 5 w.heap.size w.heap.size (Lib.byteCells (acc ++ [32])) w4 := by
              rw [Lib.byteCells_append]; exact Or.inr k1
            have hbw4 := hbw2.trans k2
            have hz4 : w.heap.size < w4.heap.size := Nat.lt_of_lt_of_le hz2 k2.size
            clear k1 k2 hI2 hbw2
            go_wp2_with fail
            refine (Tryd.Builder_WriteString_k w.heap.size w.heap.size _ ⟨tx.toArray⟩ w4 hI4 (by rw [Lib.byteCells_length, HSX.out, List.length_append]; show acc.length + 1 + tx.length ≤ _; have := HAL.out; have := HLEN.out; have := HMUL.out; have := HXS.out; omega) (by omega)).mono ?_
            rintro e w3 ⟨rfl, k1, k2, _⟩
            have hI3 : Lib.IsBuilderF 53 5 w.heap.size w.heap.size (Lib.byteCells (acc ++ [32] ++ tx)) w3 := by
              rw [Lib.byteCells_append]; exact Or.inr k1
            have hbw3 := hbw4.trans k2
            have hz3 : w.heap.size < w3.heap.size := Nat.lt_of_lt_of_le hz4 k2.size
            clear k1 k2 hI4 hbw4
            go_wp2_with fail
            go_roundw
            case rel =>
              refine ⟨i + 1, acc ++ [32] ++ tx, by go_num, by omega, hI3, hbw3, hz3, ?_, ?_⟩
              · rw [List.length_append, List.length_append, HMUL1.out, List.length_singleton]
                have := HAL.out; have := HLEN.out; have := HXS.out
                omega
              · have := HPR3.out
                rw [if_neg hi0] at this
                exact this
            case measure => simp [intOf]; omega
        · have HE : Hid (R = ([], 1)) := by
            show R = ([], 1)
            have := HPR2.out
            rw [if_neg hk] at this
            simpa using this.symm
          clear HPR2 hk
          go_wp2_with fail
          refine (HTX.out _ hbw1).mono ?_
          rintro e w2 ⟨rfl, b2⟩
          have hbw2 := hbw1.trans (b2.mono hbw1.size)
          clear HTX b2 hI1 hbw1 hbx
          unfold txRet
          go_wp2_with fail
          go_ret2
          refine ⟨?_, hbw2⟩
          rw [HE.out]
          rfl
        · have HE : Hid (R = ([], 11)) := by
            show R = ([], 11)
            have := HPR2.out
            rw [if_neg hk] at this
            simpa using this.symm
          clear HPR2 hk
          go_wp2_with fail
          refine (HTX.out _ hbw1).mono ?_
          rintro e w2 ⟨rfl, b2⟩
          have hbw2 := hbw1.trans (b2.mono hbw1.size)
          clear HTX b2 hI1 hbw1 hbx
          unfold txRet
          go_wp2_with fail
          go_ret2
          refine ⟨?_, hbw2⟩
          rw [HE.out]
          rfl
    · obtain rfl : i = L := by omega
      have HE : Hid (R = (acc, 0)) := by
        show R = (acc, 0)
        have := HPR.out
        rw [List.drop_eq_nil_of_le (by rw [HL.out]; omega)] at this
        exact this.symm
      clear HPR
      go_wp2_with fail
      refine (Tryd.Builder_String_any_k w.heap.size w.heap.size acc _ hI (by omega)).mono ?_
      rintro e w2 ⟨rfl, _, b2, _⟩
      go_wp2_with fail
      go_ret2
      refine ⟨?_, hbw.trans b2⟩
      rw [HE.out]
      rfl
end Go.Proofs.YtagjemdoefldaaaDoor
