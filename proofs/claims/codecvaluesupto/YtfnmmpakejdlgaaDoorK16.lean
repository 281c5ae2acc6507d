/- Some texts in one: each opens with its own remark. -/
import Derived.Test.YtfnmmpakejdlgaaDoorK5
import Derived.Lib.Bytealg
import Derived.Lib.BytesEntry
import Derived.Laws.Externs
import Derived.Deep.Upon
import Derived.Test.YtfnmmpakejdlgaaDoorK10
import Derived.Test.YtfnmmpakejdlgaaDoorZCValid
/- bytes.Compare of two rows of bytes. -/
namespace Go.Proofs.YtfnmmpakejdlgaaDoor
open Go.RowKit

/-- A row's bytes, read at once. -/
theorem bytesOf_row {w : World} {a : Option Addr} {c : Nat} {l : List UInt8} (hB : Byts w a l) : (Extern.Bytes.bytesOf (.slice a l.length c)).run Tryd.prog w = .ok ⟨l.toArray⟩ w := by
  cases a with
  | none =>
    cases l with
    | nil => rfl
    | cons x l =>
      obtain ⟨_, _, e, _⟩ := hB 0 (by simp)
      cases e
  | some x =>
    have h := Lib.run_loadBytesX (P := Tryd.prog) w (l.map fun b => (b.toNat : Int)) x .empty (fun j y hj => by
      have hjl : j < l.length := by simpa using (List.getElem?_eq_some_iff.1 hj).1
      obtain ⟨b, o, e, hc⟩ := hB j hjl
      cases e
      have hadd : (⟨b, o, none⟩ : Addr).add j = ⟨b, o + j, none⟩ := by
        unfold Addr.add
        split
        · rename_i h0; subst h0; rfl
        · rfl
      rw [hadd, hc]
      have hy : ((l[j]'hjl).toNat : Int) = y := by simpa [hjl] using hj
      rw [hy])
    have hb : Lib.bytesOf (l.map fun b => (b.toNat : Int)) = l := by
      unfold Lib.bytesOf
      rw [List.map_map]
      refine (List.map_congr_left fun b _ => ?_).trans (List.map_id l)
      simp
    rw [hb, List.length_map] at h
    have he : (⟨ByteArray.empty.data ++ l.toArray⟩ : ByteArray) = ⟨l.toArray⟩ := by
      apply ByteArray.ext
      show (#[] : Array UInt8) ++ l.toArray = l.toArray
      simp
    rw [he] at h
    exact h

theorem run_compareRows {w : World} {a a' : Option Addr} {c c' : Nat} {l l' : List UInt8} (h : Byts w a l) (h' : Byts w a' l') :
    (Extern.BytealgCompare.compare #[.slice a l.length c, .slice a' l'.length c']).run Tryd.prog w = .ok (.int .i64 (Lib.compareBytes l l')) w := by
  change Sem.run Tryd.prog (do pure (goInt (Extern.BytealgCompare.cmp (← Extern.Bytes.bytesOf (.slice a l.length c)) (← Extern.Bytes.bytesOf (.slice a' l'.length c'))))) w = _
  simp only [Sem.run_bind, Sem.run_pure, bytesOf_row h, bytesOf_row h', Result.andThen]
  rw [Lib.cmp_eq]
  rfl

set_option maxHeartbeats 1000000 in
set_option maxRecDepth 1000000 in
theorem bytesCompare_any (a a' : Option Addr) (c c' : Nat) (l l' : List UInt8) (w : World) (h : Byts w a l) (h' : Byts w a' l') :
    Calls Tryd.prog 78 #[.slice a l.length c, .slice a' l'.length c'] w fun e w' => e = .returned (.int .i64 (Lib.compareBytes l l')) ∧ w' = w := by
  have H := mkHid (run_compareRows (c := c) (c' := c') h h')
  obtain ⟨n, hn⟩ : ∃ n, n = l.length := ⟨_, rfl⟩
  obtain ⟨n', hn'⟩ : ∃ n', n' = l'.length := ⟨_, rfl⟩
  rw [← hn, ← hn'] at H
  rw [← hn, ← hn']
  clear hn hn' h h'
  go_enter Tryd.func78, Tryd.ntmps78
  go_wp2
  rw [run_callFunc_extern Tryd.func82 (by kernel_rfl) (by kernel_rfl) (by kernel_rfl) (e := Extern.BytealgCompare.compare) (by kernel_rfl), H.out]
  simp only [Result.andThen]
  rw [Oper.upon_value]
  go_wp2
  go_ret
  exact ⟨rfl, rfl⟩
end Go.Proofs.YtfnmmpakejdlgaaDoor

/- The reader's text and name, over what unicode/utf8.Valid says. -/
namespace Go.Proofs.YtfnmmpakejdlgaaDoor
open Go.RowKit

theorem Tabs.only {w w' : World} {R : Nat} (h : Tabs w) (hb : OnlyAt R w w') (hR : 1 < R) : Tabs w' := by
  have e : ∀ b o u, b < 2 → w.cell? ⟨b, o, none⟩ = some u → w'.cell? ⟨b, o, none⟩ = some u := by
    intro b o u h2 hc
    have := hb.block b (cell_lt' hc) (by omega)
    rw [World.cell?_of_block this]
    exact hc
  exact ⟨fun c hc => e _ _ _ (by omega) (h.1 c hc), fun i hi => ⟨e _ _ _ (by omega) (h.2 i hi).1, e _ _ _ (by omega) (h.2 i hi).2⟩⟩

theorem text_any (R b o c p n : Nat) (l : List UInt8) (w : World) (hR : Rd w R (some ⟨b, o, none⟩) l.length c p) (hB : Byts w (some ⟨b, o, none⟩) l) (hA : Apart R (some ⟨b, o, none⟩) l) (hp : p ≤ l.length) (hn : n ≤ 1000000) (hl : l.length ≤ 140737488355328) (hlc : l.length ≤ c) (hcm : c ≤ maxLen) (hT : Tabs w) (hR1 : 1 < R) :
    Calls Tryd.prog 70 #[.pointer (some ⟨R, 0, none⟩), .int .i64 n] w fun e w' => OnlyAt R w w' ∧ ((textR l p n = 0 ∧ p + n ≤ l.length ∧ e = .returned (.slice (partAt b o c p) n (c - p)) ∧ Rd w' R (some ⟨b, o, none⟩) l.length c (p + n)) ∨ (textR l p n ≠ 0 ∧ e = .panicked (thr (textR l p n)))) := by
  by_cases h : l.length < p + n
  · refine (text_end R _ c p n l w hR hp h hl hn).mono ?_
    rintro e w' ⟨rfl, ho⟩
    have e0 : textR l p n = 17 := by unfold textR; rw [if_pos h]
    rw [e0]
    exact ⟨ho, Or.inr ⟨by decide, rfl⟩⟩
  · refine (text_in Lib.validD R b o c p n l w hR hB hA (by omega) hl hlc hcm (fun a c t u hu h1 h2 h3 => bvalid_any a c t u h1 h2 h3 (hT.only hu hR1))).mono ?_
    rintro e w' ⟨ho, ⟨hv, rfl, hr⟩ | ⟨hv, rfl⟩⟩
    · have e0 : textR l p n = 0 := by unfold textR; rw [if_neg h, if_pos hv]
      exact ⟨ho, Or.inl ⟨e0, by omega, rfl, hr⟩⟩
    · have e0 : textR l p n = 11 := by unfold textR; rw [if_neg h, if_neg (by rw [hv]; decide)]
      rw [e0]
      exact ⟨ho, Or.inr ⟨by decide, rfl⟩⟩

/-- What name tells. -/
def NameSay (R b o c : Nat) (l : List UInt8) (p : Nat) (ahead : List UInt8) (w : World) (e : Ending) (w' : World) : Prop :=
  OnlyAt R w w' ∧ (((nameR l p ahead).2.2 = 0 ∧ ∃ a2 c2, e = .returned (.slice a2 (nameR l p ahead).1.length c2) ∧ (∀ u : World, Byts u (some ⟨b, o, none⟩) l → Byts u a2 (nameR l p ahead).1) ∧ Apart R a2 (nameR l p ahead).1 ∧ (nameR l p ahead).1.length ≤ 24 ∧ Rd w' R (some ⟨b, o, none⟩) l.length c (nameR l p ahead).2.1 ∧ p < (nameR l p ahead).2.1 ∧ (nameR l p ahead).2.1 ≤ l.length) ∨ ((nameR l p ahead).2.2 ≠ 0 ∧ e = .panicked (thr (nameR l p ahead).2.2)))

set_option maxHeartbeats 2000000 in
set_option maxRecDepth 1000000 in
theorem name_any (R b o c p : Nat) (l : List UInt8) (aa : Option Addr) (ca : Nat) (ahead : List UInt8) (w : World) (hR : Rd w R (some ⟨b, o, none⟩) l.length c p) (hB : Byts w (some ⟨b, o, none⟩) l) (hA : Apart R (some ⟨b, o, none⟩) l) (hp : p ≤ l.length) (hl : l.length ≤ 140737488355328) (hlc : l.length ≤ c) (hcm : c ≤ maxLen) (hT : Tabs w) (hR1 : 1 < R)
    (hBA : Byts w aa ahead) (hAA : Apart R aa ahead) (_hal : ahead.length ≤ 1000) :
    Calls Tryd.prog 72 #[.pointer (some ⟨R, 0, none⟩), .slice aa ahead.length ca] w fun e w' => NameSay R b o c l p ahead w e w' := by
  have hml : maxLen = 9223372036854775807 := rfl
  have HC : Hid (Calls Tryd.prog 71 #[.pointer (some ⟨R, 0, none⟩), .int .u64 1, .int .u64 24, .int .i64 15] w fun e w' => CntSay R (some ⟨b, o, none⟩) c l p 1 24 15 w e w') := count_any R _ c p 1 24 15 l w hR hB hA hp hl (by omega) (by decide)
  obtain ⟨r, hr⟩ : ∃ r, r = cntR (l.drop p) 1 24 15 := ⟨_, rfl⟩
  have HCS : Hid (∀ e w', CntSay R (some ⟨b, o, none⟩) c l p 1 24 15 w e w' → OnlyAt R w w' ∧ ((r.2.2 = 0 ∧ e = .returned (.int .i64 (r.1 : Int)) ∧ Rd w' R (some ⟨b, o, none⟩) l.length c (p + r.2.1) ∧ p + r.2.1 ≤ l.length ∧ r.1 ≤ 24) ∨ (r.2.2 ≠ 0 ∧ e = .panicked (thr r.2.2)))) := by
    intro e w' h
    rw [hr]
    exact h
  have hpos : r.2.2 = 0 → 0 < r.2.1 ∧ 1 ≤ r.1 ∧ r.1 ≤ 24 := by
    rw [hr]
    intro h
    exact cntR_pos h (by decide)
  obtain ⟨x, hx⟩ : ∃ x, x = r.1 := ⟨_, rfl⟩
  obtain ⟨p1, hp1⟩ : ∃ p1, p1 = p + r.2.1 := ⟨_, rfl⟩
  obtain ⟨tr, htr⟩ : ∃ tr, tr = textR l p1 x := ⟨_, rfl⟩
  obtain ⟨nm, hnm⟩ : ∃ nm, nm = (l.drop p1).take x := ⟨_, rfl⟩
  have HT : Hid (∀ u : World, OnlyAt R w u → Rd u R (some ⟨b, o, none⟩) l.length c p1 → p1 ≤ l.length → x ≤ 24 → Calls Tryd.prog 70 #[.pointer (some ⟨R, 0, none⟩), .int .i64 x] u fun e w' => OnlyAt R u w' ∧ ((tr = 0 ∧ p1 + x ≤ l.length ∧ e = .returned (.slice (partAt b o c p1) x (c - p1)) ∧ Rd w' R (some ⟨b, o, none⟩) l.length c (p1 + x)) ∨ (tr ≠ 0 ∧ e = .panicked (thr tr)))) := by
    intro u hu hRu h1 h2
    rw [htr]
    exact text_any R b o c p1 x l u hRu (hB.only hu hA) hA h1 (by omega) hl hlc hcm (hT.only hu hR1) hR1
  have HCM : Hid (∀ u : World, OnlyAt R w u → p1 + x ≤ l.length → Calls Tryd.prog 78 #[.slice aa ahead.length ca, .slice (partAt b o c p1) x (c - p1)] u fun e w' => e = .returned (.int .i64 (Lib.compareBytes ahead nm)) ∧ w' = u) := by
    intro u hu h1
    have hlen : nm.length = x := by rw [hnm]; simp; omega
    have h := bytesCompare_any aa (partAt b o c p1) ca (c - p1) ahead nm u (hBA.only hu hAA) (by rw [hnm]; exact byts_partAt (hB.only hu hA) h1 hlc)
    rw [hlen] at h
    exact h
  obtain ⟨Q, hQ⟩ : ∃ Q : Ending → World → Prop, Q = fun e w' => NameSay R b o c l p ahead w e w' := ⟨_, rfl⟩
  obtain ⟨cm, hcm2⟩ : ∃ cm, cm = Lib.compareBytes ahead nm := ⟨_, rfl⟩
  have HQ1 : Hid (∀ w', OnlyAt R w w' → r.2.2 ≠ 0 → Q (.panicked (thr r.2.2)) w') := by
    intro w' h1 h2
    have e : nameR l p ahead = ([], 0, r.2.2) := by unfold nameR; rw [← hr, if_pos h2]
    rw [hQ]
    refine ⟨h1, Or.inr ?_⟩
    rw [e]
    exact ⟨h2, rfl⟩
  have HQ2 : Hid (∀ w', OnlyAt R w w' → r.2.2 = 0 → tr ≠ 0 → Q (.panicked (thr tr)) w') := by
    intro w' h1 h2 h3
    have e : nameR l p ahead = ([], 0, tr) := by unfold nameR; rw [← hr, ← hp1, ← hx, ← htr, if_neg (by simpa using h2), if_pos h3]
    rw [hQ]
    refine ⟨h1, Or.inr ?_⟩
    rw [e]
    exact ⟨h3, rfl⟩
  have HQ3 : Hid (∀ w', OnlyAt R w w' → r.2.2 = 0 → tr = 0 → 0 ≤ cm → Q (.panicked (thr 4)) w') := by
    intro w' h1 h2 h3 h4
    have e : nameR l p ahead = ([], 0, 4) := by unfold nameR; rw [← hr, ← hp1, ← hx, ← htr, ← hnm, ← hcm2, if_neg (by simpa using h2), if_neg (by simpa using h3), if_pos h4]
    rw [hQ]
    refine ⟨h1, Or.inr ?_⟩
    rw [e]
    exact ⟨by decide, rfl⟩
  have HQ4 : Hid (∀ w', OnlyAt R w w' → r.2.2 = 0 → tr = 0 → ¬ 0 ≤ cm → p1 + x ≤ l.length → Rd w' R (some ⟨b, o, none⟩) l.length c (p1 + x) → Q (.returned (.slice (partAt b o c p1) x (c - p1))) w') := by
    intro w' h1 h2 h3 h4 h5 h6
    have e : nameR l p ahead = (nm, p1 + x, 0) := by unfold nameR; rw [← hr, ← hp1, ← hx, ← htr, ← hnm, ← hcm2, if_neg (by simpa using h2), if_neg (by simpa using h3), if_neg h4]
    rw [hQ]
    refine ⟨h1, Or.inl ?_⟩
    rw [e]
    have hlen : nm.length = x := by rw [hnm]; simp; omega
    have := hpos h2
    refine ⟨rfl, partAt b o c p1, c - p1, by rw [hlen], fun u hu => by rw [hnm]; exact byts_partAt hu h5 hlc, ?_, by rw [hlen]; omega, h6, ?_, h5⟩
    · intro hz z hz2
      have hb := hA (by omega) ⟨b, o, none⟩ rfl
      unfold partAt at hz2
      split at hz2 <;> (cases hz2; exact hb)
    show p < p1 + x
    omega
  have HX := mkHid hx
  have HP1 := mkHid hp1
  have HPOS := mkHid hpos
  rw [← hQ]
  clear hQ hr hR hB hA hT hBA hAA htr hnm hx hp1 hpos
  obtain ⟨al, hal2⟩ : ∃ al, al = ahead.length := ⟨_, rfl⟩
  rw [← hal2] at HCM ⊢
  rw [← hcm2] at HCM
  clear hal2 hcm2 _hal
  go_enter Tryd.func72, Tryd.ntmps72
  go_wp2_with fail
  refine HC.out.mono ?_
  intro e w1 h1
  obtain ⟨o1, h1⟩ := HCS.out e w1 h1
  have O1 := mkHid o1
  clear o1
  rcases h1 with ⟨h0, rfl, hR1', hle1, hle2⟩ | ⟨h0, rfl⟩
  · have H0 := mkHid h0
    rw [← HP1.out] at hR1' hle1
    rw [← HX.out] at hle2 ⊢
    have RD := mkHid hR1'
    clear h0 hR1'
    go_wp2_with fail
    refine (HT.out _ O1.out RD.out hle1 hle2).mono ?_
    intro e w2 h2
    obtain ⟨o2, h2⟩ := h2
    have O2 := mkHid (O1.out.trans o2)
    clear o2
    rcases h2 with ⟨ht0, hle3, rfl, hR2⟩ | ⟨ht0, rfl⟩
    · have HT0 := mkHid ht0
      have RD2 := mkHid hR2
      have HLE := mkHid hle3
      clear ht0 hR2 hle3
      go_wp2_with fail
      refine (HCM.out _ O2.out HLE.out).mono ?_
      rintro e w3 ⟨rfl, rfl⟩
      by_cases hcmp : 0 ≤ cm
      · go_wp2_with fail
        exact ⟨rfl, HQ3.out _ O2.out H0.out HT0.out hcmp⟩
      · go_wp2_with fail
        exact HQ4.out _ O2.out H0.out HT0.out hcmp HLE.out RD2.out
    · have HT0 := mkHid ht0
      clear ht0
      go_wp2_with fail
      exact ⟨rfl, HQ2.out _ O2.out H0.out HT0.out⟩
  · have H0 := mkHid h0
    clear h0
    go_wp2_with fail
    exact ⟨rfl, HQ1.out _ O1.out H0.out⟩
end Go.Proofs.YtfnmmpakejdlgaaDoor
