/- Some texts in one: each opens with its own remark. -/
import Derived.Test.YtfnmmpakejdlgaaDoorK9
import Derived.Lib.ValidLaws
import Derived.Lib.Bytealg
import Derived.Test.YtfnmmpakejdlgaaDoorK5
import Derived.Laws.BitsAllLaws
import Derived.Deep.LoopGhost
import Derived.Deep.DeepMust
import Derived.Deep.CutBlock
import Derived.Deep.DeepCutAuto
/- The reader's count: how many there are of something, or a fault thrown. -/
namespace Go.Proofs.YtfnmmpakejdlgaaDoor
open Go.RowKit

/-- How many, the bytes that say so, the fault. -/
def cntR (l : List UInt8) (least most : Nat) (er : Int) : Nat × Nat × Int :=
  if (numR l 0 0).2.2 ≠ 0 then (0, 0, (numR l 0 0).2.2) else if (numR l 0 0).1 < least ∨ most < (numR l 0 0).1 then (0, 0, er) else ((numR l 0 0).1, (numR l 0 0).2.1, 0)

def CntSay (R : Nat) (a : Option Addr) (c : Nat) (l : List UInt8) (p least most : Nat) (er : Int) (w : World) (e : Ending) (w' : World) : Prop :=
  OnlyAt R w w' ∧ (((cntR (l.drop p) least most er).2.2 = 0 ∧ e = .returned (.int .i64 ((cntR (l.drop p) least most er).1 : Int)) ∧ Rd w' R a l.length c (p + (cntR (l.drop p) least most er).2.1) ∧ p + (cntR (l.drop p) least most er).2.1 ≤ l.length ∧ (cntR (l.drop p) least most er).1 ≤ most) ∨ ((cntR (l.drop p) least most er).2.2 ≠ 0 ∧ e = .panicked (thr (cntR (l.drop p) least most er).2.2)))

set_option maxHeartbeats 2000000 in
set_option maxRecDepth 1000000 in
theorem count_any (R : Nat) (a : Option Addr) (c p least most : Nat) (er : Int) (l : List UInt8) (w : World) (hR : Rd w R a l.length c p) (hB : Byts w a l) (hA : Apart R a l) (hp : p ≤ l.length) (hl : l.length ≤ 140737488355328) (hm : most ≤ 1000000) (he : er ≠ 0) :
    Calls Tryd.prog 71 #[.pointer (some ⟨R, 0, none⟩), .int .u64 least, .int .u64 most, .int .i64 er] w fun e w' => CntSay R a c l p least most er w e w' := by
  have HN : Hid (Calls Tryd.prog 40 #[.pointer (some ⟨R, 0, none⟩)] w fun e w' => NumSay R a c l p w e w') := number_any R a c p l w hR hB hA hp hl
  obtain ⟨r, hr⟩ : ∃ r, r = numR (l.drop p) 0 0 := ⟨_, rfl⟩
  have HNS : Hid (∀ e w', NumSay R a c l p w e w' → OnlyAt R w w' ∧ ((r.2.2 = 0 ∧ e = .returned (.int .u64 (r.1 : Int)) ∧ Rd w' R a l.length c (p + r.2.1) ∧ p + r.2.1 ≤ l.length) ∨ (r.2.2 ≠ 0 ∧ e = .panicked (thr r.2.2)))) := by
    intro e w' h
    rw [hr]
    exact h
  obtain ⟨Q, hQ⟩ : ∃ Q : Ending → World → Prop, Q = fun e w' => CntSay R a c l p least most er w e w' := ⟨_, rfl⟩
  have HQ0 : Hid (∀ e w', OnlyAt R w w' → r.2.2 ≠ 0 → e = .panicked (thr r.2.2) → Q e w') := by
    intro e w' h1 h2 h3
    rw [hQ]
    have hc : cntR (l.drop p) least most er = (0, 0, r.2.2) := by unfold cntR; rw [← hr, if_pos h2]
    refine ⟨h1, Or.inr ?_⟩
    rw [hc]
    exact ⟨h2, h3⟩
  have HQ1 : Hid (∀ e w', OnlyAt R w w' → r.2.2 = 0 → (r.1 < least ∨ most < r.1) → e = .panicked (thr er) → Q e w') := by
    intro e w' h1 h2 h4 h3
    rw [hQ]
    have hc : cntR (l.drop p) least most er = (0, 0, er) := by unfold cntR; rw [← hr, if_neg (by simpa using h2), if_pos h4]
    refine ⟨h1, Or.inr ?_⟩
    rw [hc]
    exact ⟨he, h3⟩
  have HQ2 : Hid (∀ e w', OnlyAt R w w' → r.2.2 = 0 → ¬ (r.1 < least ∨ most < r.1) → e = .returned (.int .i64 (r.1 : Int)) → Rd w' R a l.length c (p + r.2.1) → p + r.2.1 ≤ l.length → Q e w') := by
    intro e w' h1 h2 h4 h3 h5 h6
    rw [hQ]
    have hc : cntR (l.drop p) least most er = (r.1, r.2.1, 0) := by unfold cntR; rw [← hr, if_neg (by simpa using h2), if_neg h4]
    refine ⟨h1, Or.inl ?_⟩
    rw [hc]
    exact ⟨rfl, h3, h5, h6, by omega⟩
  rw [← hQ]
  clear hQ hr hR hB hA he
  go_enter Tryd.func71, Tryd.ntmps71
  go_wp2_with fail
  refine HN.out.mono ?_
  intro e w1 h1
  obtain ⟨o1, h1⟩ := HNS.out e w1 h1
  have O1 := mkHid o1
  clear o1
  rcases h1 with ⟨h0, rfl, hR1, hle1⟩ | ⟨h0, rfl⟩
  · have H0 := mkHid h0
    have R1 := mkHid hR1
    obtain ⟨x, hx⟩ : ∃ x, x = r.1 := ⟨_, rfl⟩
    rw [← hx]
    have HX := mkHid hx
    clear h0 hR1 hx
    by_cases hlo : x < least
    · go_wp2_with fail
      exact ⟨rfl, HQ1.out _ _ O1.out H0.out (by rw [← HX.out]; exact Or.inl hlo) rfl⟩
    · by_cases hhi : most < x
      · go_wp2_with fail
        exact ⟨rfl, HQ1.out _ _ O1.out H0.out (by rw [← HX.out]; exact Or.inr hhi) rfl⟩
      · have hxm : x ≤ 1000000 := by omega
        go_wp2_with fail
        exact HQ2.out _ _ O1.out H0.out (by rw [← HX.out]; omega) (by rw [← HX.out]; rfl) R1.out hle1
  · have H0 := mkHid h0
    clear h0
    go_wp2_with fail
    exact ⟨rfl, HQ0.out _ _ O1.out H0.out rfl⟩
end Go.Proofs.YtfnmmpakejdlgaaDoor

/- A text and a field's name in the bytes: what they say. -/
namespace Go.Proofs.YtfnmmpakejdlgaaDoor
open Go.RowKit

/-- A text of n bytes at a place: its fault. -/
def textR (l : List UInt8) (p n : Nat) : Int := if l.length < p + n then 17 else if Lib.validD ((l.drop p).take n) = true then 0 else 11

/-- A field's name at a place behind another: its bytes, the place behind, the fault. -/
def nameR (l : List UInt8) (p : Nat) (ahead : List UInt8) : List UInt8 × Nat × Int :=
  if (cntR (l.drop p) 1 24 15).2.2 ≠ 0 then ([], 0, (cntR (l.drop p) 1 24 15).2.2)
  else if textR l (p + (cntR (l.drop p) 1 24 15).2.1) (cntR (l.drop p) 1 24 15).1 ≠ 0 then ([], 0, textR l (p + (cntR (l.drop p) 1 24 15).2.1) (cntR (l.drop p) 1 24 15).1)
  else if 0 ≤ Lib.compareBytes ahead ((l.drop (p + (cntR (l.drop p) 1 24 15).2.1)).take (cntR (l.drop p) 1 24 15).1) then ([], 0, 4)
  else ((l.drop (p + (cntR (l.drop p) 1 24 15).2.1)).take (cntR (l.drop p) 1 24 15).1, p + (cntR (l.drop p) 1 24 15).2.1 + (cntR (l.drop p) 1 24 15).1, 0)

theorem cntR_pos {l : List UInt8} {least most : Nat} {er : Int} (h : (cntR l least most er).2.2 = 0) (he : er ≠ 0) : 0 < (cntR l least most er).2.1 ∧ least ≤ (cntR l least most er).1 ∧ (cntR l least most er).1 ≤ most := by
  unfold cntR at h ⊢
  split at h
  · rename_i h1
    exact absurd h h1
  · rename_i h1
    rw [if_neg h1]
    split at h
    · exact absurd h he
    · rename_i h2
      rw [if_neg h2]
      refine ⟨?_, by omega, by omega⟩
      have hn : ∀ (l : List UInt8) (k acc : Nat), (numR l k acc).2.2 = 0 → 0 < (numR l k acc).2.1 := by
        intro l
        induction l with
        | nil => intro k acc h; exact absurd h (by simp [numR])
        | cons c l ih =>
          intro k acc h
          rw [numR] at h ⊢
          split at h
          · exact absurd h (by decide)
          · rename_i h3
            rw [if_neg h3]
            split at h
            · rename_i h4
              rw [if_pos h4]
              exact ih _ _ h
            · rename_i h4
              rw [if_neg h4]
              exact Nat.succ_pos _
      exact hn _ _ _ (by simpa using h1)

end Go.Proofs.YtfnmmpakejdlgaaDoor

/- The reader's text, over what utf8.Valid says: so many bytes, or a fault thrown. -/
namespace Go.Proofs.YtfnmmpakejdlgaaDoor
open Go.RowKit

theorem byts_part {w : World} {b o p n : Nat} {l : List UInt8} (h : Byts w (some ⟨b, o, none⟩) l) (hp : p + n ≤ l.length) : Byts w (some ⟨b, o + p, none⟩) ((l.drop p).take n) := by
  intro i hi
  have hi2 : i < n := by simp at hi; omega
  obtain ⟨b', o', e, hc⟩ := h (p + i) (by omega)
  cases e
  refine ⟨b, o + p, rfl, ?_⟩
  rw [Nat.add_assoc, hc]
  simp

set_option maxHeartbeats 2000000 in
set_option maxRecDepth 1000000 in
theorem text_end (R : Nat) (a : Option Addr) (c p n : Nat) (l : List UInt8) (w : World) (hR : Rd w R a l.length c p) (hp : p ≤ l.length) (hn : l.length < p + n) (_hl : l.length ≤ 140737488355328) (hn2 : n ≤ 1000000) :
    Calls Tryd.prog 70 #[.pointer (some ⟨R, 0, none⟩), .int .i64 n] w fun e w' => e = .panicked (thr 17) ∧ OnlyAt R w w' := by
  obtain ⟨c0, c1⟩ := hR.cells
  obtain ⟨m, hm⟩ : ∃ m, m = l.length := ⟨_, rfl⟩
  rw [← hm] at c0 hp hn
  clear hm hR
  go_enter Tryd.func70, Tryd.ntmps70
  go_wp2_with fail
  go_quiet (fail)
  go_wp2_with fail
  exact ⟨rfl, rfl, (OnlyAt.refl R w).drewN _⟩

/-- Where a part of a row lies: a part of no room lies where the row does. -/
def partAt (b o c p : Nat) : Option Addr := if c = p then some ⟨b, o, none⟩ else some ⟨b, o + p, none⟩
theorem byts_partAt {w : World} {b o c p n : Nat} {l : List UInt8} (h : Byts w (some ⟨b, o, none⟩) l) (hp : p + n ≤ l.length) (hlc : l.length ≤ c) : Byts w (partAt b o c p) ((l.drop p).take n) := by
  unfold partAt
  split
  · intro i hi
    simp at hi
    omega
  · exact byts_part h hp

set_option maxHeartbeats 1000000 in
set_option maxRecDepth 1000000 in
theorem text_in (vld : List UInt8 → Bool) (R b o c p n : Nat) (l : List UInt8) (w : World) (hR : Rd w R (some ⟨b, o, none⟩) l.length c p) (hB : Byts w (some ⟨b, o, none⟩) l) (hA : Apart R (some ⟨b, o, none⟩) l) (hp : p + n ≤ l.length) (hl : l.length ≤ 140737488355328) (hlc : l.length ≤ c) (_hcm : c ≤ maxLen)
    (hV : ∀ (a : Option Addr) (c : Nat) (t : List UInt8) (u : World), OnlyAt R w u → t.length ≤ 140737488355328 → t.length ≤ c → Byts u a t → Calls Tryd.prog 77 #[.slice a t.length c] u fun e w' => e = .returned (.bool (vld t)) ∧ RowKit.Below u.heap.size u w') :
    Calls Tryd.prog 70 #[.pointer (some ⟨R, 0, none⟩), .int .i64 n] w fun e w' => OnlyAt R w w' ∧ ((vld ((l.drop p).take n) = true ∧ e = .returned (.slice (partAt b o c p) n (c - p)) ∧ Rd w' R (some ⟨b, o, none⟩) l.length c (p + n)) ∨ (vld ((l.drop p).take n) = false ∧ e = .panicked (thr 11))) := by
  have hml : maxLen = 9223372036854775807 := rfl
  obtain ⟨c0, c1⟩ := hR.cells
  obtain ⟨f0, f1⟩ := hR.free
  have HR := mkHid hR
  have hRl := hR.lt
  obtain ⟨V, hVd⟩ : ∃ V, V = vld ((l.drop p).take n) := ⟨_, rfl⟩
  have hlen : ((l.drop p).take n).length = n := by simp; omega
  have HV1 : Hid (∀ u : World, OnlyAt R w u → ¬ c = p → Calls Tryd.prog 77 #[.slice (some ⟨b, o + p, none⟩) n (c - p)] u fun e w' => e = .returned (.bool V) ∧ RowKit.Below u.heap.size u w') := by
    intro u hu _
    have h := hV (some ⟨b, o + p, none⟩) (c - p) ((l.drop p).take n) u hu (by omega) (by omega) (byts_part (hB.only hu hA) hp)
    rw [hlen, ← hVd] at h
    exact h
  have HV2 : Hid (∀ u : World, OnlyAt R w u → c = p → Calls Tryd.prog 77 #[.slice (some ⟨b, o, none⟩) n 0] u fun e w' => e = .returned (.bool V) ∧ RowKit.Below u.heap.size u w') := by
    intro u hu hc
    have h := hV (some ⟨b, o, none⟩) 0 ((l.drop p).take n) u hu (by omega) (by omega) (by intro i hi; simp at hi; omega)
    rw [hlen, ← hVd] at h
    exact h
  obtain ⟨Q, hQ⟩ : ∃ Q : Ending → World → Prop, Q = fun e w' => OnlyAt R w w' ∧ ((V = true ∧ e = .returned (.slice (partAt b o c p) n (c - p)) ∧ Rd w' R (some ⟨b, o, none⟩) l.length c (p + n)) ∨ (V = false ∧ e = .panicked (thr 11))) := ⟨_, rfl⟩
  have HO : Hid (∀ q w', RowKit.Below ((w.drewN q).setCell ⟨R, 1, none⟩ (.int .i64 ((p : Int) + (n : Int)))).heap.size ((w.drewN q).setCell ⟨R, 1, none⟩ (.int .i64 ((p : Int) + (n : Int)))) w' → OnlyAt R w w' ∧ Rd w' R (some ⟨b, o, none⟩) l.length c (p + n)) := by
    intro q w' h
    have e : ((p : Int) + (n : Int)) = ((p + n : Nat) : Int) := by omega
    rw [e] at h
    have h1 := (((OnlyAt.refl R w).drewN q).setCell 1 (.int .i64 ((p + n : Nat) : Int)))
    have h2 : Rd ((w.drewN q).setCell ⟨R, 1, none⟩ (.int .i64 ((p + n : Nat) : Int))) R (some ⟨b, o, none⟩) l.length c (p + n) := Rd.put (w := w.drewN q) (p := p) hR (p + n)
    refine ⟨h1.trans ⟨h.os, h.tape, h.output, h.size, fun k hk _ => h.block k hk⟩, ?_⟩
    unfold Rd at h2 ⊢
    rw [h.block R (Array.getElem?_eq_some_iff.1 h2).1]
    exact h2
  have HQ1 : Hid (∀ w', OnlyAt R w w' ∧ Rd w' R (some ⟨b, o, none⟩) l.length c (p + n) → V = true → ¬ c = p → Q (.returned (.slice (some ⟨b, o + p, none⟩) n (c - p))) w') := by
    intro w' h hv hc
    rw [hQ]
    refine ⟨h.1, Or.inl ⟨hv, ?_, h.2⟩⟩
    simp [partAt, hc]
  have HQ2 : Hid (∀ w', OnlyAt R w w' ∧ Rd w' R (some ⟨b, o, none⟩) l.length c (p + n) → V = true → c = p → Q (.returned (.slice (some ⟨b, o, none⟩) n 0)) w') := by
    intro w' h hv hc
    rw [hQ]
    refine ⟨h.1, Or.inl ⟨hv, ?_, h.2⟩⟩
    simp [partAt, hc]
  have HQ3 : Hid (∀ w', OnlyAt R w w' → V = false → Q (.panicked (thr 11)) w') := by
    intro w' h hv
    rw [hQ]
    exact ⟨h, Or.inr ⟨hv, rfl⟩⟩
  have HO1 : Hid (∀ q, OnlyAt R w ((w.drewN q).setCell ⟨R, 1, none⟩ (.int .i64 ((p : Int) + (n : Int))))) := fun q => ((OnlyAt.refl R w).drewN q).setCell 1 _
  rw [← hVd, ← hQ]
  obtain ⟨m, hm⟩ : ∃ m, m = l.length := ⟨_, rfl⟩
  rw [← hm] at c0 hp hl hlc
  clear hm hR hB hA hV hVd hQ hlen
  go_enter Tryd.func70, Tryd.ntmps70
  go_wp2_with fail
  go_quiet (fail)
  go_wp2_with fail
  go_quiet (fail)
  go_wp2_with fail
  rotate_left
  · refine (HV1.out _ ?ho h).mono ?_
    case ho => exact HO1.out _
    rintro e w1 ⟨rfl, h1⟩
    have H1 := mkHid (HO.out _ _ h1)
    clear h1
    cases V with
    | true =>
      go_wp2_with fail
      exact HQ1.out _ H1.out trivial h
    | false =>
      go_wp2_with fail
      exact ⟨rfl, HQ3.out _ H1.out.1 trivial⟩
  · refine (HV2.out _ ?ho h).mono ?_
    case ho => exact HO1.out _
    rintro e w1 ⟨rfl, h1⟩
    have H1 := mkHid (HO.out _ _ h1)
    clear h1
    cases V with
    | true =>
      go_wp2_with fail
      exact HQ2.out _ H1.out trivial h
    | false =>
      go_wp2_with fail
      exact ⟨rfl, HQ3.out _ H1.out.1 trivial⟩
end Go.Proofs.YtfnmmpakejdlgaaDoor

/- unicode/utf8's word: eight bytes at once, and whether one of them is 128 or more. -/
namespace Go.Proofs.YtfnmmpakejdlgaaDoor
open Go.RowKit

/-- Eight bytes as one number, as the walk has it. -/
def wordE (b0 b1 b2 b3 b4 b5 b6 b7 : Int) : Int := bits .or .u64 (bits .or .u64 (bits .or .u64 (bits .or .u64 (bits .or .u64 (bits .or .u64 (bits .or .u64 b0 (b1 * 256)) (b2 * 65536)) (b3 * 16777216)) (b4 * 4294967296)) (b5 * 1099511627776)) (b6 * 281474976710656)) (b7 * 72057594037927936)

set_option maxHeartbeats 4000000 in
set_option maxRecDepth 1000000 in
theorem word_any (b o m c : Nat) (x : Nat → Nat) (w : World) (hm : 8 ≤ m) (hml : m ≤ 140737488355328) (hx : ∀ i, x i < 256) (hc : ∀ i, i < 8 → w.cell? ⟨b, o + i, none⟩ = some (.int .u8 (x i : Int))) :
    Calls Tryd.prog 81 #[.slice (some ⟨b, o, none⟩) m c] w fun e w' => e = .returned (.int .u64 (wordE (x 0) (x 1) (x 2) (x 3) (x 4) (x 5) (x 6) (x 7))) ∧ ∃ q, w' = w.drewN q := by
  have c0 := hc 0 (by omega)
  have c1 := hc 1 (by omega)
  have c2 := hc 2 (by omega)
  have c3 := hc 3 (by omega)
  have c4 := hc 4 (by omega)
  have c5 := hc 5 (by omega)
  have c6 := hc 6 (by omega)
  have c7 := hc 7 (by omega)
  have x0 := hx 0
  have x1 := hx 1
  have x2 := hx 2
  have x3 := hx 3
  have x4 := hx 4
  have x5 := hx 5
  have x6 := hx 6
  have x7 := hx 7
  generalize x 0 = y0 at c0 x0 ⊢
  generalize x 1 = y1 at c1 x1 ⊢
  generalize x 2 = y2 at c2 x2 ⊢
  generalize x 3 = y3 at c3 x3 ⊢
  generalize x 4 = y4 at c4 x4 ⊢
  generalize x 5 = y5 at c5 x5 ⊢
  generalize x 6 = y6 at c6 x6 ⊢
  generalize x 7 = y7 at c7 x7 ⊢
  rw [Nat.add_zero] at c0
  clear hc hx
  go_enter Tryd.func81, Tryd.ntmps81
  go_wp2_with fail
  go_quiet (fail)
  go_wp2_with fail
  go_ret
  exact ⟨rfl, _, rfl⟩

theorem or_up (a b i : Nat) (h : a < 2 ^ i) : a ||| b * 2 ^ i = a + b * 2 ^ i := by
  have e := Nat.shiftLeft_add_eq_or_of_lt h b
  rw [Nat.shiftLeft_eq] at e
  rw [Nat.or_comm, ← e, Nat.add_comm]

theorem wordE_nat (y0 y1 y2 y3 y4 y5 y6 y7 : Nat) (h0 : y0 < 256) (h1 : y1 < 256) (h2 : y2 < 256) (h3 : y3 < 256) (h4 : y4 < 256) (h5 : y5 < 256) (h6 : y6 < 256) (h7 : y7 < 256) :
    wordE y0 y1 y2 y3 y4 y5 y6 y7 = ((y0 + y1 * 256 + y2 * 65536 + y3 * 16777216 + y4 * 4294967296 + y5 * 1099511627776 + y6 * 281474976710656 + y7 * 72057594037927936 : Nat) : Int) := by
  have step : ∀ (a b k i : Nat), a < 2 ^ i → k = 2 ^ i → a < 18446744073709551616 → b * k < 18446744073709551616 → bits .or .u64 (a : Int) ((b : Int) * (k : Int)) = ((a + b * k : Nat) : Int) := by
    intro a b k i ha hk h1 h2
    have h := u64_or_nat a (b * k) h1 h2
    rw [Int.natCast_mul] at h
    rw [h]
    subst hk
    rw [or_up a b i ha]
  unfold wordE
  have s1 := step y0 y1 256 8 (by omega) (by decide) (by omega) (by omega)
  have s2 := step (y0 + y1 * 256) y2 65536 16 (by omega) (by decide) (by omega) (by omega)
  have s3 := step (y0 + y1 * 256 + y2 * 65536) y3 16777216 24 (by omega) (by decide) (by omega) (by omega)
  have s4 := step (y0 + y1 * 256 + y2 * 65536 + y3 * 16777216) y4 4294967296 32 (by omega) (by decide) (by omega) (by omega)
  have s5 := step (y0 + y1 * 256 + y2 * 65536 + y3 * 16777216 + y4 * 4294967296) y5 1099511627776 40 (by omega) (by decide) (by omega) (by omega)
  have s6 := step (y0 + y1 * 256 + y2 * 65536 + y3 * 16777216 + y4 * 4294967296 + y5 * 1099511627776) y6 281474976710656 48 (by omega) (by decide) (by omega) (by omega)
  have s7 := step (y0 + y1 * 256 + y2 * 65536 + y3 * 16777216 + y4 * 4294967296 + y5 * 1099511627776 + y6 * 281474976710656) y7 72057594037927936 56 (by omega) (by decide) (by omega) (by omega)
  rw [show ((256 : Nat) : Int) = 256 from rfl] at s1
  rw [show ((65536 : Nat) : Int) = 65536 from rfl] at s2
  rw [show ((16777216 : Nat) : Int) = 16777216 from rfl] at s3
  rw [show ((4294967296 : Nat) : Int) = 4294967296 from rfl] at s4
  rw [show ((1099511627776 : Nat) : Int) = 1099511627776 from rfl] at s5
  rw [show ((281474976710656 : Nat) : Int) = 281474976710656 from rfl] at s6
  rw [show ((72057594037927936 : Nat) : Int) = 72057594037927936 from rfl] at s7
  rw [s1, s2, s3, s4, s5, s6, s7]

theorem top_bit : ∀ b : Fin 256, (b.val &&& 128 = 0) = (b.val < 128) := by decide +kernel
/-- The lowest byte and the rest, each by itself. -/
theorem and_split (x y : Nat) : (x &&& y = 0) ↔ ((x % 256) &&& (y % 256) = 0) ∧ ((x / 256) &&& (y / 256) = 0) := by
  have h1 : (x &&& y) % 256 = (x % 256) &&& (y % 256) := Nat.and_mod_two_pow (n := 8)
  have h2 : (x &&& y) / 256 = (x / 256) &&& (y / 256) := Nat.and_div_two_pow (n := 8)
  rw [← h1, ← h2]
  omega

theorem hi_one (b r : Nat) (m : Nat) (hb : b < 256) : ((b + 256 * r) &&& (128 + 256 * m) = 0) ↔ b < 128 ∧ (r &&& m = 0) := by
  rw [and_split]
  rw [show (b + 256 * r) % 256 = b by omega, show (128 + 256 * m) % 256 = 128 by omega, show (b + 256 * r) / 256 = r by omega, show (128 + 256 * m) / 256 = m by omega]
  rw [top_bit ⟨b, hb⟩]

/-- No byte of the eight is 128 or more. -/
theorem hi_eight (y0 y1 y2 y3 y4 y5 y6 y7 : Nat) (h0 : y0 < 256) (h1 : y1 < 256) (h2 : y2 < 256) (h3 : y3 < 256) (h4 : y4 < 256) (h5 : y5 < 256) (h6 : y6 < 256) (h7 : y7 < 256) :
    ((y0 + y1 * 256 + y2 * 65536 + y3 * 16777216 + y4 * 4294967296 + y5 * 1099511627776 + y6 * 281474976710656 + y7 * 72057594037927936) &&& 9259542123273814144 = 0) ↔ (y0 < 128 ∧ y1 < 128 ∧ y2 < 128 ∧ y3 < 128 ∧ y4 < 128 ∧ y5 < 128 ∧ y6 < 128 ∧ y7 < 128) := by
  rw [show y0 + y1 * 256 + y2 * 65536 + y3 * 16777216 + y4 * 4294967296 + y5 * 1099511627776 + y6 * 281474976710656 + y7 * 72057594037927936 = y0 + 256 * (y1 + 256 * (y2 + 256 * (y3 + 256 * (y4 + 256 * (y5 + 256 * (y6 + 256 * (y7 + 256 * 0))))))) by omega,
    show 9259542123273814144 = 128 + 256 * (128 + 256 * (128 + 256 * (128 + 256 * (128 + 256 * (128 + 256 * (128 + 256 * (128 + 256 * 0))))))) by rfl]
  rw [hi_one _ _ _ h0, hi_one _ _ _ h1, hi_one _ _ _ h2, hi_one _ _ _ h3, hi_one _ _ _ h4, hi_one _ _ _ h5, hi_one _ _ _ h6, hi_one _ _ _ h7]
  simp
end Go.Proofs.YtfnmmpakejdlgaaDoor

/- Eight bytes of a row at once: what word reads, and where none of them is 128 or more; the two tables of unicode/utf8. -/
namespace Go.Proofs.YtfnmmpakejdlgaaDoor
open Go.RowKit

theorem byts_drop {w : World} {b o k : Nat} {t : List UInt8} (h : Byts w (some ⟨b, o, none⟩) t) : Byts w (some ⟨b, o + k, none⟩) (t.drop k) := by
  intro i hi
  have hi2 : k + i < t.length := by simp at hi; omega
  obtain ⟨b', o', e, hc⟩ := h (k + i) hi2
  cases e
  refine ⟨b, o + k, rfl, ?_⟩
  rw [Nat.add_assoc, hc]
  simp
theorem byts_none {w : World} {a : Option Addr} : Byts w a [] := fun i hi => absurd hi (Nat.not_lt_zero i)
theorem byts_some {w : World} {a : Option Addr} {t : List UInt8} (h : Byts w a t) (h0 : 0 < t.length) : ∃ b o, a = some ⟨b, o, none⟩ := by
  obtain ⟨b, o, e, _⟩ := h 0 h0
  exact ⟨b, o, e⟩
theorem byts_cell {w : World} {b o i : Nat} {t : List UInt8} (h : Byts w (some ⟨b, o, none⟩) t) (hi : i < t.length) : w.cell? ⟨b, o + i, none⟩ = some (.int .u8 ((t.getD i 0).toNat : Int)) := by
  obtain ⟨b', o', e, hc⟩ := h i hi
  cases e
  rw [hc]
  simp [hi]

theorem leNat8 (a0 a1 a2 a3 a4 a5 a6 a7 : UInt8) : Lib.leNat [a0, a1, a2, a3, a4, a5, a6, a7] = a0.toNat + a1.toNat * 256 + a2.toNat * 65536 + a3.toNat * 16777216 + a4.toNat * 4294967296 + a5.toNat * 1099511627776 + a6.toNat * 281474976710656 + a7.toNat * 72057594037927936 := by
  simp only [Lib.leNat]
  omega

theorem take_eight (t : List UInt8) (h8 : 8 ≤ t.length) : [t.getD 0 0, t.getD 1 0, t.getD 2 0, t.getD 3 0, t.getD 4 0, t.getD 5 0, t.getD 6 0, t.getD 7 0] = t.take 8 := by
  match t, h8 with
  | a0 :: a1 :: a2 :: a3 :: a4 :: a5 :: a6 :: a7 :: r, _ => simp
/-- What word reads of a row of bytes. -/
theorem wordL (a : Option Addr) (n c : Nat) (t : List UInt8) (w : World) (hn : n = t.length) (h8 : 8 ≤ n) (hl : n ≤ 140737488355328) (hB : Byts w a t) :
    Calls Tryd.prog 81 #[.slice a n c] w fun e w' => e = .returned (.int .u64 ((Lib.leNat (t.take 8) : Nat) : Int)) ∧ ∃ q, w' = w.drewN q := by
  subst hn
  obtain ⟨b, o, rfl⟩ := byts_some hB (by omega)
  have h := word_any b o t.length c (fun i => (t.getD i 0).toNat) w h8 hl (fun i => (t.getD i 0).toNat_lt) (fun i hi => byts_cell hB (by omega))
  have e0 : wordE ((t.getD 0 0).toNat : Int) ((t.getD 1 0).toNat : Int) ((t.getD 2 0).toNat : Int) ((t.getD 3 0).toNat : Int) ((t.getD 4 0).toNat : Int) ((t.getD 5 0).toNat : Int) ((t.getD 6 0).toNat : Int) ((t.getD 7 0).toNat : Int) = ((Lib.leNat (t.take 8) : Nat) : Int) := by
    rw [wordE_nat _ _ _ _ _ _ _ _ (UInt8.toNat_lt _) (UInt8.toNat_lt _) (UInt8.toNat_lt _) (UInt8.toNat_lt _) (UInt8.toNat_lt _) (UInt8.toNat_lt _) (UInt8.toNat_lt _) (UInt8.toNat_lt _), ← leNat8]
    rw [take_eight t h8]
  generalize ((Lib.leNat (t.take 8) : Nat) : Int) = Z at e0 ⊢
  have h2 : (wordE (((fun i => (t.getD i 0).toNat) 0 : Nat) : Int) (((fun i => (t.getD i 0).toNat) 1 : Nat) : Int) (((fun i => (t.getD i 0).toNat) 2 : Nat) : Int) (((fun i => (t.getD i 0).toNat) 3 : Nat) : Int) (((fun i => (t.getD i 0).toNat) 4 : Nat) : Int) (((fun i => (t.getD i 0).toNat) 5 : Nat) : Int) (((fun i => (t.getD i 0).toNat) 6 : Nat) : Int) (((fun i => (t.getD i 0).toNat) 7 : Nat) : Int)) = Z := e0
  rw [h2] at h
  exact h

/-- The first k bytes are below 128. -/
def Low (t : List UInt8) (k : Nat) : Prop := ∀ b ∈ t.take k, b.toNat < 128
theorem low_word {t : List UInt8} (h8 : 8 ≤ t.length) : (Lib.leNat (t.take 8) &&& 9259542123273814144 = 0) ↔ Low t 8 := by
  have e : (t.take 8).length = 8 := by simp; omega
  have h := Lib.leNat_mask (t.take 8)
  rw [e, Lib.maskN8] at h
  exact h
theorem low_add {t : List UInt8} {a b : Nat} (ha : Low t a) (hb : Low (t.drop a) b) : Low t (a + b) := by
  unfold Low at *
  rw [List.take_add]
  intro x hx
  rcases List.mem_append.1 hx with h | h
  · exact ha x h
  · exact hb x h
theorem low_one {t : List UInt8} (h : (t.getD 0 0).toNat < 128) : Low t 1 := by
  unfold Low
  match t with
  | [] => simp
  | c :: r =>
    intro b hb
    simp at hb h
    subst hb
    exact h
theorem low_skip {t : List UInt8} {k : Nat} (h : Low t k) : Lib.validD (t.drop k) = Lib.validD t := (Lib.validD_ascii k t h).symm
theorem word_lt8 (t : List UInt8) : Lib.leNat (t.take 8) < 18446744073709551616 := by
  have h := Lib.leNat_lt (t.take 8)
  have h2 : 256 ^ (t.take 8).length ≤ 256 ^ 8 := Nat.pow_le_pow_right (by decide) (by simp; omega)
  exact Nat.lt_of_lt_of_le h (by simpa using h2)

/-- The word of a row, with what it says of its bytes. -/
theorem word_says (t : List UInt8) (h8 : 8 ≤ t.length) : ∃ A : Nat, A < 18446744073709551616 ∧ ((A &&& 9259542123273814144 = 0) ↔ Low t 8) ∧ ∀ (a : Option Addr) (n c : Nat) (w : World), n = t.length → n ≤ 140737488355328 → Byts w a t →
    Calls Tryd.prog 81 #[.slice a n c] w fun e w' => e = .returned (.int .u64 (A : Int)) ∧ ∃ q, w' = w.drewN q :=
  ⟨_, word_lt8 t, low_word h8, fun a n c w hn hl hB => wordL a n c t w hn (by omega) hl hB⟩

/-- The two tables of unicode/utf8, as they are laid. -/
def Tabs (w : World) : Prop :=
  (∀ c, c < 256 → w.cell? ⟨0, c, none⟩ = some (.int .u8 (Lib.firstT c))) ∧
  (∀ i, i < 16 → w.cell? ⟨1, 2 * i, none⟩ = some (.int .u8 (Lib.accLo i)) ∧ w.cell? ⟨1, 2 * i + 1, none⟩ = some (.int .u8 (Lib.accHi i)))
theorem Tabs.below {w w' : World} (h : Tabs w) (hb : RowKit.Below w.heap.size w w') : Tabs w' := by
  refine ⟨fun c hc => ?_, fun i hi => ?_⟩
  · rw [hb.cell (p := ⟨0, c, none⟩) (cell_lt' (h.1 c hc))]
    exact h.1 c hc
  · rw [hb.cell (p := ⟨1, 2 * i, none⟩) (cell_lt' (h.2 i hi).1), hb.cell (p := ⟨1, 2 * i + 1, none⟩) (cell_lt' (h.2 i hi).2)]
    exact h.2 i hi
theorem firstT_lt (b : Nat) : Lib.firstT b < 256 := by
  unfold Lib.firstT
  repeat' split
  all_goals omega
set_option maxRecDepth 100000 in
theorem and7 : ∀ X : Fin 256, bits .and .u8 ((X.val : Nat) : Int) 7 = ((X.val % 8 : Nat) : Int) := by decide
end Go.Proofs.YtfnmmpakejdlgaaDoor
