/- The steps of a path: the plain function, and the contract of path.Steps, of any text. Nothing that was there is changed. -/
import Derived.Test.YtjngbogbbglbnabPaPlace
import Derived.Test.YtjngbogbbglbnabZRowb
import Derived.Laws.AppendOwn
namespace Go.Proofs.Ytjngbogbbglbnab
open Go.RowKit

/-- The steps that end in what is left, behind those that stand already; cur: what of the next one was read. -/
def scanS : List UInt8 → List UInt8 → List ByteArray → Option (List ByteArray)
 | [], _, acc => some acc
 | c :: r, cur, acc => if c = 46 then (if isStepB cur = true ∧ acc.length ≠ 8 then scanS r [] (acc ++ [⟨cur.toArray⟩]) else none) else scanS r (cur ++ [c]) acc
/-- The steps of a path; none: it is no path. -/
def stepsR (p : List UInt8) : Option (List ByteArray) := if 199 < p.length then none else scanS (p ++ [46]) [] []

theorem seg_step {L : List UInt8} {b p : Nat} (hb : b ≤ p) (hp : p < L.length) : (L.take (p + 1)).drop b = (L.take p).drop b ++ [L.getD p 0] := by
 rw [List.take_add_one, List.getElem?_eq_getElem hp, List.drop_append_of_le_length (by rw [List.length_take]; omega)];simp [List.getD_eq_getElem?_getD, List.getElem?_eq_getElem hp]
theorem scan_run (L : List UInt8) (b : Nat) (acc : List ByteArray) : ∀ (n pos : Nat), b ≤ pos → pos + n ≤ L.length → (∀ j, pos ≤ j → j < pos + n → L.getD j 0 ≠ 46) →
  scanS (L.drop pos) ((L.take pos).drop b) acc = scanS (L.drop (pos + n)) ((L.take (pos + n)).drop b) acc
 | 0, _, _, _, _ => rfl
 | n + 1, pos, hb, hl, hne => by
  have h := scan_run L b acc n (pos + 1) (by omega) (by omega) (fun j h1 h2 => hne j (by omega) (by omega));rw [show pos + (n + 1) = pos + 1 + n by omega, ← h, drop_getD L pos (by omega), seg_step hb (by omega)]
  conv => lhs; unfold scanS
  rw [if_neg (hne pos (Nat.le_refl _) (by omega))]
theorem scan_dot (L : List UInt8) (b pos : Nat) (acc : List ByteArray) (hp : pos < L.length) (h : L.getD pos 0 = 46) :
  scanS (L.drop pos) ((L.take pos).drop b) acc = if isStepB ((L.take pos).drop b) = true ∧ acc.length ≠ 8 then scanS (L.drop (pos + 1)) ((L.take (pos + 1)).drop (pos + 1)) (acc ++ [⟨((L.take pos).drop b).toArray⟩]) else none := by
 rw [drop_getD L pos hp, h]
 conv => lhs; unfold scanS
 rw [if_pos rfl];have e : (L.take (pos + 1)).drop (pos + 1) = [] := List.drop_eq_nil_of_le (by rw [List.length_take]; omega);rw [e]
theorem scan_all : ∀ (r cur : List UInt8) (acc l : List ByteArray), scanS r cur acc = some l → (∀ s ∈ acc, isStepB s.data.toList = true) → acc.length ≤ 8 → (∀ s ∈ l, isStepB s.data.toList = true) ∧ l.length ≤ 8 ∧ acc.length ≤ l.length
 | [], _, acc, l, h, h1, h2 => by
  unfold scanS at h;injection h with h
  subst h;exact ⟨h1, h2, Nat.le_refl _⟩
 | c :: r, cur, acc, l, h, h1, h2 => by
  unfold scanS at h
  by_cases hc : c = 46
  ·rw [if_pos hc] at h
   by_cases hs : isStepB cur = true ∧ acc.length ≠ 8
   ·rw [if_pos hs] at h
    obtain ⟨a1, a2, a3⟩ := scan_all r [] _ l h (fun s hs' => by
     rcases List.mem_append.1 hs' with h | h
     ·exact h1 s h
     ·simp at h;subst h;simpa using hs.1) (by simp; omega)
    exact ⟨a1, a2, by simp at a3; omega⟩
   ·rw [if_neg hs] at h;exact absurd h (by simp)
  ·rw [if_neg hc] at h;exact scan_all r _ acc l h h1 h2
theorem scan_pos : ∀ (r cur : List UInt8) (acc l : List ByteArray), scanS (r ++ [46]) cur acc = some l → acc.length < l.length
 | [], cur, acc, l, h => by
  simp only [List.nil_append, scanS, if_true] at h
  split at h
  ·injection h with h; subst h; simp
  ·exact absurd h (by simp)
 | c :: r, cur, acc, l, h => by
  rw [List.cons_append] at h;unfold scanS at h
  split at h
  ·split at h
   ·have := scan_pos r [] _ l h;simp at this;omega
   ·exact absurd h (by simp)
  ·exact scan_pos r _ acc l h
theorem isStep_len {l : List UInt8} (h : isStepB l = true) : 1 ≤ l.length ∧ l.length ≤ 24 := by
 unfold isStepB at h;rw [Bool.or_eq_true] at h
 rcases h with h | h
 ·unfold isPlaceB at h;simp at h
  rcases h.1 with h | h <;> omega
 ·unfold isNameB at h;simp at h;refine ⟨?_, h.1⟩
  cases l with
  | nil => simp [isWB] at h
  | cons c t => simp
theorem steps_all {p : List UInt8} {l : List ByteArray} (h : stepsR p = some l) : (∀ s ∈ l, isStepB s.data.toList = true) ∧ l.length ≤ 8 ∧ 1 ≤ l.length ∧ p.length ≤ 199 := by
 unfold stepsR at h
 split at h
 ·exact absurd h (by simp)
 ·obtain ⟨h1, h2, _⟩ := scan_all _ _ _ _ h (by simp) (by simp);have h3 := scan_pos _ _ _ _ h;exact ⟨h1, h2, h3, by omega⟩

/-- Strings that stand in memory one behind the other. -/
def Strs (w : World) (a : Option Addr) (l : List ByteArray) : Prop := ∀ i (h : i < l.length), ∃ b o, a = some ⟨b, o, none⟩ ∧ w.cell? ⟨b, o + i, none⟩ = some (.string (l[i]'h))
theorem Strs.below {w w' : World} {a : Option Addr} {l : List ByteArray} (h : Strs w a l) (hb : Below w.heap.size w w') : Strs w' a l := by
 intro i hi;obtain ⟨b, o, e, hc⟩ := h i hi;exact ⟨b, o, e, below_keeps hb _ _ _ hc⟩
theorem Strs.tail {w : World} {b o : Nat} {s : ByteArray} {l : List ByteArray} (h : Strs w (some ⟨b, o, none⟩) (s :: l)) : w.cell? ⟨b, o, none⟩ = some (.string s) ∧ Strs w (some ⟨b, o + 1, none⟩) l := by
 constructor
 ·obtain ⟨b', o', e, hc⟩ := h 0 (by simp)
  cases e
  exact hc
 ·intro i hi;obtain ⟨b', o', e, hc⟩ := h (i + 1) (by simpa using hi)
  cases e
  refine ⟨b, o + 1, rfl, ?_⟩;rw [show o + 1 + i = o + (i + 1) by omega];exact hc

/-- What Steps tells. -/
def StepSay (w' : World) (R : Option (List ByteArray)) (e : Ending) : Prop :=
 (R = none ∧ e = .returned (.tuple #[.slice none 0 0, .int .i64 14])) ∨
 ∃ l a c, R = some l ∧ e = .returned (.tuple #[.slice a l.length c, .int .i64 0]) ∧ l.length ≤ c ∧ c ≤ maxLen ∧ Strs w' a l

theorem infoString : (Try.prog.info? 9).map (fun i => (i.zero, i.size, i.bytes)) = some (some (.string ⟨#[]⟩), 1, 16) := by kernel_rfl

theorem cut_list (s : ByteArray) (b p : Nat) : (s.extract b p).data.toList = (s.data.toList.take p).drop b := by
 rw [ByteArray.data_extract, Array.toList_extract, List.extract_eq_take_drop, List.drop_take]

theorem strs_own {w : World} {B : Nat} {v : Value} {l : List ByteArray} (h : w.ownsRow B 9 1 v l.length (l.map Value.string)) :
  ∃ a c, v = .slice a l.length c ∧ l.length ≤ c ∧ c ≤ maxLen ∧ Strs w a l := by
 rcases Nat.eq_zero_or_pos l.length with h0 | hn
 ·rw [h0] at h;obtain ⟨a, c, h1, h2, h3⟩ := own_nil h;exact ⟨a, c, by rw [h0]; exact h1, by omega, h3, fun i hi => absurd hi (by omega)⟩
 ·obtain ⟨g, c, h1, _, _, h2, h3, hc⟩ := own_cell h hn;refine ⟨_, c, h1, h2, h3, fun i hi => ⟨g, 0, rfl, ?_⟩⟩;rw [Nat.zero_add, hc i (by simpa using hi), List.getElem?_map, List.getElem?_eq_getElem hi]
  rfl

theorem iter_kept9 {w w' : World} {v : Value} {n t : Nat} {xs : List Value} {base k pos : Nat} {s : ByteArray} (hown : w.ownsRow base t 1 v n xs) (hg : w.grownBy w' v.ownBlock) (hit : w.heap[k]? = some (.stringIter s pos)) : w'.heap[k]? = some (.stringIter s pos) := by
 have hk : k < w.heap.size := (Array.getElem?_eq_some_iff.1 hit).1
 rw [hg.block k hk ?_]
 ·exact hit
 ·intro e
  rcases hown.2 with ⟨rfl, _⟩ | ⟨g, cap, cur, rfl, _, hgc, _⟩
  ·simp [Value.ownBlock] at e
  ·simp [Value.ownBlock] at e;subst e;rw [hit] at hgc
   cases hgc

theorem own_iter {w : World} {base : Nat} {e : TypeId} {size : Nat} {v : Value} {n : Nat} {xs : List Value} (h : w.ownsRow base e size v n xs) {k pos : Nat} {s : ByteArray} (hk : w.heap[k]? = some (.stringIter s pos)) (p : Nat) : (w.iterAt k s p).ownsRow base e size v n xs := by
 refine ⟨h.1, ?_⟩
 rcases h.2 with hn | ⟨g, cap, cur, hv, hbg, hg, rest⟩
 ·exact .inl hn
 ·have hkg : g ≠ k := by
   intro e1;rw [e1, hk] at hg
   cases hg
  exact .inr ⟨g, cap, cur, hv, hbg, (Lib.iterAt_other w k g s p hkg).trans hg, rest⟩

set_option maxHeartbeats 4000000 in
set_option maxRecDepth 1000000 in
theorem Steps_anyL (p : ByteArray) (w : World) (hs : p.size ≤ 9223372036854775807) :
  Calls Try.prog 16 #[.string p] w fun e w' => StepSay w' (stepsR p.data.toList) e ∧ Below w.heap.size w w' := by
 have hl0 := size_list p
 by_cases h199 : 199 < p.size
 ·have HR : Hid (stepsR p.data.toList = none) := hidI (by unfold stepsR; rw [if_pos (by omega)]);have h2 : (199 : Int) < (p.size : Int) := by omega
  clear hl0
  go_enter Try.func16, Try.ntmps16
  go_wp2_with fail
  go_ret2
  exact ⟨Or.inl ⟨HR.out, rfl⟩, Below.refl _ _⟩
 ·obtain ⟨R, hR⟩ : ∃ R, R = stepsR p.data.toList := ⟨_, rfl⟩;rw [← hR];have h2 : ¬ (199 : Int) < (p.size : Int) := by omega
  obtain ⟨q, hq⟩ : ∃ q : ByteArray, q = p ++ ⟨#[46]⟩ := ⟨_, rfl⟩;have hql : q.data.toList = p.data.toList ++ [46] := by rw [hq]; simp
  have hqs : q.size = p.size + 1 := by rw [← size_list, hql, List.length_append, hl0]; rfl
  have HR : Hid (scanS q.data.toList [] [] = R) := hidI (by rw [hR]; unfold stepsR; rw [if_neg (by omega), hql]);have hsum : ¬ 9223372036854775807 < p.size + 1 := by omega
  have HQ : Hid (p ++ ⟨#[46]⟩ = q) := hidI hq.symm;clear hl0 hR hql hq
  go_enter Try.func16, Try.ntmps16
  go_wp2_with fail;rw [HQ.out];obtain ⟨i0, hi, hz0, hz1, hz2⟩ := info_parts infoString
  go_loopw [4, 5] (fun sv bg wr => ∃ (pos b : Nat) (l : List ByteArray), bg = .int .i64 b ∧ pos ≤ q.size ∧ b ≤ pos ∧ l.length ≤ 8 ∧ wr.ownsRow w.heap.size 9 1 sv l.length (l.map Value.string) ∧ wr.heap[w.heap.size]? = some (.stringIter q pos) ∧ Below w.heap.size w wr ∧ Hid (scanS (q.data.toList.drop pos) ((q.data.toList.take pos).drop b) l = R)) (fun _ _ wr => q.size - wr.iterPos w.heap.size)
  case atStart =>
   refine ⟨0, 0, [], rfl, by omega, by omega, by simp, World.ownsRow_nil _ _ _ _, ?_, (Below.refl _ w).alloc (Nat.le_refl _) _, HR⟩;have := World.iter_heap w q 0;simpa using this
  case round =>
   obtain ⟨pos, b, l, rfl, hps, hbp, hl8, hown, hit, hbw, HS⟩ := hrel;have hsz : w.heap.size < wr.heap.size := (Array.getElem?_eq_some_iff.1 hit).1;have hql := size_list q
   by_cases hp : pos < q.size
   ·have hnx : ∀ ty, (Instr.next (.pointer (some ⟨w.heap.size, 0, none⟩)) true ty).run Try.prog wr = .ok (.tuple #[.bool true, .int .i64 pos, .int .i32 (Utf8.decode q pos).1]) (wr.iterAt w.heap.size q (pos + (Utf8.decode q pos).2)) := fun ty => Lib.run_next_any_at (P := Try.prog) wr w.heap.size q pos ty hit hp
    have hit2 := Lib.iterAt_heap wr w.heap.size q pos (pos + (Utf8.decode q pos).2) hit;have hbw2 := Lib.below_iterAt hbw (k := w.heap.size) (Nat.le_refl _) q (pos + (Utf8.decode q pos).2);have hown2 := own_iter hown hit (pos + (Utf8.decode q pos).2);have hwpos := width_pos q pos hp;have hspan := rune_span q pos hp
    have hcase : ((Utf8.decode q pos).1 = 46 ∧ (Utf8.decode q pos).2 = 1 ∧ q.data.toList.getD pos 0 = 46) ∨ ((Utf8.decode q pos).1 ≠ 46 ∧ pos + (Utf8.decode q pos).2 ≤ q.size ∧ ∀ j, pos ≤ j → j < pos + (Utf8.decode q pos).2 → q.data.toList.getD j 0 ≠ 46) := by
     have hne : ∀ j, byteAt q j ≠ 46 → q.data.toList.getD j 0 ≠ 46 := fun j h e => h (by unfold byteAt; rw [e]; rfl)
     rcases hspan with ⟨_, hd⟩ | ⟨hh, hr, h1, h2, h3⟩
     ·rw [hd]
      by_cases h46 : byteAt q pos = 46
      ·left;exact ⟨h46, rfl, UInt8.toNat_inj.1 h46⟩
      ·right;refine ⟨h46, by show pos + 1 ≤ _; omega, fun j h1 h2 => ?_⟩;have h2' : j < pos + 1 := h2;obtain rfl : j = pos := by omega
       exact hne _ h46
     ·right;exact ⟨by omega, h2, fun j h4 h5 => hne _ (by have := h3 j h4 h5; omega)⟩
    clear hspan
    generalize hr : (Utf8.decode q pos).1 = r at hnx hcase
    generalize hwd : (Utf8.decode q pos).2 = wd at hnx hit2 hbw2 hown2 hcase hwpos
    clear hr hwd hown;have hws : (wr.iterAt w.heap.size q (pos + wd)).heap.size = wr.heap.size := Lib.iterAt_size _ _ _ _;have HOWN : Hid ((wr.iterAt w.heap.size q (pos + wd)).ownsRow w.heap.size 9 1 _ l.length (l.map Value.string)) := hown2;clear hown2
    rcases hcase with ⟨rfl, rfl, h46⟩ | ⟨hne, hle, hrun⟩
    ·have hdot := scan_dot q.data.toList b pos l (by omega) h46;rw [HS.out] at hdot;obtain ⟨S, hS⟩ : ∃ S, S = q.extract b pos := ⟨_, rfl⟩;have hSl : S.data.toList = (q.data.toList.take pos).drop b := by rw [hS, cut_list]
     have hSs : S.size ≤ maxLen := by
      rw [← size_list, hSl];unfold maxLen;simp;omega
     have hcall := fun W => isStep_any S W hSs
     have HC : Hid _ := hcall;rw [← hSl] at hdot;have hdr : (⟨S.data.toList.toArray⟩ : ByteArray) = S := by simp
     rw [hdr] at hdot;have hib : ((46 : Int) != 46) = false := rfl;have hbp' : (b : Int) ≤ (pos : Int) := by omega
     have HSX : Hid (q.extract b pos = S) := hidI hS.symm
     cases hst : isStepB S.data.toList
     ·rw [hst] at HC;have HE : Hid (R = none) := hidI (by rw [hdot, hst]; simp);clear hcall hdot hSl hS hdr hst h46 hws hql hSs;go_wp2_with fail;rw [HSX.out];refine (HC.out _).mono ?_;rintro e w1 ⟨rfl, b1⟩;go_wp2_with fail
      go_ret2
      exact ⟨Or.inl ⟨HE.out, rfl⟩, hbw2.trans (b1.mono hbw2.size)⟩
     ·rw [hst] at HC;obtain ⟨a, c, rfl, h1, h2, _⟩ := strs_own HOWN.out
      by_cases h8 : l.length = 8
      ·have HE : Hid (R = none) := hidI (by rw [hdot, if_neg (by simp [h8])]);have h8b : ((l.length : Int) == 8) = true := by rw [beq_iff_eq]; omega
       clear hcall hdot hSl hS hdr hst h46 hws hql hSs h8 HOWN hl8;go_wp2_with fail;rw [HSX.out];refine (HC.out _).mono ?_;rintro e w1 ⟨rfl, b1⟩;go_wp2_with fail
       go_ret2
       exact ⟨Or.inl ⟨HE.out, rfl⟩, hbw2.trans (b1.mono hbw2.size)⟩
      ·have HS2 : Hid (scanS (q.data.toList.drop (pos + 1)) ((q.data.toList.take (pos + 1)).drop (pos + 1)) (l ++ [S]) = R) := hidI (by rw [hdot, if_pos ⟨hst, h8⟩]);have h8b : ((l.length : Int) == 8) = false := by rw [beq_eq_false_iff_ne]; omega
       have HWS : Hid (_ = wr.heap.size) := hws;have hl7 : l.length ≤ 7 := by omega
       clear hcall hdot hSl hS hdr hst h46 hws hql hSs h8 hl8;go_wp2_with fail;rw [HSX.out];refine (HC.out _).mono ?_;rintro e w1 ⟨rfl, b1⟩
       have hit1 : w1.heap[w.heap.size]? = some (.stringIter q (pos + 1)) := by
        rw [b1.block w.heap.size (by rw [HWS.out]; exact hsz)];exact hit2
       have hown1 := own_below HOWN.out b1;have hbw1 := hbw2.trans (b1.mono hbw2.size);have hsz1 : w.heap.size < w1.heap.size := (Array.getElem?_eq_some_iff.1 hit1).1;clear HOWN b1 hit2 hbw2 hnx;go_wp2_with (at_builtin; refine wpList_append_own _ rfl _ _ 40 rfl w.heap.size 9 i0 (.string ⟨#[]⟩) 1 16 Try.underlying40 hi hz0 hz1 hz2 rfl (by decide) _ _ _ rfl (hown1.alloc _) _ 1 1 [.string S] rfl rfl ?c1 ?c2 ?c3 ?c4 ?c5 ?_)
       case c1 =>
        intro j u hj
        match j, hj with
        | 0, hj => simp at hj; subst hj; simp [Addr.add]
       case c2 => intro u hu; simp at hu; subst hu; rfl
       case c3 => unfold maxLen; omega
       case c4 => omega
       case c5 => simp; omega
       intro v' w3 hown3 hgrow3 _
       have hit3 : w3.heap[w.heap.size]? = some (.stringIter q (pos + 1)) := by
        refine iter_kept9 (hown1.alloc _) hgrow3 ?_;rw [Below.heap_alloc _ _ _ (by omega)];exact hit1
       have hbw3 : Below w.heap.size w w3 := by
        refine (hbw1.alloc (by omega) _).grown hgrow3 (by simp; omega) ?_;intro k hk;exact (hown1.lt k hk).1
       have HOWN : Hid (w3.ownsRow w.heap.size 9 1 v' (l.length + 1) (l.map Value.string ++ [Value.string S])) := hown3;clear hown3 hgrow3 hown1 hit1 hbw1;go_wp2_with fail
       go_roundw
       case rel =>
        refine ⟨pos + 1, pos + 1, l ++ [S], by go_num, by omega, Nat.le_refl _, by simp; omega, ?_, hit3, hbw3, HS2⟩;have := HOWN.out;rw [List.length_append, List.length_singleton, List.map_append];exact this
       case measure => simp only [World.iterPos, hit3, hit]; omega
    ·have hrn := scan_run q.data.toList b l wd pos hbp (by omega) hrun;rw [HS.out] at hrn;have HS2 : Hid (scanS (q.data.toList.drop (pos + wd)) ((q.data.toList.take (pos + wd)).drop b) l = R) := hrn.symm;have hneb : ((r : Int) != 46) = true := by rw [bne_iff_ne]; omega
     clear hrn hrun hne hws hql;go_wp2_with fail
     go_roundw
     case rel => exact ⟨pos + wd, b, l, rfl, hle, by omega, hl8, HOWN.out, hit2, hbw2, HS2⟩
     case measure => simp only [World.iterPos, hit2, hit]; omega
   ·have hnx : ∀ ty, (Instr.next (.pointer (some ⟨w.heap.size, 0, none⟩)) true ty).run Try.prog wr = _ := fun ty => Lib.run_next_end_at wr w.heap.size q pos ty hit hp
    obtain ⟨a, c, rfl, h1, h2, hst⟩ := strs_own hown
    have HE : Hid (R = some l) := hidI (by
     rw [← HS.out, List.drop_eq_nil_of_le (by omega)]
     rfl)
    have HST : Hid (Strs wr a l) := hst;clear hown hst hql;go_wp2_with fail
    go_ret2
    exact ⟨Or.inr ⟨l, a, c, HE.out, rfl, h1, h2, HST.out⟩, hbw⟩
end Go.Proofs.Ytjngbogbbglbnab
