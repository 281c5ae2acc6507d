/- Some texts in one: each opens with its own remark. -/
import Derived.Test.YtjngbogbbglbnabZRPart
import Derived.Test.YtjngbogbbglbnabOpen
import Derived.BigGuardPart
import Derived.Test.YtjngbogbbglbnabNextV
import Derived.Test.YtjngbogbbglbnabK6
import Derived.Test.YtjngbogbbglbnabZEncSz
import Derived.Deep.RegionHeld3
import Derived.Deep.Upon
/- The walk of the document's own 'shape': is every part of a value formed? -/
namespace Go.Proofs.Ytjngbogbbglbnab
open Go.RowKit

theorem GV.every_parts (p : GV → Bool) (k n : Int) (s : ByteArray) (ln : Nat) (l : Nat → GV) (fn : Nat) (nm : Nat → ByteArray) (f : Nat → GV) :
  (GV.mk k n s ln l fn nm f).every p = (p (.mk k n s ln l fn nm f) && (List.range (GV.mk k n s ln l fn nm f).pn).all (fun i => ((GV.mk k n s ln l fn nm f).pf i).every p)) := by
 simp only [GV.every, GV.pn, GV.pf]
 by_cases k5 : k = 5
 ·simp [k5]
 ·by_cases k6 : k = 6
  ·simp [k6]
  ·simp [k5, k6]

theorem GV.nodes_pf {k n : Int} {s : ByteArray} {ln : Nat} {l : Nat → GV} {fn : Nat} {nm : Nat → ByteArray} {f : Nat → GV} {i : Nat} (h : i < (GV.mk k n s ln l fn nm f).pn) : ((GV.mk k n s ln l fn nm f).pf i).nodes < (GV.mk k n s ln l fn nm f).nodes := by
 simp only [GV.pn, GV.pf] at h ⊢
 by_cases k5 : k = 5
 ·rw [if_pos k5] at h ⊢;exact GV.nodes_l h
 ·rw [if_neg k5] at h ⊢
  by_cases k6 : k = 6
  ·rw [if_pos k6] at h;exact GV.nodes_f h
  ·rw [if_neg k6] at h;omega

theorem every_yes {p : GV → Bool} {k n : Int} {s : ByteArray} {ln : Nat} {l : Nat → GV} {fn : Nat} {nm : Nat → ByteArray} {f : Nat → GV} (h : p (.mk k n s ln l fn nm f) = true) :
  (GV.mk k n s ln l fn nm f).every p = (List.range (GV.mk k n s ln l fn nm f).pn).all (fun i => ((GV.mk k n s ln l fn nm f).pf i).every p) := by
 rw [GV.every_parts, h, Bool.true_and]
end Go.Proofs.Ytjngbogbbglbnab

/- Contract of tidemarkref1.Runes: of a text of characters a new row of them and true, of any other nil and false. -/
namespace Go.Proofs.Ytjngbogbbglbnab
open Go.RowKit

theorem infoRune : (Try.prog.info? 21).map (fun i => (i.zero, i.size, i.bytes)) = some (some (.int .i32 0), 1, 4) := by kernel_rfl
def runeCellsOf (rs : List Nat) : List Value := rs.map fun r : Nat => Value.int .i32 (r : Int)


/-- Characters that open a row of characters open it as such. -/
theorem split_bytes : ∀ (dn rs : List Nat) (t : List UInt8), allOk dn → allOk rs → bytesOf rs = bytesOf dn ++ t → ∃ rs', rs = dn ++ rs' ∧ t = bytesOf rs'
 | [], rs, t, _, _, h => ⟨rs, rfl, by simpa [bytesOf_nil] using h.symm⟩
 | r :: dn, [], t, _, _, h => by
  have := congrArg List.length h;have hp := encode_pos r;simp [bytesOf_nil, bytesOf_cons] at this;omega
 | r :: dn, q :: rs, t, ho, hq, h => by
  have hr := decode_encode r (ho r (by simp)) (bytesOf dn ++ t);have hq' := decode_encode q (hq q (by simp)) (bytesOf rs);rw [bytesOf_cons, bytesOf_cons, List.append_assoc] at h;rw [h, hr] at hq';have e : r = q := by simpa using congrArg Prod.fst hq'
  subst e;have h' := List.append_cancel_left h;obtain ⟨rs', e1, e2⟩ := split_bytes dn rs t (fun x hx => ho x (by simp [hx])) (fun x hx => hq x (by simp [hx])) h';exact ⟨rs', by rw [e1]; rfl, e2⟩

theorem no_char (s : ByteArray) (dn : List Nat) (p : Nat) (hp : p < s.size) (ho : allOk dn) (he : s.data.toList = bytesOf dn ++ s.data.toList.drop p) (hn : ∀ r, ¬ CharAt s p r) : validB s = false := by
 cases hv : validB s with
 | false => rfl
 | true =>
  exfalso;obtain ⟨rs, hro, hre⟩ := valid_runes s hv;rw [hre] at he;obtain ⟨rs', e1, e2⟩ := split_bytes dn rs _ ho hro he
  cases rs' with
  | nil =>
   have := congrArg List.length e2;rw [← hre] at this;simp [bytesOf_nil] at this;omega
  | cons r rs' =>
   refine hn r ⟨hro r (by rw [e1]; simp), bytesOf rs', ?_⟩;rw [← hre] at e2;exact e2

def RRunesSay (s : ByteArray) (w : World) (e : Ending) (w' : World) : Prop :=
 (∃ rs v, allOk rs ∧ s.data.toList = bytesOf rs ∧ e = .returned (.tuple #[v, .bool true]) ∧ w'.ownsRow w.heap.size 21 1 v rs.length (runeCellsOf rs) ∧ Below w.heap.size w w') ∨
 (validB s = false ∧ e = .returned (.tuple #[.slice none 0 0, .bool false]) ∧ Below w.heap.size w w')

set_option maxHeartbeats 4000000 in
set_option maxRecDepth 1000000 in
theorem rrunes_any (s : ByteArray) (w : World) (hs : s.size ≤ 4194304) :
  Calls Try.prog 78 #[.string s] w fun e w' => RRunesSay s w e w' := by
 obtain ⟨i0, hi, hz0, hz1, hz2⟩ := info_parts infoRune
 go_enter Try.func78, Try.ntmps78
 go_wp2_with fail
 go_loopw [4, 5] (fun v a wr => ∃ (p : Nat) (dn : List Nat), a = .int .i64 p ∧ p ≤ s.size ∧ wr.ownsRow w.heap.size 21 1 v dn.length (runeCellsOf dn) ∧ Below w.heap.size w wr ∧ allOk dn ∧ dn.length ≤ p ∧ s.data.toList = bytesOf dn ++ s.data.toList.drop p) (fun _ a _ => s.size - (intOf a).toNat)
 case atStart =>
  exact ⟨0, [], rfl, by omega, World.ownsRow_nil _ _ _ _, Below.refl _ _, fun r h => by simp at h, by simp, by simp [bytesOf_nil]⟩
 case round =>
  obtain ⟨p, dn, rfl, hps, hown, hbw, hok, hdl, hpre⟩ := hrel;have HPRE : Hid (s.data.toList = bytesOf dn ++ s.data.toList.drop p) := hpre;have HOK : Hid (allOk dn) := hok;clear hpre hok
  by_cases hlt : p < s.size
  ·have hnext := next_any s p wr (by omega) hlt;go_wp2_with fail;refine hnext.mono ?_;rintro e w1 ⟨hsay, rfl⟩
   rcases hsay with ⟨r, hch, rfl⟩ | ⟨hno, v, n, rfl⟩
   ·have hwp := encode_pos r;have hrk := hch.1;obtain ⟨rest, hd⟩ := hch.2;obtain ⟨_, _, _, hdr⟩ := at_char s p r rest hrk hd;have hr1 : r ≤ 1114111 := by unfold okRune at hrk; omega
    have hple : p + (Lib.encodeRune (r : Int)).length ≤ s.size := by
     have := congrArg List.length hd;simp at this;omega
    have HD : Hid (s.data.toList.drop p = Lib.encodeRune (r : Int) ++ rest) := hd;have HDR : Hid (s.data.toList.drop (p + (Lib.encodeRune (r : Int)).length) = rest) := hdr;have HRK : Hid (okRune r) := hrk;obtain ⟨q, hq⟩ : ∃ q, p + (Lib.encodeRune (r : Int)).length = q := ⟨_, rfl⟩;rw [hq];rw [hq] at hple;have HQ : Hid (p + (Lib.encodeRune (r : Int)).length = q) := hq;have hpq : p + 1 ≤ q := by omega
    clear hd hdr hrk hq hch hnext hwp;have hz2' : w.heap.size ≤ w1.heap.size := hbw.size;go_wp2_with (at_builtin; refine wpList_append_own _ rfl _ _ 97 rfl w.heap.size 21 i0 (.int .i32 0) 1 4 Try.underlying97 hi hz0 hz1 hz2 rfl (by decide) _ _ _ rfl (hown.alloc _) _ 1 1 [.int .i32 r] rfl rfl ?c1 ?c2 ?c3 ?c4 ?c5 ?_)
    case c1 =>
     intro j u hj
     match j, hj with
     | 0, hj => simp at hj; subst hj; simp [Addr.add]
    case c2 => intro u hu; simp at hu; subst hu; rfl
    case c3 => unfold maxLen; omega
    case c4 => omega
    case c5 => simp; omega
    intro v' w3 hown3 hgrow3 _
    have hbw3 : Below w.heap.size w w3 := by
     refine (hbw.alloc (by omega) _).grown hgrow3 (by simp; omega) ?_;intro k hk;exact (hown.lt k hk).1
    have HOWN : Hid (w3.ownsRow w.heap.size 21 1 v' (dn.length + 1) (runeCellsOf dn ++ [Value.int IntKind.i32 (r : Int)])) := hown3;clear hown3 hgrow3;go_wp2_with fail
    go_roundw
    case rel =>
     refine ⟨q, dn ++ [r], rfl, hple, ?_, hbw3, ?_, ?_, ?_⟩
     ·have := HOWN.out;rw [List.length_append, List.length_singleton];simpa [runeCellsOf] using this
     ·intro x hx
      rcases List.mem_append.1 hx with hx | hx
      ·exact HOK.out x hx
      ·simp at hx; subst hx; exact HRK.out
     ·simp; omega
     ·rw [bytesOf_append, bytesOf_cons, bytesOf_nil, List.append_nil, List.append_assoc, ← HQ.out, HDR.out, ← HD.out];exact HPRE.out
    case measure => simp [intOf]; omega
   ·have HNO : Hid (∀ r, ¬ CharAt s p r) := hno;clear hno;go_wp2_with fail
    go_ret2
    exact Or.inr ⟨no_char s dn p hlt HOK.out HPRE.out HNO.out, rfl, hbw⟩
  ·have hpe : p = s.size := by omega
   have HOWN : Hid (wr.ownsRow w.heap.size 21 1 _ dn.length (runeCellsOf dn)) := hown;clear hown;go_wp2_with fail
   go_ret2
   refine Or.inl ⟨dn, _, HOK.out, ?_, rfl, HOWN.out, hbw⟩;have := HPRE.out;rw [List.drop_eq_nil_of_le (by rw [size_list]; omega), List.append_nil] at this;exact this
set_option maxHeartbeats 1000000 in
set_option maxRecDepth 1000000 in
theorem rvalid_any (s : ByteArray) (w : World) (hs : s.size ≤ 4194304) :
  Calls Try.prog 66 #[.string s] w fun e w' => e = .returned (.bool (validB s)) ∧ Below w.heap.size w w' := by
 go_enter Try.func66, Try.ntmps66
 go_wp2_with fail;refine (rrunes_any s w hs).mono ?_
 rintro e w1 (⟨rs, v, ho, he, rfl, _, b1⟩ | ⟨hf, rfl, b1⟩)
 ·have HV : Hid (validB s = true) := runes_valid s rs ho he;clear ho he;go_wp2_with fail;go_ret;refine ⟨?_, b1⟩;rw [HV.out]
  rfl
 ·have HV : Hid (validB s = false) := hf;clear hf;go_wp2_with fail;go_ret;refine ⟨?_, b1⟩;rw [HV.out]
  rfl
end Go.Proofs.Ytjngbogbbglbnab

/- The walk of the document's own 'texts': is all UTF-8? -/
namespace Go.Proofs.Ytjngbogbbglbnab
open Go.RowKit

theorem GV.nodes_mass : ∀ g : GV, g.nodes ≤ g.mass := by
 intro g
 induction g with
 | nil => simp [GV.nodes, GV.mass]
 | mk k n s ln l fn nm f ihl ihf =>
  have h1 := sum_le (f := fun i => (l i).nodes) (g := fun i => (l i).mass) (n := ln) fun i _ => ihl i
  have h2 := sum_le (f := fun i => (f i).nodes) (g := fun i => (nm i).size + (f i).mass) (n := fn) fun i _ => by have := ihf i; omega
  simp only [GV.nodes, GV.mass];omega

theorem GV.mass_l {k n : Int} {s : ByteArray} {ln : Nat} {l : Nat → GV} {fn : Nat} {nm : Nat → ByteArray} {f : Nat → GV} {i : Nat} (h : i < ln) : (l i).mass < (GV.mk k n s ln l fn nm f).mass := by
 have := sum_mem (f := fun i => (l i).mass) h;simp only [GV.mass];omega
theorem GV.mass_f {k n : Int} {s : ByteArray} {ln : Nat} {l : Nat → GV} {fn : Nat} {nm : Nat → ByteArray} {f : Nat → GV} {i : Nat} (h : i < fn) : (nm i).size + (f i).mass < (GV.mk k n s ln l fn nm f).mass := by
 have := sum_mem (f := fun i => (nm i).size + (f i).mass) h;simp only [GV.mass];omega
theorem GV.mass_s {k n : Int} {s : ByteArray} {ln : Nat} {l : Nat → GV} {fn : Nat} {nm : Nat → ByteArray} {f : Nat → GV} : s.size < (GV.mk k n s ln l fn nm f).mass := by
 simp only [GV.mass];omega
theorem GV.mass_pf {k n : Int} {s : ByteArray} {ln : Nat} {l : Nat → GV} {fn : Nat} {nm : Nat → ByteArray} {f : Nat → GV} {i : Nat} (h : i < (GV.mk k n s ln l fn nm f).pn) : ((GV.mk k n s ln l fn nm f).pf i).mass < (GV.mk k n s ln l fn nm f).mass := by
 simp only [GV.pn, GV.pf] at h ⊢
 by_cases k5 : k = 5
 ·rw [if_pos k5] at h ⊢;exact GV.mass_l h
 ·rw [if_neg k5] at h ⊢
  by_cases k6 : k = 6
  ·rw [if_pos k6] at h;have := GV.mass_f (k := k) (n := n) (s := s) (ln := ln) (l := l) (nm := nm) (f := f) h;omega
  ·rw [if_neg k6] at h;omega

def GV.textOk : GV → Bool
 | .nil => true
 | .mk _ _ s _ _ fn nm _ => validB s && (List.range fn).all (fun i => validB (nm i))

set_option maxHeartbeats 4000000 in
set_option maxRecDepth 1000000 in
theorem texts_any : ∀ (g : GV) (v : Value) (w : World), Lies w g v → g.mass ≤ 4194304 →
  Calls Try.prog 49 #[v] w fun e w' => e = .returned (.bool (g.every GV.textOk)) ∧ Below w.heap.size w w' := by
 intro g
 induction g with
 | nil => intro v w hL; exact False.elim hL
 | mk k n s ln l fn nm f ihl ihf =>
  intro v w hL hM;have hL0 := hL;obtain ⟨la, lc, fa, fc, rfl, _, _, _, h4, h5, h6, h7, _, hf⟩ := hL;have hml : maxLen = 9223372036854775807 := rfl;have HP : Hid (∀ u, Below w.heap.size w u → Calls Try.prog 65 #[.agg #[.int .i64 k, .int .i64 n, .string s, .slice la ln lc, .slice fa fn fc]] u fun e w' => ∃ a c, e = .returned (.slice a (GV.mk k n s ln l fn nm f).pn c) ∧ (GV.mk k n s ln l fn nm f).pn ≤ c ∧ c ≤ maxLen ∧ Vals w' a (GV.mk k n s ln l fn nm f).pn (GV.mk k n s ln l fn nm f).pf ∧ Below u.heap.size u w') := fun u hu => parts_any _ _ _ (hL0.below hu) (by have := GV.nodes_mass (GV.mk k n s ln l fn nm f); omega)
  have HI : Hid (∀ i, i < (GV.mk k n s ln l fn nm f).pn → ∀ v w, Lies w ((GV.mk k n s ln l fn nm f).pf i) v → Calls Try.prog 49 #[v] w fun e w' => e = .returned (.bool (((GV.mk k n s ln l fn nm f).pf i).every GV.textOk)) ∧ Below w.heap.size w w') := by
   intro i hi v w hv;have hn := GV.mass_pf hi
   have hq : (GV.mk k n s ln l fn nm f).pf i = l i ∨ (GV.mk k n s ln l fn nm f).pf i = f i := by
    simp only [GV.pf]
    split
    ·exact Or.inl rfl
    ·exact Or.inr rfl
   rcases hq with e | e
   ·rw [e] at hn hv ⊢;exact ihl i v w hv (by omega)
   ·rw [e] at hn hv ⊢;exact ihf i v w hv (by omega)
  have HN : Hid (Names w fa fn nm) := fun i hi => by
   obtain ⟨b, o, v', e, hs, hc, _⟩ := hf i hi;exact ⟨b, o, e, hs, hc⟩
  have HNM : Hid (∀ i, i < fn → (nm i).size ≤ 4194304) := fun i hi => by
   have := GV.mass_f (k := k) (n := n) (s := s) (ln := ln) (l := l) (nm := nm) (f := f) hi;omega
  have hs : s.size ≤ 4194304 := by have := GV.mass_s (k := k) (n := n) (s := s) (ln := ln) (l := l) (fn := fn) (nm := nm) (f := f); omega
  have HE0 : Hid (validB s = true → (List.range fn).all (fun i => validB (nm i)) = true → (GV.mk k n s ln l fn nm f).every GV.textOk = (List.range (GV.mk k n s ln l fn nm f).pn).all (fun i => ((GV.mk k n s ln l fn nm f).pf i).every GV.textOk)) := by
   intro h1 h2;refine every_yes ?_;simp only [GV.textOk, h1, h2, Bool.and_self]
  have HNO : Hid (validB s = false ∨ (List.range fn).all (fun i => validB (nm i)) = false → (GV.mk k n s ln l fn nm f).every GV.textOk = false) := by
   intro h;apply every_no
   rcases h with h | h
   ·simp only [GV.textOk, h, Bool.false_and]
   ·simp only [GV.textOk, h, Bool.and_false]
  clear hL0 hM ihl ihf hf
  generalize GV.mk k n s ln l fn nm f = G at HP HI HE0 HNO ⊢
  obtain ⟨p, hp⟩ : ∃ p, G.pn = p := ⟨_, rfl⟩;obtain ⟨q, hq⟩ : ∃ q, G.pf = q := ⟨_, rfl⟩;rw [hp, hq] at HP HE0;rw [hp, hq] at HI;clear hp hq;have hbx := (Below.refl w.heap.size w).alloc (Nat.le_refl _) (.cells #[.int .i64 k, .int .i64 n, .string s, .slice la ln lc, .slice fa fn fc] 25)
  go_enter Try.func49, Try.ntmps49
  go_wp2_with fail;refine (rvalid_any s _ hs).mono ?_;rintro e w0 ⟨rfl, b0⟩;have B0 : Below (w.heap.size + 1) (w.alloc (.cells #[.int .i64 k, .int .i64 n, .string s, .slice la ln lc, .slice fa fn fc] 25)) w0 := b0.mono (by simp);clear b0
  cases hv : validB s with
  | false =>
   have HX : Hid (G.every GV.textOk = false) := HNO.out (Or.inl hv);clear hv;go_wp2_with fail;go_ret;exact ⟨by rw [HX.out]; rfl, hbx.trans (B0.mono (by omega))⟩
  | true =>
   replace HE0 : Hid ((List.range fn).all (fun i => validB (nm i)) = true → G.every GV.textOk = (List.range p).all (fun i => (q i).every GV.textOk)) := HE0.out hv
   clear hv;go_wp2_with fail
   go_loopw [3] (fun i wr => ∃ (j : Nat), i = .int .i64 j ∧ j ≤ fn ∧ Hid ((List.range j).all (fun i => validB (nm i)) = true) ∧ Below (w.heap.size + 1) (w.alloc (.cells #[.int .i64 k, .int .i64 n, .string s, .slice la ln lc, .slice fa fn fc] 25)) wr) (fun i _ => fn - (intOf i).toNat)
   case atStart => exact ⟨0, rfl, by omega, rfl, B0⟩
   case round =>
    obtain ⟨j, rfl, hj, HD, hbw⟩ := hrel;have hbs := hbw.size;simp at hbs;have hbw0 : Below w.heap.size w wr := hbx.trans (hbw.mono (by omega));have q0 : wr.cell? ⟨w.heap.size, 0, none⟩ = some (.int .i64 k) := by rw [hbw.cell (p := ⟨w.heap.size, 0, none⟩) (by show w.heap.size < _; omega)]; simp
    have q1 : wr.cell? ⟨w.heap.size, 1, none⟩ = some (.int .i64 n) := by rw [hbw.cell (p := ⟨w.heap.size, 1, none⟩) (by show w.heap.size < _; omega)]; simp
    have q2 : wr.cell? ⟨w.heap.size, 2, none⟩ = some (.string s) := by rw [hbw.cell (p := ⟨w.heap.size, 2, none⟩) (by show w.heap.size < _; omega)]; simp
    have q3 : wr.cell? ⟨w.heap.size, 3, none⟩ = some (.slice la ln lc) := by rw [hbw.cell (p := ⟨w.heap.size, 3, none⟩) (by show w.heap.size < _; omega)]; simp
    have q4 : wr.cell? ⟨w.heap.size, 4, none⟩ = some (.slice fa fn fc) := by rw [hbw.cell (p := ⟨w.heap.size, 4, none⟩) (by show w.heap.size < _; omega)]; simp
    by_cases hlt : j < fn
    ·obtain ⟨b, o, rfl, hs1, c1⟩ := HN.out j hlt;have e1 := below_keeps hbw0 _ _ _ c1;clear c1;have hn1 := HNM.out j hlt
     have HB : Hid (∀ r, validB (nm j) = r → (if r = true then (List.range (j + 1)).all (fun i => validB (nm i)) = true else (List.range fn).all (fun i => validB (nm i)) = false)) := by
      intro r hr
      cases r with
      | true => simp only [if_true]; exact all_snoc HD.out hr
      | false => exact all_not hlt hr
     generalize nm j = x at e1 hs1 hn1 HB
     go_wp2_with fail;refine (rvalid_any x _ hn1).mono ?_;rintro e w1 ⟨rfl, b1⟩;have B1 : Below (w.heap.size + 1) (w.alloc (.cells #[.int .i64 k, .int .i64 n, .string s, .slice la ln lc, .slice (some ⟨b, o, none⟩) fn fc] 25)) w1 := hbw.trans (b1.mono (by omega));clear b1
     cases hB : validB x with
     | true =>
      have HC := HB.out true hB;clear HB hB;simp only [if_true] at HC;have HC2 : Hid ((List.range (j + 1)).all (fun i => validB (nm i)) = true) := HC;clear HC;go_wp2_with fail
      go_roundw
      case rel => exact ⟨j + 1, by go_num, by omega, HC2.out, B1⟩
      case measure => simp [intOf]; omega
     | false =>
      have HC := HB.out false hB;clear HB hB;simp only [Bool.false_eq_true, if_false] at HC;have HX : Hid (G.every GV.textOk = false) := HNO.out (Or.inr HC);clear HC;go_wp2_with fail;go_ret;exact ⟨by rw [HX.out]; rfl, hbx.trans (B1.mono (by omega))⟩
    ·have hjf : j = fn := by omega
     have HE : Hid (G.every GV.textOk = (List.range p).all (fun i => (q i).every GV.textOk)) := HE0.out (by have := HD.out; rw [hjf] at this; exact this);clear HE0 HNO HD HN HNM hjf;go_wp2_with fail;refine (HP.out _ hbw0).mono ?_;rintro e w1 ⟨a, c, rfl, r1, r2, HV0, hb1⟩;have HV : Hid (Vals w1 a p q) := HV0;have B1 : Below w.heap.size w w1 := hbw0.trans (hb1.mono hbw0.size);clear HV0 hb1 hbw0 HP q0 q1 q2 q3 q4;go_wp2_with fail
     go_loopw [5] (fun i wr2 => ∃ (j : Nat), i = .int .i64 j ∧ j ≤ p ∧ Hid ((List.range j).all (fun i => (q i).every GV.textOk) = true) ∧ Below w1.heap.size w1 wr2) (fun i _ => p - (intOf i).toNat)
     case atStart => exact ⟨0, rfl, by omega, rfl, Below.refl _ _⟩
     case round =>
      obtain ⟨j, rfl, hj, HD, hbw⟩ := hrel
      by_cases hlt : j < p
      ·obtain ⟨b, o, v', rfl, hLj, hA⟩ := HV.out j hlt;have HLj : Hid (Lies w1 (q j) v') := hLj;obtain ⟨k', n', s', la', ln', lc', fa', fn', fc', rfl⟩ := hLj.agg;obtain ⟨c0, c1, c2, c3, c4⟩ := hA.five;have e0 := below_keeps hbw _ _ _ c0;have e1 := below_keeps hbw _ _ _ c1;have e2 := below_keeps hbw _ _ _ c2;have e3 := below_keeps hbw _ _ _ c3;have e4 := below_keeps hbw _ _ _ c4;clear hLj hA c0 c1 c2 c3 c4;have hbs := hbw.size;go_wp2_with fail;refine (HI.out j hlt _ _ (HLj.out.below hbw)).mono ?_;rintro e w2 ⟨rfl, hb2⟩;have hb3 : Below w1.heap.size w1 w2 := hbw.trans (hb2.mono hbs);clear e0 e1 e2 e3 e4 hb2 hbw
       cases hB : (q j).every GV.textOk with
       | true =>
        have HD2 : Hid ((List.range (j + 1)).all (fun i => (q i).every GV.textOk) = true) := all_snoc HD.out hB;clear hB;go_wp2_with fail
        go_roundw
        case rel => exact ⟨j + 1, by go_num, by omega, HD2.out, hb3⟩
        case measure => simp [intOf]; omega
       | false =>
        have HX : Hid (G.every GV.textOk = false) := HE.out.trans (all_not hlt hB);clear hB;go_wp2_with fail;go_ret;exact ⟨by rw [HX.out]; rfl, B1.trans (hb3.mono B1.size)⟩
      ·have hjp : j = p := by omega
       have HX : Hid (G.every GV.textOk = true) := by
        have := HD.out;rw [hjp] at this;exact HE.out.trans this
       clear hjp;have hbs := hbw.size;go_wp2_with fail;go_ret;exact ⟨by rw [HX.out]; rfl, B1.trans (hbw.mono B1.size)⟩

end Go.Proofs.Ytjngbogbbglbnab

/- For the document's own 'Bytes': small laws; a value of the Kinds without parts. -/
namespace Go.Proofs.Ytjngbogbbglbnab
open Go.RowKit

theorem step_append_own {P : Program} {ops : Array Oper} {o : Oper} {a : Act} {w : World} {K : Act → World → Prop} {Q : Exit → Act → World → Prop} {E : Prop}
  (hg : o.guard = none) (s x : Operand) (t : TypeId) (hop : o.op = Op.call { callee := Callee.builtin Builtin.append, args := #[s, x], argTypes := #[t, t] })
  (base : Nat) (e : TypeId) (i : TypeInfo) (z : Value) (size bytes : Nat) (h1 : P.underlying t = some (.slice e)) (h2 : P.info? e = some i) (h3 : i.zero = some z) (h4 : i.size = size) (h5 : i.bytes = bytes) (h6 : z.cells.size = size) (h7 : 0 < size)
  (v : Value) (n : Nat) (xs : List Value) (hs : a.eval s = v) (hown : w.ownsRow base e size v n xs)
  (ad : Addr) (m c : Nat) (news : List Value) (hx : a.eval x = .slice (some ad) m c) (hn : news.length = m * size) (hc : ∀ j u, news[j]? = some u → w.cell? (ad.add j) = some u) (h1c : ∀ u ∈ news, u.oneCell' = true)
  (b1 : n + m ≤ maxLen) (b2 : (n + m) * bytes ≤ 140737488355328) (hbase : base ≤ w.heap.size)
  (hK : ∀ v' w', w'.ownsRow base e size v' (n + m) (xs ++ news) → w.grownBy w' v.ownBlock → K (a.put o.dst v') w') :
  if Region.wanted o (yielded ops a.tmps) = true then Oper.wp P o a w K Q else E := by
 have hw : Region.wanted o (yielded ops a.tmps) = true := by simp [Region.wanted, hg]
 rw [if_pos hw];obtain ⟨v', w', hrun, r1, r2, _⟩ := run_append_own (P := P) w base t o.type e i z size bytes h1 h2 h3 h4 h5 h6 h7 v n xs hown ad m c news hn hc h1c b1 b2 hbase;unfold Oper.wp;simp [execOp, hop, resolve, invoke, builtin, hs, hx, hrun, Result.andThen];exact hK v' w' r1 r2

theorem step_append_own_string {P : Program} {ops : Array Oper} {o : Oper} {a : Act} {w : World} {K : Act → World → Prop} {Q : Exit → Act → World → Prop} {E : Prop}
  (hg : o.guard = none) (sl x : Operand) (t u : TypeId) (hop : o.op = Op.call { callee := Callee.builtin Builtin.append, args := #[sl, x], argTypes := #[t, u] })
  (base : Nat) (e : TypeId) (i : TypeInfo) (ht : P.underlying t = some (.slice e)) (hu : P.underlying u = some .string) (hi : P.info? e = some i) (hz : i.zero = some (.int .u8 0)) (hsize : i.size = 1) (hby : i.bytes = 1)
  (v : Value) (n : Nat) (xs : List Value) (hs : a.eval sl = v) (hown : w.ownsRow base e 1 v n xs) (s : ByteArray) (hx : a.eval x = .string s)
  (b1 : n + s.size ≤ maxLen) (b2 : n + s.size ≤ 140737488355328) (hbase : base ≤ w.heap.size)
  (hK : ∀ v' w', w'.ownsRow base e 1 v' (n + s.size) (xs ++ Lib.strCells s) → w.grownBy w' v.ownBlock → K (a.put o.dst v') w') :
  if Region.wanted o (yielded ops a.tmps) = true then Oper.wp P o a w K Q else E := by
 have hw : Region.wanted o (yielded ops a.tmps) = true := by simp [Region.wanted, hg]
 rw [if_pos hw];obtain ⟨v', w', hrun, r1, r2, _⟩ := Lib.run_append_own_string (P := P) w base t u o.type e i ht hu hi hz hsize hby v n xs hown s b1 b2 hbase;unfold Oper.wp;simp [execOp, hop, resolve, invoke, builtin, hs, hx, hrun, Result.andThen];exact hK v' w' r1 r2

theorem byteOne (l : List UInt8) : ∀ u ∈ Lib.byteCells l, u.oneCell' = true := by
 intro u hu;simp only [Lib.byteCells, List.mem_map] at hu;obtain ⟨b, _, rfl⟩ := hu
 rfl

theorem byteLen (l : List UInt8) : (Lib.byteCells l).length = l.length * 1 := by simp [Lib.byteCells]

/-- A row of one's own that is not empty: its address. -/
theorem own_some {w : World} {base e : Nat} {v : Value} {l : List UInt8} (h : w.ownsRow base e 1 v l.length (Lib.byteCells l)) (hp : 0 < l.length) :
  ∃ g c, v = .slice (some ⟨g, 0, none⟩) l.length c ∧ ∀ j u, (Lib.byteCells l)[j]? = some u → w.cell? ((⟨g, 0, none⟩ : Addr).add j) = some u := by
 rcases h.2 with ⟨_, h0⟩ | ⟨g, cap, cur, rfl, _⟩
 ·omega
 ·exact ⟨g, cap, rfl, h.cells rfl⟩

theorem flat_len {c : Nat → List UInt8} {j n : Nat} (h : j ≤ n) : ((List.range j).flatMap c).length ≤ ((List.range n).flatMap c).length := by
 obtain ⟨m, rfl⟩ : ∃ m, n = j + m := ⟨n - j, by omega⟩;rw [List.range_add, List.flatMap_append, List.length_append];omega

theorem flat_sumB {c : Nat → List UInt8} {b : Nat → Nat} : ∀ {n : Nat}, (∀ i, i < n → (c i).length ≤ b i) → ((List.range n).flatMap c).length ≤ ((List.range n).map b).sum
 | 0, _ => by simp
 | n + 1, h => by
  have h1 := flat_sumB (c := c) (b := b) (n := n) (fun i hi => h i (by omega));have h2 := h n (by omega);rw [flat_snoc, List.length_append, List.range_succ, List.map_append, List.sum_append];simp only [List.map_cons, List.map_nil, List.sum_cons, List.sum_nil];omega

theorem sum_mulL {c : Nat → Nat} (m : Nat) : ∀ n, ((List.range n).map fun i => m * c i).sum = m * ((List.range n).map c).sum
 | 0 => by simp
 | n + 1 => by
  rw [List.range_succ, List.map_append, List.map_append, List.sum_append, List.sum_append, sum_mulL m n, Nat.mul_add];simp

/-- A tree's bytes are few for its mass. -/
theorem enc_le : ∀ {w : World} {g : GV} {v : Value}, Lies w g v → g.mass ≤ 4194304 → g.enc.length + 20 ≤ 32 * g.mass := by
 intro w g
 induction g with
 | nil => intro v h; exact False.elim h
 | mk k n s ln l fn nm f ihl ihf =>
  intro v h hM;obtain ⟨la, lc, fa, fc, rfl, hk, hn, hs, h4, h5, h6, h7, hl, hf⟩ := h;have hml : maxLen = 9223372036854775807 := rfl;have z := varint_ten (zig_lt hn).1;have vs := varint_ten (n := s.size) (by omega);have vl := varint_ten (n := ln) (by omega);have vf := varint_ten (n := fn) (by omega)
  have e1 : ((List.range ln).flatMap fun i => (l i).enc).length ≤ ((List.range ln).map fun i => 32 * (l i).mass).sum := flat_sumB fun i hi => by
   obtain ⟨b, o, v', _, hv, _⟩ := hl i hi;have hm := GV.mass_l (k := k) (n := n) (s := s) (l := l) (fn := fn) (nm := nm) (f := f) hi;have := ihl i hv (by omega);omega
  have e2 : ((List.range fn).flatMap fun i => encS (nm i) ++ (f i).enc).length ≤ ((List.range fn).map fun i => 32 * ((nm i).size + (f i).mass)).sum := flat_sumB fun i hi => by
   obtain ⟨b, o, v', _, hsz, _, hv, _⟩ := hf i hi;have hm := GV.mass_f (k := k) (n := n) (s := s) (ln := ln) (l := l) (nm := nm) (f := f) hi;have := ihf i hv (by omega);have vn := varint_ten (n := (nm i).size) (by omega);simp only [encS, List.length_append, Array.length_toList];have : (nm i).data.size = (nm i).size := rfl;omega
  rw [sum_mulL] at e1 e2;have hsd : s.data.size = s.size := rfl;have es : (encS s).length ≤ 10 + s.size := by simp only [encS, List.length_append, Array.length_toList]; omega
  simp only [GV.enc, GV.mass, List.length_cons]
  by_cases k2 : k = 2
  ·rw [if_pos k2]; simp only [List.length_cons, List.length_nil]; omega
  ·rw [if_neg k2]
   by_cases k3 : k = 3
   ·rw [if_pos k3]; omega
   ·rw [if_neg k3]
    by_cases k4 : k = 4
    ·rw [if_pos k4]; omega
    ·rw [if_neg k4]
     by_cases k5 : k = 5
     ·rw [if_pos k5, List.length_append]; omega
     ·rw [if_neg k5]
      by_cases k6 : k = 6
      ·rw [if_pos k6, List.length_append]; omega
      ·rw [if_neg k6]; simp only [List.length_nil]; omega
end Go.Proofs.Ytjngbogbbglbnab

/- The walk of the document's own 'Bytes': of any value whose parts are formed its bytes, in a new row. -/
namespace Go.Proofs.Ytjngbogbbglbnab
open Go.RowKit

/-- What a call says that tells bytes in a new row. -/
def BytesSay (w : World) (l : List UInt8) (e : Ending) (w' : World) : Prop := ∃ v', e = .returned v' ∧ w'.ownsRow w.heap.size 5 1 v' l.length (Lib.byteCells l) ∧ Below w.heap.size w w'

theorem own_base {w : World} {base base' e size n : Nat} {v : Value} {xs : List Value} (h : w.ownsRow base' e size v n xs) (hb : base ≤ base') : w.ownsRow base e size v n xs := by
 refine ⟨h.1, ?_⟩
 rcases h.2 with h0 | ⟨g, cap, cur, rfl, h1, h2⟩
 ·exact Or.inl h0
 ·exact Or.inr ⟨g, cap, cur, rfl, by omega, h2⟩

theorem own_lit {w : World} {base e size n m : Nat} {v : Value} {xs ys : List Value} (h : w.ownsRow base e size v n xs) (hn : n = m) (hx : xs = ys) : w.ownsRow base e size v m ys := by
 subst hn hx;exact h

theorem enc_k1 {n s ln l fn nm f} : (GV.mk 1 n s ln l fn nm f).enc = [1] := by simp [GV.enc]; decide
theorem enc_k2 {n s ln l fn nm f} : (GV.mk 2 n s ln l fn nm f).enc = [2, byteOf n] := by simp [GV.enc]; decide
theorem enc_k3 {n s ln l fn nm f} : (GV.mk 3 n s ln l fn nm f).enc = 3 :: varint (zig n).toNat := by simp [GV.enc]; decide
theorem enc_k4 {n s ln l fn nm f} : (GV.mk 4 n s ln l fn nm f).enc = 4 :: (varint s.size ++ s.data.toList) := by simp [GV.enc, encS]; decide
theorem enc_k5 {n s ln l fn nm f} : (GV.mk 5 n s ln l fn nm f).enc = 5 :: (varint ln ++ (List.range ln).flatMap (fun i => (l i).enc)) := by simp [GV.enc]; decide
theorem enc_k6 {n s ln l fn nm f} : (GV.mk 6 n s ln l fn nm f).enc = 6 :: (varint fn ++ (List.range fn).flatMap (fun i => encS (nm i) ++ (f i).enc)) := by simp [GV.enc]; decide

theorem own_drew {w : World} {base e size n : Nat} {v : Value} {xs : List Value} (h : w.ownsRow base e size v n xs) : w.drew.ownsRow base e size v n xs := own_below h (Below.refl _ w).drew

theorem enc_pos {w : World} {g : GV} {v : Value} (h : Lies w g v) : 0 < g.enc.length := by
 cases g with
 | nil => exact False.elim h
 | mk k n s ln l fn nm f => simp [GV.enc]

set_option maxHeartbeats 2000000 in
set_option maxRecDepth 1000000 in
theorem bytes_k1 (n : Int) (s : ByteArray) (ln : Nat) (l : Nat → GV) (fn : Nat) (nm : Nat → ByteArray) (f : Nat → GV) (la fa : Option Addr) (lc fc : Nat) (w : World) : Calls Try.prog 52 #[.agg #[.int .i64 1, .int .i64 n, .string s, .slice la ln lc, .slice fa fn fc]] w fun e w' => BytesSay w (GV.mk 1 n s ln l fn nm f).enc e w' := by
 obtain ⟨i0, hi, hz0, hz1, hz2⟩ := info_parts infoU8;have hml : maxLen = 9223372036854775807 := rfl;have hbx : Below w.heap.size w (w.alloc (.cells #[.int .i64 1, .int .i64 n, .string s, .slice la ln lc, .slice fa fn fc] 25)) := (Below.refl w.heap.size w).alloc (Nat.le_refl _) _;have HB1 : Hid (Below (w.heap.size + 1) (w.alloc (.cells #[.int .i64 1, .int .i64 n, .string s, .slice la ln lc, .slice fa fn fc] 25)) ((w.alloc (.cells #[.int .i64 1, .int .i64 n, .string s, .slice la ln lc, .slice fa fn fc] 25)).alloc (.cells #[.int .u8 1] 5))) := (Below.refl _ _).alloc (by simp) _
 have HO1 : Hid (((w.alloc (.cells #[.int .i64 1, .int .i64 n, .string s, .slice la ln lc, .slice fa fn fc] 25)).alloc (.cells #[.int .u8 1] 5)).ownsRow (w.heap.size + 1) 5 1 (.slice (some ⟨w.heap.size + 1, 0, none⟩) 1 1) 1 [.int .u8 1]) := by
  have := World.ownsRow_lit (base := w.heap.size + 1) (e := 5) (size := 1) (w.alloc (.cells #[.int .i64 1, .int .i64 n, .string s, .slice la ln lc, .slice fa fn fc] 25)) #[.int .u8 1] 1 (by simp) (by decide) rfl;show World.ownsRow _ _ _ _ _ _ _;simpa using this
 rw [enc_k1]
 go_enter Try.func52, Try.ntmps52
 go_wp2_with fail;go_ret;exact ⟨_, rfl, own_base HO1.out (by omega), hbx.trans (HB1.out.mono (by omega))⟩

set_option maxHeartbeats 2000000 in
set_option maxRecDepth 1000000 in
theorem bytes_k2_0 (s : ByteArray) (ln : Nat) (l : Nat → GV) (fn : Nat) (nm : Nat → ByteArray) (f : Nat → GV) (la fa : Option Addr) (lc fc : Nat) (w : World) : Calls Try.prog 52 #[.agg #[.int .i64 2, .int .i64 0, .string s, .slice la ln lc, .slice fa fn fc]] w fun e w' => BytesSay w (GV.mk 2 0 s ln l fn nm f).enc e w' := by
 obtain ⟨i0, hi, hz0, hz1, hz2⟩ := info_parts infoU8;have hml : maxLen = 9223372036854775807 := rfl;have hbx : Below w.heap.size w (w.alloc (.cells #[.int .i64 2, .int .i64 0, .string s, .slice la ln lc, .slice fa fn fc] 25)) := (Below.refl w.heap.size w).alloc (Nat.le_refl _) _;have HB1 : Hid (Below (w.heap.size + 1) (w.alloc (.cells #[.int .i64 2, .int .i64 0, .string s, .slice la ln lc, .slice fa fn fc] 25)) ((w.alloc (.cells #[.int .i64 2, .int .i64 0, .string s, .slice la ln lc, .slice fa fn fc] 25)).alloc (.cells #[.int .u8 2] 5))) := (Below.refl _ _).alloc (by simp) _
 have HO1 : Hid (((w.alloc (.cells #[.int .i64 2, .int .i64 0, .string s, .slice la ln lc, .slice fa fn fc] 25)).alloc (.cells #[.int .u8 2] 5)).ownsRow (w.heap.size + 1) 5 1 (.slice (some ⟨w.heap.size + 1, 0, none⟩) 1 1) 1 [.int .u8 2]) := by
  have := World.ownsRow_lit (base := w.heap.size + 1) (e := 5) (size := 1) (w.alloc (.cells #[.int .i64 2, .int .i64 0, .string s, .slice la ln lc, .slice fa fn fc] 25)) #[.int .u8 2] 1 (by simp) (by decide) rfl;show World.ownsRow _ _ _ _ _ _ _;simpa using this
 have HO2 := HO1.out.alloc (.cells #[.int .u8 0] 5);have HOW : Hid _ := HO2
 have HC1 : Hid ((((w.alloc (.cells #[.int .i64 2, .int .i64 0, .string s, .slice la ln lc, .slice fa fn fc] 25)).alloc (.cells #[.int .u8 2] 5)).alloc (.cells #[.int .u8 0] 5)).cell? ⟨w.heap.size + 1 + 1, 0, none⟩ = some (.int .u8 0)) := by
  have := World.cell?_alloc_new ((w.alloc (.cells #[.int .i64 2, .int .i64 0, .string s, .slice la ln lc, .slice fa fn fc] 25)).alloc (.cells #[.int .u8 2] 5)) #[.int .u8 0] 5 0;show World.cell? _ _ = _;simpa using this
 clear HO2;rw [enc_k2]
 go_enter Try.func52, Try.ntmps52
 go_wp2_with (at_builtin; refine wpList_append_own _ rfl _ _ 77 rfl (w.heap.size + 1) 5 i0 (.int .u8 0) 1 1 Try.underlying77 hi hz0 hz1 hz2 rfl (by decide) _ _ _ rfl HOW.out _ _ _ [.int .u8 0] rfl ?c0 ?c1 ?c2 ?c3 ?c4 ?c5 ?_)
 case c0 => rfl
 case c1 =>
  intro j u hj
  match j, hj with
  | 0, hj => simp at hj; subst hj; simpa [Addr.add] using HC1.out
 case c2 => intro u hu; simp at hu; subst hu; rfl
 case c3 => omega
 case c4 => omega
 case c5 => simp <;> omega
 intro v' w3 hown3 hgrow3 _
 have B3 : Below (w.heap.size + 1) (w.alloc (.cells #[.int .i64 2, .int .i64 0, .string s, .slice la ln lc, .slice fa fn fc] 25)) w3 := by
  refine (HB1.out.alloc (by simp <;> omega) _).grown hgrow3 (by simp <;> omega) ?_;intro k hk;simp [Value.ownBlock] at hk;omega
 have HOWN : Hid (w3.ownsRow (w.heap.size + 1) 5 1 v' 2 [.int .u8 2, .int .u8 0]) := hown3;clear hown3 hgrow3;go_wp2_with fail;go_ret;exact ⟨_, rfl, own_lit (own_base HOWN.out (by omega)) rfl rfl, hbx.trans (B3.mono (by omega))⟩

set_option maxHeartbeats 2000000 in
set_option maxRecDepth 1000000 in
theorem bytes_k2_1 (s : ByteArray) (ln : Nat) (l : Nat → GV) (fn : Nat) (nm : Nat → ByteArray) (f : Nat → GV) (la fa : Option Addr) (lc fc : Nat) (w : World) : Calls Try.prog 52 #[.agg #[.int .i64 2, .int .i64 1, .string s, .slice la ln lc, .slice fa fn fc]] w fun e w' => BytesSay w (GV.mk 2 1 s ln l fn nm f).enc e w' := by
 obtain ⟨i0, hi, hz0, hz1, hz2⟩ := info_parts infoU8;have hml : maxLen = 9223372036854775807 := rfl;have hbx : Below w.heap.size w (w.alloc (.cells #[.int .i64 2, .int .i64 1, .string s, .slice la ln lc, .slice fa fn fc] 25)) := (Below.refl w.heap.size w).alloc (Nat.le_refl _) _;have HB1 : Hid (Below (w.heap.size + 1) (w.alloc (.cells #[.int .i64 2, .int .i64 1, .string s, .slice la ln lc, .slice fa fn fc] 25)) ((w.alloc (.cells #[.int .i64 2, .int .i64 1, .string s, .slice la ln lc, .slice fa fn fc] 25)).alloc (.cells #[.int .u8 2] 5))) := (Below.refl _ _).alloc (by simp) _
 have HO1 : Hid (((w.alloc (.cells #[.int .i64 2, .int .i64 1, .string s, .slice la ln lc, .slice fa fn fc] 25)).alloc (.cells #[.int .u8 2] 5)).ownsRow (w.heap.size + 1) 5 1 (.slice (some ⟨w.heap.size + 1, 0, none⟩) 1 1) 1 [.int .u8 2]) := by
  have := World.ownsRow_lit (base := w.heap.size + 1) (e := 5) (size := 1) (w.alloc (.cells #[.int .i64 2, .int .i64 1, .string s, .slice la ln lc, .slice fa fn fc] 25)) #[.int .u8 2] 1 (by simp) (by decide) rfl;show World.ownsRow _ _ _ _ _ _ _;simpa using this
 have HO2 := HO1.out.alloc (.cells #[.int .u8 1] 5);have HOW : Hid _ := HO2
 have HC1 : Hid ((((w.alloc (.cells #[.int .i64 2, .int .i64 1, .string s, .slice la ln lc, .slice fa fn fc] 25)).alloc (.cells #[.int .u8 2] 5)).alloc (.cells #[.int .u8 1] 5)).cell? ⟨w.heap.size + 1 + 1, 0, none⟩ = some (.int .u8 1)) := by
  have := World.cell?_alloc_new ((w.alloc (.cells #[.int .i64 2, .int .i64 1, .string s, .slice la ln lc, .slice fa fn fc] 25)).alloc (.cells #[.int .u8 2] 5)) #[.int .u8 1] 5 0;show World.cell? _ _ = _;simpa using this
 clear HO2;rw [enc_k2]
 go_enter Try.func52, Try.ntmps52
 go_wp2_with (at_builtin; refine wpList_append_own _ rfl _ _ 77 rfl (w.heap.size + 1) 5 i0 (.int .u8 0) 1 1 Try.underlying77 hi hz0 hz1 hz2 rfl (by decide) _ _ _ rfl HOW.out _ _ _ [.int .u8 1] rfl ?c0 ?c1 ?c2 ?c3 ?c4 ?c5 ?_)
 case c0 => rfl
 case c1 =>
  intro j u hj
  match j, hj with
  | 0, hj => simp at hj; subst hj; simpa [Addr.add] using HC1.out
 case c2 => intro u hu; simp at hu; subst hu; rfl
 case c3 => omega
 case c4 => omega
 case c5 => simp <;> omega
 intro v' w3 hown3 hgrow3 _
 have B3 : Below (w.heap.size + 1) (w.alloc (.cells #[.int .i64 2, .int .i64 1, .string s, .slice la ln lc, .slice fa fn fc] 25)) w3 := by
  refine (HB1.out.alloc (by simp <;> omega) _).grown hgrow3 (by simp <;> omega) ?_;intro k hk;simp [Value.ownBlock] at hk;omega
 have HOWN : Hid (w3.ownsRow (w.heap.size + 1) 5 1 v' 2 [.int .u8 2, .int .u8 1]) := hown3;clear hown3 hgrow3;go_wp2_with fail;go_ret;exact ⟨_, rfl, own_lit (own_base HOWN.out (by omega)) rfl rfl, hbx.trans (B3.mono (by omega))⟩

set_option maxHeartbeats 2000000 in
set_option maxRecDepth 1000000 in
theorem bytes_k3 (n : Int) (s : ByteArray) (ln : Nat) (l : Nat → GV) (fn : Nat) (nm : Nat → ByteArray) (f : Nat → GV) (la fa : Option Addr) (lc fc : Nat) (w : World) (hn : Int64 n) : Calls Try.prog 52 #[.agg #[.int .i64 3, .int .i64 n, .string s, .slice la ln lc, .slice fa fn fc]] w fun e w' => BytesSay w (GV.mk 3 n s ln l fn nm f).enc e w' := by
 obtain ⟨i0, hi, hz0, hz1, hz2⟩ := info_parts infoU8;have hml : maxLen = 9223372036854775807 := rfl;have hbx : Below w.heap.size w (w.alloc (.cells #[.int .i64 3, .int .i64 n, .string s, .slice la ln lc, .slice fa fn fc] 25)) := (Below.refl w.heap.size w).alloc (Nat.le_refl _) _;have HB1 : Hid (Below (w.heap.size + 1) (w.alloc (.cells #[.int .i64 3, .int .i64 n, .string s, .slice la ln lc, .slice fa fn fc] 25)) ((w.alloc (.cells #[.int .i64 3, .int .i64 n, .string s, .slice la ln lc, .slice fa fn fc] 25)).alloc (.cells #[.int .u8 3] 5))) := (Below.refl _ _).alloc (by simp) _
 have HO1 : Hid (((w.alloc (.cells #[.int .i64 3, .int .i64 n, .string s, .slice la ln lc, .slice fa fn fc] 25)).alloc (.cells #[.int .u8 3] 5)).ownsRow (w.heap.size + 1) 5 1 (.slice (some ⟨w.heap.size + 1, 0, none⟩) 1 1) 1 [.int .u8 3]) := by
  have := World.ownsRow_lit (base := w.heap.size + 1) (e := 5) (size := 1) (w.alloc (.cells #[.int .i64 3, .int .i64 n, .string s, .slice la ln lc, .slice fa fn fc] 25)) #[.int .u8 3] 1 (by simp) (by decide) rfl;show World.ownsRow _ _ _ _ _ _ _;simpa using this
 have hz := zig_lt hn;obtain ⟨z, hze⟩ : ∃ z : Nat, zig n = (z : Int) := ⟨(zig n).toNat, by omega⟩;have HZ : Hid ((zig n).toNat = z) := by show _ = _; omega
 have hz3 : z < 18446744073709551616 := by omega
 have HZE : Hid (zig n = (z : Int)) := hze;clear hz hze;have hten := varint_ten hz3;have hpos := varint_pos z;obtain ⟨lv, hlv⟩ : ∃ lv, varint z = lv := ⟨_, rfl⟩;have HV : Hid (varint z = lv) := hlv;rw [hlv] at hten hpos;rw [enc_k3, HZ.out, hlv];clear hlv
 have HVC : Hid (∀ u, Calls Try.prog 67 #[.int .u64 (z : Int)] u fun e w' => ∃ v, e = .returned v ∧ w'.ownsRow u.heap.size 5 1 v lv.length (Lib.byteCells lv) ∧ Below u.heap.size u w') := by
  intro u;have := rvarint_any z u hz3;rw [HV.out] at this;exact this
 go_enter Try.func52, Try.ntmps52
 go_wp2_with fail;refine (rzig_any n _ hn).mono ?_;rintro e w2 ⟨rfl, rfl⟩;rw [HZE.out];go_wp2_with fail;refine (HVC.out _).mono ?_;rintro e w2 ⟨v2, rfl, hv2, hb2⟩;obtain ⟨g2, c2, rfl, hc2⟩ := own_some hv2 hpos;have hb2s := hb2.size;simp at hb2s;have HOW : Hid _ := own_below HO1.out hb2;have HB2 : Hid (Below (w.heap.size + 1) (w.alloc (.cells #[.int .i64 3, .int .i64 n, .string s, .slice la ln lc, .slice fa fn fc] 25)) w2) := HB1.out.trans (hb2.mono (by simp <;> omega));have HC2 : Hid (∀ j u, (Lib.byteCells lv)[j]? = some u → w2.cell? ((⟨g2, 0, none⟩ : Addr).add j) = some u) := hc2;clear hv2 hb2 hc2;go_wp2_with (at_builtin; refine wpList_append_own _ rfl _ _ 77 rfl (w.heap.size + 1) 5 i0 (.int .u8 0) 1 1 Try.underlying77 hi hz0 hz1 hz2 rfl (by decide) _ _ _ rfl HOW.out _ _ _ (Lib.byteCells lv) rfl ?c0 ?c1 ?c2 ?c3 ?c4 ?c5 ?_)
 case c0 => exact byteLen _
 case c1 => exact HC2.out
 case c2 => exact byteOne _
 case c3 => omega
 case c4 => omega
 case c5 => omega
 intro v' w3 hown3 hgrow3 _
 have B3 : Below (w.heap.size + 1) (w.alloc (.cells #[.int .i64 3, .int .i64 n, .string s, .slice la ln lc, .slice fa fn fc] 25)) w3 := by
  refine HB2.out.grown hgrow3 (by omega) ?_;intro k hk;simp [Value.ownBlock] at hk;omega
 have HOWN : Hid (w3.ownsRow (w.heap.size + 1) 5 1 v' (1 + lv.length) ([.int .u8 3] ++ Lib.byteCells lv)) := hown3;clear hown3 hgrow3;go_wp2_with fail;go_ret;exact ⟨_, rfl, own_lit (own_base HOWN.out (by omega)) (by simp; omega) rfl, hbx.trans (B3.mono (by omega))⟩

set_option maxHeartbeats 4000000 in
set_option maxRecDepth 1000000 in
theorem bytes_k5 (n : Int) (s : ByteArray) (ln : Nat) (l : Nat → GV) (fn : Nat) (nm : Nat → ByteArray) (f : Nat → GV) (la fa : Option Addr) (lc fc : Nat) (w : World) (h4 : ln ≤ lc) (h5 : lc ≤ maxLen) (hV : Vals w la ln l) (hB : (GV.mk 5 n s ln l fn nm f).enc.length ≤ 1000000000)
  (hI : ∀ i, i < ln → ∀ v w, Lies w (l i) v → Calls Try.prog 52 #[v] w fun e w' => BytesSay w (l i).enc e w') : Calls Try.prog 52 #[.agg #[.int .i64 5, .int .i64 n, .string s, .slice la ln lc, .slice fa fn fc]] w fun e w' => BytesSay w (GV.mk 5 n s ln l fn nm f).enc e w' := by
 obtain ⟨i0, hi, hz0, hz1, hz2⟩ := info_parts infoU8;have hml : maxLen = 9223372036854775807 := rfl;have hbx : Below w.heap.size w (w.alloc (.cells #[.int .i64 5, .int .i64 n, .string s, .slice la ln lc, .slice fa fn fc] 25)) := (Below.refl w.heap.size w).alloc (Nat.le_refl _) _;have HB1 : Hid (Below (w.heap.size + 1) (w.alloc (.cells #[.int .i64 5, .int .i64 n, .string s, .slice la ln lc, .slice fa fn fc] 25)) ((w.alloc (.cells #[.int .i64 5, .int .i64 n, .string s, .slice la ln lc, .slice fa fn fc] 25)).alloc (.cells #[.int .u8 5] 5))) := (Below.refl _ _).alloc (by simp) _
 have HO1 : Hid (((w.alloc (.cells #[.int .i64 5, .int .i64 n, .string s, .slice la ln lc, .slice fa fn fc] 25)).alloc (.cells #[.int .u8 5] 5)).ownsRow (w.heap.size + 1) 5 1 (.slice (some ⟨w.heap.size + 1, 0, none⟩) 1 1) 1 [.int .u8 5]) := by
  have := World.ownsRow_lit (base := w.heap.size + 1) (e := 5) (size := 1) (w.alloc (.cells #[.int .i64 5, .int .i64 n, .string s, .slice la ln lc, .slice fa fn fc] 25)) #[.int .u8 5] 1 (by simp) (by decide) rfl;show World.ownsRow _ _ _ _ _ _ _;simpa using this
 have HVL : Hid (Vals w la ln l) := hV;have HI : Hid (∀ i, i < ln → ∀ v w, Lies w (l i) v → Calls Try.prog 52 #[v] w fun e w' => BytesSay w (l i).enc e w') := hI;have hten := varint_ten (n := ln) (by omega);have hpos := varint_pos ln;obtain ⟨lv, hlv⟩ : ∃ lv, varint ln = lv := ⟨_, rfl⟩;have HV : Hid (varint ln = lv) := hlv;rw [hlv] at hten hpos;rw [enc_k5, hlv] at hB ⊢
 have HEL : Hid (∀ j, j ≤ ln → (5 :: (lv ++ (List.range j).flatMap (fun i => (l i).enc))).length ≤ 1000000000) := by
  intro j hj;have := flat_len (c := fun i => (l i).enc) hj;simp only [List.length_cons, List.length_append] at hB ⊢;omega
 clear hlv hV hI hB
 have HVC : Hid (∀ u, Calls Try.prog 67 #[.int .u64 (ln : Int)] u fun e w' => ∃ v, e = .returned v ∧ w'.ownsRow u.heap.size 5 1 v lv.length (Lib.byteCells lv) ∧ Below u.heap.size u w') := by
  intro u;have := rvarint_any ln u (by omega);rw [HV.out] at this;exact this
 go_enter Try.func52, Try.ntmps52
 go_wp2_with fail;refine (HVC.out _).mono ?_;rintro e w2 ⟨v2, rfl, hv2, hb2⟩;obtain ⟨g2, c2, rfl, hc2⟩ := own_some hv2 hpos;have hb2s := hb2.size;simp at hb2s;have HOW : Hid _ := own_below HO1.out hb2;have HB2 : Hid (Below (w.heap.size + 1) (w.alloc (.cells #[.int .i64 5, .int .i64 n, .string s, .slice la ln lc, .slice fa fn fc] 25)) w2) := HB1.out.trans (hb2.mono (by simp <;> omega));have HC2 : Hid (∀ j u, (Lib.byteCells lv)[j]? = some u → w2.cell? ((⟨g2, 0, none⟩ : Addr).add j) = some u) := hc2;clear hv2 hb2 hc2 HVC;go_wp2_with (at_builtin; refine wpList_append_own _ rfl _ _ 77 rfl (w.heap.size + 1) 5 i0 (.int .u8 0) 1 1 Try.underlying77 hi hz0 hz1 hz2 rfl (by decide) _ _ _ rfl HOW.out _ _ _ (Lib.byteCells lv) rfl ?c0 ?c1 ?c2 ?c3 ?c4 ?c5 ?_)
 case c0 => exact byteLen _
 case c1 => exact HC2.out
 case c2 => exact byteOne _
 case c3 => omega
 case c4 => omega
 case c5 => omega
 intro v3 w3 hown3 hgrow3 _
 have B3 : Below (w.heap.size + 1) (w.alloc (.cells #[.int .i64 5, .int .i64 n, .string s, .slice la ln lc, .slice fa fn fc] 25)) w3 := by
  refine HB2.out.grown hgrow3 (by omega) ?_;intro k hk;simp [Value.ownBlock] at hk;omega
 have HOWN : Hid (w3.ownsRow (w.heap.size + 1) 5 1 v3 (5 :: (lv ++ (List.range 0).flatMap (fun i => (l i).enc))).length (Lib.byteCells (5 :: (lv ++ (List.range 0).flatMap (fun i => (l i).enc))))) :=
  own_lit hown3 (by simp; omega) (by simp [Lib.byteCells])
 clear hown3 hgrow3 HC2 HB2 HOW;go_wp2_with fail
 go_loopw [3, 4] (fun v i wr => ∃ (j : Nat), i = .int .i64 j ∧ j ≤ ln ∧ wr.ownsRow (w.heap.size + 1) 5 1 v (5 :: (lv ++ (List.range j).flatMap (fun i => (l i).enc))).length (Lib.byteCells (5 :: (lv ++ (List.range j).flatMap (fun i => (l i).enc)))) ∧ Below (w.heap.size + 1) (w.alloc (.cells #[.int .i64 5, .int .i64 n, .string s, .slice la ln lc, .slice fa fn fc] 25)) wr) (fun _ i _ => ln - (intOf i).toNat)
 case atStart => exact ⟨0, rfl, by omega, HOWN.out, B3⟩
 case round =>
  obtain ⟨j, rfl, hj, hown, hbw⟩ := hrel;have hbs := hbw.size;simp at hbs;have hbw0 : Below w.heap.size w wr := hbx.trans (hbw.mono (by omega));have q3 : wr.cell? ⟨w.heap.size, 3, none⟩ = some (.slice la ln lc) := by rw [hbw.cell (p := ⟨w.heap.size, 3, none⟩) (by show w.heap.size < _; omega)]; simp
  by_cases hlt : j < ln
  ·obtain ⟨b, o, v', rfl, hLj, hA⟩ := HVL.out j hlt;have HLj : Hid (Lies w (l j) v') := hLj;obtain ⟨k', n', s', la', ln', lc', fa', fn', fc', rfl⟩ := hLj.agg;obtain ⟨c0, c1, c2, c3, c4⟩ := hA.five;have e0 := below_keeps hbw0 _ _ _ c0;have e1 := below_keeps hbw0 _ _ _ c1;have e2 := below_keeps hbw0 _ _ _ c2;have e3 := below_keeps hbw0 _ _ _ c3;have e4 := below_keeps hbw0 _ _ _ c4;have hpj : 0 < (l j).enc.length := enc_pos hLj;clear hLj hA c0 c1 c2 c3 c4;have HE1 := HEL.out (j + 1) hlt;rw [flat_snoc] at HE1;obtain ⟨E, hE⟩ : ∃ E, 5 :: (lv ++ (List.range j).flatMap (fun i => (l i).enc)) = E := ⟨_, rfl⟩;obtain ⟨F, hF⟩ : ∃ F, (l j).enc = F := ⟨_, rfl⟩
   have HEQ : Hid (5 :: (lv ++ (List.range (j + 1)).flatMap (fun i => (l i).enc)) = E ++ F) := by
    show _ = _;rw [flat_snoc, ← hE, ← hF];simp
   have hlen : E.length + F.length ≤ 1000000000 := by
    rw [← hE, ← hF];simp only [List.length_cons, List.length_append] at HE1 ⊢;omega
   have HCI : Hid (∀ w0, Lies w0 (l j) (.agg #[.int .i64 k', .int .i64 n', .string s', .slice la' ln' lc', .slice fa' fn' fc']) → Calls Try.prog 52 #[.agg #[.int .i64 k', .int .i64 n', .string s', .slice la' ln' lc', .slice fa' fn' fc']] w0 fun e w' => BytesSay w0 F e w') := by
    intro w0 h0;rw [← hF];exact HI.out j hlt _ _ h0
   rw [hE] at hown;rw [hF] at hpj;clear hE hF HE1;go_wp2_with fail;refine (HCI.out _ (HLj.out.below hbw0)).mono ?_;rintro e w5 ⟨v5, rfl, hv5, hb5⟩;obtain ⟨g5, c5, rfl, hc5⟩ := own_some hv5 hpj;have hb5s := hb5.size;have HOW5 : Hid _ := own_below hown hb5;have HB5 : Hid (Below (w.heap.size + 1) (w.alloc (.cells #[.int .i64 5, .int .i64 n, .string s, .slice (some ⟨b, o, none⟩) ln lc, .slice fa fn fc] 25)) w5) := hbw.trans (hb5.mono (by omega));have HC5 : Hid (∀ j u, (Lib.byteCells F)[j]? = some u → w5.cell? ((⟨g5, 0, none⟩ : Addr).add j) = some u) := hc5;have hlt5 := hown.lt;clear hv5 hb5 hc5 e0 e1 e2 e3 e4;go_wp2_with (at_builtin; refine wpList_append_own _ rfl _ _ 77 rfl (w.heap.size + 1) 5 i0 (.int .u8 0) 1 1 Try.underlying77 hi hz0 hz1 hz2 rfl (by decide) _ _ _ rfl HOW5.out _ _ _ (Lib.byteCells F) rfl ?c0 ?c1 ?c2 ?c3 ?c4 ?c5 ?_)
   case c0 => exact byteLen _
   case c1 => exact HC5.out
   case c2 => exact byteOne _
   case c3 => omega
   case c4 => omega
   case c5 => omega
   intro v6 w6 hown6 hgrow6 _
   have B6 : Below (w.heap.size + 1) (w.alloc (.cells #[.int .i64 5, .int .i64 n, .string s, .slice (some ⟨b, o, none⟩) ln lc, .slice fa fn fc] 25)) w6 := by
    refine HB5.out.grown hgrow6 (by omega) ?_;intro k hk;exact (hlt5 k hk).1
   have HOWN6 : Hid (w6.ownsRow (w.heap.size + 1) 5 1 v6 (E.length + F.length) (Lib.byteCells E ++ Lib.byteCells F)) := hown6;clear hown6 hgrow6 hown hlt5;go_wp2_with fail
   go_roundw
   case rel =>
    refine ⟨j + 1, by go_num, by omega, ?_, B6⟩;rw [HEQ.out, Lib.byteCells_append, List.length_append];exact HOWN6.out
   case measure => simp [intOf]; omega
  ·obtain rfl : j = ln := by omega
   have HOWN2 : Hid (wr.ownsRow (w.heap.size + 1) 5 1 _ _ _) := hown;clear hown;go_wp2_with fail;go_ret;exact ⟨_, rfl, own_base HOWN2.out (by omega), hbw0⟩
end Go.Proofs.Ytjngbogbbglbnab
