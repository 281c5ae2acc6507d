/- Contract of path.named: fields of one name, a new row. -/
import Derived.Test.YtjngbogbbglbnabZPaSpl
namespace Go.Proofs.Ytjngbogbbglbnab
open Go.RowKit

/-- Values that stand one behind the other, as fields of a name. -/
theorem vals_fls {w : World} {ma : Option Addr} {x : Nat → GV} (s : ByteArray) (hs : s.size ≤ 140737488355328) : ∀ c, Vals w ma c x → ∃ d : List Fl, d.length = c ∧ (∀ i (hi : i < d.length), (d[i]'hi).nm = s ∧ (d[i]'hi).g = x i ∧ (d[i]'hi).ok w ∧ ∃ b o, ma = some ⟨b, o, none⟩ ∧ At5 w b (o + i * 5) (d[i]'hi).val)
 | 0, _ => ⟨[], rfl, fun i hi => absurd hi (Nat.not_lt_zero _)⟩
 | c + 1, h => by
  obtain ⟨d, h1, h2⟩ := vals_fls s hs c (show Vals w ma c x from fun i hi => h i (by omega));obtain ⟨b, o, v, e, hL, hA⟩ := h c (by omega);obtain ⟨k', n', s', la', ln', lc', fa', fn', fc', rfl⟩ := hL.agg;refine ⟨d ++ [⟨s, k', n', s', la', ln', lc', fa', fn', fc', x c⟩], by simp [h1], fun i hi => ?_⟩
  by_cases hlt : i < d.length
  ·rw [List.getElem_append_left hlt];exact h2 i hlt
  ·have : i = c := by simp at hi; omega
   subst this;rw [List.getElem_append_right (by omega)];simp only [h1, Nat.sub_self, List.getElem_cons_zero];exact ⟨trivial, trivial, ⟨hL, hs⟩, b, o, e, hA⟩

set_option maxHeartbeats 1000000 in
set_option maxRecDepth 1000000 in
theorem named_any (s : ByteArray) (d : List Fl) (ma : Option Addr) (mc : Nat) (w : World) (hd : ∀ i (hi : i < d.length), (d[i]'hi).nm = s ∧ ∃ b o, ma = some ⟨b, o, none⟩ ∧ At5 w b (o + i * 5) (d[i]'hi).val) (hc : d.length ≤ mc) (_hc2 : mc ≤ maxLen) (hdl : d.length ≤ 50000) :
  Calls Try.prog 43 #[.string s, .slice ma d.length mc] w fun e w' => ∃ v', e = .returned v' ∧ w'.ownsRow w.heap.size 45 6 v' d.length (fldCells d) ∧ Below w.heap.size w w' := by
 have hml : maxLen = 9223372036854775807 := rfl;obtain ⟨i0, hi, hz0, hz1, hz2⟩ := info_parts infoField;obtain ⟨n, hn⟩ : ∃ n, n = d.length := ⟨_, rfl⟩;rw [← hn] at hc hdl ⊢;have HN : Hid (n = d.length) := hn;have HD : Hid _ := hd;clear hd hn
 go_enter Try.func43, Try.ntmps43
 go_wp2_with fail
 go_loopw [5, 10] (fun fv iv wr => ∃ (j : Nat), iv = .int .i64 j ∧ j ≤ n ∧ wr.ownsRow w.heap.size 45 6 fv j (fldCells (d.take j)) ∧ Below w.heap.size w wr) (fun _ iv _ => n - (intOf iv).toNat)
 case atStart => exact ⟨0, rfl, by omega, by simpa [fldCells] using World.ownsRow_nil _ _ _ _, Below.refl _ _⟩
 case round =>
  obtain ⟨j, rfl, hj, hown, hbw⟩ := hrel
  by_cases hlt : j < n
  ·have hjl : j < d.length := by have := HN.out; omega
   obtain ⟨hnm, b, o, rfl, hA⟩ := HD.out j hjl
   have htk : d.take (j + 1) = d.take j ++ [d[j]'hjl] := by
    rw [List.take_add_one, List.getElem?_eq_getElem hjl]
    rfl
   have HTK : Hid (fldCells (d.take (j + 1)) = fldCells (d.take j) ++ (d[j]'hjl).enc) := hidI (by rw [htk, fldCells_snoc]);obtain ⟨x, hx⟩ : ∃ x, x = d[j]'hjl := ⟨_, rfl⟩;rw [← hx] at hnm hA HTK;obtain ⟨nm', k', n', s', la', ln', lc', fa', fn', fc', gx⟩ := x;simp only at hnm;subst hnm;have hA' : At5 w b (o + j * 5) (.agg #[.int .i64 k', .int .i64 n', .string s', .slice la' ln' lc', .slice fa' fn' fc']) := hA;obtain ⟨c0, c1, c2, c3, c4⟩ := hA'.five;have e0 := below_keeps hbw _ _ _ c0;have e1 := below_keeps hbw _ _ _ c1;have e2 := below_keeps hbw _ _ _ c2;have e3 := below_keeps hbw _ _ _ c3;have e4 := below_keeps hbw _ _ _ c4;have hbs := hbw.size;clear hA hA' c0 c1 c2 c3 c4 hx htk;go_wp2_with (at_builtin; refine wpList_append_own _ rfl _ _ 23 rfl w.heap.size 45 i0 _ 6 96 Try.underlying23 hi hz0 hz1 hz2 rfl (by decide) _ _ _ rfl ((hown.alloc _).alloc _) _ 1 1 [.string nm', .int .i64 k', .int .i64 n', .string s', .slice la' ln' lc', .slice fa' fn' fc'] rfl rfl ?c1 ?c2 ?c3 ?c4 ?c5 ?_)
   case c1 =>
    intro q u hq
    match q, hq with
    | 0, hq => simp at hq; subst hq; simp [Addr.add]
    | 1, hq => simp at hq; subst hq; simp [Addr.add]
    | 2, hq => simp at hq; subst hq; simp [Addr.add]
    | 3, hq => simp at hq; subst hq; simp [Addr.add]
    | 4, hq => simp at hq; subst hq; simp [Addr.add]
    | 5, hq => simp at hq; subst hq; simp [Addr.add]
   case c2 =>
    intro u hu;simp at hu
    rcases hu with rfl | rfl | rfl | rfl | rfl | rfl <;> rfl
   case c3 => omega
   case c4 => omega
   case c5 => simp; omega
   intro v' w3 hown3 hgrow3 _
   have hbw3 : Below w.heap.size w w3 := by
    refine ((hbw.alloc (by omega) _).alloc (by simp; omega) _).grown hgrow3 (by simp; omega) ?_;intro k hk;exact (hown.lt k hk).1
   have HOWN : Hid (w3.ownsRow w.heap.size 45 6 v' (j + 1) (fldCells (d.take (j + 1)))) := hidI (by rw [HTK.out]; exact hown3);clear hown3 hgrow3;go_wp2_with fail
   go_roundw
   case rel => exact ⟨j + 1, by go_num, by omega, HOWN.out, hbw3⟩
   case measure => simp [intOf]; omega
  ·obtain rfl : j = n := by omega
   have HOWN : Hid (wr.ownsRow w.heap.size 45 6 _ j (fldCells d)) := hidI (by
    have := hown;rw [List.take_of_length_le (by have := HN.out; omega)] at this;exact this)
   clear hown;go_wp2_with fail;go_ret;exact ⟨_, rfl, HOWN.out, hbw⟩
end Go.Proofs.Ytjngbogbbglbnab
