/- The document's arena: size, find, At, Top, Gap, First, Next. -/
import Derived.Test.YtlfgolnnkcehbaaApMem
import Derived.Deep.RegionHeld3
import Derived.Deep.CutRange
import Derived.BigQuiet
namespace Go.Proofs.Ytlfgolnnkcehbaa
open Go.RowKit

theorem placeS : ∀ {Lo : List Ob} {k : Nat}, k < Lo.length → place Lo (k + 1) = place Lo k + 1 + (oat Lo k).ws.length
  | [], _, h => by simp at h
  | o :: r, 0, _ => by simp [place, tot, oat, osz]
  | o :: r, k + 1, h => by
    have := placeS (Lo := r) (k := k) (by simpa using h)
    unfold place at this ⊢
    simp only [List.take_succ_cons, tot]
    rw [show oat (o :: r) (k + 1) = oat r k by simp [oat]]
    omega
theorem placeT (Lo : List Ob) : place Lo Lo.length = tot Lo := by unfold place; rw [List.take_length]
theorem placeLe : ∀ (Lo : List Ob) (k : Nat), place Lo k ≤ tot Lo
  | [], _ => by simp [place, tot]
  | o :: r, 0 => by simp [place, tot]
  | o :: r, k + 1 => by
    have := placeLe r k
    unfold place at this ⊢
    simp only [List.take_succ_cons, tot]
    omega
section
variable {own : Nat → Prop} {w : World} {a : Option Addr} {c : Nat} {Os : List Ob}
theorem ObR.len (h : ObR own w a c Os) {i : Nat} (hi : i < Os.length) : ∃ g o wa wc, a = some ⟨g, o, none⟩ ∧ w.cell? ⟨g, o + i * 5 + 4, none⟩ = some (.slice wa (oat Os i).ws.length wc) := by
  obtain ⟨g, o, e, wa, wc, _, _, _, _, h4, _⟩ := h.open hi
  exact ⟨g, o, wa, wc, e, h4⟩
set_option maxHeartbeats 1000000 in
set_option maxRecDepth 100000 in
theorem size_any (h : ObR own w a c Os) (ht : tot Os ≤ 1048576) : Calls Try.prog 53 #[.slice a Os.length c] w fun x w' => x = .returned (.int .i64 (tot Os : Nat)) ∧ w' = w := by
  obtain ⟨n, hn⟩ : ∃ n, n = Os.length := ⟨_, rfl⟩
  have hnb : n ≤ 1048576 := by
    have : Os.length ≤ tot Os := by
      clear h ht hn
      induction Os with
      | nil => exact Nat.le_refl _
      | cons o r ih => simp only [List.length_cons, tot, osz]; omega
    omega
  have HH := mkHid h
  have HN := mkHid hn
  have HT := mkHid ht
  rw [← hn]
  clear h hn ht
  go_enter Try.func53, Try.ntmps53
  go_wp2_with fail
  go_loopw [3, 4] (fun y3 y4 wr => ∃ i p : Nat, y4 = .int .i64 i ∧ y3 = .int .i64 p ∧ i ≤ n ∧ p = place Os i ∧ wr = w) (fun _ y4 _ => n - (intOf y4).toNat)
  case atStart => exact ⟨0, 0, rfl, rfl, Nat.zero_le _, by simp [place, tot], rfl⟩
  case round =>
    obtain ⟨i, p, rfl, rfl, hin, hp, rfl⟩ := hrel
    have hi0 : (0 : Int) ≤ (i : Int) := by omega
    by_cases hlt : i < n
    · obtain ⟨g, o, wa, wc, rfl, c4⟩ := HH.out.len (i := i) (by rw [← HN.out]; exact hlt)
      have hs := placeS (Lo := Os) (k := i) (by rw [← HN.out]; exact hlt)
      have hle := placeLe Os (i + 1)
      obtain ⟨L, hL⟩ : ∃ L, L = (oat Os i).ws.length := ⟨_, rfl⟩
      rw [← hL] at c4 hs
      rw [← hp] at hs
      have hb : p + 1 + L ≤ 1048576 := by have := HT.out; omega
      have HS := mkHid hs
      have hlt' : (i : Int) < (n : Int) := by omega
      clear hp hs hle hL
      go_wp2_with fail
      go_roundw
      case rel => exact ⟨i + 1, p + 1 + L, by go_num, by go_num, by omega, HS.out.symm, trivial⟩
      case measure => simp [intOf]; omega
    · obtain rfl : n = i := by omega
      have hpt : p = tot Os := by rw [hp, HN.out, placeT]
      have hlt' : ¬ (n : Int) < (n : Int) := by omega
      clear hp
      go_wp2_with fail
      go_ret
      exact ⟨rfl, rfl⟩
end
/-- What find tells. -/
def FndIs (Lo Hi : List Ob) (e : Nat) (at_ : Int) (b : Bool) (i : Int) : Prop :=
  (b = false ∧ ∃ k : Nat, k < Lo.length ∧ i = (k : Int) ∧ at_ = (place Lo k : Nat)) ∨ (b = true ∧ (∀ k, k < Lo.length → at_ ≠ (place Lo k : Nat)) ∧ ∃ k : Nat, k < Hi.length ∧ i = (k : Int) ∧ at_ = (e + place Hi k : Nat)) ∨ (b = false ∧ i = -1 ∧ (∀ k, k < Lo.length → at_ ≠ (place Lo k : Nat)) ∧ ∀ k, k < Hi.length → at_ ≠ (e + place Hi k : Nat))
def FndSay (Lo Hi : List Ob) (e : Nat) (at_ : Int) (x : Ending) : Prop := ∃ b i, x = .returned (.tuple #[.bool b, .int .i64 i]) ∧ FndIs Lo Hi e at_ b i
section
variable {own : Nat → Prop} {w : World} {la ha : Option Addr} {lc hc cap : Nat} {Lo Hi : List Ob} {e : Nat} {op : Bool}
theorem len_tot : ∀ (Os : List Ob), Os.length ≤ tot Os
  | [] => Nat.le_refl _
  | o :: r => by have := len_tot r; simp only [List.length_cons, tot, osz]; omega
set_option maxHeartbeats 1000000 in
set_option maxRecDepth 100000 in
theorem find_any (h : MA own w la lc ha hc Lo Hi) (hl : tot Lo ≤ 1048576) (hh : e + tot Hi ≤ 1048576) (at_ : Int) : Calls Try.prog 52 #[mV cap la lc ha hc Lo Hi e op, .int .i64 at_] w fun x w' => FndSay Lo Hi e at_ x ∧ Below w.heap.size w w' := by
  unfold mV
  obtain ⟨n, hn⟩ : ∃ n, n = Lo.length := ⟨_, rfl⟩
  obtain ⟨m, hm⟩ : ∃ m, m = Hi.length := ⟨_, rfl⟩
  have hnb : n ≤ 1048576 := by have := len_tot Lo; omega
  have hmb : m ≤ 1048576 := by have := len_tot Hi; omega
  have heb : e ≤ 1048576 := by omega
  rw [← hn, ← hm]
  obtain ⟨W1, hW1, hb1, hlt1, hblk⟩ := box_five w (.int .i64 (cap : Int)) (.slice la n lc) (.slice ha m hc) (.int .i64 (e : Int)) (.bool op) 30
  obtain ⟨p0, p1, p2, p3, p4⟩ := five_cells hblk
  have HLO := mkHid (h.lo.below hb1)
  have HHI := mkHid (h.hi.below hb1)
  have HB := mkHid hb1
  have HW := mkHid hW1
  have HN := mkHid hn
  have HM := mkHid hm
  have HL := mkHid hl
  have HH := mkHid hh
  clear h hl hh hn hm hW1 hb1 hblk p0 p4
  go_enter Try.func52, Try.ntmps52
  refine wp_seq_k (fun K1 hkA => ?_)
  have HK1 := mkHid hkA
  clear hkA
  go_wp2_with fail
  rw [← HW.out]
  refine HK1.out _ _ ?_
  clear HK1
  go_wp2_with fail
  go_loopw [6, 7] (fun y6 y7 wr => ∃ i p : Nat, y7 = .int .i64 i ∧ y6 = .int .i64 p ∧ i ≤ n ∧ p = place Lo i ∧ (∀ k, k < i → at_ ≠ (place Lo k : Nat)) ∧ wr = W1) (fun _ y7 _ => n - (intOf y7).toNat)
  case atStart => exact ⟨0, 0, rfl, rfl, Nat.zero_le _, by simp [place, tot], fun k hk => absurd hk (Nat.not_lt_zero _), rfl⟩
  case round =>
    obtain ⟨i, p, rfl, rfl, hin, hp, hno, rfl⟩ := hrel
    have hi0 : (0 : Int) ≤ (i : Int) := by omega
    by_cases hlt : i < n
    · have hlt' : (i : Int) < (n : Int) := by omega
      by_cases hE : (p : Int) = at_
      · have hE' : ((p : Int) == at_) = true := by simp [hE]
        have HR : Hid (FndIs Lo Hi e at_ false (i : Int)) := Or.inl ⟨rfl, i, by rw [← HN.out]; exact hlt, rfl, by rw [← hE, hp]⟩
        clear hp hno hE
        go_wp2_with fail
        go_ret2
        exact ⟨⟨_, _, rfl, HR.out⟩, HB.out⟩
      · have hE' : ((p : Int) == at_) = false := beq_eq_false_iff_ne.2 hE
        obtain ⟨g, o, wa, wc, rfl, c4⟩ := HLO.out.len (i := i) (by rw [← HN.out]; exact hlt)
        have hs := placeS (Lo := Lo) (k := i) (by rw [← HN.out]; exact hlt)
        have hle := placeLe Lo (i + 1)
        obtain ⟨L, hL⟩ : ∃ L, L = (oat Lo i).ws.length := ⟨_, rfl⟩
        rw [← hL] at c4 hs
        rw [← hp] at hs
        have hb : p + 1 + L ≤ 1048576 := by have := HL.out; omega
        have HS := mkHid hs
        have HNO : Hid (∀ k, k < i + 1 → at_ ≠ (place Lo k : Nat)) := fun k hk => by
          rcases Nat.lt_or_ge k i with h | h
          · exact hno k h
          · rw [show k = i by omega, ← hp]; exact fun e => hE e.symm
        clear hp hs hle hL hno hE
        go_wp2_with fail
        go_roundw
        case rel => exact ⟨i + 1, p + 1 + L, by go_num, by go_num, by omega, HS.out.symm, HNO.out, trivial⟩
        case measure => simp [intOf]; omega
    · obtain rfl : n = i := by omega
      have hlt' : ¬ (n : Int) < (n : Int) := by omega
      have HNO : Hid (∀ k, k < Lo.length → at_ ≠ (place Lo k : Nat)) := fun k hk => hno k (by rw [HN.out]; exact hk)
      clear hp hno
      go_wp2_with fail
      go_loopw [6, 8] (fun y6 y8 wx => ∃ i p : Nat, y8 = .int .i64 i ∧ y6 = .int .i64 p ∧ i ≤ m ∧ p = e + place Hi i ∧ (∀ k, k < i → at_ ≠ (e + place Hi k : Nat)) ∧ wx = wr) (fun _ y8 _ => m - (intOf y8).toNat)
      case atStart => exact ⟨0, e, rfl, rfl, Nat.zero_le _, by simp [place, tot], fun k hk => absurd hk (Nat.not_lt_zero _), rfl⟩
      case round =>
        obtain ⟨i, p, rfl, rfl, hin2, hp, hno, rfl⟩ := hrel
        have hi0 : (0 : Int) ≤ (i : Int) := by omega
        by_cases hlt2 : i < m
        · have hlt2' : (i : Int) < (m : Int) := by omega
          by_cases hE : (p : Int) = at_
          · have hE' : ((p : Int) == at_) = true := by simp [hE]
            have HR : Hid (FndIs Lo Hi e at_ true (i : Int)) := Or.inr (Or.inl ⟨rfl, HNO.out, i, by rw [← HM.out]; exact hlt2, rfl, by rw [← hE, hp]⟩)
            clear hp hno hE
            go_wp2_with fail
            go_ret2
            exact ⟨⟨_, _, rfl, HR.out⟩, HB.out⟩
          · have hE' : ((p : Int) == at_) = false := beq_eq_false_iff_ne.2 hE
            obtain ⟨g, o, wa, wc, rfl, c4⟩ := HHI.out.len (i := i) (by rw [← HM.out]; exact hlt2)
            have hs := placeS (Lo := Hi) (k := i) (by rw [← HM.out]; exact hlt2)
            have hle := placeLe Hi (i + 1)
            obtain ⟨L, hL⟩ : ∃ L, L = (oat Hi i).ws.length := ⟨_, rfl⟩
            rw [← hL] at c4 hs
            have hb : p + 1 + L ≤ 1048576 := by have := HH.out; omega
            have HS : Hid (p + 1 + L = e + place Hi (i + 1)) := by show _ = _; omega
            have HNO2 : Hid (∀ k, k < i + 1 → at_ ≠ (e + place Hi k : Nat)) := fun k hk => by
              rcases Nat.lt_or_ge k i with h | h
              · exact hno k h
              · rw [show k = i by omega, ← hp]; exact fun e => hE e.symm
            clear hp hs hle hL hno hE
            go_wp2_with fail
            go_roundw
            case rel => exact ⟨i + 1, p + 1 + L, by go_num, by go_num, by omega, HS.out, HNO2.out, trivial⟩
            case measure => simp [intOf]; omega
        · obtain rfl : m = i := by omega
          have hlt2' : ¬ (m : Int) < (m : Int) := by omega
          have HR : Hid (FndIs Lo Hi e at_ false (-1)) := Or.inr (Or.inr ⟨rfl, rfl, HNO.out, fun k hk => hno k (by rw [HM.out]; exact hk)⟩)
          clear hp hno
          go_wp2_with fail
          go_ret2
          exact ⟨⟨_, _, rfl, HR.out⟩, HB.out⟩
end
end Go.Proofs.Ytlfgolnnkcehbaa
