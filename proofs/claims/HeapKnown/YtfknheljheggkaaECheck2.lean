/- objectsHeld, Check. -/
import Derived.Test.YtfknheljheggkaaECheck
import Derived.Test.YtfknheljheggkaaEPlain
import Derived.Test.YtfknheljheggkaaEReach2
namespace Go.Proofs.Ytfknheljheggkaa
open Go.RowKit

theorem place_succ : ∀ {Lo : List Ob} {k : Nat}, k < Lo.length → place Lo (k + 1) = place Lo k + osz (oat Lo k)
  | [], _, h => by simp at h
  | o :: r, 0, _ => by simp [place, tot, oat]
  | o :: r, k + 1, h => by
    have := place_succ (Lo := r) (k := k) (by simpa using h)
    unfold place at this ⊢
    simp only [List.take_succ_cons, tot]
    rw [show oat (o :: r) (k + 1) = oat r k by simp [oat]]
    omega
theorem place_all (Lo : List Ob) : place Lo Lo.length = tot Lo := by unfold place; rw [List.take_length]
theorem place_lt {Lo : List Ob} : ∀ {k : Nat}, k < Lo.length → place Lo k < tot Lo := by
  have key : ∀ n k, k + n = Lo.length → 0 < n → place Lo k < tot Lo := by
    intro n
    induction n with
    | zero => intro k _ h; omega
    | succ n ih =>
      intro k hk _
      have h1 := place_succ (Lo := Lo) (k := k) (by omega)
      have hz : osz (oat Lo k) = 1 + (oat Lo k).ws.length := rfl
      rcases Nat.eq_zero_or_pos n with h0 | h0
      · have : k + 1 = Lo.length := by omega
        have h2 := place_all Lo
        rw [← this] at h2
        omega
      · have := ih (k + 1) (by omega) h0
        omega
  intro k hk
  exact key (Lo.length - k) k (by omega) (by omega)
section
variable {own : Nat → Prop} {w : World} {i : HId} {cap slots : Nat} {Lo : List Ob} {L : List RS} {F : List Nat} {rt : List Nat} {wv : Value}
/-- Each object's owner is a slot with its place. -/
def ObjsOk (Lo : List Ob) (L : List RS) : Prop := ∀ k, k < Lo.length → (oat Lo k).own < L.length ∧ (rs L (oat Lo k).own).taken = true ∧ (rs L (oat Lo k).own).at_ = place Lo k
theorem obAt_place {k : Nat} (hk : k < Lo.length) : obAt Lo [] 0 (place Lo k) = some (oat Lo k) := by
  unfold obAt
  have := objAt_place Lo 0 k hk
  rw [Nat.zero_add] at this
  rw [this]
theorem at_First {A W B : Nat} (h : AT w A W B cap Lo [] 0 false) : Calls Try.prog 83 #[.pointer (some ⟨A, 0, none⟩)] w fun r w' => r = .returned (.int .i64 0) ∧ w' = w := by
  obtain ⟨ws, bs, top, low, high, h1, h2, h3⟩ := h
  obtain ⟨_, _, q1, q2, _⟩ := h3.cls rfl
  have := First_any h1
  rw [q1, q2] at this
  exact this
set_option maxHeartbeats 2000000 in
theorem objectsHeld_yes (h : HP own w i ⟨cap, slots, Lo, [], 0, false, L, F, rt⟩ wv) (hA : ObjsOk Lo L) : Calls Try.prog 54 #[.pointer (some ⟨i.H, 0, none⟩)] w fun e w' => e = .returned (.bool true) ∧ RowKit.Below w.heap.size w w' := by
  have HAR := mkHid (hArena_any h)
  have HFI := mkHid (at_First h.at_)
  have HTO := mkHid (fun (v : World) (hv : RowKit.Below w.heap.size w v) => at_Top (h.below hv).at_)
  have HHE := mkHid (fun (v : World) (k : Nat) (hv : RowKit.Below w.heap.size w v) (hk : k < Lo.length) => at_Head (h.below hv).at_ (obAt_place hk))
  have HNE := mkHid (fun (v : World) (k : Nat) (hv : RowKit.Below w.heap.size w v) (hk : k < Lo.length) => at_Next (h.below hv).at_ (obAt_place hk))
  have HHO := mkHid (fun (v : World) (k : Nat) (hv : RowKit.Below w.heap.size w v) (hk : k < Lo.length) => holdsAt_yes (h.below hv) (hA k hk).1 (hA k hk).2.1 (hA k hk).2.2)
  have hle : tot Lo ≤ cap ∧ cap ≤ 1048576 := h.at_.le
  obtain ⟨T, hT⟩ : ∃ T, T = tot Lo := ⟨_, rfl⟩
  have HTT : Hid (∀ (v : World) (_ : RowKit.Below w.heap.size w v), Calls Try.prog 30 #[.pointer (some ⟨i.A, 0, none⟩)] v fun r w' => r = .returned (.int .i64 (T : Int)) ∧ w' = v) := by
    intro v hv
    rw [hT]
    exact HTO.out v hv
  have HT2 := mkHid hT
  have hT20 : T ≤ 1048576 := by omega
  clear h hA hle hT HTO
  go_enter Try.func54, Try.ntmps54
  go_wp2_with fail
  refine HAR.out.mono ?_
  rintro e w1 ⟨rfl, rfl⟩
  go_wp2_with fail
  refine HFI.out.mono ?_
  rintro e w1 ⟨rfl, rfl⟩
  go_wp2_with fail
  go_loopw [4] (fun x wr => ∃ k : Nat, x = .int .i64 (place Lo k : Nat) ∧ k ≤ Lo.length ∧ RowKit.Below w1.heap.size w1 wr) (fun x _ => T - (intOf x).toNat)
  case atStart => exact ⟨0, rfl, Nat.zero_le _, RowKit.Below.refl _ _⟩
  case round =>
    obtain ⟨k, rfl, hk, hbw⟩ := hrel
    obtain ⟨q, hq⟩ : ∃ q, q = place Lo k := ⟨_, rfl⟩
    rw [← hq]
    by_cases hlt : k < Lo.length
    · have hqT : q < T := by rw [hq, HT2.out]; exact place_lt hlt
      have HH := mkHid (HHE.out wr k hbw hlt)
      obtain ⟨t, ht⟩ : ∃ t, t = (oat Lo k).tag := ⟨_, rfl⟩
      obtain ⟨r, hr⟩ : ∃ r, r = (oat Lo k).refs := ⟨_, rfl⟩
      obtain ⟨z, hz⟩ : ∃ z, z = (oat Lo k).ws.length := ⟨_, rfl⟩
      obtain ⟨mk, hmk⟩ : ∃ mk, mk = (oat Lo k).mark := ⟨_, rfl⟩
      obtain ⟨ow, how⟩ : ∃ ow, ow = (oat Lo k).own := ⟨_, rfl⟩
      have hO : headO (oat Lo k) = .agg #[.int .i64 (t : Int), .int .i64 (r : Int), .int .i64 (z : Int), .bool mk, .int .i64 (ow : Int)] := by unfold headO; rw [ht, hr, hz, hmk, how]
      rw [hO, ← hq] at HH
      have HT1 := mkHid (HTT.out wr hbw)
      have HHO1 := mkHid (fun (v : World) (hv : RowKit.Below w1.heap.size w1 v) => HHO.out v k hv hlt)
      rw [← how, ← hq] at HHO1
      obtain ⟨q2, hq2⟩ : ∃ q2, q2 = place Lo (k + 1) := ⟨_, rfl⟩
      have HNX : Hid (∀ (v : World) (_ : RowKit.Below w1.heap.size w1 v), Calls Try.prog 84 #[.pointer (some ⟨i.A, 0, none⟩), .int .i64 (q : Int)] v fun x w' => x = .returned (.tuple #[.int .i64 (q2 : Int), .int .i64 0]) ∧ w' = v) := by
        intro v hv
        have h1 := HNE.out v k hv hlt
        rw [← hq, show nextT Lo 0 false (q + osz (oat Lo k)) = q2 by unfold nextT; rw [if_neg (by simp), hq2, place_succ hlt, hq]] at h1
        exact h1
      have HQ2 := mkHid hq2
      have hq12 : q < q2 := by
        rw [hq2, place_succ hlt, ← hq]
        have hz : osz (oat Lo k) = 1 + (oat Lo k).ws.length := rfl
        omega
      have hc : (q : Int) < (T : Int) := by omega
      have HBW := mkHid hbw
      clear hbw hq hq2 ht hr hz hmk how hO
      go_wp2_with fail
      refine HT1.out.mono ?_
      rintro e w2 ⟨rfl, rfl⟩
      go_wp2_with fail
      refine HH.out.mono ?_
      rintro e w3 ⟨rfl, b3⟩
      have B3 := mkHid (HBW.out.trans ((b3.alloc b3.size (.cells #[.int .i64 (t : Int), .int .i64 (r : Int), .int .i64 (z : Int), .bool mk, .int .i64 (ow : Int)] 100)).mono HBW.out.size))
      clear b3
      go_wp2_with fail
      refine (HHO1.out _ B3.out).mono ?_
      rintro e w4 ⟨rfl, rfl⟩
      go_wp2_with fail
      refine (HNX.out _ B3.out).mono ?_
      rintro e w5 ⟨rfl, rfl⟩
      go_wp2_with fail
      go_roundw
      case rel => exact ⟨k + 1, by rw [HQ2.out], by omega, B3.out⟩
      case measure => simp [intOf]; omega
    · have hqT : q = T := by rw [hq, HT2.out, show k = Lo.length by omega, place_all]
      have HT1 := mkHid (HTT.out wr hbw)
      have hc : ¬ (q : Int) < (T : Int) := by omega
      have HBW := mkHid hbw
      clear hbw hq hqT
      go_wp2_with fail
      refine HT1.out.mono ?_
      rintro e w2 ⟨rfl, rfl⟩
      go_wp2_with fail
      go_ret
      exact ⟨rfl, HBW.out⟩
set_option maxHeartbeats 1000000 in
theorem Check_yes (h : HP own w i ⟨cap, slots, Lo, [], 0, false, L, F, rt⟩ wv) (hS : Snd ⟨cap, slots, Lo, [], 0, false, L, F, rt⟩) (hA : SlotsOk ⟨cap, slots, Lo, [], 0, false, L, F, rt⟩) (hB : ObjsOk Lo L) (hl : ∀ k, (bfsK ⟨cap, slots, Lo, [], 0, false, L, F, rt⟩ (mRoots ⟨cap, slots, Lo, [], 0, false, L, F, rt⟩) k).lost = false) : Calls Try.prog 17 #[.pointer (some ⟨i.H, 0, none⟩)] w fun e w' => e = .returned (.int .i64 0) ∧ RowKit.Below w.heap.size w w' := by
  have H1 := mkHid (slotsHold_yes h hA)
  have H2 := mkHid (fun (v : World) (hv : RowKit.Below w.heap.size w v) => objectsHeld_yes (h.below hv) hB)
  have H3 := mkHid (fun (v : World) (hv : RowKit.Below w.heap.size w v) => reached_any (h.below hv) hS)
  have HL := mkHid hl
  clear h hS hA hB hl
  go_enter Try.func17, Try.ntmps17
  go_wp2_with fail
  refine H1.out.mono ?_
  rintro e w1 ⟨rfl, b1⟩
  have B1 := mkHid b1
  clear b1
  go_wp2_with fail
  refine (H2.out _ B1.out).mono ?_
  rintro e w2 ⟨rfl, b2⟩
  have B2 := mkHid (B1.out.trans (b2.mono B1.out.size))
  clear b2
  go_wp2_with fail
  refine (H3.out _ B2.out).mono ?_
  rintro e w3 ⟨Mb, rfl, b3, mp, u, K, m3, _⟩
  have B3 := mkHid (B2.out.trans (b3.mono B2.out.size))
  have c3 := m3.cells.2.2.2
  rw [HL.out] at c3
  clear b3 m3
  go_wp2_with fail
  go_ret
  exact ⟨rfl, B3.out⟩
end
end Go.Proofs.Ytfknheljheggkaa
