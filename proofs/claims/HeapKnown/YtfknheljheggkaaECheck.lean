/- slotsHold, objectsHeld. -/
import Derived.Test.YtfknheljheggkaaEMake2
namespace Go.Proofs.Ytfknheljheggkaa
open Go.RowKit

section
variable {own : Nat → Prop} {w : World} {i : HId} {s : HS} {wv : Value}
/-- Each live handle's object is of that owner. -/
def SlotsOk (s : HS) : Prop := ∀ x, x ∈ liveH s.L → x < 18446744073709551616 ∧ ∃ p q o, look s.L x = some p ∧ Has s x q o ∧ o.own = p
set_option maxHeartbeats 2000000 in
theorem slotsHold_yes (h : HP own w i s wv) (hA : SlotsOk s) : Calls Try.prog 53 #[.pointer (some ⟨i.H, 0, none⟩)] w fun e w' => e = .returned (.bool true) ∧ RowKit.Below w.heap.size w w' := by
  have HT := mkHid (hTable_any h)
  have HL := mkHid (ab_Live h.ab)
  have HSL := mkHid (fun (v : World) (x p : Nat) (hv : RowKit.Below w.heap.size w v) (hx : x < 18446744073709551616) (hl : look s.L x = some p) => ab_Slot (h.below hv).ab x p hx hl)
  have HOB := mkHid (fun (v : World) (x q : Nat) (o : Ob) (hv : RowKit.Below w.heap.size w v) (hh : Has s x q o) => object_let (h.below hv) hh)
  have hlen : (liveH s.L).length ≤ 1048576 := by
    rw [liveH_len]
    have := cnt_le h
    omega
  obtain ⟨N, hN⟩ : ∃ N, N = (liveH s.L).length := ⟨_, rfl⟩
  have HA := mkHid hA
  have HN := mkHid hN
  have hN20 : N ≤ 1048576 := by omega
  clear h hA hlen hN
  go_enter Try.func53, Try.ntmps53
  go_wp2_with fail
  refine HT.out.mono ?_
  rintro e w1 ⟨rfl, rfl⟩
  go_wp2_with fail
  refine HL.out.mono ?_
  rintro e w2 ⟨u, rfl, o2, b2⟩
  have HRW : Hid (∀ v : World, RowKit.Below w2.heap.size w2 v → ∀ k, k < N → ∃ g c, u = .slice (some ⟨g, 0, none⟩) N c ∧ N ≤ c ∧ v.cell? ⟨g, k, none⟩ = some (.int .u64 (((liveH s.L).getD k 0 : Nat) : Int))) := by
    intro v hv k hk
    rcases o2.2 with ⟨_, h0⟩ | ⟨g, cap, cur, rfl, h1, h2, h3, h4, h5, h6⟩
    · have := HN.out; omega
    · have hgl := (Array.getElem?_eq_some_iff.1 h2).1
      refine ⟨g, cap, by rw [HN.out], by rw [HN.out]; exact h3, ?_⟩
      rw [hv.cell (p := ⟨g, k, none⟩) hgl, cell_of_row w2 g k _ _ _ h2]
      have e1 : (ucells (liveH s.L))[k]? = some (.int .u64 (((liveH s.L).getD k 0 : Nat) : Int)) := by
        have : k < (liveH s.L).length := by rw [← HN.out]; exact hk
        simp [ucells, this]
      rw [← e1, ← h6, List.getElem?_take_of_lt (by rw [← HN.out]; omega)]
      simp
  obtain ⟨ua, uc, hu⟩ : ∃ a c, u = .slice a N c := by
    rcases o2.2 with ⟨rfl, h0⟩ | ⟨g, cap, cur, rfl, h1, h2, h3, h4, h5, h6⟩
    · exact ⟨none, 0, by rw [HN.out, h0]⟩
    · exact ⟨_, cap, by rw [HN.out]⟩
  subst hu
  have B2 := mkHid b2
  clear o2 b2
  go_wp2_with fail
  go_loopw [16] (fun x wr => ∃ j : Nat, x = .int .i64 j ∧ j ≤ N ∧ RowKit.Below w2.heap.size w2 wr) (fun x _ => N - (intOf x).toNat)
  case atStart => exact ⟨0, rfl, Nat.zero_le _, RowKit.Below.refl _ _⟩
  case round =>
    obtain ⟨j, rfl, hj, hbw⟩ := hrel
    by_cases hlt : j < N
    · obtain ⟨g, c, hug, hgc, hcell⟩ := HRW.out wr hbw j hlt
      obtain ⟨x, hx⟩ : ∃ x, x = (liveH s.L).getD j 0 := ⟨_, rfl⟩
      have hmem : x ∈ liveH s.L := by
        have : j < (liveH s.L).length := by rw [← HN.out]; exact hlt
        rw [hx, List.getD_eq_getElem?_getD, List.getElem?_eq_getElem this]
        exact List.getElem_mem this
      obtain ⟨hx64, p, q, o, hlk, hhas, hpo⟩ := HA.out x hmem
      have hbb : RowKit.Below w1.heap.size w1 wr := B2.out.trans (hbw.mono B2.out.size)
      have HS1 := mkHid (HSL.out wr x p hbb hx64 hlk)
      obtain ⟨t, r, z, mk, ow, ht, hr, hz, hrz, hzz, hmk, how, ho⟩ := HOB.out wr x q o hbb hhas
      have HO := mkHid ho
      have how2 : ow = p := by rw [how, hpo]
      have hne : ((ow : Int) != (p : Int)) = false := by rw [how2]; simp
      rw [← hx] at hcell
      injection hug with e1 e2 e3
      subst e1
      subst e3
      have hj0 : (0 : Int) ≤ (j : Int) := by omega
      have hj1 : (j : Int) < (N : Int) := by omega
      have HBW := mkHid hbw
      clear hbw hbb hmem hlk hhas hpo ho ht hr hz hmk how how2 hx e2
      go_wp2_with fail
      refine HS1.out.mono ?_
      rintro e w3 ⟨rfl, rfl⟩
      go_wp2_with fail
      refine HO.out.mono ?_
      rintro e w4 ⟨rfl, b4⟩
      have B4 := mkHid (HBW.out.trans ((b4.alloc b4.size (.cells #[.int .i64 (t : Int), .int .i64 (r : Int), .int .i64 (z : Int), .bool mk, .int .i64 (ow : Int)] 100)).mono HBW.out.size))
      clear b4
      go_wp2_with fail
      go_roundw
      case rel => exact ⟨j + 1, by go_num, by omega, B4.out⟩
      case measure => simp [intOf]; omega
    · go_wp2_with fail
      go_ret
      exact ⟨rfl, B2.out.trans (hbw.mono B2.out.size)⟩
theorem holdsAt_yes (h : HP own w i s wv) {p q : Nat} (hp : p < s.L.length) (ht : (rs s.L p).taken = true) (hq : (rs s.L p).at_ = q) : Calls Try.prog 85 #[.pointer (some ⟨i.H, 0, none⟩), .int .i64 p, .int .i64 q] w fun e w' => e = .returned (.bool true) ∧ w' = w := by
  have HT := mkHid (hTable_any h)
  have HOF := mkHid (ab_Of h.ab p hp ht)
  have hfew := h.ab.few
  have hg := hfew.2.2 p hp
  have hlk : look s.L (hnd p (rs s.L p).gen) = some p := look_of hp (by omega) ht
  have hx : hnd p (rs s.L p).gen < 18446744073709551616 := hnd_lt (by omega) hg
  have HAT := mkHid (ab_At h.ab _ p hx hlk)
  obtain ⟨x, hxx⟩ : ∃ x, x = hnd p (rs s.L p).gen := ⟨_, rfl⟩
  rw [← hxx] at HOF HAT
  rw [hq] at HAT
  have he : ((q : Int) == (q : Int)) = true := by simp
  clear h hp ht hq hfew hg hlk hx hxx
  go_enter Try.func85, Try.ntmps85
  go_wp2_with fail
  refine HT.out.mono ?_
  rintro e w1 ⟨rfl, rfl⟩
  go_wp2_with fail
  refine HOF.out.mono ?_
  rintro e w1 ⟨rfl, rfl⟩
  go_wp2_with fail
  refine HAT.out.mono ?_
  rintro e w1 ⟨rfl, rfl⟩
  go_wp2_with fail
  go_ret
  exact ⟨rfl, rfl⟩
end
end Go.Proofs.Ytfknheljheggkaa
