/- New, Make, Free. -/
import Derived.Test.YtdmpbkdamdlefaaHBegin
namespace Go.Proofs.Ytdmpbkdamdlefaa
open Go.RowKit

section
variable {w : World} {T np slots count begun freed : Nat} {v : Value} {pg : Nat → Nat} {f : Nat → Sl}
theorem Make_arg (T : Nat) (n : Int) (w : World) (hn : n < 0) : Calls Try.prog 10 #[.pointer (some ⟨T, 0, none⟩), .int .i64 n] w fun e w' => e = .returned (.tuple #[.int .u64 0, .int .i64 1]) ∧ w' = w := by
  go_enter Try.func10, Try.ntmps10
  go_wp2_with fail
  go_ret2
  exact ⟨rfl, rfl⟩
theorem Make_full (h : Tr w T v np pg slots slots begun freed f) (n : Nat) : Calls Try.prog 10 #[.pointer (some ⟨T, 0, none⟩), .int .i64 n] w fun e w' => e = .returned (.tuple #[.int .u64 0, .int .i64 5]) ∧ w' = w := by
  have HC := mkHid (Count_any h)
  have HS := mkHid (Slots_any h)
  have h0 : ¬ ((n : Int) < 0) := by omega
  have he : ((slots : Int) == (slots : Int)) = true := by simp
  clear h
  go_enter Try.func10, Try.ntmps10
  go_wp2_with fail
  refine HC.out.mono ?_
  rintro e w1 ⟨rfl, rfl⟩
  go_wp2_with fail
  refine HS.out.mono ?_
  rintro e w1 ⟨rfl, rfl⟩
  go_wp2_with fail
  go_ret2
  exact ⟨rfl, rfl⟩
/-- From one table to another: what is changed, and whose blocks they are. -/
def Goes (w : World) (own : Nat → Prop) (w' : World) (T slots count begun freed : Nat) (f : Nat → Sl) : Prop :=
  ∃ v np pg, Tr w' T v np pg slots count begun freed f ∧ Chg own w w' ∧ ∀ k, ownT T v np pg k → own k ∨ w.heap.size ≤ k
set_option maxHeartbeats 1000000 in
theorem Make_go (h : Tr w T v np pg slots count begun freed f) (n p begun' freed' : Nat) (F : Nat → Sl) (hn : n < 9223372036854775808) (hc : count < slots) (hp : p < begun')
    (hU : Calls Try.prog 27 #[.pointer (some ⟨T, 0, none⟩)] w fun e w' => e = .returned (.int .i64 p) ∧ Goes w (ownT T v np pg) w' T slots count begun' freed' F) :
    Calls Try.prog 10 #[.pointer (some ⟨T, 0, none⟩), .int .i64 n] w fun e w' => e = .returned (.tuple #[.int .u64 (hnd p (F p).gen : Nat), .int .i64 0]) ∧ Goes w (ownT T v np pg) w' T slots (count + 1) begun' freed' (upd F p ⟨n, (F p).gen, true⟩) := by
  have HC := mkHid (Count_any h)
  have HS := mkHid (Slots_any h)
  have HU := mkHid hU
  have hfew := h.few
  have h0 : ¬ ((n : Int) < 0) := by omega
  have he : ((count : Int) == (slots : Int)) = false := by simp; omega
  have HC2 := mkHid hc
  have HP2 := mkHid hp
  have hc3 : count < 1048576 := by omega
  clear h hU hc hp
  go_enter Try.func10, Try.ntmps10
  go_wp2_with fail
  refine HC.out.mono ?_
  rintro e w1 ⟨rfl, rfl⟩
  go_wp2_with fail
  refine HS.out.mono ?_
  rintro e w1 ⟨rfl, rfl⟩
  go_wp2_with fail
  refine HU.out.mono ?_
  rintro e w2 ⟨rfl, v2, np2, pg2, R, hch, hsub⟩
  have hlen := R.len
  have hbl := R.begunLe
  have hp : p < begun' := HP2.out
  have hc : count < slots := HC2.out
  have hpn : p / 64 < np2 := by omega
  have HSL := mkHid (slot_any R p hpn (by omega))
  have p0 := R.pcell (p := p) hpn (c := 0) (by omega)
  have p2 := R.pcell (p := p) hpn (c := 2) (by omega)
  rw [Nat.add_zero] at p0
  have q0 := R.pfree (k := p / 64) hpn (p % 64 * 3)
  have q2 := R.pfree (k := p / 64) hpn (p % 64 * 3 + 2)
  have R1 := R.setSlot hp (c := 0) (by omega) (s := ⟨n, (F p).gen, (F p).taken⟩) (R.gen p) hn (fun d hd hne => by
    obtain rfl | rfl | rfl : d = 0 ∨ d = 1 ∨ d = 2 := by omega
    all_goals first | rfl | exact absurd rfl hne)
  have R2 := R1.setSlot hp (c := 2) (by omega) (s := ⟨n, (F p).gen, true⟩) (R.gen p) hn (fun d hd hne => by
    rw [upd_same]
    obtain rfl | rfl | rfl : d = 0 ∨ d = 1 ∨ d = 2 := by omega
    all_goals first | rfl | exact absurd rfl hne)
  rw [upd_upd, Nat.add_zero] at R2
  have R3 := R2.setHead (i := 1) (x := .int .i64 ((count : Int) + 1)) (count' := count + 1) (freed' := freed') (by omega) R2.freedLe (by simp)
  have HR := mkHid R3
  obtain ⟨_, d1, _, _, _⟩ := R2.cells
  have e1 := R2.free 1
  have g1 := R3.pcell (p := p) hpn (c := 1) (by omega)
  rw [upd_same] at g1
  have hgen := R.gen p
  have HK := mkHid (fun u : World => pack_any p (F p).gen u (by omega) hgen)
  have HCH : Hid (Chg (ownT T v np pg) w1 _) := ((hch.setCell (b := pg2 (p / 64)) (hsub _ (own_page hpn)) (p % 64 * 3) (Sl.cell ⟨n, (F p).gen, (F p).taken⟩ 0)).setCell (b := pg2 (p / 64)) (hsub _ (own_page hpn)) (p % 64 * 3 + 2) (Sl.cell ⟨n, (F p).gen, true⟩ 2)).setCell (b := T) (hsub _ (Or.inl rfl)) 1 (.int .i64 ((count : Int) + 1))
  have HSUB := mkHid hsub
  simp only [Sl.cell] at d1 e1 g1 HR HCH
  obtain ⟨FF, hFF⟩ : ∃ FF, FF = upd F p ⟨n, (F p).gen, true⟩ := ⟨_, rfl⟩
  rw [← hFF] at HR
  have HFF := mkHid hFF
  obtain ⟨P, hP⟩ : ∃ P, P = pg2 (p / 64) := ⟨_, rfl⟩
  obtain ⟨j, hj⟩ : ∃ j, j = p % 64 * 3 := ⟨_, rfl⟩
  obtain ⟨G, hG⟩ : ∃ G, G = (F p).gen := ⟨_, rfl⟩
  rw [← hG] at g1 HK
  have HG := mkHid hG
  rw [← hP, ← hj] at HSL p0 p2 q0 q2 d1 e1 g1 HR HCH
  have hp4 : p < 1048576 := by omega
  clear R R1 R2 R3 hch hsub hlen hbl hp hc hpn hgen hFF hP hj hG
  go_wp2_with fail
  refine HSL.out.mono ?_
  rintro e w3 ⟨rfl, rfl⟩
  go_wp2_with fail
  refine (HK.out _).mono ?_
  rintro e w4 ⟨rfl, rfl⟩
  go_wp2_with fail
  go_ret2
  refine ⟨?_, _, _, _, by rw [← HFF.out]; exact HR.out, HCH.out, HSUB.out⟩
  rw [← HG.out]; rfl
theorem unlink_new (h : Tr w T v np pg slots count begun 0 f) (hb : begun < slots) : Calls Try.prog 27 #[.pointer (some ⟨T, 0, none⟩)] w fun e w' => e = .returned (.int .i64 begun) ∧ Goes w (ownT T v np pg) w' T slots count (begun + 1) 0 (upd f begun ⟨0, 1, false⟩) := by
  have HB := mkHid (begin_any h hb)
  obtain ⟨c0, c1, c2, c3, c4⟩ := h.cells
  clear h hb
  go_enter Try.func27, Try.ntmps27
  go_wp2_with fail
  refine HB.out.mono ?_
  rintro e w1 ⟨rfl, hg⟩
  go_wp2_with fail
  go_ret
  exact ⟨rfl, hg⟩
/-- Make takes the slot that was freed last. -/
theorem Make_old (h : Tr w T v np pg slots count begun freed f) (n q : Nat) (hn : n < 9223372036854775808) (hc : count < slots) (hf : freed = q + 1) (hq : (f q).num ≤ begun) :
    Calls Try.prog 10 #[.pointer (some ⟨T, 0, none⟩), .int .i64 n] w fun e w' => e = .returned (.tuple #[.int .u64 (hnd q (f q).gen : Nat), .int .i64 0]) ∧ Goes w (ownT T v np pg) w' T slots (count + 1) begun (f q).num (upd f q ⟨n, (f q).gen, true⟩) :=
  Make_go h n q begun (f q).num f hn hc (by have := h.freedLe; omega) ((unlink_old h q hf hq).mono fun _ _ hx => ⟨hx.1, _, _, _, hx.2.2, hx.2.1, fun _ hk => Or.inl hk⟩)
/-- Make takes the lowest slot that was never taken. -/
theorem Make_new (h : Tr w T v np pg slots count begun 0 f) (n : Nat) (hn : n < 9223372036854775808) (hc : count < slots) (hb : begun < slots) :
    Calls Try.prog 10 #[.pointer (some ⟨T, 0, none⟩), .int .i64 n] w fun e w' => e = .returned (.tuple #[.int .u64 (hnd begun 1 : Nat), .int .i64 0]) ∧ Goes w (ownT T v np pg) w' T slots (count + 1) (begun + 1) 0 (upd f begun ⟨n, 1, true⟩) := by
  have hm := Make_go h n begun (begun + 1) 0 _ hn hc (by omega) (unlink_new h hb)
  rw [upd_same, upd_upd] at hm
  exact hm
theorem Free_no (h : Tr w T v np pg slots count begun freed f) (x : Nat) (hx : x < 18446744073709551616) (hl : liveAt begun f x = none) : Calls Try.prog 11 #[.pointer (some ⟨T, 0, none⟩), .int .u64 x] w fun e w' => e = .returned (.int .i64 6) ∧ w' = w := by
  have HL := mkHid (live_no h x hx hl)
  clear h hl
  go_enter Try.func11, Try.ntmps11
  go_wp2_with fail
  refine HL.out.mono ?_
  rintro e w1 ⟨rfl, rfl⟩
  go_wp2_with fail
  go_ret
  exact ⟨rfl, rfl⟩
set_option maxHeartbeats 1000000 in
theorem Free_yes (h : Tr w T v np pg slots count begun freed f) (x p : Nat) (hx : x < 18446744073709551616) (hl : liveAt begun f x = some p) (hc : 1 ≤ count) (hg : (f p).gen + 1 < 4294967296) : Calls Try.prog 11 #[.pointer (some ⟨T, 0, none⟩), .int .u64 x] w fun e w' => e = .returned (.int .i64 0) ∧ Chg (ownT T v np pg) w w' ∧ Tr w' T v np pg slots (count - 1) begun (p + 1) (upd f p ⟨freed, (f p).gen + 1, false⟩) := by
  have HL := mkHid (live_yes h x p hx hl)
  have HU := mkHid (unpack_any x w hx)
  obtain ⟨h1, h2, h3, h4⟩ := liveAt_some hl
  rw [h1, ← h4, show (((p + 1 : Nat) : Int) - 1) = (p : Int) by omega] at HU
  have HK := mkHid (link_any h p h2 hg)
  have hcl := h.countLe
  have hfew := h.few
  obtain ⟨k, rfl⟩ : ∃ k, count = k + 1 := ⟨count - 1, by omega⟩
  rw [Nat.add_sub_cancel]
  have hk2 : k < 1048576 := by omega
  clear h hl h1 h2 h3 h4 hg hc hcl
  go_enter Try.func11, Try.ntmps11
  go_wp2_with fail
  refine HL.out.mono ?_
  rintro e w1 ⟨rfl, rfl⟩
  go_wp2_with fail
  refine HU.out.mono ?_
  rintro e w1 ⟨rfl, rfl⟩
  go_wp2_with fail
  refine HK.out.mono ?_
  rintro e w2 ⟨rfl, hch, R⟩
  obtain ⟨_, c1, _, _, _⟩ := R.cells
  rw [show ((k + 1 : Nat) : Int) = (k : Int) + 1 by omega] at c1
  have f1 := R.free 1
  have HR := mkHid (R.setHead (i := 1) (x := .int .i64 (k : Int)) (count' := k) (freed' := p + 1) (by have := R.countLe; omega) R.freedLe (by simp))
  have HCH := mkHid (hch.setCell (b := T) (Or.inl (Or.inl rfl)) 1 (.int .i64 (k : Int)))
  clear R hch
  go_wp2_with fail
  go_ret
  exact ⟨rfl, HCH.out, HR.out⟩
theorem New_bad (n : Int) (w : World) (h : ¬ (1 ≤ n ∧ n ≤ 1048576)) : Calls Try.prog 14 #[.int .i64 n] w fun e w' => e = .returned (.tuple #[.pointer none, .int .i64 1]) ∧ w' = w := by
  by_cases h0 : n < 1
  · clear h
    go_enter Try.func14, Try.ntmps14
    go_wp2_with fail
    go_ret2
    exact ⟨rfl, rfl⟩
  · have h1 : 1048576 < n := by omega
    clear h
    go_enter Try.func14, Try.ntmps14
    go_wp2_with fail
    go_ret2
    exact ⟨rfl, rfl⟩
theorem New_any (n : Nat) (w : World) (h1 : 1 ≤ n) (h2 : n ≤ 1048576) : Calls Try.prog 14 #[.int .i64 n] w fun e w' => e = .returned (.tuple #[.pointer (some ⟨w.heap.size, 0, none⟩), .int .i64 0]) ∧ RowKit.Below w.heap.size w w' ∧ Tr w' w.heap.size (.slice none 0 0) 0 (fun _ => 0) n 0 0 0 (fun _ => Sl.zero) := by
  have g0 : ¬ ((n : Int) < 1) := by omega
  have g1 : ¬ (1048576 < (n : Int)) := by omega
  have HT : Hid (Tr (w.alloc (.cells #[.int .i64 (n : Int), .int .i64 0, .int .i64 0, .int .i64 0, .slice none 0 0] 68)) w.heap.size (.slice none 0 0) 0 (fun _ => 0) n 0 0 0 (fun _ => Sl.zero)) := by
    refine ⟨heap_alloc_new w _, ⟨rfl, Or.inl ⟨rfl, rfl⟩⟩, fun k hk => absurd hk (Nat.not_lt_zero _), fun i j hi => absurd hi (Nat.not_lt_zero _), rfl, h2, Nat.zero_le _, Nat.zero_le _, Nat.le_refl _, fun _ => by decide, fun _ => by decide, fun _ _ => rfl⟩
  have HB : Hid (RowKit.Below w.heap.size w (w.alloc (.cells #[.int .i64 (n : Int), .int .i64 0, .int .i64 0, .int .i64 0, .slice none 0 0] 68))) := (RowKit.Below.refl _ w).alloc (Nat.le_refl _) _
  clear h1 h2
  go_enter Try.func14, Try.ntmps14
  go_wp2_with fail
  go_ret2
  exact ⟨rfl, HB.out, HT.out⟩
end
end Go.Proofs.Ytdmpbkdamdlefaa
