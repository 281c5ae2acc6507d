/- The walk of lay: an item becomes an object, at the end of what is there, if there is room. -/
import Derived.Test.YtlfgolnnkcehbaaAsMem
import Derived.Test.YtlfgolnnkcehbaaBitW
import Derived.Deep.CutRange
namespace Go.Proofs.Ytlfgolnnkcehbaa
open Go.RowKit

theorem u64_wf {x : Int} (h : (Lit.int .u64 x).wf = true) : 0 ≤ x ∧ x < 18446744073709551616 := by
  have h1 : IntKind.u64.min ≤ x ∧ x ≤ IntKind.u64.max := by simpa [Lit.wf] using h
  have h2 : IntKind.u64.min = 0 := rfl
  have h3 : IntKind.u64.max = 18446744073709551615 := rfl
  omega
/-- What is handed to lay: an item whose words lie outside of the arena. -/
def ItOut (A Wd Bd : Nat) (w : World) (x : It) : Prop := x.wl ≤ 9223372036854775807 ∧ (x.wl = 0 ∨ ∃ b o, x.wa = some ⟨b, o, none⟩ ∧ b < w.heap.size ∧ ¬ mine A Wd Bd b ∧ ∀ k, k < x.wl → w.cell? ⟨b, o + k, none⟩ = some (.int .u64 ((x.wz k).toNat : Int)) ∧ (x.wz k).toNat < 18446744073709551616)
theorem ItOk.out {A Wd Bd : Nat} {W w : World} {x : It} (h : ItOk W x) (hb : Below W.heap.size W w) (hlow : ∀ k, mine A Wd Bd k → W.heap.size ≤ k) : ItOut A Wd Bd w x := by
  refine ⟨h.1, ?_⟩
  rcases h.2 with h0 | ⟨b, o, e, h1, h2⟩
  · exact Or.inl h0
  · refine Or.inr ⟨b, o, e, Nat.lt_of_lt_of_le h1 hb.size, fun hm => by have := hlow b hm; omega, fun k hk => ?_⟩
    obtain ⟨h3, h4⟩ := h2 k hk
    have := u64_wf h4
    refine ⟨?_, by omega⟩
    rw [hb.cell (p := ⟨b, o + k, none⟩) h1, h3, Int.toNat_of_nonneg this.1]
theorem chg_cell {p : Nat → Prop} {w w' : World} (h : Chg p w w') {b o : Nat} (hb : b < w.heap.size) (hn : ¬ p b) : w'.cell? ⟨b, o, none⟩ = w.cell? ⟨b, o, none⟩ := by
  have := h.block b hb hn
  unfold World.cell?
  rw [this]
theorem len16 (n : Nat) : ((n : Int) % 16) = ((n % 16 : Nat) : Int) := by simp
set_option maxHeartbeats 1000000 in
set_option maxRecDepth 100000 in
theorem lay_yes {w : World} {A Wd Bd o pl : Nat} {x : It} {ow : Int} (P : Ob → World → Prop) (hx : ItOut A Wd Bd w x) (ho : ow % 1024 = (o : Int)) (hlt : A < w.heap.size ∧ Wd < w.heap.size ∧ Bd < w.heap.size)
    (HAL : ∀ u, Below w.heap.size w u → Calls Try.prog 21 #[.pointer (some ⟨A, 0, none⟩), .int .i64 ((1 + (x.tag % 128).toNat : Nat) : Int), .int .i64 0, .int .i64 (itN x : Nat), .int .i64 (o : Nat)] u fun e w' => e = .returned (.tuple #[.int .i64 (pl : Nat), .int .i64 0]) ∧ Chg (mine A Wd Bd) u w' ∧ P (itP x o 0) w')
    (HPT : ∀ u i, i < itN x → P (itP x o i) u → (x.wz i).toNat < 18446744073709551616 → Calls Try.prog 23 #[.pointer (some ⟨A, 0, none⟩), .int .i64 (pl : Nat), .int .i64 (i : Nat), .int .u64 ((x.wz i).toNat : Nat)] u fun e w' => e = .returned (.int .i64 0) ∧ Chg (mine A Wd Bd) u w' ∧ P (itP x o (i + 1)) w') :
    Calls Try.prog 11 #[.pointer (some ⟨A, 0, none⟩), itV x, .int .i64 ow] w fun e w' => e = .returned (.bool true) ∧ Chg (mine A Wd Bd) w w' ∧ P (itOb x o) w' := by
  obtain ⟨tg, hT⟩ : ∃ tg : Nat, x.tag % 128 = (tg : Int) := ⟨(x.tag % 128).toNat, by omega⟩
  have h127 : bits .and .i64 x.tag 127 = (tg : Int) := by rw [land_127, hT]
  have htb : tg < 128 := by omega
  have h1023 : bits .and .i64 ow 1023 = (o : Int) := by rw [land_1023, ho]
  obtain ⟨n, hn⟩ : ∃ n, n = itN x := ⟨_, rfl⟩
  have h15 : bits .and .i64 (x.wl : Int) 15 = (n : Int) := by rw [land_15, len16, hn]; rfl
  have hn15 : n ≤ 15 := by rw [hn]; exact itN_lt x
  have hnl : n ≤ x.wl := by rw [hn]; unfold itN; omega
  rw [show ((1 + (x.tag % 128).toNat : Nat) : Int) = 1 + (tg : Int) by omega, ← hn] at HAL
  have HN := mkHid hn
  have HX := mkHid hx
  have HA1 := mkHid HAL
  have HP1 := mkHid HPT
  have HLT := mkHid hlt
  obtain ⟨tag, wa, wl, wc, kp, wz⟩ := x
  unfold itV
  dsimp only at h127 h15 hnl HX HP1 ⊢
  have hwl := HX.out.1
  have B1 : Below w.heap.size w (w.alloc (.cells #[.int .i64 tag, .slice wa wl wc, .bool kp] 43)) := (Below.refl _ _).alloc (Nat.le_refl _) _
  obtain ⟨W1, hW1⟩ : ∃ W1, W1 = w.alloc (.cells #[.int .i64 tag, .slice wa wl wc, .bool kp] 43) := ⟨_, rfl⟩
  have hblk : W1.heap[w.heap.size]? = some (.cells #[.int .i64 tag, .slice wa wl wc, .bool kp] 43 (0, 0)) := by rw [hW1]; exact heap_alloc_new w _
  rw [← hW1] at B1
  have HBX : Hid (∀ u, Chg (mine A Wd Bd) W1 u → u.cell? ⟨w.heap.size, 1, none⟩ = some (.slice wa wl wc)) := fun u hu => by
    have hl : w.heap.size < W1.heap.size := (Array.getElem?_eq_some_iff.1 hblk).1
    rw [chg_cell hu hl (fun hm => by rcases hm with h | h | h <;> omega)]
    exact cell_of_row W1 _ 1 _ _ _ hblk
  have p0 : W1.cell? ⟨w.heap.size, 0, none⟩ = some (.int .i64 tag) := cell_of_row W1 _ 0 _ _ _ hblk
  have p1 : W1.cell? ⟨w.heap.size, 1, none⟩ = some (.slice wa wl wc) := cell_of_row W1 _ 1 _ _ _ hblk
  have HB1 := mkHid B1
  have HW1 := mkHid hW1
  obtain ⟨M, hM⟩ : ∃ M, M = w.heap.size := ⟨_, rfl⟩
  have HM := mkHid hM
  clear hx HAL HPT hn hlt hT ho hwl hblk hW1 B1 hM
  go_enter Try.func11, Try.ntmps11
  refine wp_seq_k (fun K1 hkA => ?_)
  have HK1 := mkHid hkA
  clear hkA
  go_wp2_with fail
  rw [← HW1.out]
  refine HK1.out _ _ ?_
  clear HK1
  rw [← HM.out] at p0 p1 HBX ⊢
  go_wp2_with fail
  refine (HA1.out _ HB1.out).mono ?_
  rintro e w2 ⟨rfl, c2, q2⟩
  have C2 := mkHid c2
  have Q2 := mkHid q2
  clear c2 q2 p0 p1
  go_wp2_with fail
  go_loopw [9, 10] (fun y9 y10 wr => ∃ i : Nat, y9 = .int .i64 0 ∧ y10 = .int .i64 i ∧ i ≤ n ∧ Chg (mine A Wd Bd) W1 wr ∧ P (itP ⟨tag, wa, wl, wc, kp, wz⟩ o i) wr) (fun _ y10 _ => n - (intOf y10).toNat)
  case atStart => exact ⟨0, rfl, rfl, Nat.zero_le _, C2.out, Q2.out⟩
  case round =>
    clear C2 Q2
    obtain ⟨i, rfl, rfl, hin, hc, hp⟩ := hrel
    have hi0 : (0 : Int) ≤ (i : Int) := by omega
    by_cases hlt : i < n
    · have hlt' : (i : Int) < (n : Int) := by omega
      have hilw : (i : Int) < (wl : Int) := by omega
      obtain ⟨b, ob, rfl, hbl, hbm, hcw⟩ : ∃ b o, wa = some ⟨b, o, none⟩ ∧ b < w.heap.size ∧ ¬ mine A Wd Bd b ∧ ∀ k, k < wl → w.cell? ⟨b, o + k, none⟩ = some (.int .u64 ((wz k).toNat : Int)) ∧ (wz k).toNat < 18446744073709551616 := by
        rcases HX.out.2 with h | h
        · dsimp only at h; omega
        · exact h
      obtain ⟨cw, hyb⟩ := hcw i (by omega)
      have cw1 : wr.cell? ⟨b, ob + i, none⟩ = some (.int .u64 ((wz i).toNat : Int)) := by
        rw [chg_cell hc (Nat.lt_of_lt_of_le hbl HB1.out.size) hbm, HB1.out.cell (p := ⟨b, ob + i, none⟩) hbl]
        exact cw
      have cb := HBX.out _ hc
      have HPU := mkHid (HP1.out wr i (by rw [← HN.out]; exact hlt) hp hyb)
      have HC := mkHid hc
      generalize (wz i).toNat = y at cw1 HPU
      clear hc hp hcw cw hyb hbl hbm
      go_wp2_with fail
      refine HPU.out.mono ?_
      rintro e w3 ⟨rfl, c3, q3⟩
      have C3 := mkHid (HC.out.trans c3)
      have Q3 := mkHid q3
      clear c3 q3
      go_wp2_with fail
      go_roundw
      case rel => exact ⟨i + 1, rfl, by go_num, by omega, C3.out, Q3.out⟩
      case measure => simp [intOf]; omega
    · have hlt' : ¬ (i : Int) < (n : Int) := by omega
      have hi : i = n := by omega
      have HI := mkHid hi
      have HC := mkHid hc
      have HPP := mkHid hp
      clear hc hp hi
      go_wp2_with fail
      go_ret
      refine ⟨rfl, (Chg.of_below HB1.out).trans HC.out, ?_⟩
      have := HPP.out
      rw [HI.out, HN.out] at this
      exact this
set_option maxHeartbeats 1000000 in
set_option maxRecDepth 100000 in
theorem lay_no {w : World} {A o : Nat} {x : It} {ow : Int} (hx : x.wl ≤ 9223372036854775807) (ho : ow % 1024 = (o : Int))
    (HAL : ∀ u, Below w.heap.size w u → Calls Try.prog 21 #[.pointer (some ⟨A, 0, none⟩), .int .i64 ((1 + (x.tag % 128).toNat : Nat) : Int), .int .i64 0, .int .i64 (itN x : Nat), .int .i64 (o : Nat)] u fun e w' => e = .returned (.tuple #[.int .i64 0, .int .i64 5]) ∧ w' = u) :
    Calls Try.prog 11 #[.pointer (some ⟨A, 0, none⟩), itV x, .int .i64 ow] w fun e w' => e = .returned (.bool false) ∧ Below w.heap.size w w' := by
  obtain ⟨tg, hT⟩ : ∃ tg : Nat, x.tag % 128 = (tg : Int) := ⟨(x.tag % 128).toNat, by omega⟩
  have h127 : bits .and .i64 x.tag 127 = (tg : Int) := by rw [land_127, hT]
  have htb : tg < 128 := by omega
  have h1023 : bits .and .i64 ow 1023 = (o : Int) := by rw [land_1023, ho]
  obtain ⟨n, hn⟩ : ∃ n, n = itN x := ⟨_, rfl⟩
  have h15 : bits .and .i64 (x.wl : Int) 15 = (n : Int) := by rw [land_15, len16, hn]; rfl
  have hn15 : n ≤ 15 := by rw [hn]; exact itN_lt x
  rw [show ((1 + (x.tag % 128).toNat : Nat) : Int) = 1 + (tg : Int) by omega, ← hn] at HAL
  have HA1 := mkHid HAL
  obtain ⟨tag, wa, wl, wc, kp, wz⟩ := x
  unfold itV
  dsimp only at h127 h15 hx ⊢
  have B1 : Below w.heap.size w (w.alloc (.cells #[.int .i64 tag, .slice wa wl wc, .bool kp] 43)) := (Below.refl _ _).alloc (Nat.le_refl _) _
  obtain ⟨W1, hW1⟩ : ∃ W1, W1 = w.alloc (.cells #[.int .i64 tag, .slice wa wl wc, .bool kp] 43) := ⟨_, rfl⟩
  have hblk : W1.heap[w.heap.size]? = some (.cells #[.int .i64 tag, .slice wa wl wc, .bool kp] 43 (0, 0)) := by rw [hW1]; exact heap_alloc_new w _
  rw [← hW1] at B1
  have p0 : W1.cell? ⟨w.heap.size, 0, none⟩ = some (.int .i64 tag) := cell_of_row W1 _ 0 _ _ _ hblk
  have p1 : W1.cell? ⟨w.heap.size, 1, none⟩ = some (.slice wa wl wc) := cell_of_row W1 _ 1 _ _ _ hblk
  have HB1 := mkHid B1
  have HW1 := mkHid hW1
  clear HAL hn hT ho hblk hW1 B1
  go_enter Try.func11, Try.ntmps11
  refine wp_seq_k (fun K1 hkA => ?_)
  have HK1 := mkHid hkA
  clear hkA
  go_wp2_with fail
  rw [← HW1.out]
  refine HK1.out _ _ ?_
  clear HK1
  go_wp2_with fail
  refine (HA1.out _ HB1.out).mono ?_
  rintro e w2 ⟨rfl, rfl⟩
  clear p0 p1
  go_wp2_with fail
  go_loopw [9, 10] (fun y9 y10 wr => y9 = .int .i64 5 ∧ y10 = .int .i64 0 ∧ wr = w2) (fun _ _ _ => 0)
  case atStart => exact ⟨rfl, rfl, rfl⟩
  case round =>
    obtain ⟨rfl, rfl, rfl⟩ := hrel
    by_cases hlt : 0 < n
    · have hlt' : (0 : Int) < (n : Int) := by omega
      go_wp2_with fail
      go_ret
      exact ⟨rfl, HB1.out⟩
    · have hlt' : ¬ (0 : Int) < (n : Int) := by omega
      go_wp2_with fail
      go_ret
      exact ⟨rfl, HB1.out⟩
section
variable {W wr : World} {A Wd Bd : Nat} {Lo Hi : List Ob} {e : Nat} {u : Value} {KL : List (It × Nat)}
theorem AS.lts {op : Bool} (h : AS W wr A Wd Bd Lo Hi e op u KL) : A < wr.heap.size ∧ Wd < wr.heap.size ∧ Bd < wr.heap.size := ⟨h.at_.mlt (Or.inl rfl), h.at_.mlt (Or.inr (Or.inl rfl)), h.at_.mlt (Or.inr (Or.inr rfl))⟩
theorem fits_it (x : It) {o : Nat} (ho : o < 1024) : fitsA ((1 + (x.tag % 128).toNat : Nat) : Int) ((0 : Nat) : Int) ((itN x : Nat) : Int) (o : Int) = true := by
  have := itN_lt x
  unfold fitsA
  simp only [Bool.and_eq_true, decide_eq_true_eq]
  omega
/-- An object behind all others of an arena without a gap. -/
theorem as_layC (h : AS W wr A Wd Bd Lo [] 0 false u KL) {x : It} (hx : ItOk W x) {ow : Int} {o : Nat} (ho : ow % 1024 = (o : Int)) (hroom : tot Lo + 1 + itN x ≤ 65536) : Calls Try.prog 11 #[.pointer (some ⟨A, 0, none⟩), itV x, .int .i64 ow] wr fun e w' => e = .returned (.bool true) ∧ AS W w' A Wd Bd (Lo ++ [itOb x o]) [] 0 false u KL := by
  have ho2 : o < 1024 := by omega
  have hn := itN_lt x
  refine (lay_yes (P := fun y w' => AT w' A Wd Bd 65536 (Lo ++ [y]) [] 0 false) (pl := tot Lo) (hx.out h.below h.low) ho h.lts (fun v hv => ?_) (fun v i hi hp hy => ?_)).mono ?_
  · rw [itP_zero]
    exact at_AllocC (h.at_.below hv) (1 + (x.tag % 128).toNat) 0 (itN x) o (fits_it x ho2) (by omega) (by omega) (by omega) (by omega) (by omega) hroom
  · have h1 := at_Put hp (p := tot Lo) (i := i) ((x.wz i).toNat) hy (at_lastC _ _) (by rw [itP_len]; exact hi)
    rw [(set_lastC _ _ _).1, (set_lastC _ _ _).2, itP_put] at h1
    exact h1
  · rintro e w' ⟨rfl, hc, ha⟩
    exact ⟨rfl, h.arena hc ha⟩
theorem as_layC_no (h : AS W wr A Wd Bd Lo [] 0 false u KL) {x : It} (hx : ItOk W x) {ow : Int} {o : Nat} (ho : ow % 1024 = (o : Int)) (hroom : ¬ tot Lo + 1 + itN x ≤ 65536) : Calls Try.prog 11 #[.pointer (some ⟨A, 0, none⟩), itV x, .int .i64 ow] wr fun e w' => e = .returned (.bool false) ∧ Below wr.heap.size wr w' := by
  have ho2 : o < 1024 := by omega
  have hn := itN_lt x
  exact lay_no hx.1 ho fun v hv => at_AllocFull (h.at_.below hv) (1 + (x.tag % 128).toNat) 0 (itN x) o (fits_it x ho2) (by omega) (by show _ < tot Lo + 1 + itN x; omega)
/-- An object behind all others of an arena with a gap. -/
theorem as_layO (h : AS W wr A Wd Bd Lo Hi e true u KL) {x : It} (hx : ItOk W x) {ow : Int} {o : Nat} (ho : ow % 1024 = (o : Int)) (hroom : e + tot Hi + 1 + itN x ≤ 65536) : Calls Try.prog 11 #[.pointer (some ⟨A, 0, none⟩), itV x, .int .i64 ow] wr fun y w' => y = .returned (.bool true) ∧ AS W w' A Wd Bd Lo (Hi ++ [itOb x o]) e true u KL := by
  have ho2 : o < 1024 := by omega
  have hn := itN_lt x
  refine (lay_yes (P := fun y w' => AT w' A Wd Bd 65536 Lo (Hi ++ [y]) e true) (pl := e + tot Hi) (hx.out h.below h.low) ho h.lts (fun v hv => ?_) (fun v i hi hp hy => ?_)).mono ?_
  · rw [itP_zero]
    exact at_AllocO (h.at_.below hv) (1 + (x.tag % 128).toNat) 0 (itN x) o (fits_it x ho2) (by omega) (by omega) (by omega) (by omega) (by omega) hroom
  · have h1 := at_Put hp (p := e + tot Hi) (i := i) ((x.wz i).toNat) hy (at_lastO _ hp.gap) (by rw [itP_len]; exact hi)
    rw [(set_lastO (Hi := Hi) (itP x o i) _ hp.gap).1, (set_lastO (Hi := Hi) (itP x o i) _ hp.gap).2, itP_put] at h1
    exact h1
  · rintro y w' ⟨rfl, hc, ha⟩
    exact ⟨rfl, h.arena hc ha⟩
theorem as_layO_no (h : AS W wr A Wd Bd Lo Hi e true u KL) {x : It} (hx : ItOk W x) {ow : Int} {o : Nat} (ho : ow % 1024 = (o : Int)) (hroom : ¬ e + tot Hi + 1 + itN x ≤ 65536) : Calls Try.prog 11 #[.pointer (some ⟨A, 0, none⟩), itV x, .int .i64 ow] wr fun y w' => y = .returned (.bool false) ∧ Below wr.heap.size wr w' := by
  have ho2 : o < 1024 := by omega
  have hn := itN_lt x
  exact lay_no hx.1 ho fun v hv => at_AllocFull (h.at_.below hv) (1 + (x.tag % 128).toNat) 0 (itN x) o (fits_it x ho2) (by omega) (by show _ < e + tot Hi + 1 + itN x; omega)
end
end Go.Proofs.Ytlfgolnnkcehbaa
