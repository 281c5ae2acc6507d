/- The walk of ArenaPlays (written by tools/mkapmain.py). -/
import Derived.Test.YtlfgolnnkcehbaaApMain0
import Derived.Test.YtlfgolnnkcehbaaAKnown
import Derived.Test.YtlfgolnnkcehbaaArgE7
namespace Go.Proofs.Ytlfgolnnkcehbaa
open Go.RowKit

theorem apm_join {P : Program} {id : Nat} {ops : Array Oper} {b : Bool} {Q : Exit → Act → World → Prop} {a : Act} {w : World} (F : Nat → Nat → Nat → Nat → Nat → Nat → Option Addr → Option Addr → Bool → Act) (Facts : World → Nat → Nat → Nat → Nat → Nat → Nat → Option Addr → Option Addr → Bool → Prop) (h1 : (∀ Wx N n m lc hc e la ha op, Facts Wx N n m lc hc e la ha op → Q .normal (F N n m lc hc e la ha op) Wx) → (Code.region id ops b).wp P Q a w) (h2 : ∀ Wx N n m lc hc e la ha op, Facts Wx N n m lc hc e la ha op → Q .normal (F N n m lc hc e la ha op) Wx) : (Code.region id ops b).wp P Q a w := h1 h2
set_option maxHeartbeats 4000000 in
set_option maxRecDepth 100000 in
theorem arenaPlays_any (wd : Int) (da : Option Addr) (mm dc : Nat) (z : Nat → Dk) (W : World) (hmm : mm ≤ 9223372036854775807) (hd : D7 W da mm z) : Calls Try.prog 3 #[.int .i64 wd, .slice da mm dc] W fun x w' => x = .returned (.bool true) ∧ Below W.heap.size W w' := by
  by_cases hw : 1 ≤ wd ∧ wd ≤ 1048576
  · obtain ⟨cap, rfl⟩ : ∃ cap : Nat, wd = cap := ⟨wd.toNat, by omega⟩
    have HNE := mkHid (at_New cap W (by omega) (by omega))
    have HAW := mkHid (fun u => awake_any u)
    have HD := mkHid hd
    have h1 : ¬ (cap : Int) < 1 := by omega
    have h2 : ¬ (cap : Int) > 1048576 := by omega
    clear hd hw
    go_enter Try.func3, Try.ntmps3
    go_wp2_with fail
    refine HNE.out.mono ?_
    rintro x w1 ⟨A, Wd, Bd, rfl, b1, hA, hWd, hBd, hat⟩
    have HB1 := mkHid b1
    have HLW : Hid (W.heap.size ≤ A ∧ W.heap.size ≤ Wd ∧ W.heap.size ≤ Bd) := ⟨hA, hWd, hBd⟩
    have HA1 := mkHid hat
    clear b1 hA hWd hBd hat HNE
    go_wp2_with fail
    refine (HAW.out _).mono ?_
    rintro x w2 ⟨rfl, b2⟩
    obtain ⟨W3, hW3, hb3, hlt3, k3⟩ := box_five w2 (.int .i64 (cap : Int)) (.slice none 0 0) (.slice none 0 0) (.int .i64 0) (.bool false) 30
    obtain ⟨M, hM⟩ : ∃ M, M = w2.heap.size := ⟨_, rfl⟩
    have HP0 : Hid (PM W A Wd Bd cap M none 0 none 0 [] [] 0 false W3) := PM.new (HB1.out.trans (b2.mono HB1.out.size)) HLW.out.1 HLW.out.2.1 HLW.out.2.2 (HA1.out.below b2) hb3 (by omega) (by rw [hM]; exact k3)
    have HW3 := mkHid hW3
    have HMM := mkHid hM
    clear b2 hW3 hb3 hlt3 k3 hM HAW HB1 HLW HA1
    go_upto_region 9 with fail
    rw [← HW3.out, ← HMM.out]
    clear h1 h2
    go_wp2_with fail
    go_loopw [8, 9, 10] (fun y8 _ _ wr => ∃ (j : Nat) (la : Option Addr) (lc : Nat) (ha : Option Addr) (hc : Nat) (Lo Hi : List Ob) (e : Nat) (op : Bool), y8 = .int .i64 j ∧ j ≤ mm ∧ PM W A Wd Bd cap M la lc ha hc Lo Hi e op wr) (fun y8 _ _ _ => mm - (intOf y8).toNat)
    case atStart => exact ⟨0, none, 0, none, 0, [], [], 0, false, rfl, Nat.zero_le _, HP0.out⟩
    case round =>
      clear HP0 HW3 HMM
      obtain ⟨j, la, lc, ha, hc, Lo, Hi, e, op, rfl, hj, hPM⟩ := hrel
      have HPM := mkHid hPM
      clear hPM
      by_cases hjm : j < mm
      · have hjm' : (j : Int) < (mm : Int) := by omega
        obtain ⟨b, o, rfl, hbl, hz⟩ : ∃ b o, da = some ⟨b, o, none⟩ ∧ b < W.heap.size ∧ ∀ i, i < mm → (W.cell? ⟨b, o + i * 6, none⟩ = some (.int .i64 (z i).d0) ∧ W.cell? ⟨b, o + i * 6 + 1, none⟩ = some (.int .i64 (z i).d1) ∧ W.cell? ⟨b, o + i * 6 + 2, none⟩ = some (.int .i64 (z i).d2) ∧ W.cell? ⟨b, o + i * 6 + 3, none⟩ = some (.int .i64 (z i).d3) ∧ W.cell? ⟨b, o + i * 6 + 4, none⟩ = some (.int .i64 (z i).d4) ∧ W.cell? ⟨b, o + i * 6 + 5, none⟩ = some (.int .u64 ((z i).d5 : Int))) ∧ (z i).d5 < 18446744073709551616 := by
          rcases HD.out with h | h
          · omega
          · exact h
        obtain ⟨⟨f0, f1, f2, f3, f4, f5⟩, hd5⟩ := hz j hjm
        generalize (z j).d0 = d0 at f0
        generalize (z j).d1 = d1 at f1
        generalize (z j).d2 = d2 at f2
        generalize (z j).d3 = d3 at f3
        generalize (z j).d4 = d4 at f4
        generalize (z j).d5 = d5 at f5 hd5
        have hPL : ∀ (own : Nat → Prop) (u : World), AT u A Wd Bd cap Lo Hi e op → MA own u la lc ha hc Lo Hi → (∀ k, mine A Wd Bd k → own k) → (∀ k, own k → k < u.heap.size) → _ := fun own u h1 h2 h3 h4 => play_any (dd := d0) (p := d1) (i := d2) (j := d3) (l := d4) (y := d5) h1 h2 h3 h4 hd5
        have hBX := HPM.out.box
        unfold boxM at hBX
        unfold mV at hPL
        obtain ⟨n, hn⟩ : ∃ n, n = Lo.length := ⟨_, rfl⟩
        obtain ⟨m, hm⟩ : ∃ m, m = Hi.length := ⟨_, rfl⟩
        rw [← hn, ← hm] at hPL hBX
        have HPL := mkHid hPL
        have HBX := mkHid hBX
        have HNm := mkHid hn
        have HMm := mkHid hm
        have HST : Hid (∀ u : World, Below W.heap.size W u → u.heap[M]? = some (.cells #[.int .i64 (cap : Int), .slice la n lc, .slice ha m hc, .int .i64 (e : Int), .bool op] 30 (0, 0)) → World.cell? u ⟨M, 0, none⟩ = some (.int .i64 (cap : Int)) ∧ World.cell? u ⟨M, 1, none⟩ = some (.slice la n lc) ∧ World.cell? u ⟨M, 2, none⟩ = some (.slice ha m hc) ∧ World.cell? u ⟨M, 3, none⟩ = some (.int .i64 (e : Int)) ∧ World.cell? u ⟨M, 4, none⟩ = some (.bool op) ∧ World.cell? u ⟨b, o + j * 6, none⟩ = some (.int .i64 d0) ∧ World.cell? u ⟨b, o + j * 6 + 1, none⟩ = some (.int .i64 d1) ∧ World.cell? u ⟨b, o + j * 6 + 2, none⟩ = some (.int .i64 d2) ∧ World.cell? u ⟨b, o + j * 6 + 3, none⟩ = some (.int .i64 d3) ∧ World.cell? u ⟨b, o + j * 6 + 4, none⟩ = some (.int .i64 d4) ∧ World.cell? u ⟨b, o + j * 6 + 5, none⟩ = some (.int .u64 (d5 : Int))) := fun u bu hk => by
          obtain ⟨g0, g1, g2, g3, g4⟩ := five_cells hk
          exact ⟨g0, g1, g2, g3, g4, by rw [cell_blk (bu.block b hbl)]; exact f0, by rw [cell_blk (bu.block b hbl)]; exact f1, by rw [cell_blk (bu.block b hbl)]; exact f2, by rw [cell_blk (bu.block b hbl)]; exact f3, by rw [cell_blk (bu.block b hbl)]; exact f4, by rw [cell_blk (bu.block b hbl)]; exact f5⟩
        clear hPL hBX hn hm hz f0 f1 f2 f3 f4 f5 hbl hd5
        go_upto_region 12 with fail
        refine' apm_join _ (fun Wx N n2 m2 lc2 hc2 e2 la2 ha2 op2 => ∃ Lo2 Hi2, n2 = Lo2.length ∧ m2 = Hi2.length ∧ PN W A Wd Bd cap M N la2 lc2 ha2 hc2 Lo2 Hi2 e2 op2 (some (.cells #[.int .i64 (cap : Int), .slice la n lc, .slice ha m hc, .int .i64 (e : Int), .bool op] 30 (0, 0))) Wx) ?h1 ?h2
        case h1 =>
          intro HJN
          have hPMd := HPM.out.sub ((Below.refl _ wr).drew)
          refine wp_region_held_drew (S := fun u => World.cell? u ⟨M, 0, none⟩ = some (.int .i64 (cap : Int)) ∧ World.cell? u ⟨M, 1, none⟩ = some (.slice la n lc) ∧ World.cell? u ⟨M, 2, none⟩ = some (.slice ha m hc) ∧ World.cell? u ⟨M, 3, none⟩ = some (.int .i64 (e : Int)) ∧ World.cell? u ⟨M, 4, none⟩ = some (.bool op) ∧ World.cell? u ⟨b, o + j * 6, none⟩ = some (.int .i64 d0) ∧ World.cell? u ⟨b, o + j * 6 + 1, none⟩ = some (.int .i64 d1) ∧ World.cell? u ⟨b, o + j * 6 + 2, none⟩ = some (.int .i64 d2) ∧ World.cell? u ⟨b, o + j * 6 + 3, none⟩ = some (.int .i64 d3) ∧ World.cell? u ⟨b, o + j * 6 + 4, none⟩ = some (.int .i64 d4) ∧ World.cell? u ⟨b, o + j * 6 + 5, none⟩ = some (.int .u64 (d5 : Int))) (by kernel_rfl) ?_ (fun hHeld => ?_)
          · exact HST.out _ hPMd.below HBX.out
          refine wpAnyH_take (i := 0) (oi := ⟨some 45, .move (.tmp 5), 23, "law.go:152", #[], none⟩) (v := .pointer (some ⟨A, 0, none⟩)) rfl (by kernel_rfl) (by kernel_rfl) (by kernel_rfl) (fun _ _ _ h => h) (Or.inl ⟨by rfl, ?_⟩) hHeld ?_
          · intro wq hSq
            obtain ⟨s0, s1, s2, s3, s4, s5, s6, s7, s8, s9, s10⟩ := hSq
            clear hHeld
            go_simp
          (try simp only [Act.put, List.setIfInBounds_toArray, List.set_cons_zero, List.set_cons_succ])
          refine wpAnyH_take (i := 1) (oi := ⟨some 46, .load 30 (.tmp 7), 30, "law.go:152", #[], none⟩) (v := .agg #[.int .i64 (cap : Int), .slice la n lc, .slice ha m hc, .int .i64 (e : Int), .bool op]) rfl (by kernel_rfl) (by kernel_rfl) (by kernel_rfl) (fun _ _ _ h => h) (Or.inl ⟨by rfl, ?_⟩) hHeld ?_
          · intro wq hSq
            obtain ⟨s0, s1, s2, s3, s4, s5, s6, s7, s8, s9, s10⟩ := hSq
            clear hHeld
            go_simp
          (try simp only [Act.put, List.setIfInBounds_toArray, List.set_cons_zero, List.set_cons_succ])
          refine wpAnyH_take (i := 2) (oi := ⟨some 47, .move (.tmp 1), 22, "law.go:152", #[], none⟩) (v := .slice (some ⟨b, o, none⟩) mm dc) rfl (by kernel_rfl) (by kernel_rfl) (by kernel_rfl) (fun _ _ _ h => h) (Or.inl ⟨by rfl, ?_⟩) hHeld ?_
          · intro wq hSq
            obtain ⟨s0, s1, s2, s3, s4, s5, s6, s7, s8, s9, s10⟩ := hSq
            clear hHeld
            go_simp
          (try simp only [Act.put, List.setIfInBounds_toArray, List.set_cons_zero, List.set_cons_succ])
          refine wpAnyH_take (i := 3) (oi := ⟨some 48, .move (.tmp 8), 3, "law.go:152", #[], none⟩) (v := .int .i64 (j : Int)) rfl (by kernel_rfl) (by kernel_rfl) (by kernel_rfl) (fun _ _ _ h => h) (Or.inl ⟨by rfl, ?_⟩) hHeld ?_
          · intro wq hSq
            obtain ⟨s0, s1, s2, s3, s4, s5, s6, s7, s8, s9, s10⟩ := hSq
            clear hHeld
            go_simp
          (try simp only [Act.put, List.setIfInBounds_toArray, List.set_cons_zero, List.set_cons_succ])
          refine wpAnyH_take (i := 4) (oi := ⟨some 49, .indexAddr 22 (.tmp 47) (.tmp 48), 0, "law.go:152", #[⟨2, .data⟩, ⟨3, .data⟩], none⟩) (v := .pointer (some ⟨b, o + j * 6, none⟩)) rfl (by kernel_rfl) (by kernel_rfl) (by kernel_rfl) (fun _ _ _ h => h) (Or.inl ⟨by rfl, ?_⟩) hHeld ?_
          · intro wq hSq
            obtain ⟨s0, s1, s2, s3, s4, s5, s6, s7, s8, s9, s10⟩ := hSq
            clear hHeld
            go_simp
          (try simp only [Act.put, List.setIfInBounds_toArray, List.set_cons_zero, List.set_cons_succ])
          refine wpAnyH_take (i := 5) (oi := ⟨some 50, .load 35 (.tmp 49), 35, "law.go:152", #[⟨4, .data⟩], none⟩) (v := .agg #[.int .i64 d0, .int .i64 d1, .int .i64 d2, .int .i64 d3, .int .i64 d4, .int .u64 (d5 : Int)]) rfl (by kernel_rfl) (by kernel_rfl) (by kernel_rfl) (fun _ _ _ h => h) (Or.inl ⟨by rfl, ?_⟩) hHeld ?_
          · intro wq hSq
            obtain ⟨s0, s1, s2, s3, s4, s5, s6, s7, s8, s9, s10⟩ := hSq
            clear hHeld
            go_simp
          (try simp only [Act.put, List.setIfInBounds_toArray, List.set_cons_zero, List.set_cons_succ])
          refine wpAnyH_ready (rs := [6, 10]) (by kernel_rfl) (by simp) ?_
          refine AllReadyH.cons (o := ⟨some 51, .call ⟨.value (.func 8), #[.tmp 45, .tmp 46, .tmp 50], #[23, 30, 35]⟩, 31, "law.go:152", #[⟨0, .data⟩, ⟨1, .data⟩, ⟨5, .data⟩], none⟩) rfl (fun Kr6 hKr6 => ?_) (AllReadyH.cons (o := ⟨some 9, .alloc 30, 0, "law.go:152", #[], none⟩) rfl (fun Kr10 hKr10 => ?_) AllReadyH.nil)
          · skip
            go_simp
            go_at_call 8
            refine (HPL.out (fun k => mine A Wd Bd k ∨ k = M) _ hPMd.at_ hPMd.ma (fun k hk => Or.inl hk) (fun k hk => by rcases hk with hk | hk; exact hPMd.at_.mine_lt k hk; rw [hk]; exact hPMd.lt)).mono ?_
            rintro x w4 ⟨la2, lc2, ha2, hc2, Lo2, Hi2, e2, op2, rfl, c4, ha4, hm4⟩
            unfold mV
            obtain ⟨n2, hn2⟩ : ∃ n2, n2 = Lo2.length := ⟨_, rfl⟩
            obtain ⟨m2, hm2⟩ : ∃ m2, m2 = Hi2.length := ⟨_, rfl⟩
            rw [← hn2, ← hm2]
            have hS6 := HST.out w4 (hPMd.chg_below c4) ((c4.block M hPMd.lt hPMd.mn).trans (HBX.out))
            have HN2 := mkHid hn2
            have HM2 := mkHid hm2
            have HC4 := mkHid c4
            have HA4 := mkHid ha4
            have HM4 := mkHid hm4
            clear hHeld hn2 hm2 c4 ha4 hm4
            go_wp2_with fail
            refine hKr6.out _ _ ?_ (fun hHeld => ?_)
            · exact hS6
            clear hKr6 Kr6 hS6
            (try simp only [Act.put, List.setIfInBounds_toArray, List.set_cons_zero, List.set_cons_succ])
            refine wpAnyH_take (i := 7) (oi := ⟨some 44, .move (.tmp 51), 31, "law.go:152", #[⟨6, .data⟩], none⟩) (v := .tuple #[.agg #[.int .i64 (cap : Int), .slice la2 n2 lc2, .slice ha2 m2 hc2, .int .i64 (e2 : Int), .bool op2], .bool true]) rfl (by kernel_rfl) (by kernel_rfl) (by kernel_rfl) (fun _ _ _ h => h) (Or.inl ⟨by rfl, ?_⟩) hHeld ?_
            · intro wq hSq
              obtain ⟨s0, s1, s2, s3, s4, s5, s6, s7, s8, s9, s10⟩ := hSq
              clear hHeld
              go_simp
            (try simp only [Act.put, List.setIfInBounds_toArray, List.set_cons_zero, List.set_cons_succ])
            refine wpAnyH_take (i := 8) (oi := ⟨some 52, .extract (.tmp 44) 0, 30, "law.go:152", #[⟨7, .data⟩], none⟩) (v := .agg #[.int .i64 (cap : Int), .slice la2 n2 lc2, .slice ha2 m2 hc2, .int .i64 (e2 : Int), .bool op2]) rfl (by kernel_rfl) (by kernel_rfl) (by kernel_rfl) (fun _ _ _ h => h) (Or.inl ⟨by rfl, ?_⟩) hHeld ?_
            · intro wq hSq
              obtain ⟨s0, s1, s2, s3, s4, s5, s6, s7, s8, s9, s10⟩ := hSq
              clear hHeld
              go_simp
            (try simp only [Act.put, List.setIfInBounds_toArray, List.set_cons_zero, List.set_cons_succ])
            refine wpAnyH_take (i := 9) (oi := ⟨some 53, .extract (.tmp 44) 1, 4, "law.go:152", #[⟨7, .data⟩, ⟨11, .gcOnly .lateStores⟩], none⟩) (v := .bool true) rfl (by kernel_rfl) (by kernel_rfl) (by kernel_rfl) (fun _ _ _ h => h) (Or.inl ⟨by rfl, ?_⟩) hHeld ?_
            · intro wq hSq
              obtain ⟨s0, s1, s2, s3, s4, s5, s6, s7, s8, s9, s10⟩ := hSq
              clear hHeld
              go_simp
            (try simp only [Act.put, List.setIfInBounds_toArray, List.set_cons_zero, List.set_cons_succ])
            refine wpAnyH_ready (rs := [10]) (by kernel_rfl) (by simp) ?_
            refine AllReadyH.cons (o := ⟨some 9, .alloc 30, 0, "law.go:152", #[], none⟩) rfl (fun Kr10 hKr10 => ?_) AllReadyH.nil
            obtain ⟨W5, hW5⟩ : ∃ W5, W5 = World.alloc w4 (.cells #[.int .i64 0, .slice none 0 0, .slice none 0 0, .int .i64 0, .bool false] 30) := ⟨_, rfl⟩
            obtain ⟨N, hN⟩ : ∃ N, N = w4.heap.size := ⟨_, rfl⟩
            have b5 : Below w4.heap.size w4 W5 := by rw [hW5]; exact (Below.refl _ _).alloc (Nat.le_refl _) _
            have kz : W5.heap[N]? = some (.cells #[.int .i64 0, .slice none 0 0, .slice none 0 0, .int .i64 0, .bool false] 30 (0, 0)) := by rw [hW5, hN]; exact heap_alloc_new w4 _
            have hb4 := hPMd.chg_below HC4.out
            have hS10 := HST.out W5 (hb4.trans (b5.mono hb4.size)) ((b5.block M (Nat.lt_of_lt_of_le hPMd.lt HC4.out.size)).trans ((HC4.out.block M hPMd.lt hPMd.mn).trans HBX.out))
            have HW5 := mkHid hW5
            have HN := mkHid hN
            clear hHeld hW5 hN b5 hb4
            go_simp
            rw [← HW5.out, ← HN.out]
            refine hKr10.out _ _ ?_ (fun hHeld => ?_)
            · exact hS10
            clear hKr10 Kr10 hS10
            (try simp only [Act.put, List.setIfInBounds_toArray, List.set_cons_zero, List.set_cons_succ])
            refine wpAnyH_ready (rs := [11]) (by kernel_rfl) (by simp) ?_
            refine AllReadyH.cons (o := ⟨none, .store 30 (.tmp 9) (.tmp 52), 0, "law.go:152", #[⟨10, .data⟩, ⟨8, .data⟩, ⟨6, .chain⟩, ⟨0, .phase⟩, ⟨1, .phase⟩, ⟨2, .phase⟩, ⟨3, .phase⟩, ⟨4, .phase⟩, ⟨5, .phase⟩, ⟨6, .phase⟩, ⟨7, .phase⟩, ⟨8, .phase⟩, { on := 9, ground := Ground.textOnly Departure.lateStores }, ⟨10, .phase⟩], none⟩) rfl (fun Kr11 hKr11 => ?_) AllReadyH.nil
            obtain ⟨W6, hW6⟩ : ∃ W6, W6 = (World.setCell (World.setCell (World.setCell (World.setCell (World.setCell W5 ⟨N, 0, none⟩ (.int .i64 (cap : Int))) ⟨N, 1, none⟩ (.slice la2 n2 lc2)) ⟨N, 2, none⟩ (.slice ha2 m2 hc2)) ⟨N, 3, none⟩ (.int .i64 (e2 : Int))) ⟨N, 4, none⟩ (.bool op2)) := ⟨_, rfl⟩
            have hPN : PN W A Wd Bd cap M N la2 lc2 ha2 hc2 Lo2 Hi2 e2 op2 ((World.drew wr).heap[M]?) W6 := by have := hPMd.late HC4.out HA4.out HM4.out (z0 := .int .i64 0) (z1 := .slice none 0 0) (z2 := .slice none 0 0) (z3 := .int .i64 0) (z4 := .bool false); rw [hW6, HN2.out, HM2.out, HW5.out, HN.out]; exact this
            obtain ⟨x0, x1, x2, x3, x4⟩ := five_cells kz
            have z0 := ice5 kz 0
            have z1 := ice5 kz 1
            have z2 := ice5 kz 2
            have z3 := ice5 kz 3
            have z4 := ice5 kz 4
            have hold := hPN.old.trans HBX.out
            have hS11 := HST.out W6 hPN.below hold
            have HPN : Hid (PN W A Wd Bd cap M N la2 lc2 ha2 hc2 Lo2 Hi2 e2 op2 (some (.cells #[.int .i64 (cap : Int), .slice la n lc, .slice ha m hc, .int .i64 (e : Int), .bool op] 30 (0, 0))) W6) := ⟨hPN.below, hPN.low, hPN.ml, hPN.mn, hPN.ne, hPN.at_, hPN.ma, hold, hPN.box⟩
            have HW6 := mkHid hW6
            clear hHeld hW6 hPN hold
            go_simp
            rw [← HW6.out]
            refine hKr11.out _ _ ?_ (fun hHeld => ?_)
            · exact hS11
            clear hKr11 Kr11 hS11 x0 x1 x2 x3 x4 z0 z1 z2 z3 z4
            (try simp only [Act.put, List.setIfInBounds_toArray, List.set_cons_zero, List.set_cons_succ])
            refine wpAnyH_take (i := 12) (oi := ⟨some 10, .assign (.tmp 53), 4, "law.go:152", #[⟨9, .data⟩, ⟨11, .chain⟩, ⟨0, .phase⟩, ⟨1, .phase⟩, ⟨2, .phase⟩, ⟨3, .phase⟩, ⟨4, .phase⟩, ⟨5, .phase⟩, ⟨6, .phase⟩, ⟨7, .phase⟩, ⟨8, .phase⟩, ⟨9, .phase⟩, ⟨10, .phase⟩, ⟨11, .phase⟩], none⟩) (v := .bool true) rfl (by kernel_rfl) (by kernel_rfl) (by kernel_rfl) (fun _ _ _ h => h) (Or.inl ⟨by rfl, ?_⟩) hHeld ?_
            · intro wq hSq
              obtain ⟨s0, s1, s2, s3, s4, s5, s6, s7, s8, s9, s10⟩ := hSq
              clear hHeld
              go_simp
            (try simp only [Act.put, List.setIfInBounds_toArray, List.set_cons_zero, List.set_cons_succ])
            refine wpAnyH_done (by kernel_rfl) ?_ _
            clear hHeld
            exact HJN W6 N n2 m2 lc2 hc2 e2 la2 ha2 op2 ⟨Lo2, Hi2, HN2.out, HM2.out, HPN.out⟩
          · skip
            obtain ⟨W5, hW5⟩ : ∃ W5, W5 = World.drew (World.alloc wr (.cells #[.int .i64 0, .slice none 0 0, .slice none 0 0, .int .i64 0, .bool false] 30)) := ⟨_, rfl⟩
            obtain ⟨N, hN⟩ : ∃ N, N = wr.heap.size := ⟨_, rfl⟩
            have b5 : Below wr.heap.size wr W5 := by rw [hW5]; exact ((Below.refl _ _).alloc (Nat.le_refl _) _).drew
            have kz : W5.heap[N]? = some (.cells #[.int .i64 0, .slice none 0 0, .slice none 0 0, .int .i64 0, .bool false] 30 (0, 0)) := by rw [hW5, hN]; exact heap_alloc_new wr _
            have hPM5 := HPM.out.sub b5
            have hNl : N < W5.heap.size := (Array.getElem?_eq_some_iff.1 kz).1
            have hMA5 : MA (fun k => (mine A Wd Bd k ∨ k = M) ∨ k = N) W5 la lc ha hc Lo Hi := (HPM.out.ma.widen (own' := fun k => (mine A Wd Bd k ∨ k = M) ∨ k = N) fun k hk => by rcases hk with hk | hk; exact Or.inl hk; exact Or.inr (by omega)).below b5
            have hNM : N ≠ M := by have := HPM.out.lt; omega
            have hNm : ¬ mine A Wd Bd N := fun hk => by have := HPM.out.at_.mine_lt N hk; omega
            have hNW : W.heap.size ≤ N := by have := HPM.out.below.size; omega
            have HBX5 := mkHid ((b5.block M HPM.out.lt).trans HBX.out)
            have hS10 := HST.out W5 hPM5.below HBX5.out
            have HW5 := mkHid hW5
            have HN := mkHid hN
            clear hHeld hW5 hN b5
            go_simp
            rw [← HW5.out, ← HN.out]
            refine hKr10.out _ _ ?_ (fun hHeld => ?_)
            · exact hS10
            clear hKr10 Kr10 hS10
            (try simp only [Act.put, List.setIfInBounds_toArray, List.set_cons_zero, List.set_cons_succ])
            refine wpAnyH_ready (rs := [6]) (by kernel_rfl) (by simp) ?_
            refine AllReadyH.cons (o := ⟨some 51, .call ⟨.value (.func 8), #[.tmp 45, .tmp 46, .tmp 50], #[23, 30, 35]⟩, 31, "law.go:152", #[⟨0, .data⟩, ⟨1, .data⟩, ⟨5, .data⟩], none⟩) rfl (fun Kr6 hKr6 => ?_) AllReadyH.nil
            go_simp
            go_at_call 8
            refine (HPL.out (fun k => (mine A Wd Bd k ∨ k = M) ∨ k = N) W5 hPM5.at_ hMA5 (fun k hk => Or.inl (Or.inl hk)) (fun k hk => by rcases hk with (hk | hk) | hk; exact hPM5.at_.mine_lt k hk; rw [hk]; exact hPM5.lt; rw [hk]; exact hNl)).mono ?_
            rintro x w4 ⟨la2, lc2, ha2, hc2, Lo2, Hi2, e2, op2, rfl, c4, ha4, hm4⟩
            unfold mV
            obtain ⟨n2, hn2⟩ : ∃ n2, n2 = Lo2.length := ⟨_, rfl⟩
            obtain ⟨m2, hm2⟩ : ∃ m2, m2 = Hi2.length := ⟨_, rfl⟩
            rw [← hn2, ← hm2]
            have hS6 := HST.out w4 (hPM5.chg_below c4) ((c4.block M hPM5.lt hPM5.mn).trans ((HBX5.out)))
            have HN2 := mkHid hn2
            have HM2 := mkHid hm2
            have HC4 := mkHid c4
            have HA4 := mkHid ha4
            have HM4 := mkHid hm4
            clear hHeld hn2 hm2 c4 ha4 hm4
            go_wp2_with fail
            refine hKr6.out _ _ ?_ (fun hHeld => ?_)
            · exact hS6
            clear hKr6 Kr6 hS6
            (try simp only [Act.put, List.setIfInBounds_toArray, List.set_cons_zero, List.set_cons_succ])
            refine wpAnyH_take (i := 7) (oi := ⟨some 44, .move (.tmp 51), 31, "law.go:152", #[⟨6, .data⟩], none⟩) (v := .tuple #[.agg #[.int .i64 (cap : Int), .slice la2 n2 lc2, .slice ha2 m2 hc2, .int .i64 (e2 : Int), .bool op2], .bool true]) rfl (by kernel_rfl) (by kernel_rfl) (by kernel_rfl) (fun _ _ _ h => h) (Or.inl ⟨by rfl, ?_⟩) hHeld ?_
            · intro wq hSq
              obtain ⟨s0, s1, s2, s3, s4, s5, s6, s7, s8, s9, s10⟩ := hSq
              clear hHeld
              go_simp
            (try simp only [Act.put, List.setIfInBounds_toArray, List.set_cons_zero, List.set_cons_succ])
            refine wpAnyH_take (i := 8) (oi := ⟨some 52, .extract (.tmp 44) 0, 30, "law.go:152", #[⟨7, .data⟩], none⟩) (v := .agg #[.int .i64 (cap : Int), .slice la2 n2 lc2, .slice ha2 m2 hc2, .int .i64 (e2 : Int), .bool op2]) rfl (by kernel_rfl) (by kernel_rfl) (by kernel_rfl) (fun _ _ _ h => h) (Or.inl ⟨by rfl, ?_⟩) hHeld ?_
            · intro wq hSq
              obtain ⟨s0, s1, s2, s3, s4, s5, s6, s7, s8, s9, s10⟩ := hSq
              clear hHeld
              go_simp
            (try simp only [Act.put, List.setIfInBounds_toArray, List.set_cons_zero, List.set_cons_succ])
            refine wpAnyH_take (i := 9) (oi := ⟨some 53, .extract (.tmp 44) 1, 4, "law.go:152", #[⟨7, .data⟩, ⟨11, .gcOnly .lateStores⟩], none⟩) (v := .bool true) rfl (by kernel_rfl) (by kernel_rfl) (by kernel_rfl) (fun _ _ _ h => h) (Or.inl ⟨by rfl, ?_⟩) hHeld ?_
            · intro wq hSq
              obtain ⟨s0, s1, s2, s3, s4, s5, s6, s7, s8, s9, s10⟩ := hSq
              clear hHeld
              go_simp
            (try simp only [Act.put, List.setIfInBounds_toArray, List.set_cons_zero, List.set_cons_succ])
            refine wpAnyH_ready (rs := [11]) (by kernel_rfl) (by simp) ?_
            refine AllReadyH.cons (o := ⟨none, .store 30 (.tmp 9) (.tmp 52), 0, "law.go:152", #[⟨10, .data⟩, ⟨8, .data⟩, ⟨6, .chain⟩, ⟨0, .phase⟩, ⟨1, .phase⟩, ⟨2, .phase⟩, ⟨3, .phase⟩, ⟨4, .phase⟩, ⟨5, .phase⟩, ⟨6, .phase⟩, ⟨7, .phase⟩, ⟨8, .phase⟩, { on := 9, ground := Ground.textOnly Departure.lateStores }, ⟨10, .phase⟩], none⟩) rfl (fun Kr11 hKr11 => ?_) AllReadyH.nil
            obtain ⟨W6, hW6⟩ : ∃ W6, W6 = (World.setCell (World.setCell (World.setCell (World.setCell (World.setCell w4 ⟨N, 0, none⟩ (.int .i64 (cap : Int))) ⟨N, 1, none⟩ (.slice la2 n2 lc2)) ⟨N, 2, none⟩ (.slice ha2 m2 hc2)) ⟨N, 3, none⟩ (.int .i64 (e2 : Int))) ⟨N, 4, none⟩ (.bool op2)) := ⟨_, rfl⟩
            have hPN : PN W A Wd Bd cap M N la2 lc2 ha2 hc2 Lo2 Hi2 e2 op2 (W5.heap[M]?) W6 := by have := hPM5.early hNl hNW hNM hNm kz HC4.out HA4.out HM4.out; rw [hW6, HN2.out, HM2.out]; exact this
            have kz := (HC4.out.block N hNl hNm).trans kz
            obtain ⟨x0, x1, x2, x3, x4⟩ := five_cells kz
            have z0 := ice5 kz 0
            have z1 := ice5 kz 1
            have z2 := ice5 kz 2
            have z3 := ice5 kz 3
            have z4 := ice5 kz 4
            have hold := hPN.old.trans HBX5.out
            have hS11 := HST.out W6 hPN.below hold
            have HPN : Hid (PN W A Wd Bd cap M N la2 lc2 ha2 hc2 Lo2 Hi2 e2 op2 (some (.cells #[.int .i64 (cap : Int), .slice la n lc, .slice ha m hc, .int .i64 (e : Int), .bool op] 30 (0, 0))) W6) := ⟨hPN.below, hPN.low, hPN.ml, hPN.mn, hPN.ne, hPN.at_, hPN.ma, hold, hPN.box⟩
            have HW6 := mkHid hW6
            clear hHeld hW6 hPN hold
            go_simp
            rw [← HW6.out]
            refine hKr11.out _ _ ?_ (fun hHeld => ?_)
            · exact hS11
            clear hKr11 Kr11 hS11 x0 x1 x2 x3 x4 z0 z1 z2 z3 z4
            (try simp only [Act.put, List.setIfInBounds_toArray, List.set_cons_zero, List.set_cons_succ])
            refine wpAnyH_take (i := 12) (oi := ⟨some 10, .assign (.tmp 53), 4, "law.go:152", #[⟨9, .data⟩, ⟨11, .chain⟩, ⟨0, .phase⟩, ⟨1, .phase⟩, ⟨2, .phase⟩, ⟨3, .phase⟩, ⟨4, .phase⟩, ⟨5, .phase⟩, ⟨6, .phase⟩, ⟨7, .phase⟩, ⟨8, .phase⟩, ⟨9, .phase⟩, ⟨10, .phase⟩, ⟨11, .phase⟩], none⟩) (v := .bool true) rfl (by kernel_rfl) (by kernel_rfl) (by kernel_rfl) (fun _ _ _ h => h) (Or.inl ⟨by rfl, ?_⟩) hHeld ?_
            · intro wq hSq
              obtain ⟨s0, s1, s2, s3, s4, s5, s6, s7, s8, s9, s10⟩ := hSq
              clear hHeld
              go_simp
            (try simp only [Act.put, List.setIfInBounds_toArray, List.set_cons_zero, List.set_cons_succ])
            refine wpAnyH_done (by kernel_rfl) ?_ _
            clear hHeld
            exact HJN W6 N n2 m2 lc2 hc2 e2 la2 ha2 op2 ⟨Lo2, Hi2, HN2.out, HM2.out, HPN.out⟩
        case h2 =>
          rintro Wx N n2 m2 lc2 hc2 e2 la2 ha2 op2 ⟨Lo2, Hi2, hn2, hm2, hPN⟩
          have hbox := hPN.box
          unfold boxM at hbox
          rw [← hn2, ← hm2] at hbox
          have hold := hPN.old
          obtain ⟨q0, q1, q2, q3, q4⟩ := five_cells hbox
          obtain ⟨x0, x1, x2, x3, x4⟩ := five_cells hold
          have z0 := ice5 hold 0
          have z1 := ice5 hold 1
          have z2 := ice5 hold 2
          have z3 := ice5 hold 3
          have z4 := ice5 hold 4
          obtain ⟨W8, hW8⟩ : ∃ W8, W8 = (World.setCell (World.setCell (World.setCell (World.setCell (World.setCell Wx ⟨M, 0, none⟩ (.int .i64 (cap : Int))) ⟨M, 1, none⟩ (.slice la2 n2 lc2)) ⟨M, 2, none⟩ (.slice ha2 m2 hc2)) ⟨M, 3, none⟩ (.int .i64 (e2 : Int))) ⟨M, 4, none⟩ (.bool op2)) := ⟨_, rfl⟩
          have HPM8 : Hid (PM W A Wd Bd cap M la2 lc2 ha2 hc2 Lo2 Hi2 e2 op2 W8) := by rw [hW8, hn2, hm2]; exact hPN.next
          have HK8 : Hid (W8.heap[M]? = some (.cells #[.int .i64 (cap : Int), .slice la2 n2 lc2, .slice ha2 m2 hc2, .int .i64 (e2 : Int), .bool op2] 30 (0, 0))) := by rw [hW8]; exact put5 hold _ _ _ _ _
          have hLK := looks_any HPM8.out.at_ HPM8.out.lp.2
          unfold mV at hLK
          rw [← hn2, ← hm2] at hLK
          have HLK := mkHid hLK
          have HW8 := mkHid hW8
          clear hbox hold hn2 hm2 hPN hLK hW8 HPL HBX HNm HMm HST HPM
          go_upto_region 16 with fail
          rw [← HW8.out]
          clear q0 q1 q2 q3 q4 x0 x1 x2 x3 x4 z0 z1 z2 z3 z4 HW8
          obtain ⟨p0, p1, p2, p3, p4⟩ := five_cells HK8.out
          obtain ⟨r, hr⟩ : ∃ r : Nat, Int.tmod (j : Int) 5 = (r : Int) := ⟨j % 5, by rw [Int.tmod_eq_emod_of_nonneg (by omega)]; simp⟩
          by_cases hr4 : r = 4
          · subst hr4
            go_wp2_with fail
            refine HLK.out.mono ?_
            rintro x w9 ⟨rfl, c9, hl9⟩
            have HPM9 := mkHid (HPM8.out.looked c9 hl9)
            clear c9 hl9 p0 p1 p2 p3 p4
            go_wp2_with fail
            go_roundw
            case rel => exact ⟨j + 1, la2, lc2, ha2, hc2, Lo2, Hi2, e2, op2, by go_num, by omega, HPM9.out⟩
            case measure => simp [intOf]; omega
          · have hr5 : ¬ (r : Int) = 4 := by omega
            go_wp2_with fail
            go_roundw
            case rel => exact ⟨j + 1, la2, lc2, ha2, hc2, Lo2, Hi2, e2, op2, by go_num, by omega, HPM8.out⟩
            case measure => simp [intOf]; omega
      · have hjm' : ¬ (j : Int) < (mm : Int) := by omega
        have hLK := looks_any HPM.out.at_ HPM.out.lp.2
        have hbox := HPM.out.box
        unfold boxM at hbox
        unfold mV at hLK
        obtain ⟨n, hn⟩ : ∃ n, n = Lo.length := ⟨_, rfl⟩
        obtain ⟨m, hm⟩ : ∃ m, m = Hi.length := ⟨_, rfl⟩
        rw [← hn, ← hm] at hLK hbox
        have HLK := mkHid hLK
        obtain ⟨p0, p1, p2, p3, p4⟩ := five_cells hbox
        clear hLK hbox hn hm
        go_wp2_with fail
        refine HLK.out.mono ?_
        rintro x w9 ⟨rfl, c9, hl9⟩
        have HPM9 := mkHid (HPM.out.looked c9 hl9)
        clear c9 hl9 p0 p1 p2 p3 p4
        go_wp2_with fail
        go_ret
        exact ⟨rfl, HPM9.out.below⟩
  · have HNE := mkHid (New_bad wd W hw)
    have HAW := mkHid (awake_any W)
    rcases (by omega : wd < 1 ∨ 1 ≤ wd ∧ 1048576 < wd) with h1 | ⟨h1, h2⟩
    · clear hw hd
      go_enter Try.func3, Try.ntmps3
      go_wp2_with fail
      refine HNE.out.mono ?_
      rintro x w1 ⟨rfl, rfl⟩
      go_wp2_with fail
      refine HAW.out.mono ?_
      rintro x w2 ⟨rfl, b2⟩
      have HB := mkHid b2
      clear b2
      go_wp2_with fail
      go_ret
      exact ⟨rfl, HB.out⟩
    · have h1' : ¬ wd < 1 := by omega
      have h2' : wd > 1048576 := h2
      clear hw hd h1
      go_enter Try.func3, Try.ntmps3
      go_wp2_with fail
      refine HNE.out.mono ?_
      rintro x w1 ⟨rfl, rfl⟩
      go_wp2_with fail
      refine HAW.out.mono ?_
      rintro x w2 ⟨rfl, b2⟩
      have HB := mkHid b2
      clear b2
      go_wp2_with fail
      go_ret
      exact ⟨rfl, HB.out⟩
end Go.Proofs.Ytlfgolnnkcehbaa
