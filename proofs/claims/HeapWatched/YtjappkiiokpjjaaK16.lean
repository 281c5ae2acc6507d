/- Some texts in one: each opens with its own remark. -/
import Derived.Test.YtjappkiiokpjjaaZRHMet
/- The document's order, Reached. -/
namespace Go.Proofs.Ytjappkiiokpjjaa
open Go.RowKit

theorem im_wide {own : Nat → Prop} {W w' : World} {v : Value} {b o : Nat} {x : Value} (h : Im own W b o x) (hb : Below W.heap.size W w') (hu : ∀ q, v.ownBlock = some q → W.heap.size ≤ q) : Im (owO own v) w' b o x :=
  ⟨by rw [hb.cell (p := ⟨b, o, none⟩) h.2.1]; exact h.1, Nat.lt_of_lt_of_le h.2.1 hb.size, fun e => by
    rcases e with e | e
    · exact h.2.2 e
    · have := hu b e; have := h.2.1; omega⟩
theorem ri_wide {own : Nat → Prop} {W w' : World} {v : Value} {a : Option Addr} {xs : List Nat} (h : RI own W a xs) (hb : Below W.heap.size W w') (hu : ∀ q, v.ownBlock = some q → W.heap.size ≤ q) : RI (owO own v) w' a xs := by
  rcases h with h | ⟨b, e, h⟩
  · exact Or.inl h
  · exact Or.inr ⟨b, e, fun j hj => im_wide (h j hj) hb hu⟩
theorem mhd_wide {own : Nat → Prop} {W w' : World} {v : Value} {b : Nat} {Os : List Ob} {D : Nat → OD} (h : MHd own W b Os D) (hb : Below W.heap.size W w') (hu : ∀ q, v.ownBlock = some q → W.heap.size ≤ q) : MHd (owO own v) w' b Os D :=
  ⟨fun j x hj => im_wide (h.row j x hj) hb hu, fun k hk => ri_wide (h.refs k hk) hb hu, fun k hk => ri_wide (h.words k hk) hb hu⟩
section
variable {own : Nat → Prop} {w : World}
set_option maxHeartbeats 4000000 in
set_option maxRecDepth 100000 in
theorem rhOrder {a : Option Addr} {Os : List Ob} (hm : MH own w a Os) (hown : ∀ k, own k → k < w.heap.size) (hb : Os.length ≤ 1048576) {rt : List Nat} (hrl : rt.length = 16) (hrw : ∀ k, rt.getD k 0 < 18446744073709551616) (hww : ∀ k j, k < Os.length → (refsO (oat Os k)).getD j 0 < 18446744073709551616) (hrf : ∀ k, k < Os.length → (refsO (oat Os k)).length ≤ 1048576) {c : Nat} : Calls Try.prog 44 #[.agg (Value.slice a Os.length c :: rt.map (fun x : Nat => Value.int .u64 (x : Int))).toArray] w fun e w' => ∃ v K, e = .returned v ∧ Below w.heap.size w w' ∧ Rw own w' 0 27 v (ucells (ordK Os rt K)) ∧ K = (ordK Os rt K).length ∧ ∀ j, j < K → j < (ordK Os rt j).length := by
  obtain ⟨n, hn⟩ : ∃ n, n = Os.length := ⟨_, rfl⟩
  obtain ⟨l, hl⟩ : ∃ l, l = rt.map (fun x : Nat => Value.int .u64 (x : Int)) := ⟨_, rfl⟩
  rw [← hn, ← hl]
  have hll : l.length = 16 := by rw [hl, List.length_map]; exact hrl
  have hl17 : (Value.slice a n c :: l).length = 17 := by simp [hll]
  obtain ⟨W, hW⟩ : ∃ W, W = w.alloc (.cells (Value.slice a n c :: l).toArray 30) := ⟨_, rfl⟩
  have hbw : Below w.heap.size w W := by rw [hW]; exact (Below.refl _ _).alloc (Nat.le_refl _) _
  have hBX : W.heap[w.heap.size]? = some (.cells (Value.slice a n c :: l).toArray 30 (0, 0)) := by rw [hW]; exact heap_alloc_new _ _
  have hltB : w.heap.size < W.heap.size := (Array.getElem?_eq_some_iff.1 hBX).1
  have hra : W.rangeAt w.heap.size 0 (Value.slice a n c :: l) := fun j v hv => by
    rw [cell_of_row W _ _ _ _ _ hBX, Nat.zero_add]; simpa using hv
  have how : ∀ k, owO own (.slice none 0 0) k ↔ own k := fun k => ⟨fun h => h.elim id (fun e => by cases e), Or.inl⟩
  have hno : ¬ own w.heap.size := fun e => by have := hown _ e; omega
  have hm0 : MH (owO own (.slice none 0 0)) W a Os := by
    have e : owO own (.slice none 0 0) = own := funext fun k => propext (how k)
    rw [e]; exact hm.below hbw
  have HSK : Hid (∀ v, Chg (owO own (.slice none 0 0)) W.drew v → v.rangeAt w.heap.size 0 (Value.slice a n c :: l)) := fun v hv j u hu => by
    rw [World.cell?_of_block (a := ⟨w.heap.size, 0 + j, none⟩) (hv.block w.heap.size hltB (fun e => hno ((how _).1 e)))]
    exact hra j u hu
  have hS0 : W.drew.rangeAt w.heap.size 0 (Value.slice a n c :: l) := hra
  have hys : ∀ j, j < rt.length → Im (owO own (.slice none 0 0)) W.drew w.heap.size (1 + j) (.int .u64 ((rt.getD j 0 : Nat) : Int)) := fun j hj => ⟨by
    have h := hra (1 + j) (.int .u64 ((rt.getD j 0 : Nat) : Int)) (by rw [Nat.add_comm 1 j, List.getElem?_cons_succ, hl]; simp [hj])
    rw [Nat.zero_add] at h
    exact h, hltB, fun e => hno ((how _).1 e)⟩
  have hm1 := rhMet (w := W.drew) (own := own) (ov := .slice none 0 0) (hm0.mv (Mv.of_below ((Below.refl _ W).drew))) (fun k hk => Nat.lt_of_lt_of_le (hown k hk) (by have := hbw.size; exact this)) hb hll (c := c) (out := []) (Rw.nil _ _ _ _) ⟨by simp, by simp⟩ (ys := rt) (ra := some ⟨w.heap.size, 1, none⟩) (rc := 16) (Or.inr ⟨_, _, rfl, hys⟩) (by omega) hrw
  rw [← hn, hrl] at hm1
  have HM1 := mkHid hm1
  have HMH := mkHid (hm.below hbw)
  have HBX := mkHid hBX
  have HOW := mkHid hown
  have HNO := mkHid hno
  have HW := mkHid hW
  have HN := mkHid hn
  have HBW := mkHid hbw
  clear hm1 hys hm0 hra hBX how hbw hW hm hl hn
  go_enter Try.func44, Try.ntmps44
  refine wp_seq_k (fun K1 hkA => ?_)
  have HK1 := mkHid hkA
  clear hkA
  go_wp2_with fail
  rw [← HW.out]
  refine HK1.out _ _ ?_
  clear HK1
  refine wp_seq_k (fun K2 hkB => ?_)
  have HK2 := mkHid hkB
  clear hkB
  go_wp2_with fail
  refine HK2.out _ _ ?_
  clear HK2
  refine wp_seq_k (fun K3 hkC => ?_)
  have HK3 := mkHid hkC
  clear hkC
  refine wp_region_held_drew (S := fun u => u.rangeAt w.heap.size 0 (Value.slice a n c :: l)) (by kernel_rfl) hS0 (fun hHeld => ?_)
  refine' wpAnyH_take (i := 0) (oi := ⟨some 5, .load 30 (.tmp 1), 30, "ref.go:52", #[], none⟩) (v := _) rfl (by kernel_rfl) (by kernel_rfl) (by kernel_rfl) (fun _ _ _ h => h) (yieldsIf_load_mid (by rfl) _ _ rfl _ _ rfl _ _ (fun wq hSq => hSq) Try.underlying30 rfl (by rw [hl17]; exact infoHp)) hHeld ?_
  (try simp only [Act.put, Sx0, Sx1, Sx2])
  refine wpAnyH_take (i := 1) (oi := ⟨some 6, .move (.tmp 3), 31, "ref.go:52", #[], none⟩) (v := .slice none 0 0) rfl (by kernel_rfl) (by kernel_rfl) (by kernel_rfl) (fun _ _ _ h => h) (Or.inl ⟨by rfl, ?_⟩) hHeld ?_
  · intro wq hSq
    clear hSq
    go_simp
  (try simp only [Act.put, Sx0, Sx1, Sx2])
  refine wpAnyH_take (i := 2) (oi := ⟨some 7, .fieldAddr 30 (.tmp 1) 1, 0, "ref.go:52", #[], none⟩) (v := .pointer (some ⟨w.heap.size, 1, none⟩)) rfl (by kernel_rfl) (by kernel_rfl) (by kernel_rfl) (fun _ _ _ h => h) (Or.inl ⟨by rfl, ?_⟩) hHeld ?_
  · intro wq hSq
    clear hSq
    go_simp
  (try simp only [Act.put, Sx0, Sx1, Sx2])
  refine wpAnyH_take (i := 3) (oi := ⟨some 8, .slice 28 (.tmp 7) none none none, 31, "ref.go:52", #[⟨2, .data⟩], none⟩) (v := .slice (some ⟨w.heap.size, 1, none⟩) 16 16) rfl (by kernel_rfl) (by kernel_rfl) (by kernel_rfl) (fun _ _ _ h => h) (Or.inl ⟨by rfl, ?_⟩) hHeld ?_
  · intro wq hSq
    clear hSq
    go_simp
  (try simp only [Act.put, Sx0, Sx1, Sx2])
  refine wpAnyH_ready (rs := [4]) (by kernel_rfl) (by simp) ?_
  refine AllReadyH.cons (o := ⟨some 9, .call ⟨.value (.func 83), #[.tmp 5, .tmp 6, .tmp 8], #[30, 31, 31]⟩, 31, "ref.go:52", #[⟨0, .data⟩, ⟨1, .data⟩, ⟨3, .data⟩], none⟩) rfl (fun Kr hKr => ?_) AllReadyH.nil
  go_simp
  refine HM1.out.mono ?_
  rintro e w5 ⟨ov5, rfl, m5, ch5, r5⟩
  have hS5 := HSK.out w5 m5.chg
  have M5 := mkHid m5
  have CH5 := mkHid ch5
  have R5 := mkHid r5
  clear m5 ch5 r5
  go_wp2_with fail
  refine hKr.out _ _ hS5 (fun hHeld2 => ?_)
  clear hKr Kr
  (try simp only [Act.put, Sx0, Sx1, Sx2])
  obtain ⟨a5, c5, e5, _⟩ := R5.out.len
  rw [ucells_len] at e5
  subst e5
  refine wpAnyH_take (i := 5) (oi := ⟨some 3, .assign (.tmp 9), 31, "ref.go:52", #[⟨4, .data⟩, ⟨4, .chain⟩, ⟨0, .phase⟩, ⟨1, .phase⟩, ⟨2, .phase⟩, ⟨3, .phase⟩, ⟨4, .phase⟩], none⟩) (v := .slice a5 (metX Os [] rt).length c5) rfl (by kernel_rfl) (by kernel_rfl) (by kernel_rfl) (fun _ _ _ h => h) (Or.inl ⟨by rfl, ?_⟩) hHeld2 ?_
  · intro wq hSq
    clear hSq
    go_simp
  (try simp only [Act.put, Sx0, Sx1, Sx2])
  refine wpAnyH_done (by kernel_rfl) ?_ _
  have HB5 : Hid (Below W.heap.size W w5) := ⟨CH5.out.os, CH5.out.tape, CH5.out.output, CH5.out.size, fun k hk => CH5.out.block k hk (fun e => by cases e)⟩
  have HU5 : Hid (∀ k, (Value.slice a5 (metX Os [] rt).length c5).ownBlock = some k → W.heap.size ≤ k) := fun k hk => by
    rcases M5.out.sub k (Or.inr hk) with (h | h) | h
    · exact absurd h (R5.out.2 k hk)
    · cases h
    · exact h
  clear hHeld hHeld2 hS5 CH5 M5 HM1 hS0
  go_wp2_with fail
  refine HK3.out _ _ ?_
  go_wp2_with fail
  go_loopw [3, 4] (fun u yy wr => ∃ (k : Nat) (oa : Option Addr) (oc : Nat), yy = .int .i64 k ∧ u = .slice oa (ordK Os rt k).length oc ∧ k ≤ (ordK Os rt k).length ∧ (∀ j, j < k → j < (ordK Os rt j).length) ∧ Below W.heap.size W wr ∧ (∀ q, u.ownBlock = some q → W.heap.size ≤ q) ∧ Rw own wr 0 27 u (ucells (ordK Os rt k))) (fun _ yy _ => n - (intOf yy).toNat)
  case atStart => exact ⟨0, a5, c5, rfl, rfl, Nat.zero_le _, fun j hj => absurd hj (Nat.not_lt_zero _), HB5.out, HU5.out, R5.out⟩
  case round =>
    clear HB5 HU5 R5
    obtain ⟨k, oa, oc, rfl, rfl, hkl, hall, hb6, hu6, hr6⟩ := hrel
    have hfew : (ordK Os rt k).length ≤ n := by rw [HN.out]; exact ordK_few hb k
    by_cases hlt : k < (ordK Os rt k).length
    · skip
      obtain ⟨x, hx⟩ : ∃ x, x = (ordK Os rt k).getD k 0 := ⟨_, rfl⟩
      have hxm : x ∈ ordK Os rt k := by
        rw [hx, List.getD_eq_getElem?_getD, List.getElem?_eq_getElem hlt]; exact List.getElem_mem hlt
      obtain ⟨q, hlq, _⟩ := ordK_sound k x hxm
      have hqn := look_lt hlq
      obtain ⟨b, D, rfl, hd⟩ := HMH.out.open (by omega)
      have hORD : ordK Os rt (k + 1) = metX Os (ordK Os rt k) (refsO (oat Os q)) := by
        show metX Os (ordK Os rt k) (rfY Os ((ordK Os rt k).getD k 0)) = _
        rw [← hx]; unfold rfY; rw [hlq]; rfl
      obtain ⟨g', c', eg, _, _, _, _, hgc⟩ := hr6.cells (by rw [ucells_len]; omega)
      rw [ucells_len] at eg
      have hoc := hgc k _ (ucells_at hlt)
      rw [← hx] at hoc
      have hnow : ¬ owO own (.slice oa (ordK Os rt k).length oc) w.heap.size := by
        rintro (e | e)
        · exact HNO.out e
        · have := hu6 _ e; omega
      have hbx : wr.heap[w.heap.size]? = _ := (hb6.block w.heap.size hltB).trans HBX.out
      have hra : wr.rangeAt w.heap.size 0 (Value.slice (some ⟨b, 0, none⟩) n c :: l) := fun j v hv => by
        rw [cell_of_row wr _ _ _ _ _ hbx, Nat.zero_add]; simpa using hv
      have hd6 : MHd (owO own (.slice oa (ordK Os rt k).length oc)) wr.drew b Os D := mhd_wide hd hb6.drew hu6
      have hcell := (hd6.at_ hqn).2.2.1
      have hcb : b < wr.heap.size ∧ ¬ owO own (.slice oa (ordK Os rt k).length oc) b := (hd6.row (q * 4 + 2) _ (ocells_at Os D (c := 2) hqn (by omega))).2
      obtain ⟨rl, hrl2⟩ : ∃ rl, rl = (refsO (oat Os q)).length := ⟨_, rfl⟩
      obtain ⟨ar, har⟩ : ∃ ar, ar = (D q).ar := ⟨_, rfl⟩
      obtain ⟨cr, hcr⟩ : ∃ cr, cr = (D q).cr := ⟨_, rfl⟩
      rw [← hrl2, ← har, ← hcr] at hcell
      have hS0 : wr.drew.rangeAt w.heap.size 0 (Value.slice (some ⟨b, 0, none⟩) n c :: l) ∧ wr.drew.cell? ⟨b, q * 4 + 2, none⟩ = some (.slice ar rl cr) := ⟨hra, hcell⟩
      have hSg : ∀ (v : World), Chg (owO own (.slice oa (ordK Os rt k).length oc)) wr.drew v → v.rangeAt w.heap.size 0 (Value.slice (some ⟨b, 0, none⟩) n c :: l) ∧ v.cell? ⟨b, q * 4 + 2, none⟩ = some (.slice ar rl cr) := fun v hv => ⟨fun j u hu => by rw [World.cell?_of_block (a := ⟨w.heap.size, 0 + j, none⟩) (hv.block w.heap.size (Array.getElem?_eq_some_iff.1 hbx).1 hnow)]; exact hra j u hu, by rw [World.cell?_of_block (a := ⟨b, q * 4 + 2, none⟩) (hv.block b hcb.1 hcb.2)]; exact hcell⟩
      have hat := rhAt (Or.inr ⟨b, D, rfl, hd6⟩) hb c l x
      rw [atX_some hlq, ← HN.out] at hat
      have hme : ∀ v, Below wr.drew.heap.size wr.drew v → Calls Try.prog 83 #[.agg (Value.slice (some ⟨b, 0, none⟩) Os.length c :: l).toArray, .slice oa (ordK Os rt k).length oc, .slice ar (refsO (oat Os q)).length cr] v fun e w' => ∃ ov', e = .returned ov' ∧ Mv (owO own (.slice oa (ordK Os rt k).length oc)) (owO own ov') v w' ∧ Chg (fun k' => (Value.slice oa (ordK Os rt k).length oc).ownBlock = some k') v w' ∧ Rw own w' 0 27 ov' (ucells (metX Os (ordK Os rt k) (refsO (oat Os q)))) := fun v hv => by
        have hd7 := hd6.mv (Mv.of_below hv)
        refine rhMet (own := own) (Or.inr ⟨b, D, rfl, hd7⟩) (fun k' hk' => Nat.lt_of_lt_of_le (HOW.out k' hk') (by have h1 := hb6.size; have h2 := hv.size; have h3 : wr.drew.heap.size = wr.heap.size := rfl; omega)) hb hll (hr6.drew.below hv) ⟨ordK_nodup k, fun y hy => by obtain ⟨j, hj, _⟩ := ordK_sound k y hy; rw [hj]; rfl⟩ ?_ (hrf q hqn) (fun j => hww q j hqn)
        rw [har]
        rcases hd7.refs q hqn with h | ⟨rb, e, h⟩
        · exact Or.inl h
        · exact Or.inr ⟨rb, 0, e, fun j hj => by rw [Nat.zero_add]; exact h j hj⟩
      rw [← HN.out, ← hrl2, ← hORD] at hme
      have hle : k + 1 ≤ (ordK Os rt (k + 1)).length := by
        obtain ⟨t, ht⟩ := ordK_pre (Os := Os) (rt := rt) k
        rw [ht, List.length_append]; omega
      have hall2 : ∀ j, j < k + 1 → j < (ordK Os rt j).length := fun j hj => by
        rcases Nat.lt_or_ge j k with h | h
        · exact hall j h
        · obtain rfl : j = k := by omega
          exact hlt
      obtain ⟨m2, hm2⟩ : ∃ m2, m2 = (ordK Os rt (k + 1)).length := ⟨_, rfl⟩
      obtain ⟨m, hm⟩ : ∃ m, m = (ordK Os rt k).length := ⟨_, rfl⟩
      obtain ⟨og, rfl, rfl⟩ : ∃ og, oa = some ⟨og, 0, none⟩ ∧ og = g' := by cases eg; exact ⟨g', rfl, rfl⟩
      rw [← hm] at hme hSg hu6 hlt hkl hfew
      have HSB : Hid (∀ (v : World), Chg (fun _ => False) wr.drew v → v.rangeAt w.heap.size 0 (Value.slice (some ⟨b, 0, none⟩) n c :: l) ∧ v.cell? ⟨b, q * 4 + 2, none⟩ = some (.slice ar rl cr)) := fun v hv => hSg v (hv.mono fun _ _ e => e.elim)
      have HSB2 : Hid (∀ (v v2 : World), Below wr.drew.heap.size wr.drew v → Chg (owO own (.slice (some ⟨og, 0, none⟩) m oc)) v v2 → v2.rangeAt w.heap.size 0 (Value.slice (some ⟨b, 0, none⟩) n c :: l) ∧ v2.cell? ⟨b, q * 4 + 2, none⟩ = some (.slice ar rl cr)) := fun v v2 hv h2 => hSg v2 ⟨h2.os.trans hv.os, h2.tape.trans hv.tape, h2.output.trans hv.output, Nat.le_trans hv.size h2.size, fun k' hk' hn => by rw [h2.block k' (Nat.lt_of_lt_of_le hk' hv.size) hn, hv.block k' hk']⟩
      have HAT := mkHid hat
      have HME := mkHid hme
      have HB6 := mkHid hb6
      have HU6 := mkHid hu6
      have HLE := mkHid hle
      have HALL2 := mkHid hall2
      have HM2 := mkHid hm2
      have hnb : n ≤ 1048576 := by have := HN.out; omega
      have hk0 : (0 : Int) ≤ (k : Int) := by omega
      have hk1 : (k : Int) < (m : Int) := by omega
      have hq0 : (0 : Int) ≤ (q : Int) := by omega
      have hq1 : (q : Int) < (n : Int) := by have := HN.out; omega
      have hoc2 : wr.drew.cell? ⟨og, k, none⟩ = some (.int .u64 (x : Int)) := hoc
      have hqn2 : q < n := by have := HN.out; omega
      have hkn : k < n := by omega
      rw [← hm]
      clear hoc hgc hr6 hb6 hu6 hd6 hd hcell hcb hra hbx hnow hSg hat hme hle hall2 hORD hxm hlq hall hx hrl2 har hcr hm2 hm eg hqn HMH
      go_wp2_with fail
      refine wp_region_held_drew (S := fun u => u.rangeAt w.heap.size 0 (Value.slice (some ⟨b, 0, none⟩) n c :: l) ∧ u.cell? ⟨b, q * 4 + 2, none⟩ = some (.slice ar rl cr)) (by kernel_rfl) hS0 (fun hHeld => ?_)
      refine' wpAnyH_take (i := 0) (oi := ⟨some 16, .load 30 (.tmp 1), 30, "ref.go:54", #[], none⟩) (v := _) rfl (by kernel_rfl) (by kernel_rfl) (by kernel_rfl) (fun _ _ _ h => h) (yieldsIf_load_mid (by rfl) _ _ rfl _ _ rfl _ _ (fun wq hSq => hSq.1) Try.underlying30 rfl (by rw [hl17]; exact infoHp)) hHeld ?_
      (try simp only [Act.put, Sx0, Sx1, Sx2])
      refine wpAnyH_take (i := 1) (oi := ⟨some 17, .move (.tmp 3), 31, "ref.go:54", #[], none⟩) (v := .slice (some ⟨og, 0, none⟩) m oc) rfl (by kernel_rfl) (by kernel_rfl) (by kernel_rfl) (fun _ _ _ h => h) (Or.inl ⟨by rfl, ?_⟩) hHeld ?_
      · intro wq hSq
        clear hSq
        go_simp
      (try simp only [Act.put, Sx0, Sx1, Sx2])
      refine wpAnyH_take (i := 2) (oi := ⟨some 18, .fieldAddr 30 (.tmp 1) 0, 0, "ref.go:54", #[], none⟩) (v := .pointer (some ⟨w.heap.size, 0, none⟩)) rfl (by kernel_rfl) (by kernel_rfl) (by kernel_rfl) (fun _ _ _ h => h) (Or.inl ⟨by rfl, ?_⟩) hHeld ?_
      · intro wq hSq
        clear hSq
        go_simp
      (try simp only [Act.put, Sx0, Sx1, Sx2])
      refine wpAnyH_take (i := 3) (oi := ⟨some 19, .load 26 (.tmp 18), 26, "ref.go:54", #[⟨2, .data⟩], none⟩) (v := .slice (some ⟨b, 0, none⟩) n c) rfl (by kernel_rfl) (by kernel_rfl) (by kernel_rfl) (fun _ _ _ h => h) (Or.inl ⟨by rfl, ?_⟩) hHeld ?_
      · intro wq hSq
        have hq0 : wq.cell? ⟨w.heap.size, 0, none⟩ = some (.slice (some ⟨b, 0, none⟩) n c) := hSq.1 0 _ rfl
        clear hSq
        go_simp
      (try simp only [Act.put, Sx0, Sx1, Sx2])
      refine' wpAnyH_take (i := 4) (oi := ⟨some 20, .load 30 (.tmp 1), 30, "ref.go:54", #[], none⟩) (v := _) rfl (by kernel_rfl) (by kernel_rfl) (by kernel_rfl) (fun _ _ _ h => h) (yieldsIf_load_mid (by rfl) _ _ rfl _ _ rfl _ _ (fun wq hSq => hSq.1) Try.underlying30 rfl (by rw [hl17]; exact infoHp)) hHeld ?_
      (try simp only [Act.put, Sx0, Sx1, Sx2])
      refine wpAnyH_take (i := 5) (oi := ⟨some 21, .move (.tmp 3), 31, "ref.go:54", #[], none⟩) (v := .slice (some ⟨og, 0, none⟩) m oc) rfl (by kernel_rfl) (by kernel_rfl) (by kernel_rfl) (fun _ _ _ h => h) (Or.inl ⟨by rfl, ?_⟩) hHeld ?_
      · intro wq hSq
        clear hSq
        go_simp
      (try simp only [Act.put, Sx0, Sx1, Sx2])
      refine wpAnyH_take (i := 6) (oi := ⟨some 22, .move (.tmp 4), 3, "ref.go:54", #[], none⟩) (v := .int .i64 k) rfl (by kernel_rfl) (by kernel_rfl) (by kernel_rfl) (fun _ _ _ h => h) (Or.inl ⟨by rfl, ?_⟩) hHeld ?_
      · intro wq hSq
        clear hSq
        go_simp
      (try simp only [Act.put, Sx0, Sx1, Sx2])
      refine wpAnyH_take (i := 7) (oi := ⟨some 23, .indexAddr 31 (.tmp 21) (.tmp 22), 0, "ref.go:54", #[⟨5, .data⟩, ⟨6, .data⟩], none⟩) (v := .pointer (some ⟨og, k, none⟩)) rfl (by kernel_rfl) (by kernel_rfl) (by kernel_rfl) (fun _ _ _ h => h) (Or.inl ⟨by rfl, ?_⟩) hHeld ?_
      · intro wq hSq
        clear hSq
        go_simp
      (try simp only [Act.put, Sx0, Sx1, Sx2])
      refine wpAnyH_ready (rs := [8]) (by kernel_rfl) (by simp) ?_
      refine AllReadyH.cons (o := ⟨some 24, .load 27 (.tmp 23), 27, "ref.go:54", #[⟨7, .data⟩], none⟩) rfl (fun Kr hKr => ?_) AllReadyH.nil
      go_simp
      refine hKr.out _ _ hHeld (fun _ => ?_)
      clear hKr Kr
      (try simp only [Act.put, Sx0, Sx1, Sx2])
      refine wpAnyH_ready (rs := [9]) (by kernel_rfl) (by simp) ?_
      refine AllReadyH.cons (o := ⟨some 25, .call ⟨.value (.func 19), #[.tmp 20, .tmp 24], #[30, 27]⟩, 3, "ref.go:54", #[⟨4, .data⟩, ⟨8, .data⟩], none⟩) rfl (fun Kr hKr => ?_) AllReadyH.nil
      go_simp
      refine HAT.out.mono ?_
      rintro e w7 ⟨rfl, b7⟩
      have hS7 := HSB.out w7 (Chg.of_below b7)
      have HB7 := mkHid b7
      clear b7
      go_wp2_with fail
      refine hKr.out _ _ hS7 (fun hHeld2 => ?_)
      clear hKr Kr
      (try simp only [Act.put, Sx0, Sx1, Sx2])
      refine wpAnyH_take (i := 10) (oi := ⟨some 26, .indexAddr 26 (.tmp 19) (.tmp 25), 0, "ref.go:54", #[⟨3, .data⟩, ⟨9, .data⟩], none⟩) (v := .pointer (some ⟨b, q * 4, none⟩)) rfl (by kernel_rfl) (by kernel_rfl) (by kernel_rfl) (fun _ _ _ h => h) (Or.inl ⟨by rfl, ?_⟩) hHeld2 ?_
      · intro wq hSq
        clear hSq
        go_simp
      (try simp only [Act.put, Sx0, Sx1, Sx2])
      refine wpAnyH_take (i := 11) (oi := ⟨some 27, .fieldAddr 58 (.tmp 26) 2, 0, "ref.go:54", #[⟨10, .data⟩], none⟩) (v := .pointer (some ⟨b, q * 4 + 2, none⟩)) rfl (by kernel_rfl) (by kernel_rfl) (by kernel_rfl) (fun _ _ _ h => h) (Or.inl ⟨by rfl, ?_⟩) hHeld2 ?_
      · intro wq hSq
        clear hSq
        go_simp
      (try simp only [Act.put, Sx0, Sx1, Sx2])
      refine wpAnyH_take (i := 12) (oi := ⟨some 28, .load 31 (.tmp 27), 31, "ref.go:54", #[⟨11, .data⟩], none⟩) (v := .slice ar rl cr) rfl (by kernel_rfl) (by kernel_rfl) (by kernel_rfl) (fun _ _ _ h => h) (Or.inl ⟨by rfl, ?_⟩) hHeld2 ?_
      · intro wq hSq
        have hq2 := hSq.2
        clear hSq
        go_simp
      (try simp only [Act.put, Sx0, Sx1, Sx2])
      refine wpAnyH_ready (rs := [13]) (by kernel_rfl) (by simp) ?_
      refine AllReadyH.cons (o := ⟨some 29, .call ⟨.value (.func 83), #[.tmp 16, .tmp 17, .tmp 28], #[30, 31, 31]⟩, 31, "ref.go:54", #[⟨0, .data⟩, ⟨1, .data⟩, ⟨12, .data⟩, ⟨9, .chain⟩], none⟩) rfl (fun Kr hKr => ?_) AllReadyH.nil
      go_simp
      refine (HME.out w7 HB7.out).mono ?_
      rintro e w8 ⟨ov8, rfl, m8, ch8, r8⟩
      have hS8 := HSB2.out w7 w8 HB7.out m8.chg
      have M8 := mkHid m8
      have CH8 := mkHid ch8
      obtain ⟨a8, c8, e8, _⟩ := r8.len
      rw [ucells_len, ← HM2.out] at e8
      have R8 := mkHid r8
      clear m8 ch8 r8
      go_wp2_with fail
      refine hKr.out _ _ hS8 (fun hHeld3 => ?_)
      clear hKr Kr
      (try simp only [Act.put, Sx0, Sx1, Sx2])
      subst e8
      refine wpAnyH_take (i := 14) (oi := ⟨some 3, .assign (.tmp 29), 31, "ref.go:54", #[⟨13, .data⟩, ⟨13, .chain⟩, ⟨0, .phase⟩, ⟨1, .phase⟩, ⟨2, .phase⟩, ⟨3, .phase⟩, ⟨4, .phase⟩, ⟨5, .phase⟩, ⟨6, .phase⟩, ⟨7, .phase⟩, ⟨8, .phase⟩, ⟨9, .phase⟩, ⟨10, .phase⟩, ⟨11, .phase⟩, ⟨12, .phase⟩, ⟨13, .phase⟩], none⟩) (v := .slice a8 m2 c8) rfl (by kernel_rfl) (by kernel_rfl) (by kernel_rfl) (fun _ _ _ h => h) (Or.inl ⟨by rfl, ?_⟩) hHeld3 ?_
      · intro wq hSq
        clear hSq
        go_simp
      (try simp only [Act.put, Sx0, Sx1, Sx2])
      refine wpAnyH_done (by kernel_rfl) ?_ _
      have HB8 : Hid (Below W.heap.size W w8) := by
        have h6 := HB6.out
        have h7 := HB7.out
        have ch := CH8.out
        have h67 : Below W.heap.size W w7 := h6.trans ((show Below wr.heap.size wr w7 from ⟨h7.os, h7.tape, h7.output, h7.size, h7.block⟩).mono h6.size)
        exact h67.trans ⟨ch.os, ch.tape, ch.output, ch.size, fun k hk => ch.block k (Nat.lt_of_lt_of_le hk h67.size) (fun e => by have := HU6.out k e; omega)⟩
      have HU8 : Hid (∀ k, (Value.slice a8 m2 c8).ownBlock = some k → W.heap.size ≤ k) := fun k hk => by
        rcases M8.out.sub k (Or.inr hk) with (h | h) | h
        · exact absurd h (R8.out.2 k hk)
        · exact HU6.out k h
        · have h6 := HB6.out.size
          have h7 : wr.heap.size ≤ w7.heap.size := HB7.out.size
          omega
      clear hHeld hHeld2 hHeld3 hS7 hS8
      go_wp2_with fail
      go_roundw
      case rel => exact ⟨k + 1, a8, c8, by go_num, by rw [← HM2.out], HLE.out, fun j hj => HALL2.out j hj, HB8.out, HU8.out, R8.out⟩
      case measure => simp [intOf]; omega
    · have hke : k = (ordK Os rt k).length := by omega
      have HKE := mkHid hke
      have HB6 := mkHid hb6
      have HR6 := mkHid hr6
      have HALL := mkHid hall
      obtain ⟨m, hm⟩ : ∃ m, m = (ordK Os rt k).length := ⟨_, rfl⟩
      rw [← hm]
      have hkm : k = m := by omega
      have HMM := mkHid hm
      subst hkm
      clear hke hm hb6 hr6 hall hu6 hlt hkl
      go_wp2_with fail
      go_ret
      have hbw := HBW.out
      refine ⟨_, k, rfl, hbw.trans (HB6.out.mono hbw.size), ?_, HKE.out, HALL.out⟩
      have := HR6.out
      rw [← HMM.out] at this
      exact this
end
end Go.Proofs.Ytjappkiiokpjjaa

/- The document's Reached. -/
namespace Go.Proofs.Ytjappkiiokpjjaa
open Go.RowKit

section
variable {own : Nat → Prop} {w : World}
set_option maxHeartbeats 2000000 in
set_option maxRecDepth 100000 in
theorem rhReached {a : Option Addr} {Os : List Ob} (hm : MH own w a Os) (hown : ∀ k, own k → k < w.heap.size) (hb : Os.length ≤ 1048576) {rt : List Nat} (hrl : rt.length = 16) (hrw : ∀ k, rt.getD k 0 < 18446744073709551616) (hww : ∀ k j, k < Os.length → (refsO (oat Os k)).getD j 0 < 18446744073709551616) (hrf : ∀ k, k < Os.length → (refsO (oat Os k)).length ≤ 1048576) {c k : Nat} (hk : k < Os.length) : Calls Try.prog 31 #[.agg (Value.slice a Os.length c :: rt.map (fun x : Nat => Value.int .u64 (x : Int))).toArray, .int .u64 (hnd k 1 : Nat)] w fun e w' => ∃ r : Bool, e = .returned (.bool r) ∧ (r = true ↔ Rch Os rt k) ∧ Below w.heap.size w w' := by
  obtain ⟨W, hW⟩ : ∃ W, W = w.alloc (.cells (Value.slice a Os.length c :: rt.map (fun x : Nat => Value.int .u64 (x : Int))).toArray 30) := ⟨_, rfl⟩
  have hbw : Below w.heap.size w W := by rw [hW]; exact (Below.refl _ _).alloc (Nat.le_refl _) _
  have hBX : W.heap[w.heap.size]? = some (.cells (Value.slice a Os.length c :: rt.map (fun x : Nat => Value.int .u64 (x : Int))).toArray 30 (0, 0)) := by rw [hW]; exact heap_alloc_new _ _
  have hra : W.rangeAt w.heap.size 0 (Value.slice a Os.length c :: rt.map (fun x : Nat => Value.int .u64 (x : Int))) := fun j v hv => by
    rw [cell_of_row W _ _ _ _ _ hBX, Nat.zero_add]; simpa using hv
  have HO := mkHid (rhOrder (hm.below hbw) (fun k hk => Nat.lt_of_lt_of_le (hown k hk) hbw.size) hb hrl hrw hww hrf (c := c))
  have hmem := fun {K : Nat} (h1 : K = (ordK Os rt K).length) (h2 : ∀ j, j < K → j < (ordK Os rt j).length) => mem_ord h1 h2 hb hk
  have HMEM : Hid (∀ (K : Nat), K = (ordK Os rt K).length → (∀ j, j < K → j < (ordK Os rt j).length) → (hnd k 1 ∈ ordK Os rt K ↔ Rch Os rt k)) := fun K h1 h2 => hmem h1 h2
  have HFEW : Hid (∀ K, (ordK Os rt K).length ≤ 1048576) := fun K => Nat.le_trans (ordK_few hb K) hb
  obtain ⟨l, hl⟩ : ∃ l, l = rt.map (fun x : Nat => Value.int .u64 (x : Int)) := ⟨_, rfl⟩
  have hl17 : (Value.slice a Os.length c :: l).length = 17 := by rw [hl]; simp [hrl]
  rw [← hl] at HO hra hW ⊢
  obtain ⟨x, hx⟩ : ∃ x, x = hnd k 1 := ⟨_, rfl⟩
  rw [← hx] at HMEM ⊢
  obtain ⟨n, hn⟩ : ∃ n, n = Os.length := ⟨_, rfl⟩
  rw [← hn] at HO hra hl17 hW ⊢
  have HW := mkHid hW
  have HBW := mkHid hbw
  clear hm hown hmem hl hx hn hbw hBX hW hb hk hww hrf
  go_enter Try.func31, Try.ntmps31
  refine wp_seq_k (fun K1 hkA => ?_)
  have HK1 := mkHid hkA
  clear hkA
  go_wp2_with fail
  rw [← HW.out]
  refine HK1.out _ _ ?_
  clear HK1
  refine wp_seq_k (fun K2 hkB => ?_)
  have HK2 := mkHid hkB
  clear hkB
  refine wp_region_list ?_
  refine wpList_load_mid rfl 30 _ rfl w.heap.size 0 rfl _ _ hra Try.underlying30 rfl (by rw [hl17]; exact infoHp) ?_
  go_wp2_with fail
  refine HO.out.mono ?_
  rintro e w1 ⟨v, K, rfl, b1, r1, e1, e2⟩
  obtain ⟨va, vc, ev, _⟩ := r1.len
  rw [ucells_len] at ev
  subst ev
  have HNU := mkHid (rhNumber (own := fun _ => False) (w := w1) (rw_ri r1) (HFEW.out K) vc x)
  have HM := mkHid (HMEM.out K e1 e2)
  have HB1 := mkHid b1
  obtain ⟨xs, hxs⟩ : ∃ xs, xs = ordK Os rt K := ⟨_, rfl⟩
  rw [← hxs] at HNU HM ⊢
  obtain ⟨m, hm⟩ : ∃ m, m = xs.length := ⟨_, rfl⟩
  rw [← hm] at HNU ⊢
  clear b1 r1 e1 e2 hxs hm
  go_wp2_with fail
  refine HNU.out.mono ?_
  rintro e w2 ⟨rfl, rfl⟩
  have hbb := HBW.out.trans (HB1.out.mono HBW.out.size)
  have HBB := mkHid hbb
  clear hbb
  by_cases h0 : 0 ≤ numI xs x
  · go_wp2_with fail
    refine HK2.out _ _ ?_
    go_wp2_with fail
    go_ret
    exact ⟨_, rfl, by simp [HM.out.symm, ← numI_mem, h0], HBB.out⟩
  · go_wp2_with fail
    refine HK2.out _ _ ?_
    go_wp2_with fail
    go_ret
    exact ⟨_, rfl, by simp [HM.out.symm, ← numI_mem], HBB.out⟩
end
end Go.Proofs.Ytjappkiiokpjjaa
