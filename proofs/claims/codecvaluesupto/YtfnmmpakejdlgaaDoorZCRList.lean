/- The document's own take at a List. -/
import Derived.Test.YtfnmmpakejdlgaaDoorZCRText
import Derived.Test.YtfnmmpakejdlgaaDoorZCReply
namespace Go.Proofs.YtfnmmpakejdlgaaDoor
open Go.RowKit

/-- One part more in a List that is read. -/
theorem part_step {B Y j : Nat} {w wr w5 w6 : World} {row v6 a0 a1 a2 a4 : Value} {ob : Obj} {fs : List Fl} {f : Fl} (hY : Y < B) (hwY : w.heap.size ≤ Y) (hy : Blk5 wr Y a0 a1 a2 row a4) (hBw : B ≤ wr.heap.size) (hO : RowKit.Below w.heap.size w wr) (hw : wr.ownsRow B 29 5 row j (valCells (fs.map Fl.val))) (ht : ∀ x ∈ fs, Off (hid B row []) wr x.g x.val)
    (o5 : RowKit.Below wr.heap.size wr w5) (f5 : From wr.heap.size w5 f.g f.val) (own6 : w6.ownsRow B 29 5 v6 (j + 1) (valCells (fs.map Fl.val) ++ f.val.cells.toList)) (g6 : (w5.alloc ob).grownBy w6 row.ownBlock) (at6 : v6.ownBlock = row.ownBlock ∨ v6.ownBlock = some (w5.alloc ob).heap.size) :
    (Blk5 w6 Y a0 a1 a2 row a4) ∧ Blk5 (w6.setCell ⟨Y, 3, none⟩ v6) Y a0 a1 a2 v6 a4 ∧ (w6.setCell ⟨Y, 3, none⟩ v6).ownsRow B 29 5 v6 (j + 1) (valCells ((fs ++ [f]).map Fl.val)) ∧ (∀ x ∈ fs ++ [f], Off (hid B v6 []) (w6.setCell ⟨Y, 3, none⟩ v6) x.g x.val) ∧
      (∀ k, k < Y → (w6.setCell ⟨Y, 3, none⟩ v6).heap[k]? = wr.heap[k]?) ∧ RowKit.Below w.heap.size w (w6.setCell ⟨Y, 3, none⟩ v6) := by
  have hs5 := o5.size
  have hr : ∀ k, row.ownBlock = some k → B ≤ k ∧ k < wr.heap.size := fun k e => ⟨(own_blk hw e).2, (own_blk hw e).1⟩
  have hal : ∀ k, k < w5.heap.size → (w5.alloc ob).heap[k]? = w5.heap[k]? := fun k hk => ((RowKit.Below.refl _ w5).alloc (Nat.le_refl _) ob).block k hk
  have hsa : (w5.alloc ob).heap.size = w5.heap.size + 1 := by simp
  have h6 : ∀ k, k < w5.heap.size → row.ownBlock ≠ some k → w6.heap[k]? = w5.heap[k]? := fun k hk hn => (g6.block k (by omega) (fun e => hn e.symm)).trans (hal k hk)
  have hnY : row.ownBlock ≠ some Y := fun e => by have := (hr Y e).1; omega
  have y6 : Blk5 w6 Y a0 a1 a2 row a4 := by
    unfold Blk5
    rw [h6 Y (by omega) hnY, o5.block Y (by omega)]
    exact hy
  have hv6 : ∀ k, v6.ownBlock = some k → B ≤ k := fun k e => (own_blk own6 e).2
  have hvY : v6.ownBlock ≠ some Y := fun e => by have := hv6 Y e; omega
  have hset : ∀ k, k ≠ Y → (w6.setCell ⟨Y, 3, none⟩ v6).heap[k]? = w6.heap[k]? := fun k hk => heap_other hk
  refine ⟨y6, y6.set3, ?_, ?_, ?_, ?_⟩
  · rw [List.map_append, show [f].map Fl.val = [f.val] from rfl, valCells_snoc]
    exact own_keep own6 fun k e => hset k (fun e2 => hvY (by rw [e, e2]))
  · intro x hx
    rcases List.mem_append.1 hx with hx | hx
    · refine (ht x hx).keep fun b hb hp => ?_
      obtain ⟨p1, p2, _⟩ := hid_false.1 hp
      refine ⟨hid_false.2 ⟨p1, ?_, fun y hy => absurd hy (by simp)⟩, ?_⟩
      · intro e
        rcases at6 with e6 | e6
        · exact p2 (e6 ▸ e)
        · rw [e6] at e
          simp at e
          omega
      · rw [hset b (by omega), h6 b (by omega) p2, o5.block b hb]
    · obtain rfl : x = f := by simpa using hx
      have h0 : Off (hid B row []) w5 x.g x.val := off_from2 f5 fun b hb => hid_false.2 ⟨by omega, fun e => by have := (hr b e).2; omega, fun y hy => absurd hy (by simp)⟩
      refine h0.keep fun b hb hp => ?_
      obtain ⟨p1, p2, _⟩ := hid_false.1 hp
      refine ⟨hid_false.2 ⟨p1, ?_, fun y hy => absurd hy (by simp)⟩, ?_⟩
      · intro e
        rcases at6 with e6 | e6
        · exact p2 (e6 ▸ e)
        · rw [e6] at e
          simp at e
          omega
      · rw [hset b (by omega), h6 b hb p2]
  · intro k hk
    rw [hset k (by omega), h6 k (by omega) (fun e => by have := (hr k e).1; omega), o5.block k (by omega)]
  · have h5 := hO.trans (o5.mono hO.size)
    have h5a := h5.alloc h5.size ob
    have h66 : RowKit.Below w.heap.size w w6 := h5a.grown g6 h5a.size (fun k e => by have := (hr k e).1; omega)
    exact h66.setCell hwY _

/-- The List that was read. -/
theorem part_end {B C j dc : Nat} {da : Option Addr} {wr w' : World} {fs : List Fl} (hC : C ≤ B) (hW : ∀ k, B ≤ k → w'.heap[k]? = wr.heap[k]?) (hl : fs.length = j) (hw : wr.ownsRow B 29 5 (.slice da j dc) j (valCells (fs.map Fl.val))) (ht : ∀ x ∈ fs, Off (hid B (.slice da j dc) []) wr x.g x.val) :
    From C w' (partsG false (fs.map fun f => (f.nm, f.g))) (.agg #[.int .i64 5, .int .i64 0, .string ⟨#[]⟩, .slice da j dc, .slice none 0 0]) := by
  have h1 : (mask C w').ownsRow B 29 5 (.slice da j dc) j (valCells (fs.map Fl.val)) := own_keep hw fun k e => by
    have := (own_blk hw e).2
    rw [mask_block (by omega)]
    exact hW k this
  obtain ⟨a, c, e1, e2, e3, e4⟩ := vals_own (l := pg (fs.map fun f => (f.nm, f.g))) h1 (by simp [hl]) (fun i hi => by
    have hi2 : i < fs.length := by simpa using hi
    have hL := (ht _ (List.getElem_mem hi2)).keep (p' := hid B (.slice da j dc) []) (w' := w') fun b _ hp => ⟨hp, hW b (hid_false.1 hp).1⟩
    have := Lies.mono (w' := mask C w') (fun b o u hc => mask_cell.2 ⟨by have := (hid_false.1 (hide_cell.1 hc).1).1; omega, (hide_cell.1 hc).2⟩) hL
    simpa [pg, hi2] using this)
  cases e1
  unfold From partsG
  simp only [Bool.false_eq_true, if_false, List.length_map, hl]
  exact ⟨da, dc, none, 0, rfl, ⟨by omega, by omega⟩, ⟨by omega, by omega⟩, by decide, e2, e3, by omega, by unfold maxLen; omega, e4, fun i hi => absurd hi (Nat.not_lt_zero _)⟩

set_option maxHeartbeats 8000000 in
set_option maxRecDepth 1000000 in
theorem rtake_list (a : Option Addr) (c p ab d : Nat) (l : List UInt8) (r : GV × Nat × Int) (w : World) (x : Nat) (hB : Byts w a l) (hl : l.length ≤ 140737488355328) (hp : p < l.length) (hx : x = (l.getD p 0).toNat) (hk : x = 5) (_hlc : l.length ≤ c) (_hcm : c ≤ maxLen) (hab : ab < 8) (hr : r = begR (takeR l d) l (p + 1) false)
    (hIH : ∀ (u : World) (q : Nat), RowKit.Below w.heap.size w u → q ≤ l.length → Calls Tryd.prog 50 #[.slice a l.length c, .int .i64 q, .int .i64 ((ab : Int) + 1)] u fun e w' => RTSay u l (takeR l d q) q e w') :
    Calls Tryd.prog 50 #[.slice a l.length c, .int .i64 p, .int .i64 ab] w fun e w' => RTSay w l r p e w' := by
  have hml : maxLen = 9223372036854775807 := rfl
  obtain ⟨i0, hi, hz0, hz1, hz2⟩ := info_parts infoVal
  obtain ⟨Q, hQ⟩ : ∃ Q : Ending → World → Prop, Q = fun e w' => RTSay w l r p e w' := ⟨_, rfl⟩
  have HQe : Hid (∀ w' x, RowKit.Below w.heap.size w w' → r = (.nil, 0, x) → x ≠ 0 → Q (.returned (.tuple #[.agg #[.int .i64 0, .int .i64 0, .string ⟨#[]⟩, .slice none 0 0, .slice none 0 0], .int .i64 0, .int .i64 x])) w') := by
    intro w' x h1 h2 h3
    rw [hQ]
    refine ⟨h1, Or.inr ?_⟩
    rw [h2]
    exact ⟨h3, rfl⟩
  have HQo : Hid (∀ w' g q da m dc, RowKit.Below w.heap.size w w' → r = (g, q, 0) → q ≤ l.length → p < q → From w.heap.size w' g (.agg #[.int .i64 5, .int .i64 0, .string ⟨#[]⟩, .slice da m dc, .slice none 0 0]) → Q (.returned (.tuple #[.agg #[.int .i64 5, .int .i64 0, .string ⟨#[]⟩, .slice da m dc, .slice none 0 0], .int .i64 ((q : Nat) : Int), .int .i64 0])) w') := by
    intro w' g q da m dc h1 h2 h3 h4 h5
    rw [hQ]
    refine ⟨h1, Or.inl ?_⟩
    rw [h2]
    exact ⟨rfl, _, _, _, _, _, _, _, _, _, rfl, h3, h4, h5⟩
  rw [← hQ]
  obtain ⟨b, o, rfl⟩ := byts_some hB (by omega)
  have hc0 := byts_cell hB hp
  rw [show (l.getD p 0).toNat = x from hx.symm] at hc0
  obtain ⟨n, hn⟩ : ∃ n, n = l.length := ⟨_, rfl⟩
  have HB := mkHid hB
  have HIH := mkHid hIH
  rw [← hn] at hp hl HIH ⊢
  have h1 : (p : Int) < (n : Int) := by omega
  have habi : ¬ ((8 : Int) ≤ (ab : Int)) := by omega
  have hbl : b < w.heap.size := cell_lt' hc0
  have hbl1 : b < w.heap.size + 1 := by omega
  have hbl2 : b < w.heap.size + 1 + 1 := by omega
  subst hk
  obtain ⟨p1, hp1e⟩ : ∃ p1, p1 = p + 1 := ⟨_, rfl⟩
  have hpi : (p : Int) + 1 = (p1 : Int) := by omega
  rw [← hp1e] at hr
  obtain ⟨t, ht⟩ : ∃ t, t = numR (l.drop p1) 0 0 := ⟨_, rfl⟩
  obtain ⟨m, hm⟩ : ∃ m, m = t.1 := ⟨_, rfl⟩
  obtain ⟨q, hq⟩ : ∃ q, q = p1 + t.2.1 := ⟨_, rfl⟩
  have HR1 : Hid (r = if t.2.2 ≠ 0 then (.nil, 0, t.2.2) else if 32 < m then (.nil, 0, 15) else closeR false (partsR (takeR l d) l false m q [] [])) := by
    show r = _
    rw [hr, begR]
    have e : cntR (l.drop p1) 0 32 15 = if t.2.2 ≠ 0 then (0, 0, t.2.2) else if 32 < m then (0, 0, 15) else (m, t.2.1, 0) := by
      unfold cntR
      rw [← ht, hm]
      simp
    rw [e]
    by_cases h1 : t.2.2 ≠ 0
    · rw [if_pos h1, if_pos h1, if_pos h1]
    · rw [if_neg h1, if_neg h1]
      by_cases h2 : 32 < m
      · rw [if_pos h2, if_pos h2]
        rfl
      · rw [if_neg h2, if_neg h2, hq]
        rfl
  have HN : Hid (∀ u, RowKit.Below w.heap.size w u → Calls Tryd.prog 21 #[.slice (some ⟨b, o, none⟩) n c, .int .i64 p1] u fun e w' => e = .returned (.tuple #[.int .u64 (m : Int), .int .i64 ((if t.2.2 = 0 then q else 0 : Nat) : Int), .int .i64 t.2.2]) ∧ w' = u) := by
    intro u hu
    rw [hm, hq, ht, hn]
    exact rNumber_any (some ⟨b, o, none⟩) c p1 l u (HB.out.below hu) (by omega) (by omega)
  have hlt : m < 18446744073709551616 := by rw [hm, ht]; exact numR_lt _ _ _ (by omega)
  have HLE0 : Hid (t.2.2 = 0 → q ≤ n ∧ p1 < q) := by
    intro h
    rw [hq]
    rw [ht] at h ⊢
    have h1 := numR_le l p1 (by omega) h
    have h2 := numR_pos _ _ _ h
    exact ⟨by omega, by omega⟩
  have HP1 := mkHid hp1e
  obtain ⟨W3, hW3⟩ : ∃ W3, W3 = ((w.alloc (.cells #[.int .i64 0, .int .i64 0, .string ⟨#[]⟩, .slice none 0 0, .slice none 0 0] 29)).alloc (.cells #[.int .i64 0, .int .i64 0, .string ⟨#[]⟩, .slice none 0 0, .slice none 0 0] 29)).alloc (.cells #[.int .i64 5, .int .i64 0, .string ⟨#[]⟩, .slice none 0 0, .slice none 0 0] 29) := ⟨_, rfl⟩
  have hs3 : W3.heap.size = w.heap.size + 3 := by rw [hW3]; simp
  have HB3 : Hid (RowKit.Below w.heap.size w W3) := by
    show RowKit.Below _ _ _
    rw [hW3]
    exact (((RowKit.Below.refl _ w).alloc (Nat.le_refl _) _).alloc (by simp) _).alloc (by simp; omega) _
  have HZ6 : Hid (Blk5 W3 w.heap.size (.int .i64 0) (.int .i64 0) (.string ⟨#[]⟩) (.slice none 0 0) (.slice none 0 0)) := by
    rw [hW3]
    exact ((Blk5.new w _ _ _ _ _).below ((RowKit.Below.refl _ _).alloc (Nat.le_refl _) _)).below ((RowKit.Below.refl _ _).alloc (Nat.le_refl _) _)
  have HZ9 : Hid (Blk5 W3 (w.heap.size + 1) (.int .i64 0) (.int .i64 0) (.string ⟨#[]⟩) (.slice none 0 0) (.slice none 0 0)) := by
    rw [hW3]
    have h := (Blk5.new (w.alloc (.cells #[.int .i64 0, .int .i64 0, .string ⟨#[]⟩, .slice none 0 0, .slice none 0 0] 29)) (.int .i64 0) (.int .i64 0) (.string ⟨#[]⟩) (.slice none 0 0) (.slice none 0 0)).below ((RowKit.Below.refl _ _).alloc (Nat.le_refl _) (.cells #[.int .i64 5, .int .i64 0, .string ⟨#[]⟩, .slice none 0 0, .slice none 0 0] 29))
    show Blk5 _ _ _ _ _ _ _
    simpa using h
  have HZ10 : Hid (Blk5 W3 (w.heap.size + 1 + 1) (.int .i64 5) (.int .i64 0) (.string ⟨#[]⟩) (.slice none 0 0) (.slice none 0 0)) := by
    rw [hW3]
    have h := Blk5.new ((w.alloc (.cells #[.int .i64 0, .int .i64 0, .string ⟨#[]⟩, .slice none 0 0, .slice none 0 0] 29)).alloc (.cells #[.int .i64 0, .int .i64 0, .string ⟨#[]⟩, .slice none 0 0, .slice none 0 0] 29)) (.int .i64 5) (.int .i64 0) (.string ⟨#[]⟩) (.slice none 0 0) (.slice none 0 0)
    show Blk5 _ _ _ _ _ _ _
    simpa using h
  have HW3 := mkHid hW3
  have HNL := mkHid hn
  clear hr hx hB hn hp1e ht hm hq hW3 hIH hQ
  by_cases he : t.2.2 = 0
  · have HN2 : Hid (∀ u, RowKit.Below w.heap.size w u → Calls Tryd.prog 21 #[.slice (some ⟨b, o, none⟩) n c, .int .i64 p1] u fun e w' => e = .returned (.tuple #[.int .u64 (m : Int), .int .i64 (q : Int), .int .i64 0]) ∧ w' = u) := by
      intro u hu
      have h := HN.out u hu
      rw [if_pos he, he] at h
      exact h
    obtain ⟨hql, hqp⟩ := HLE0.out he
    by_cases hbig : 32 < m
    · have HR : Hid (r = (.nil, 0, 15)) := by
        show r = _
        rw [HR1.out, if_neg (by simpa using he), if_pos hbig]
      have hbi : (32 : Int) < (m : Int) := by omega
      have HBW := HB3.out
      rw [HW3.out] at HBW
      have HB3' := mkHid HBW
      clear he HN HLE0 HR1 HZ6 HZ9 HZ10 HBW
      go_enter Tryd.func50, Tryd.ntmps50
      go_wp2_with fail
      refine (HN2.out _ HB3'.out).mono ?_
      rintro e w1 ⟨rfl, rfl⟩
      go_wp2_with fail
      refine bodyPost_ret (v := .tuple #[.agg #[.int .i64 0, .int .i64 0, .string ⟨#[]⟩, .slice none 0 0, .slice none 0 0], .int .i64 0, .int .i64 15]) ?_ rfl ?_
      · have hres : Tryd.f50.results = #[.cell 6 29, .tmp 7, .tmp 8] := by kernel_rfl
        simp only [results, hres]
        go_simp
      · refine HQe.out _ 15 ?_ HR.out (by decide)
        repeat (first | with_reducible exact HB3'.out | apply RowKit.Below.drew | refine RowKit.Below.setCell ?_ (by simp) _ | exact RowKit.Below.refl _ _ | refine RowKit.Below.alloc ?_ (by simp; omega) _ | refine RowKit.Below.alloc ?_ (by simp) _ | refine RowKit.Below.alloc ?_ (Nat.le_refl _) _)
    · have hbi : ¬ ((32 : Int) < (m : Int)) := by omega
      have HR2 : Hid (r = closeR false (partsR (takeR l d) l false m q [] [])) := by
        show r = _
        rw [HR1.out, if_neg (by simpa using he), if_neg hbig]
      have HBW := HB3.out
      rw [HW3.out] at HBW
      have HB3' := mkHid HBW
      have cm : IntKind.i64.wrap (m : Int) = (m : Int) := by rw [IntKind.wrap_i64]; omega
      clear he HN HLE0 HR1 HBW
      go_enter Tryd.func50, Tryd.ntmps50
      go_wp2_with fail
      refine (HN2.out _ HB3'.out).mono ?_
      rintro e w1 ⟨rfl, rfl⟩
      go_wp2_with fail
      rw [← HW3.out]
      go_loopw [1, 16] (fun at_ i wr => ∃ (j q' : Nat) (fs : List Fl) (da : Option Addr) (dc : Nat), i = .int .i64 j ∧ at_ = .int .i64 q' ∧ j ≤ m ∧ q' ≤ n ∧ p < q' ∧ fs.length = j ∧ (∀ f ∈ fs, f.nm = ⟨#[]⟩) ∧ RowKit.Below w.heap.size w wr ∧ Blk5 wr w.heap.size (.int .i64 0) (.int .i64 0) (.string ⟨#[]⟩) (.slice none 0 0) (.slice none 0 0) ∧ Blk5 wr (w.heap.size + 1) (.int .i64 0) (.int .i64 0) (.string ⟨#[]⟩) (.slice none 0 0) (.slice none 0 0) ∧ Blk5 wr (w.heap.size + 1 + 1) (.int .i64 5) (.int .i64 0) (.string ⟨#[]⟩) (.slice da j dc) (.slice none 0 0) ∧ wr.ownsRow W3.heap.size 29 5 (.slice da j dc) j (valCells (fs.map Fl.val)) ∧ (∀ f ∈ fs, Off (hid W3.heap.size (.slice da j dc) []) wr f.g f.val) ∧ r = closeR false (partsR (takeR l d) l false (m - j) q' (fs.map fun f => (f.nm, f.g)) [])) (fun _ i _ => m - (intOf i).toNat)
      case atStart => exact ⟨0, q, [], none, 0, rfl, rfl, by omega, hql, by omega, rfl, fun f hf => absurd hf (by simp), HB3.out, HZ6.out, HZ9.out, HZ10.out, ⟨rfl, Or.inl ⟨rfl, rfl⟩⟩, fun f hf => absurd hf (by simp), HR2.out⟩
      case round =>
        obtain ⟨j, q', fs, da, dc, rfl, rfl, hj, hqn, hpq, hfl, hnm, hb, z6, z9, z10, hw, ht, hrr⟩ := hrel
        have hylt := z10.lt
        by_cases hlt2 : j < m
        · have HC := mkHid (HIH.out wr q' hb hqn)
          have hji : (j : Int) < (m : Int) := by omega
          obtain ⟨c0, c1, c2, c3, c4⟩ := z10.cells
          have HBb := mkHid hb
          have Z6 := mkHid z6
          have Z9 := mkHid z9
          have Z10 := mkHid z10
          have HHW := mkHid hw
          have HHT := mkHid ht
          have HRR := mkHid hrr
          have HFL := mkHid hfl
          have HNM := mkHid hnm
          have habw : IntKind.i64.wrap ((ab : Int) + 1) = (ab : Int) + 1 := by rw [IntKind.wrap_i64]; omega
          clear hb z6 z9 z10 hw ht hrr hfl hnm
          go_wp2_with fail
          refine HC.out.mono ?_
          rintro e w5 ⟨b5, h5⟩
          obtain ⟨tk, htk⟩ : ∃ tk, tk = takeR l d q' := ⟨_, rfl⟩
          rw [← htk] at h5
          have HTK := mkHid htk
          clear htk
          rcases h5 with ⟨h0, kk, nn, s5, la5, ln5, lc5, fa5, fn5, fc5, rfl, hle5, hlt5, hfr⟩ | ⟨h0, rfl⟩
          · obtain ⟨q5, hq5⟩ : ∃ q5, q5 = tk.2.1 := ⟨_, rfl⟩
            rw [← hq5] at hle5 hlt5 ⊢
            obtain ⟨W5, hW5⟩ : ∃ W5, W5 = w5.alloc (.cells #[.int .i64 kk, .int .i64 nn, .string s5, .slice la5 ln5 lc5, .slice fa5 fn5 fc5] 29) := ⟨_, rfl⟩
            have a5 : RowKit.Below w5.heap.size w5 W5 := by rw [hW5]; exact (RowKit.Below.refl _ w5).alloc (Nat.le_refl _) _
            have p5 : Blk5 W5 w5.heap.size (.int .i64 kk) (.int .i64 nn) (.string s5) (.slice la5 ln5 lc5) (.slice fa5 fn5 fc5) := by rw [hW5]; exact Blk5.new w5 _ _ _ _ _
            have b5' := b5.trans (a5.mono b5.size)
            have y5 := Z10.out.below b5'
            obtain ⟨d0, d1, d2, d3, d4⟩ := y5.cells
            obtain ⟨e0, e1, e2, e3, e4⟩ := p5.cells
            have hf5 : From wr.heap.size W5 tk.1 (.agg #[.int .i64 kk, .int .i64 nn, .string s5, .slice la5 ln5 lc5, .slice fa5 fn5 fc5]) := hfr.below a5
            have hs5 := b5'.size
            have HOW : Hid (∀ ob : Obj, (W5.alloc ob).ownsRow W3.heap.size 29 5 (.slice da j dc) j (valCells (fs.map Fl.val))) := fun ob => own_below HHW.out (b5'.alloc b5'.size ob)
            have HC5 : Hid (∀ k u, [Value.int .i64 kk, .int .i64 nn, .string s5, .slice la5 ln5 lc5, .slice fa5 fn5 fc5][k]? = some u → (W5.alloc (.cells #[.int .i64 kk, .int .i64 nn, .string s5, .slice la5 ln5 lc5, .slice fa5 fn5 fc5] 29)).cell? ((⟨W5.heap.size, 0, none⟩ : Addr).add k) = some u) := by
              intro k u hk
              have h := cell_of_row (W5.alloc (.cells #[.int .i64 kk, .int .i64 nn, .string s5, .slice la5 ln5 lc5, .slice fa5 fn5 fc5] 29)) W5.heap.size k _ _ _ (heap_alloc_new W5 _)
              rw [show (⟨W5.heap.size, 0, none⟩ : Addr).add k = ⟨W5.heap.size, k, none⟩ by simp [Addr.add]; omega, h]
              simpa using hk
            have HST : Hid (∀ (w6 : World) (v6 : Value) (ob : Obj), w6.ownsRow W3.heap.size 29 5 v6 (j + 1) (valCells (fs.map Fl.val) ++ [.int .i64 kk, .int .i64 nn, .string s5, .slice la5 ln5 lc5, .slice fa5 fn5 fc5]) → (W5.alloc ob).grownBy w6 (Value.slice da j dc).ownBlock → (v6.ownBlock = (Value.slice da j dc).ownBlock ∨ v6.ownBlock = some (W5.alloc ob).heap.size) → _) := fun w6 v6 ob h3 h4 h5 =>
              part_step (f := ⟨⟨#[]⟩, kk, nn, s5, la5, ln5, lc5, fa5, fn5, fc5, tk.1⟩) (Y := w.heap.size + 1 + 1) (by omega) (by omega) Z10.out (by omega) HBb.out HHW.out HHT.out b5' hf5 h3 h4 h5
            have H0 := mkHid h0
            have HW5 := mkHid hW5
            have HQ5 := mkHid hq5
            have hw5s : W5.heap.size = w5.heap.size + 1 := by rw [hW5]; simp
            clear h0 hfr b5 a5 p5 b5' y5 hf5 hW5 hq5 c0 c1 c2 c3 c4
            rw [HW5.out] at d0 d1 d2 d3 d4 e0 e1 e2 e3 e4
            have HOWs := mkHid (HOW.out (.cells #[.int .i64 kk, .int .i64 nn, .string s5, .slice la5 ln5 lc5, .slice fa5 fn5 fc5] 29))
            have HC5s := mkHid HC5.out
            rw [hw5s] at HC5s
            rw [HW5.out] at HOWs HC5s
            go_wp2_with (at_builtin; refine wpList_append_own_at _ rfl _ _ 26 rfl W3.heap.size 29 i0 _ 5 80 Tryd.underlying26 hi hz0 hz1 hz2 rfl (by decide) _ _ _ rfl HOWs.out ⟨w5.heap.size + 1, 0, none⟩ 1 1 [.int .i64 kk, .int .i64 nn, .string s5, .slice la5 ln5 lc5, .slice fa5 fn5 fc5] rfl rfl ?c1 ?c2 ?c3 ?c4 ?c5 ?_)
            case c1 => exact HC5s.out
            case c2 => intro u hu; simp at hu; rcases hu with rfl | rfl | rfl | rfl | rfl <;> rfl
            case c3 => omega
            case c4 => omega
            case c5 => simp; omega
            intro v6 w6 own6 g6 _ at6
            obtain ⟨gn, cn, rfl, _, _⟩ := own_form own6
            rw [← hs3] at own6
            rw [← HW5.out] at g6
            obtain ⟨y6, q1, q2, q3, q4, q5x⟩ := HST.out w6 _ _ own6 g6 (by rcases at6 with e | e; exact Or.inl e; right; rw [e]; simp [hw5s])
            obtain ⟨x0, x1, x2, x3, x4⟩ := y6.cells
            obtain ⟨f0, f1, f2, f3, f4⟩ := y6.free
            have Q1 := mkHid q1
            have Q2 := mkHid q2
            have Q3 := mkHid q3
            have Q4 := mkHid q4
            have Q5 := mkHid q5x
            clear own6 g6 at6 y6 q1 q2 q3 q4 q5x d0 d1 d2 d3 d4 e0 e1 e2 e3 e4
            go_wp2_with fail
            go_roundw
            case rel =>
              refine ⟨j + 1, q5, fs ++ [⟨⟨#[]⟩, kk, nn, s5, la5, ln5, lc5, fa5, fn5, fc5, tk.1⟩], some ⟨gn, 0, none⟩, cn, by go_num, rfl, by omega, by rw [HNL.out]; exact hle5, by omega, by simp [HFL.out], ?_, Q5.out, ?_, ?_, Q1.out, by first | exact Q2.out | (rw [← hs3]; exact Q2.out), by first | exact Q3.out | (rw [← hs3]; exact Q3.out), ?_⟩
              · intro f hf
                rcases List.mem_append.1 hf with hf | hf
                · exact HNM.out f hf
                · obtain rfl : f = _ := by simpa using hf
                  rfl
              · unfold Blk5
                rw [Q4.out w.heap.size (by omega)]
                exact Z6.out
              · unfold Blk5
                rw [Q4.out (w.heap.size + 1) (by omega)]
                exact Z9.out
              · rw [HRR.out, show m - j = (m - (j + 1)) + 1 by omega, partsR]
                simp only [Bool.false_eq_true, if_false, ne_eq, not_true_eq_false]
                rw [← HTK.out, if_neg (by simpa using H0.out), ← HQ5.out]
                simp
            case measure => simp [intOf]; omega
          · have b5w := HBb.out.trans (b5.mono HBb.out.size)
            have B5 := mkHid b5w
            obtain ⟨er, her⟩ : ∃ er, er = tk.2.2 := ⟨_, rfl⟩
            rw [← her] at h0 ⊢
            have heb : (er == 0) = false := by simpa using h0
            have HRF : Hid (r = (.nil, 0, er)) := by
              show r = _
              rw [HRR.out, show m - j = (m - (j + 1)) + 1 by omega, partsR]
              simp only [Bool.false_eq_true, if_false, ne_eq, not_true_eq_false]
              rw [← HTK.out, ← her, if_pos h0, closeR_err _ _ h0]
            obtain ⟨W5, hW5⟩ : ∃ W5, W5 = w5.alloc (.cells #[.int .i64 0, .int .i64 0, .string ⟨#[]⟩, .slice none 0 0, .slice none 0 0] 29) := ⟨_, rfl⟩
            have a5 : RowKit.Below w5.heap.size w5 W5 := by rw [hW5]; exact (RowKit.Below.refl _ w5).alloc (Nat.le_refl _) _
            have b5' := b5.trans (a5.mono b5.size)
            have y9 := Z9.out.below b5'
            have y6 := Z6.out.below b5'
            have y10 := Z10.out.below b5'
            rw [hW5] at y9 y6 y10
            obtain ⟨d0, d1, d2, d3, d4⟩ := y9.cells
            obtain ⟨e0, e1, e2, e3, e4⟩ := y6.cells
            obtain ⟨f0, f1, f2, f3, f4⟩ := y6.free
            have n1 : w.heap.size ≠ w.heap.size + 1 := by omega
            have n5 : w.heap.size + 1 ≠ w.heap.size := by omega
            have B5a := mkHid (b5w.alloc b5w.size (.cells #[.int .i64 0, .int .i64 0, .string ⟨#[]⟩, .slice none 0 0, .slice none 0 0] 29))
            have H0 := mkHid h0
            clear h0 b5 b5w a5 b5' y9 y6 y10 her hW5 c0 c1 c2 c3 c4
            go_wp2_with fail
            refine bodyPost_ret (v := .tuple #[.agg #[.int .i64 0, .int .i64 0, .string ⟨#[]⟩, .slice none 0 0, .slice none 0 0], .int .i64 0, .int .i64 er]) ?_ rfl ?_
            · have hres : Tryd.f50.results = #[.cell 6 29, .tmp 7, .tmp 8] := by kernel_rfl
              simp only [results, hres]
              go_simp
            · refine HQe.out _ er ?_ HRF.out H0.out
              repeat (first | with_reducible exact B5a.out | apply RowKit.Below.drew | refine RowKit.Below.setCell ?_ (by simp) _)
        · obtain rfl : m = j := by omega
          obtain ⟨c0, c1, c2, c3, c4⟩ := z10.cells
          obtain ⟨e0, e1, e2, e3, e4⟩ := z6.cells
          obtain ⟨f0, f1, f2, f3, f4⟩ := z6.free
          have n1 : w.heap.size ≠ w.heap.size + 1 + 1 := by omega
          have n5 : w.heap.size + 1 + 1 ≠ w.heap.size := by omega
          have HRF : Hid (r = (partsG false (fs.map fun f => (f.nm, f.g)), q', 0)) := by
            show r = _
            rw [hrr, Nat.sub_self]
            rfl
          have HFE : Hid (∀ w', (∀ k, W3.heap.size ≤ k → w'.heap[k]? = wr.heap[k]?) → From w.heap.size w' (partsG false (fs.map fun f => (f.nm, f.g))) (.agg #[.int .i64 5, .int .i64 0, .string ⟨#[]⟩, .slice da m dc, .slice none 0 0])) := fun w' h => part_end (by omega) h hfl hw ht
          have HBb := mkHid hb
          clear hb z6 z9 z10 hw ht hrr hfl hnm
          go_wp2_with fail
          refine bodyPost_ret (v := .tuple #[.agg #[.int .i64 5, .int .i64 0, .string ⟨#[]⟩, .slice da m dc, .slice none 0 0], .int .i64 (q' : Int), .int .i64 0]) ?_ rfl ?_
          · have hres : Tryd.f50.results = #[.cell 6 29, .tmp 7, .tmp 8] := by kernel_rfl
            simp only [results, hres]
            go_simp
          · refine HQo.out _ _ q' da m dc ?_ HRF.out (by rw [← HNL.out]; exact hqn) hpq (HFE.out _ ?_)
            · repeat (first | with_reducible exact HBb.out | apply RowKit.Below.drew | refine RowKit.Below.setCell ?_ (by simp) _)
            · intro k hk
              have hkn : k ≠ w.heap.size := by omega
              first
                | (rw [heap_other hkn, heap_other hkn, heap_other hkn, heap_other hkn, heap_other hkn])
                | (show (World.setCell _ _ _).heap[k]? = _; rw [heap_other hkn, heap_other hkn, heap_other hkn, heap_other hkn, heap_other hkn])
  · have HR : Hid (r = (.nil, 0, t.2.2)) := by
      show r = _
      rw [HR1.out, if_pos he]
    obtain ⟨er, her⟩ : ∃ er, er = t.2.2 := ⟨_, rfl⟩
    have HN2 : Hid (∀ u, RowKit.Below w.heap.size w u → Calls Tryd.prog 21 #[.slice (some ⟨b, o, none⟩) n c, .int .i64 p1] u fun e w' => e = .returned (.tuple #[.int .u64 (m : Int), .int .i64 0, .int .i64 er]) ∧ w' = u) := by
      intro u hu
      have h := HN.out u hu
      rw [if_neg he, ← her] at h
      exact h
    rw [← her] at HR he
    have heb : (er == 0) = false := by simpa using he
    have HE := mkHid he
    have HBW := HB3.out
    rw [HW3.out] at HBW
    have HB3' := mkHid HBW
    clear he HN HLE0 HR1 HZ6 HZ9 HZ10 HBW her
    go_enter Tryd.func50, Tryd.ntmps50
    go_wp2_with fail
    refine (HN2.out _ HB3'.out).mono ?_
    rintro e w1 ⟨rfl, rfl⟩
    go_wp2_with fail
    refine bodyPost_ret (v := .tuple #[.agg #[.int .i64 0, .int .i64 0, .string ⟨#[]⟩, .slice none 0 0, .slice none 0 0], .int .i64 0, .int .i64 er]) ?_ rfl ?_
    · have hres : Tryd.f50.results = #[.cell 6 29, .tmp 7, .tmp 8] := by kernel_rfl
      simp only [results, hres]
      go_simp
    · refine HQe.out _ er ?_ HR.out HE.out
      repeat (first | with_reducible exact HB3'.out | apply RowKit.Below.drew | refine RowKit.Below.setCell ?_ (by simp) _ | exact RowKit.Below.refl _ _ | refine RowKit.Below.alloc ?_ (by simp; omega) _ | refine RowKit.Below.alloc ?_ (by simp) _ | refine RowKit.Below.alloc ?_ (Nat.le_refl _) _)
end Go.Proofs.YtfnmmpakejdlgaaDoor
