/- Some texts in one: each opens with its own remark. -/
import Derived.Test.YtfnmmpakejdlgaaDoorZCPutV
/- codec.putValue of a List, the parts by what is known of them. -/
namespace Go.Proofs.YtfnmmpakejdlgaaDoor
open Go.RowKit

/-- The memory below a block alone. -/
def undr (B : Nat) (w : World) : World := { w with heap := w.heap.mapIdx fun i o => if i < B then o else .cells #[] 0 (0, 0) }
theorem undr_cell {B : Nat} {w : World} {b o : Nat} {u : Value} : (undr B w).cell? ⟨b, o, none⟩ = some u ↔ b < B ∧ w.cell? ⟨b, o, none⟩ = some u := by
  unfold undr World.cell?
  simp only [Array.getElem?_mapIdx]
  by_cases hb : b < B
  · simp only [hb, if_true, true_and]
    cases w.heap[b]? with
    | none => simp
    | some x => simp
  · simp only [hb, if_false, false_and, iff_false]
    cases w.heap[b]? with
    | none => simp
    | some x => simp
/-- The tree lies behind the value, all of it below a block. -/
def Und (B : Nat) (w : World) (g : GV) (v : Value) : Prop := Lies (undr B w) g v
theorem Und.lies {B : Nat} {w : World} {g : GV} {v : Value} (h : Und B w g v) : Lies w g v := Lies.mono (fun _ _ _ hc => (undr_cell.1 hc).2) h
theorem Und.keep {B : Nat} {w w' : World} {g : GV} {v : Value} (h : Und B w g v) (hb : RowKit.Below B w w') : Und B w' g v :=
  Lies.mono (fun b o u hc => undr_cell.2 ⟨(undr_cell.1 hc).1, by rw [hb.cell (p := ⟨b, o, none⟩) (undr_cell.1 hc).1]; exact (undr_cell.1 hc).2⟩) h
theorem und_all {w : World} {g : GV} {v : Value} (h : Lies w g v) : Und w.heap.size w g v := Lies.mono (fun _ _ _ hc => undr_cell.2 ⟨cell_lt hc, hc⟩) h
theorem at5_und {B : Nat} {w w' : World} {b o : Nat} {x0 x1 x2 x3 x4 : Value} (h : At5 (undr B w) b o (.agg #[x0, x1, x2, x3, x4])) (hb : RowKit.Below B w w') :
    w'.cell? ⟨b, o, none⟩ = some x0 ∧ w'.cell? ⟨b, o + 1, none⟩ = some x1 ∧ w'.cell? ⟨b, o + 2, none⟩ = some x2 ∧ w'.cell? ⟨b, o + 3, none⟩ = some x3 ∧ w'.cell? ⟨b, o + 4, none⟩ = some x4 := by
  obtain ⟨c0, c1, c2, c3, c4⟩ := h.five
  have key : ∀ p u, (undr B w).cell? ⟨b, p, none⟩ = some u → w'.cell? ⟨b, p, none⟩ = some u := fun p u hc => by rw [hb.cell (p := ⟨b, p, none⟩) (undr_cell.1 hc).1]; exact (undr_cell.1 hc).2
  exact ⟨key _ _ c0, key _ _ c1, key _ _ c2, key _ _ c3, key _ _ c4⟩

/-- What putValue does with a value. -/
def PutAny (g : GV) : Prop := ∀ (v0 : Value) (B : Nat) (d0 : List UInt8) (v : Value) (w : World), B ≤ w.heap.size → w.ownsRow B 5 1 v0 d0.length (Lib.byteCells d0) → Und B w g v → d0.length + g.enc.length ≤ 1000000 →
  Calls Tryd.prog 33 #[v0, v] w fun e w' => PutSay v0 B w (d0 ++ g.enc) e w'

theorem gro_ne {v0 v : Value} {w w' : World} {X : Nat} (g : Gro v0 w v w') (hX : X < w.heap.size) (h0 : some X ≠ v0.ownBlock) : some X ≠ v.ownBlock := by
  rcases g.lies with e | ⟨k, e, hk⟩
  · rw [e]
    exact h0
  · rw [e]
    intro h
    injection h with h
    omega
theorem own_ne {w : World} {B n : Nat} {v : Value} {xs : List Value} (h : w.ownsRow B 5 1 v n xs) : some w.heap.size ≠ v.ownBlock := fun e => by
  have := (h.lt _ e.symm).2
  omega

theorem flat_le {c : Nat → List UInt8} {j n : Nat} (h : j ≤ n) : ((List.range j).flatMap c).length ≤ ((List.range n).flatMap c).length := by
  obtain ⟨m, rfl⟩ : ∃ m, n = j + m := ⟨n - j, by omega⟩
  rw [List.range_add, List.flatMap_append, List.length_append]
  omega

set_option maxHeartbeats 4000000 in
set_option maxRecDepth 1000000 in
theorem putV_5 (n : Int) (s : ByteArray) (ln : Nat) (l : Nat → GV) (fn : Nat) (nm : Nat → ByteArray) (f : Nat → GV) (ih : ∀ i, i < ln → PutAny (l i)) (hl0 : ln ≤ 1000000) : PutAny (.mk 5 n s ln l fn nm f) := by
  intro v0 B d0 v w hB0 hown0 hU hE
  obtain ⟨la, lc, fa, fc, rfl, hk, hn, hs, h4, h5, h6, h7, hl, hf⟩ := hU
  obtain ⟨i0, hi, hz0, hz1, hz2⟩ := info_parts infoU8
  have hml : maxLen = 9223372036854775807 := rfl
  have henc : (GV.mk 5 n s ln l fn nm f).enc = byteOf 5 :: (varint ln ++ (List.range ln).flatMap (fun i => (l i).enc)) := by simp [GV.enc]
  obtain ⟨b, hb⟩ : ∃ b, b = byteOf 5 := ⟨_, rfl⟩
  have hbw : IntKind.u8.wrap (5 : Int) = (b.toNat : Int) := by rw [hb]; exact byteOf_wrap _
  rw [henc, ← hb] at hE ⊢
  simp only [List.length_cons, List.length_append] at hE
  have HU : Hid (∀ i, i < ln → ∃ b o v', la = some ⟨b, o, none⟩ ∧ Lies (undr B w) (l i) v' ∧ At5 (undr B w) b (o + i * 5) v') := hl
  have HIH := mkHid ih
  have HO := mkHid hown0
  have HO2 : Hid (World.ownsRow _ B 5 1 v0 d0.length (Lib.byteCells d0)) := (hown0.alloc (.cells #[.int .i64 5, .int .i64 n, .string s, .slice la ln lc, .slice fa fn fc] 29)).alloc (.cells #[.int .u8 (b.toNat : Int)] 5)
  have HFL : Hid (∀ j, j ≤ ln → d0.length + 1 + (varint ln).length + ((List.range j).flatMap (fun i => (l i).enc)).length ≤ 1000000) := fun j hj => by have := flat_le (c := fun i => (l i).enc) hj; omega
  clear hown0 hb henc hl hf ih hE
  go_enter Tryd.func33, Tryd.ntmps33
  go_wp2_with (at_builtin; refine wpList_append_own_at _ rfl _ _ 22 rfl B 5 i0 (.int .u8 0) 1 1 Tryd.underlying22 hi hz0 hz1 hz2 rfl (by decide) _ _ _ rfl HO2.out _ 1 1 [.int .u8 (b.toNat : Int)] rfl rfl ?c1 ?c2 ?c3 ?c4 ?c5 ?_)
  case c1 =>
    intro j u hj
    match j, hj with
    | 0, hj => simp at hj; subst hj; simp [Addr.add]
  case c2 => intro u hu; simp at hu; subst hu; rfl
  case c3 => have := HFL.out 0 (by omega); omega
  case c4 => have := HFL.out 0 (by omega); omega
  case c5 => simp; omega
  intro v1 w1 o1 g1 _ at1
  obtain ⟨b1, p1, o1, hne1⟩ := head_own HO.out o1 g1 (by simpa using at1)
  have B1 := mkHid b1
  have O1 := mkHid o1
  obtain ⟨c0, c1, c2, c3, c4⟩ := p1.cells
  have hs1 := b1.size
  have P1 := mkHid p1
  have HN : Hid (Calls Tryd.prog 34 #[v1, .int .u64 (ln : Int)] w1 fun e w' => PutSay v1 B w1 ((d0 ++ [b]) ++ varint ln) e w') := putNumber_say v1 B (d0 ++ [b]) ln w1 (by omega) (by omega) (by have := HFL.out 0 (by omega); simp; omega) o1
  have HN2 : Hid (Calls Tryd.prog 34 #[v1, .int .u64 (IntKind.u64.wrap (ln : Int))] w1 fun e w' => PutSay v1 B w1 ((d0 ++ [b]) ++ varint ln) e w') := by
    rw [show IntKind.u64.wrap (ln : Int) = (ln : Int) by rw [IntKind.wrap_u64]; omega]
    exact HN.out
  clear b1 o1 p1 g1
  go_wp2_with (first
    | (go_at_call 34; (first | refine HN.out.mono ?_ | refine HN2.out.mono ?_); rintro e w2 ⟨v2, rfl, o2, b2⟩; have O2 := mkHid o2; have B2 := mkHid (B1.out.trans b2); have hs2 := b2.size; have hp2 : Blk5 w2 w.heap.size (.int .i64 5) (.int .i64 n) (.string s) (.slice la ln lc) (.slice fa fn fc) := (by unfold Blk5; rw [b2.block w.heap.size P1.out.lt hne1]; exact P1.out); obtain ⟨e0, e1, e2, e3, e4⟩ := hp2.cells; clear o2 b2 hp2))
  go_loopw [0, 49] (fun v i wr => ∃ (j : Nat), i = .int .i64 j ∧ j ≤ ln ∧ wr.ownsRow B 5 1 v (d0 ++ b :: (varint ln ++ (List.range j).flatMap (fun i => (l i).enc))).length (Lib.byteCells (d0 ++ b :: (varint ln ++ (List.range j).flatMap (fun i => (l i).enc)))) ∧ Gro v0 w v wr) (fun _ i _ => ln - (intOf i).toNat)
  case atStart =>
    refine ⟨0, rfl, by omega, ?_, B2.out⟩
    have h := O2.out
    simpa [List.append_assoc] using h
  case round =>
    obtain ⟨j, rfl, hj, hown, hgro⟩ := hrel
    by_cases hlt : j < ln
    · obtain ⟨b', o', v', rfl, hLj, hAj⟩ := HU.out j hlt
      have hag := hLj.agg
      obtain ⟨k', n', s', la', ln', lc', fa', fn', fc', rfl⟩ := hag
      have hbw : RowKit.Below B w _ := hgro.below HO.out hB0
      obtain ⟨q0, q1, q2, q3, q4⟩ := at5_und hAj hbw
      have hsz := hgro.size
      have HL : Hid (Und B w (l j) (.agg #[.int .i64 k', .int .i64 n', .string s', .slice la' ln' lc', .slice fa' fn' fc'])) := hLj
      have HCALL := mkHid (HIH.out j hlt _ B _ _ _ (by simp; omega) (hown.alloc (.cells #[.int .i64 k', .int .i64 n', .string s', .slice la' ln' lc', .slice fa' fn' fc'] 29)) (HL.out.keep (hbw.alloc (by omega) (.cells #[.int .i64 k', .int .i64 n', .string s', .slice la' ln' lc', .slice fa' fn' fc'] 29))) (by have := HFL.out (j + 1) (by omega); rw [flat_snoc] at this; simp at this ⊢; omega))
      have HG := mkHid (hgro.new ((RowKit.Below.refl _ _).alloc (Nat.le_refl _) (.cells #[.int .i64 k', .int .i64 n', .string s', .slice la' ln' lc', .slice fa' fn' fc'] 29)))
      clear hLj hAj hown hgro hbw
      go_wp2_with fail
      refine HCALL.out.mono ?_
      rintro e w4 ⟨v4, rfl, o4, g4⟩
      have O4 := mkHid o4
      have G4 := mkHid (HG.out.trans g4)
      clear o4 g4
      go_wp2_with fail
      go_roundw
      case rel =>
        refine ⟨j + 1, by go_num, by omega, ?_, G4.out⟩
        have h := O4.out
        rw [flat_snoc]
        simpa [List.append_assoc] using h
      case measure => simp [intOf]; omega
    · obtain rfl : ln = j := by omega
      have HOW := mkHid hown
      have HG := mkHid hgro
      clear hown hgro
      go_wp2_with fail
      go_ret
      exact ⟨_, rfl, HOW.out, HG.out⟩
set_option maxHeartbeats 4000000 in
set_option maxRecDepth 1000000 in
theorem putV_6 (n : Int) (s : ByteArray) (ln : Nat) (l : Nat → GV) (fn : Nat) (nm : Nat → ByteArray) (f : Nat → GV) (ih : ∀ i, i < fn → PutAny (f i)) (hl0 : fn ≤ 1000000) : PutAny (.mk 6 n s ln l fn nm f) := by
  intro v0 B d0 v w hB0 hown0 hU hE
  obtain ⟨la, lc, fa, fc, rfl, hk, hn, hs, h4, h5, h6, h7, hl, hf⟩ := hU
  obtain ⟨i0, hi, hz0, hz1, hz2⟩ := info_parts infoU8
  have hml : maxLen = 9223372036854775807 := rfl
  have henc : (GV.mk 6 n s ln l fn nm f).enc = byteOf 6 :: (varint fn ++ (List.range fn).flatMap (fun i => encS (nm i) ++ (f i).enc)) := by simp [GV.enc]
  obtain ⟨b, hb⟩ : ∃ b, b = byteOf 6 := ⟨_, rfl⟩
  have hbw : IntKind.u8.wrap (6 : Int) = (b.toNat : Int) := by rw [hb]; exact byteOf_wrap _
  rw [henc, ← hb] at hE ⊢
  simp only [List.length_cons, List.length_append] at hE
  have HU : Hid (∀ i, i < fn → ∃ b o v', fa = some ⟨b, o, none⟩ ∧ (nm i).size ≤ 140737488355328 ∧ (undr B w).cell? ⟨b, o + i * 6, none⟩ = some (.string (nm i)) ∧ Lies (undr B w) (f i) v' ∧ At5 (undr B w) b (o + i * 6 + 1) v') := hf
  have HIH := mkHid ih
  have HO := mkHid hown0
  have HO2 : Hid (World.ownsRow _ B 5 1 v0 d0.length (Lib.byteCells d0)) := (hown0.alloc (.cells #[.int .i64 6, .int .i64 n, .string s, .slice la ln lc, .slice fa fn fc] 29)).alloc (.cells #[.int .u8 (b.toNat : Int)] 5)
  have HFL : Hid (∀ j, j ≤ fn → d0.length + 1 + (varint fn).length + ((List.range j).flatMap (fun i => encS (nm i) ++ (f i).enc)).length ≤ 1000000) := fun j hj => by have := flat_le (c := fun i => encS (nm i) ++ (f i).enc) hj; omega
  clear hown0 hb henc hl hf ih hE
  go_enter Tryd.func33, Tryd.ntmps33
  go_wp2_with (at_builtin; refine wpList_append_own_at _ rfl _ _ 22 rfl B 5 i0 (.int .u8 0) 1 1 Tryd.underlying22 hi hz0 hz1 hz2 rfl (by decide) _ _ _ rfl HO2.out _ 1 1 [.int .u8 (b.toNat : Int)] rfl rfl ?c1 ?c2 ?c3 ?c4 ?c5 ?_)
  case c1 =>
    intro j u hj
    match j, hj with
    | 0, hj => simp at hj; subst hj; simp [Addr.add]
  case c2 => intro u hu; simp at hu; subst hu; rfl
  case c3 => have := HFL.out 0 (by omega); omega
  case c4 => have := HFL.out 0 (by omega); omega
  case c5 => simp; omega
  intro v1 w1 o1 g1 _ at1
  obtain ⟨b1, p1, o1, hne1⟩ := head_own HO.out o1 g1 (by simpa using at1)
  have B1 := mkHid b1
  have O1 := mkHid o1
  obtain ⟨c0, c1, c2, c3, c4⟩ := p1.cells
  have hs1 := b1.size
  have P1 := mkHid p1
  have HN : Hid (Calls Tryd.prog 34 #[v1, .int .u64 (fn : Int)] w1 fun e w' => PutSay v1 B w1 ((d0 ++ [b]) ++ varint fn) e w') := putNumber_say v1 B (d0 ++ [b]) fn w1 (by omega) (by omega) (by have := HFL.out 0 (by omega); simp; omega) o1
  have HN2 : Hid (Calls Tryd.prog 34 #[v1, .int .u64 (IntKind.u64.wrap (fn : Int))] w1 fun e w' => PutSay v1 B w1 ((d0 ++ [b]) ++ varint fn) e w') := by
    rw [show IntKind.u64.wrap (fn : Int) = (fn : Int) by rw [IntKind.wrap_u64]; omega]
    exact HN.out
  clear b1 o1 p1 g1
  go_wp2_with (first
    | (go_at_call 34; (first | refine HN.out.mono ?_ | refine HN2.out.mono ?_); rintro e w2 ⟨v2, rfl, o2, b2⟩; have O2 := mkHid o2; have B2 := mkHid (B1.out.trans b2); have hs2 := b2.size; have hp2 : Blk5 w2 w.heap.size (.int .i64 6) (.int .i64 n) (.string s) (.slice la ln lc) (.slice fa fn fc) := (by unfold Blk5; rw [b2.block w.heap.size P1.out.lt hne1]; exact P1.out); obtain ⟨e0, e1, e2, e3, e4⟩ := hp2.cells; clear o2 b2 hp2))
  go_loopw [0, 68] (fun v i wr => ∃ (j : Nat), i = .int .i64 j ∧ j ≤ fn ∧ wr.ownsRow B 5 1 v (d0 ++ b :: (varint fn ++ (List.range j).flatMap (fun i => encS (nm i) ++ (f i).enc))).length (Lib.byteCells (d0 ++ b :: (varint fn ++ (List.range j).flatMap (fun i => encS (nm i) ++ (f i).enc)))) ∧ Gro v0 w v wr) (fun _ i _ => fn - (intOf i).toNat)
  case atStart =>
    refine ⟨0, rfl, by omega, ?_, B2.out⟩
    have h := O2.out
    simpa [List.append_assoc] using h
  case round =>
    obtain ⟨j, rfl, hj, hown, hgro⟩ := hrel
    by_cases hlt : j < fn
    · obtain ⟨b', o', v', rfl, hnm, hcn, hLj, hAj⟩ := HU.out j hlt
      obtain ⟨k', n', s', la', ln', lc', fa', fn', fc', rfl⟩ := hLj.agg
      have hbw : RowKit.Below B w wr := hgro.below HO.out hB0
      obtain ⟨q0, q1, q2, q3, q4⟩ := at5_und hAj hbw
      have qn : wr.cell? ⟨b', o' + j * 6, none⟩ = some (.string (nm j)) := by rw [hbw.cell (p := ⟨b', o' + j * 6, none⟩) (undr_cell.1 hcn).1]; exact (undr_cell.1 hcn).2
      obtain ⟨x, hx⟩ : ∃ x, x = nm j := ⟨_, rfl⟩
      rw [← hx] at qn hnm
      have hsz := hgro.size
      have hfl := HFL.out (j + 1) (by omega)
      rw [flat_snoc] at hfl
      simp only [List.length_append, ← hx] at hfl
      have hel : (encS x).length = (varint x.size).length + x.size := by simp [encS]
      have hxs : x.size ≤ 1000000 := by omega
      have HL : Hid (Und B w (f j) (.agg #[.int .i64 k', .int .i64 n', .string s', .slice la' ln' lc', .slice fa' fn' fc'])) := hLj
      obtain ⟨D, hD⟩ : ∃ D, D = d0 ++ b :: (varint fn ++ (List.range j).flatMap (fun i => encS (nm i) ++ (f i).enc)) := ⟨_, rfl⟩
      have hDl : D.length + (encS x).length + (f j).enc.length ≤ 1000000 := by
        rw [hD]
        simp only [List.length_append, List.length_cons]
        omega
      rw [← hD] at hown
      have HOWN := mkHid hown
      have HGRO := mkHid hgro
      have HXX := mkHid hx
      have HDD := mkHid hD
      have HNE := mkHid (own_ne hown)
      clear hLj hAj hcn hown hgro hbw hx hD hfl
      have HZ : Hid ((wr.alloc (.cells #[.string x, .int .i64 k', .int .i64 n', .string s', .slice la' ln' lc', .slice fa' fn' fc'] 70)).heap[wr.heap.size]? = some (.cells #[.string x, .int .i64 k', .int .i64 n', .string s', .slice la' ln' lc', .slice fa' fn' fc'] 70 (0, 0))) := heap_alloc_new wr _
      have HKK : Hid (∀ w' : World, w'.heap[wr.heap.size]? = some (.cells #[.string x, .int .i64 k', .int .i64 n', .string s', .slice la' ln' lc', .slice fa' fn' fc'] 70 (0, 0)) → w'.cell? ⟨wr.heap.size, 0, none⟩ = some (.string x) ∧ w'.cell? ⟨wr.heap.size, 1, none⟩ = some (.int .i64 k') ∧ w'.cell? ⟨wr.heap.size, 2, none⟩ = some (.int .i64 n') ∧ w'.cell? ⟨wr.heap.size, 3, none⟩ = some (.string s') ∧ w'.cell? ⟨wr.heap.size, 4, none⟩ = some (.slice la' ln' lc') ∧ w'.cell? ⟨wr.heap.size, 5, none⟩ = some (.slice fa' fn' fc')) := by
        intro w' h
        refine ⟨?_, ?_, ?_, ?_, ?_, ?_⟩ <;> (rw [cell_of_row w' wr.heap.size _ _ _ _ h]; rfl)
      have a1 : RowKit.Below wr.heap.size wr (wr.alloc (.cells #[.string x, .int .i64 k', .int .i64 n', .string s', .slice la' ln' lc', .slice fa' fn' fc'] 70)).drew := ((RowKit.Below.refl _ wr).alloc (Nat.le_refl _) _).drew
      have HO1 := mkHid (own_below HOWN.out a1)
      have HG1 := mkHid (HGRO.out.new a1)
      have hS := HKK.out _ (show (wr.alloc (.cells #[.string x, .int .i64 k', .int .i64 n', .string s', .slice la' ln' lc', .slice fa' fn' fc'] 70)).drew.heap[wr.heap.size]? = _ from HZ.out)
      clear a1
      go_wp2_with fail
      go_region_held3 (fun w' => w'.cell? ⟨wr.heap.size, 0, none⟩ = some (.string x) ∧ w'.cell? ⟨wr.heap.size, 1, none⟩ = some (.int .i64 k') ∧ w'.cell? ⟨wr.heap.size, 2, none⟩ = some (.int .i64 n') ∧ w'.cell? ⟨wr.heap.size, 3, none⟩ = some (.string s') ∧ w'.cell? ⟨wr.heap.size, 4, none⟩ = some (.slice la' ln' lc') ∧ w'.cell? ⟨wr.heap.size, 5, none⟩ = some (.slice fa' fn' fc')) (first | with_reducible exact hS) (first
        | (go_at_call 58; refine (putText_any _ B D x _ (by simp; omega) (by omega) (by omega) HO1.out).mono ?_; rintro e w3 ⟨v3, rfl, o3, g3⟩; have hz3 : w3.heap[wr.heap.size]? = _ := (g3.block wr.heap.size (by simp) HNE.out).trans HZ.out; have hne3 := gro_ne g3 (by simp) HNE.out; have hS := HKK.out _ hz3; have hs3 := g3.size; have G3 := mkHid (HG1.out.trans g3); have O3 := mkHid o3)
        | (go_at_call 33; refine (HIH.out j hlt _ B (D ++ encS x) _ _ (by simp at hs3; omega) O3.out (HL.out.keep (G3.out.below HO.out hB0)) (by simp only [List.length_append]; omega)).mono ?_; rintro e w4 ⟨v4, rfl, o4, g4⟩; have hz4 : w4.heap[wr.heap.size]? = _ := (g4.block wr.heap.size (by simp at hs3; omega) hne3).trans hz3; have hS := HKK.out _ hz4; have G4 := mkHid (G3.out.trans g4); have O4 := mkHid o4))
      all_goals
        clear hS hz3 hz4 hne3 o3 o4 g3 g4
        go_wp2_with fail
        go_roundw
        case rel =>
          refine ⟨j + 1, by go_num, by omega, ?_, G4.out⟩
          have h := O4.out
          rw [HDD.out, HXX.out] at h
          rw [flat_snoc]
          simpa [List.append_assoc] using h
        case measure => simp [intOf]; omega
    · obtain rfl : fn = j := by omega
      have HOW := mkHid hown
      have HG := mkHid hgro
      clear hown hgro
      go_wp2_with fail
      go_ret
      exact ⟨_, rfl, HOW.out, HG.out⟩

theorem flat_pos {c : Nat → List UInt8} {n : Nat} (h : ∀ i, i < n → 0 < (c i).length) : n ≤ ((List.range n).flatMap c).length := by
  induction n with
  | zero => simp
  | succ n ih =>
    rw [flat_snoc, List.length_append]
    have := ih fun i hi => h i (by omega)
    have := h n (by omega)
    omega
theorem enc_pos0 {w : World} {g : GV} {v : Value} (h : Lies w g v) : 0 < g.enc.length := by
  cases g with
  | nil => exact False.elim h
  | mk k n s ln l fn nm f => simp [GV.enc]

/-- codec.putValue of any value. -/
theorem putValue_any : ∀ g : GV, PutAny g := by
  intro g
  induction g with
  | nil => intro v0 B d0 v w _ _ hU _; exact False.elim hU
  | mk k n s ln l fn nm f ihl ihf =>
    by_cases k5 : k = 5
    · subst k5
      intro v0 B d0 v w hB hown hU hE
      have hln : ln ≤ 1000000 := by
        obtain ⟨la, lc, fa, fc, _, _, _, _, _, _, _, _, hl, _⟩ := hU
        have h1 : ln ≤ ((List.range ln).flatMap (fun i => (l i).enc)).length := flat_pos fun i hi => by
          obtain ⟨_, _, v', _, h, _⟩ := hl i hi
          exact enc_pos0 h
        have h2 : (GV.mk 5 n s ln l fn nm f).enc = byteOf 5 :: (varint ln ++ (List.range ln).flatMap (fun i => (l i).enc)) := by simp [GV.enc]
        rw [h2] at hE
        simp only [List.length_cons, List.length_append] at hE
        omega
      exact putV_5 n s ln l fn nm f (fun i _ => ihl i) hln v0 B d0 v w hB hown hU hE
    · by_cases k6 : k = 6
      · subst k6
        intro v0 B d0 v w hB hown hU hE
        have hfn : fn ≤ 1000000 := by
          obtain ⟨la, lc, fa, fc, _, _, _, _, _, _, _, _, _, hf⟩ := hU
          have h1 : fn ≤ ((List.range fn).flatMap (fun i => encS (nm i) ++ (f i).enc)).length := flat_pos fun i hi => by
            obtain ⟨_, _, v', _, _, _, h, _⟩ := hf i hi
            have := enc_pos0 h
            rw [List.length_append]
            omega
          have h2 : (GV.mk 6 n s ln l fn nm f).enc = byteOf 6 :: (varint fn ++ (List.range fn).flatMap (fun i => encS (nm i) ++ (f i).enc)) := by simp [GV.enc]
          rw [h2] at hE
          simp only [List.length_cons, List.length_append] at hE
          omega
        exact putV_6 n s ln l fn nm f (fun i _ => ihf i) hfn v0 B d0 v w hB hown hU hE
      · intro v0 B d0 v w hB hown hU hE
        obtain ⟨la, lc, fa, fc, rfl, hk, hn, hs, _⟩ := hU
        by_cases k2 : k = 2
        · subst k2
          have h := putV_2 v0 B d0 n s la ln lc fa fn fc w hB (by omega) hown
          simpa [GV.enc] using h
        · by_cases k3 : k = 3
          · subst k3
            have h := putV_3 v0 B d0 n s la ln lc fa fn fc w hB (by omega) hown hn
            simpa [GV.enc] using h
          · by_cases k4 : k = 4
            · subst k4
              have hsz : s.size ≤ 4194304 := by
                have h2 : (GV.mk 4 n s ln l fn nm f).enc = byteOf 4 :: (varint s.size ++ s.data.toList) := by simp [GV.enc, encS]
                rw [h2] at hE
                simp only [List.length_cons, List.length_append, Array.length_toList] at hE
                have : s.data.size = s.size := rfl
                omega
              have h := putV_4 v0 B d0 n s la ln lc fa fn fc w hB (by omega) hown hsz
              simpa [GV.enc] using h
            · have h := putV_other v0 B d0 k n s la ln lc fa fn fc w hB (by omega) hown (by omega)
              simpa [GV.enc, k2, k3, k4, k5, k6] using h
end Go.Proofs.YtfnmmpakejdlgaaDoor

/- codec.Put of any value: its bytes in a new row, or Good's error. -/
namespace Go.Proofs.YtfnmmpakejdlgaaDoor
open Go.RowKit

/-- What Put tells. -/
def PutTold (g : GV) (w : World) (e : Ending) (w' : World) : Prop := RowKit.Below w.heap.size w w' ∧
  ((g.err = 0 ∧ ∃ v, e = .returned (.tuple #[v, .int .i64 0]) ∧ w'.ownsRow w.heap.size 5 1 v g.enc.length (Lib.byteCells g.enc)) ∨ (g.err ≠ 0 ∧ e = .returned (.tuple #[.slice none 0 0, .int .i64 g.err])))

set_option maxHeartbeats 4000000 in
set_option maxRecDepth 1000000 in
theorem Put_any (g : GV) (v : Value) (w : World) (hL : Lies w g v) (hN : g.nodes ≤ 16384) (hb : g.bytes ≤ 1000000) (hE : g.err = 0 → g.enc.length ≤ 1000000) :
    Calls Tryd.prog 8 #[v] w fun e w' => PutTold g w e w' := by
  have hU := und_all hL
  obtain ⟨k, n, s, la, ln, lc, fa, fn, fc, rfl⟩ := hL.agg
  obtain ⟨i0, hi, hz0, hz1, hz2⟩ := info_parts infoU8
  have hml : maxLen = 9223372036854775807 := rfl
  have P0 : Hid (Blk5 _ w.heap.size _ _ _ _ _) := Blk5.new w (.int .i64 k) (.int .i64 n) (.string s) (.slice la ln lc) (.slice fa fn fc)
  have B0 : Hid (RowKit.Below w.heap.size w _) := (RowKit.Below.refl _ w).alloc (Nat.le_refl _) (.cells #[.int .i64 k, .int .i64 n, .string s, .slice la ln lc, .slice fa fn fc] 29)
  obtain ⟨er, her⟩ : ∃ er, er = g.err := ⟨_, rfl⟩
  obtain ⟨c, hc⟩ : ∃ c, c = g.bytes := ⟨_, rfl⟩
  have HS : Hid (Calls Tryd.prog 31 #[.agg #[.int .i64 k, .int .i64 n, .string s, .slice la ln lc, .slice fa fn fc]] (w.alloc (.cells #[.int .i64 k, .int .i64 n, .string s, .slice la ln lc, .slice fa fn fc] 29)) fun e w' => e = .returned (.tuple #[.int .i64 (c : Int), .int .i64 er]) ∧ RowKit.Below (w.alloc (.cells #[.int .i64 k, .int .i64 n, .string s, .slice la ln lc, .slice fa fn fc] 29)).heap.size (w.alloc (.cells #[.int .i64 k, .int .i64 n, .string s, .slice la ln lc, .slice fa fn fc] 29)) w') := by
    have h := Size_any g _ _ (hL.below B0.out) hN
    rw [← her, ← hc] at h
    exact h
  have HT0 : Hid (∀ e w', RowKit.Below w.heap.size w w' → er ≠ 0 → e = .returned (.tuple #[.slice none 0 0, .int .i64 er]) → PutTold g w e w') := by
    intro e w' h1 h2 h3
    refine ⟨h1, Or.inr ⟨by rw [← her]; exact h2, by rw [h3, her]⟩⟩
  have HT1 : Hid (∀ e w' v, RowKit.Below w.heap.size w w' → er = 0 → e = .returned (.tuple #[v, .int .i64 0]) → w'.ownsRow w.heap.size 5 1 v g.enc.length (Lib.byteCells g.enc) → PutTold g w e w') := by
    intro e w' v h1 h2 h3 h4
    exact ⟨h1, Or.inl ⟨by rw [← her]; exact h2, v, h3, h4⟩⟩
  have HEL : Hid (er = 0 → g.enc.length ≤ 1000000) := by rw [her]; exact hE
  have HU := mkHid hU
  rw [← hc] at hb
  obtain ⟨Q, hQ⟩ : ∃ Q : Ending → World → Prop, Q = fun e w' => PutTold g w e w' := ⟨_, rfl⟩
  have HQ : Hid (∀ e w', PutTold g w e w' → Q e w') := by rw [hQ]; exact fun _ _ h => h
  rw [← hQ]
  clear hQ her hc hL hU hE hN
  by_cases h0 : er = 0
  · have HEL2 : Hid (g.enc.length ≤ 1000000) := HEL.out h0
    have HT2 := mkHid (fun e w' v h1 h3 h4 => HT1.out e w' v h1 h0 h3 h4)
    clear HT1 HEL HT0
    subst h0
    go_enter Tryd.func8, Tryd.ntmps8
    go_wp2_with fail
    refine HS.out.mono ?_
    rintro e w1 ⟨rfl, b1⟩
    have B1 := mkHid (B0.out.trans (b1.mono B0.out.size))
    have P1 := mkHid (P0.out.below b1)
    have hs1 := B1.out.size
    obtain ⟨W2, hmk0, hown2, hg2⟩ := run_make_own (P := Tryd.prog) w1.drew w1.drew.heap.size 22 5 i0 _ 1 Tryd.underlying22 hi hz0 hz1 .i64 .i64 c (by rw [hz2]; omega) (by omega) (Nat.le_refl _)
    have hmk : (Instr.makeSlice 22 (.int .i64 0) (.int .i64 (c : Int))).run Tryd.prog w1.drew = .ok (.slice (some ⟨w1.heap.size, 0, none⟩) 0 c) W2 := hmk0
    have b2 : RowKit.Below w1.heap.size w1 W2 := ((RowKit.Below.refl _ w1).drew).grown hg2 (Nat.le_refl _) (fun k hk => by cases hk)
    have B2 := mkHid (B1.out.trans (b2.mono hs1))
    have hS : w1.drew.cell? ⟨w.heap.size, 0, none⟩ = some (.int .i64 k) ∧ w1.drew.cell? ⟨w.heap.size, 1, none⟩ = some (.int .i64 n) ∧ w1.drew.cell? ⟨w.heap.size, 2, none⟩ = some (.string s) ∧ w1.drew.cell? ⟨w.heap.size, 3, none⟩ = some (.slice la ln lc) ∧ w1.drew.cell? ⟨w.heap.size, 4, none⟩ = some (.slice fa fn fc) := P1.out.cells
    have hS2 : W2.cell? ⟨w.heap.size, 0, none⟩ = some (.int .i64 k) ∧ W2.cell? ⟨w.heap.size, 1, none⟩ = some (.int .i64 n) ∧ W2.cell? ⟨w.heap.size, 2, none⟩ = some (.string s) ∧ W2.cell? ⟨w.heap.size, 3, none⟩ = some (.slice la ln lc) ∧ W2.cell? ⟨w.heap.size, 4, none⟩ = some (.slice fa fn fc) := (P1.out.below b2).cells
    have HP2 := mkHid (P1.out.below b2)
    have HO2 : Hid (W2.ownsRow w1.heap.size 5 1 (.slice (some ⟨w1.heap.size, 0, none⟩) 0 c) ([] : List UInt8).length (Lib.byteCells [])) := hown2
    have HV2 : Hid (Und w1.heap.size W2 g (.agg #[.int .i64 k, .int .i64 n, .string s, .slice la ln lc, .slice fa fn fc])) := und_all (HU.out.lies.below B1.out) |>.keep b2
    have hs2 := b2.size
    clear b1 hmk0 hown2 hg2 b2
    go_wp2_with fail
    go_region_held3 (fun w' => w'.cell? ⟨w.heap.size, 0, none⟩ = some (.int .i64 k) ∧ w'.cell? ⟨w.heap.size, 1, none⟩ = some (.int .i64 n) ∧ w'.cell? ⟨w.heap.size, 2, none⟩ = some (.string s) ∧ w'.cell? ⟨w.heap.size, 3, none⟩ = some (.slice la ln lc) ∧ w'.cell? ⟨w.heap.size, 4, none⟩ = some (.slice fa fn fc)) (first | with_reducible exact hS | with_reducible exact hS2 | with_reducible exact hS3) (first
      | (go_at_call 33; refine (putValue_any g _ w1.heap.size [] _ _ hs2 HO2.out HV2.out (by have := HEL2.out; simpa using this)).mono ?_; rintro e w3 ⟨v3, rfl, o3, g3⟩; have HO3 : Hid (w3.ownsRow w1.heap.size 5 1 v3 g.enc.length (Lib.byteCells g.enc)) := o3; have b3 := g3.below HO2.out hs2; have B3 := mkHid (B2.out.trans (b3.mono hs1)); have hp3 : Blk5 w3 w.heap.size (.int .i64 k) (.int .i64 n) (.string s) (.slice la ln lc) (.slice fa fn fc) := (by have h := b3.block w.heap.size P1.out.lt; unfold Blk5; rw [h]; exact HP2.out); have hS3 := hp3.cells; clear o3 b3 g3))
    all_goals
      go_wp2_with fail
      exact HQ.out _ _ (HT2.out _ _ v3 B3.out rfl (own_le HO3.out hs1))
  · go_enter Tryd.func8, Tryd.ntmps8
    go_wp2_with fail
    refine HS.out.mono ?_
    rintro e w1 ⟨rfl, b1⟩
    have B1 := mkHid (B0.out.trans (b1.mono B0.out.size))
    clear b1
    go_wp2_with fail
    exact HQ.out _ _ (HT0.out _ _ B1.out h0 rfl)
end Go.Proofs.YtfnmmpakejdlgaaDoor
