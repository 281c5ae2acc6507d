/- Some texts in one: each opens with its own remark. -/
import Derived.Test.YtfnmmpakejdlgaaDoorK5
import Derived.Deep.RegionHeld3
import Derived.Maps.AppendAt
import Derived.Lib.AppendStr
/- Put of the Int -1. -/
namespace Go.Proofs.YtfnmmpakejdlgaaDoor
open Go.RowKit

theorem own_le {w : World} {base base' size n : Nat} {e : TypeId} {v : Value} {xs : List Value} (h : w.ownsRow base e size v n xs) (hb : base' ≤ base) : w.ownsRow base' e size v n xs := by
  refine ⟨h.1, ?_⟩
  rcases h.2 with hn | ⟨g, cap, cur, hv, hbg, hg, rest⟩
  · exact .inl hn
  · exact .inr ⟨g, cap, cur, hv, Nat.le_trans hb hbg, hg, rest⟩

set_option maxHeartbeats 1000000 in
set_option maxRecDepth 1000000 in
theorem folded_m1 (w : World) : Calls Tryd.prog 57 #[.int .i64 (-1)] w fun e w' => e = .returned (.int .u64 1) ∧ w' = w := by
  have h2 : bits .xor .u64 18446744073709551614 18446744073709551615 = 1 := by decide +kernel
  go_enter Tryd.func57, Tryd.ntmps57
  go_wp2_with fail
  go_ret
  exact ⟨rfl, rfl⟩

theorem varint_1 : varint 1 = [1] := by rw [varint_last (by omega)]; rfl

set_option maxHeartbeats 2000000 in
set_option maxRecDepth 1000000 in
theorem putValue_m1 (v0 : Value) (B : Nat) (w : World) (hB0 : B ≤ w.heap.size) (hown0 : w.ownsRow B 5 1 v0 0 []) :
    Calls Tryd.prog 33 #[v0, .agg #[.int .i64 3, .int .i64 (-1), .string ⟨#[]⟩, .slice none 0 0, .slice none 0 0]] w fun e w' => ∃ v, e = .returned v ∧ w'.ownsRow B 5 1 v 2 (Lib.byteCells [3, 1]) ∧ RowKit.Below B w w' := by
  obtain ⟨i0, hi, hz0, hz1, hz2⟩ := info_parts infoU8
  have hml : maxLen = 9223372036854775807 := rfl
  have P0 : Hid (Blk5 _ w.heap.size _ _ _ _ _) := Blk5.new w (.int .i64 3) (.int .i64 (-1)) (.string ⟨#[]⟩) (.slice none 0 0) (.slice none 0 0)
  have HO : Hid (World.ownsRow _ B 5 1 v0 0 []) := hown0.alloc (.cells #[.int .i64 3, .int .i64 (-1), .string ⟨#[]⟩, .slice none 0 0, .slice none 0 0] 29)
  have HO2 : Hid (World.ownsRow _ B 5 1 v0 0 []) := HO.out.alloc (.cells #[.int .u8 3] 5)
  have HLT : Hid (∀ k, v0.ownBlock = some k → B ≤ k ∧ k < w.heap.size) := fun k hk => hown0.lt k hk
  have B0 : Hid (RowKit.Below B w _) := (RowKit.Below.refl B w).alloc hB0 (.cells #[.int .i64 3, .int .i64 (-1), .string ⟨#[]⟩, .slice none 0 0, .slice none 0 0] 29)
  clear hown0
  go_enter Tryd.func33, Tryd.ntmps33
  go_wp2_with (at_builtin; refine wpList_append_own _ rfl _ _ 22 rfl B 5 i0 (.int .u8 0) 1 1 Tryd.underlying22 hi hz0 hz1 hz2 rfl (by decide) _ _ _ rfl HO2.out _ 1 1 [.int .u8 3] rfl rfl ?c1 ?c2 ?c3 ?c4 ?c5 ?_)
  case c1 =>
    intro j u hj
    match j, hj with
    | 0, hj => simp at hj; subst hj; simp [Addr.add]
  case c2 => intro u hu; simp at hu; subst hu; rfl
  case c3 => omega
  case c4 => omega
  case c5 => simp; omega
  intro v1 w1 hown1 hg1 _
  have B1 : Hid (RowKit.Below B w w1) := (B0.out.alloc (by simp; omega) (.cells #[.int .u8 3] 5)).grown hg1 (by simp; omega) (fun k hk => (HLT.out k hk).1)
  have hp1 : Blk5 w1 w.heap.size (.int .i64 3) (.int .i64 (-1)) (.string ⟨#[]⟩) (.slice none 0 0) (.slice none 0 0) := by
    have h := (P0.out.below ((RowKit.Below.refl _ _).alloc (Nat.le_refl _) (.cells #[.int .u8 3] 5)))
    unfold Blk5 at h ⊢
    rw [hg1.block w.heap.size (by simp; omega) (fun e => by have := (HLT.out _ e.symm).2; omega)]
    exact h
  obtain ⟨c0, c1, c2, c3, c4⟩ := hp1.cells
  have hs1 := B1.out.size
  have HO1 : Hid (w1.ownsRow B 5 1 v1 [3].length (Lib.byteCells [3])) := hown1
  clear hown1 hg1 hp1
  go_wp2_with (first
    | (go_at_call 57; refine (folded_m1 _).mono ?_; rintro e w2 ⟨rfl, rfl⟩)
    | (go_at_call 34; refine (putNumber_any v1 B [3] 1 _ (by omega) (by omega) (by decide) HO1.out).mono ?_; rintro e w3 ⟨v3, rfl, o3, b3⟩; have HO3 : Hid (w3.ownsRow B 5 1 v3 2 (Lib.byteCells [3, 1])) := (by rw [varint_1] at o3; exact o3); have B3 := mkHid (B1.out.trans b3); clear o3 b3))
  go_ret
  exact ⟨v3, rfl, HO3.out, B3.out⟩

theorem size_m1 (w : World) : Calls Tryd.prog 31 #[.agg #[.int .i64 3, .int .i64 (-1), .string ⟨#[]⟩, .slice none 0 0, .slice none 0 0]] w fun e w' => e = .returned (.tuple #[.int .i64 2, .int .i64 0]) ∧ RowKit.Below w.heap.size w w' := by
  have h := Size_any (gI (-1)) (vI (-1)) w (lies_I w (-1) ⟨by omega, by omega⟩) (by decide +kernel)
  rw [show (gI (-1)).bytes = 2 by decide +kernel, show (gI (-1)).err = 0 by decide +kernel] at h
  exact h

set_option maxHeartbeats 2000000 in
set_option maxRecDepth 1000000 in
theorem Put_m1 (w : World) : Calls Tryd.prog 8 #[.agg #[.int .i64 3, .int .i64 (-1), .string ⟨#[]⟩, .slice none 0 0, .slice none 0 0]] w fun e w' => ∃ v, e = .returned (.tuple #[v, .int .i64 0]) ∧ w'.ownsRow w.heap.size 5 1 v 2 (Lib.byteCells [3, 1]) ∧ RowKit.Below w.heap.size w w' := by
  obtain ⟨i0, hi, hz0, hz1, hz2⟩ := info_parts infoU8
  have P0 : Hid (Blk5 _ w.heap.size _ _ _ _ _) := Blk5.new w (.int .i64 3) (.int .i64 (-1)) (.string ⟨#[]⟩) (.slice none 0 0) (.slice none 0 0)
  have B0 : Hid (RowKit.Below w.heap.size w _) := (RowKit.Below.refl _ w).alloc (Nat.le_refl _) (.cells #[.int .i64 3, .int .i64 (-1), .string ⟨#[]⟩, .slice none 0 0, .slice none 0 0] 29)
  go_enter Tryd.func8, Tryd.ntmps8
  go_wp2_with fail
  refine (size_m1 _).mono ?_
  rintro e w1 ⟨rfl, b1⟩
  have B1 := mkHid (B0.out.trans (b1.mono B0.out.size))
  have P1 := mkHid (P0.out.below b1)
  have hs1 := B1.out.size
  have HMK : Hid (∀ u : World, ∃ w', (Instr.makeSlice 22 (.int .i64 0) (.int .i64 ((2 : Nat) : Int))).run Tryd.prog u = .ok (.slice (some ⟨u.heap.size, 0, none⟩) 0 2) w' ∧ w'.ownsRow u.heap.size 5 1 (.slice (some ⟨u.heap.size, 0, none⟩) 0 2) 0 [] ∧ u.grownBy w' none) :=
    fun u => run_make_own u u.heap.size 22 5 i0 _ 1 Tryd.underlying22 hi hz0 hz1 .i64 .i64 2 (by rw [hz2]; decide) (by decide) (Nat.le_refl _)
  obtain ⟨W2, hmk0, hown2, hg2⟩ := HMK.out w1.drew
  have hmk : (Instr.makeSlice 22 (.int .i64 0) (.int .i64 2)).run Tryd.prog w1.drew = .ok (.slice (some ⟨w1.heap.size, 0, none⟩) 0 2) W2 := hmk0
  have b2 : RowKit.Below w1.heap.size w1 W2 := ((RowKit.Below.refl _ w1).drew).grown hg2 (Nat.le_refl _) (fun k hk => by cases hk)
  have B2 := mkHid (B1.out.trans (b2.mono hs1))
  have hS : w1.drew.cell? ⟨w.heap.size, 0, none⟩ = some (.int .i64 3) ∧ w1.drew.cell? ⟨w.heap.size, 1, none⟩ = some (.int .i64 (-1)) ∧ w1.drew.cell? ⟨w.heap.size, 2, none⟩ = some (.string ⟨#[]⟩) ∧ w1.drew.cell? ⟨w.heap.size, 3, none⟩ = some (.slice none 0 0) ∧ w1.drew.cell? ⟨w.heap.size, 4, none⟩ = some (.slice none 0 0) := P1.out.cells
  have hS2 : W2.cell? ⟨w.heap.size, 0, none⟩ = some (.int .i64 3) ∧ W2.cell? ⟨w.heap.size, 1, none⟩ = some (.int .i64 (-1)) ∧ W2.cell? ⟨w.heap.size, 2, none⟩ = some (.string ⟨#[]⟩) ∧ W2.cell? ⟨w.heap.size, 3, none⟩ = some (.slice none 0 0) ∧ W2.cell? ⟨w.heap.size, 4, none⟩ = some (.slice none 0 0) := (P1.out.below b2).cells
  have HP2 := mkHid (P1.out.below b2)
  have HO2 : Hid (W2.ownsRow w1.heap.size 5 1 (.slice (some ⟨w1.heap.size, 0, none⟩) 0 2) 0 []) := hown2
  have hs2 := b2.size
  clear b1 hmk0 hown2 hg2 b2 HMK
  go_wp2_with fail
  go_region_held3 (fun w' => w'.cell? ⟨w.heap.size, 0, none⟩ = some (.int .i64 3) ∧ w'.cell? ⟨w.heap.size, 1, none⟩ = some (.int .i64 (-1)) ∧ w'.cell? ⟨w.heap.size, 2, none⟩ = some (.string ⟨#[]⟩) ∧ w'.cell? ⟨w.heap.size, 3, none⟩ = some (.slice none 0 0) ∧ w'.cell? ⟨w.heap.size, 4, none⟩ = some (.slice none 0 0)) (first | with_reducible exact hS | with_reducible exact hS2 | with_reducible exact hS3) (first
    | (go_at_call 33; refine (putValue_m1 _ w1.heap.size _ hs2 HO2.out).mono ?_; rintro e w3 ⟨v3, rfl, o3, b3⟩; have HO3 := mkHid o3; have B3 := mkHid (B2.out.trans (b3.mono hs1)); have hp3 : Blk5 w3 w.heap.size (.int .i64 3) (.int .i64 (-1)) (.string ⟨#[]⟩) (.slice none 0 0) (.slice none 0 0) := (by have h := b3.block w.heap.size P1.out.lt; unfold Blk5; rw [h]; exact HP2.out); have hS3 := hp3.cells; clear o3 b3))
  all_goals
    go_wp2_with fail
    refine bodyPost_ret (v := .tuple #[v3, .int .i64 0]) ?_ rfl ⟨v3, rfl, own_le HO3.out hs1, B3.out⟩
    have hres : Tryd.f8.results = #[.tmp 2, .tmp 3] := by kernel_rfl
    simp only [results, hres]
    go_simp
end Go.Proofs.YtfnmmpakejdlgaaDoor

/- A row of bytes of one's own that grows: what it leaves as it was. -/
namespace Go.Proofs.YtfnmmpakejdlgaaDoor
open Go.RowKit

/-- From w to w', where the row was v0 and is v: but for v0's own block nothing that was there is changed, and v lies where v0 did, or in new memory. -/
structure Gro (v0 : Value) (w : World) (v : Value) (w' : World) : Prop where
  os : w'.os = w.os
  tape : w'.tape = w.tape
  output : w'.output = w.output
  size : w.heap.size ≤ w'.heap.size
  block : ∀ k, k < w.heap.size → some k ≠ v0.ownBlock → w'.heap[k]? = w.heap[k]?
  lies : v.ownBlock = v0.ownBlock ∨ ∃ k, v.ownBlock = some k ∧ w.heap.size ≤ k

theorem Gro.refl (v : Value) (w : World) : Gro v w v w := ⟨rfl, rfl, rfl, Nat.le_refl _, fun _ _ _ => rfl, .inl rfl⟩
theorem Gro.trans {v0 v1 v2 : Value} {w w1 w2 : World} (h : Gro v0 w v1 w1) (g : Gro v1 w1 v2 w2) : Gro v0 w v2 w2 := by
  refine ⟨g.os.trans h.os, g.tape.trans h.tape, g.output.trans h.output, Nat.le_trans h.size g.size, fun k hk hn => ?_, ?_⟩
  · refine (g.block k (Nat.lt_of_lt_of_le hk h.size) ?_).trans (h.block k hk hn)
    rcases h.lies with e | ⟨k', e, hk'⟩
    · rw [e]; exact hn
    · rw [e]
      intro e2
      cases e2
      omega
  · rcases g.lies with e | ⟨k', e, hk'⟩
    · rw [e]; exact h.lies
    · exact .inr ⟨k', e, Nat.le_trans h.size hk'⟩
theorem Gro.new {v0 v : Value} {w w1 w2 : World} (h : Gro v0 w v w1) (hb : RowKit.Below w1.heap.size w1 w2) : Gro v0 w v w2 :=
  ⟨hb.os.trans h.os, hb.tape.trans h.tape, hb.output.trans h.output, Nat.le_trans h.size hb.size, fun k hk hn => (hb.block k (Nat.lt_of_lt_of_le hk h.size)).trans (h.block k hk hn), h.lies⟩
theorem Gro.below {B n : Nat} {v0 v : Value} {w w' : World} {xs : List Value} (h : Gro v0 w v w') (ho : w.ownsRow B 5 1 v0 n xs) (hB : B ≤ w.heap.size) : RowKit.Below B w w' :=
  ⟨h.os, h.tape, h.output, h.size, fun k hk => h.block k (by omega) (fun e => by have := (ho.lt k e.symm).1; omega)⟩
/-- Behind an append. -/
theorem Gro.app {v0 v1 v2 : Value} {w w1 w2 w3 : World} (h : Gro v0 w v1 w1) (hb : RowKit.Below w1.heap.size w1 w2) (hg : w2.grownBy w3 v1.ownBlock) (hl : v2.ownBlock = v1.ownBlock ∨ v2.ownBlock = some w2.heap.size) : Gro v0 w v2 w3 := by
  refine (h.new hb).trans ⟨hg.os, hg.tape, hg.output, hg.size, hg.block, ?_⟩
  rcases hl with e | e
  · exact .inl e
  · exact .inr ⟨_, e, Nat.le_refl _⟩
theorem Gro.keeps5 {v0 v : Value} {w w' : World} {b o : Nat} {u : Value} (h : Gro v0 w v w') (hc : w.cell? ⟨b, o, none⟩ = some u) (hn : some b ≠ v0.ownBlock) : w'.cell? ⟨b, o, none⟩ = some u := by
  have := h.block b (cell_lt' hc) hn
  unfold World.cell? at hc ⊢
  rw [this]
  exact hc

/-- A text appended: where the row lies then. -/
theorem string_at {w : World} {base n : Nat} {v v' : Value} {w' : World} {xs : List Value} {s : ByteArray} {i : TypeInfo} {ty : TypeId} (hi : Tryd.prog.info? 5 = some i) (hz : i.zero = some (.int .u8 0)) (hsize : i.size = 1) (hby : i.bytes = 1)
    (hown : w.ownsRow base 5 1 v n xs) (hb : n + s.size ≤ 140737488355328) (hnil : v' = .slice none 0 0 ↔ v = .slice none 0 0 ∧ s.size = 0) (hr : (Builtin.append_ #[22, 9] ty #[v, .string s]).run Tryd.prog w = .ok v' w') : v'.ownBlock = v.ownBlock ∨ v'.ownBlock = some w.heap.size := by
  rcases hown.2 with ⟨rfl, rfl⟩ | ⟨g, cap, cur, rfl, hbg, hg, hnc, hcm, hcs, htake⟩
  · by_cases hm : s.size = 0
    · rw [hnil.2 ⟨rfl, hm⟩]
      exact .inl rfl
    · have h := run_append_nil_string (P := Tryd.prog) w 22 9 ty 5 i (.int .u8 0) Tryd.underlying22 Tryd.underlying9 hi hz s (by omega) (by omega) (by rw [hby]; omega)
      rw [hr] at h
      injection h with h1 h2
      rw [h1]
      exact .inr rfl
  · by_cases hroom : n + s.size ≤ cap
    · have hcs' : cur.size = cap := by simpa using hcs
      have h := Lib.run_append_room_string (P := Tryd.prog) w 22 9 ty 5 i Tryd.underlying22 Tryd.underlying9 hi hsize g n cap cur hg s hroom (by omega)
      rw [hr] at h
      injection h with h1 h2
      rw [h1]
      exact .inl rfl
    · have hxl : xs.length = n := by simpa using hown.1
      have h := Lib.run_append_grow_string (P := Tryd.prog) w 22 9 ty 5 i (.int .u8 0) Tryd.underlying22 Tryd.underlying9 hi hz ⟨g, 0, none⟩ n cap xs (by rw [hsize]; simpa using hxl) (hown.cells (g := g) rfl) s (by omega) (by omega) (by rw [hby]; exact growslice_fits (by omega) (by omega))
      rw [hr] at h
      injection h with h1 h2
      rw [h1]
      exact .inr rfl

/-- The same at a plain region's list. -/
theorem wpList_string_at {w : World} {ops : Array Oper} {rest : List Oper} {o : Oper} {a : Act} {Q : Exit → Act → World → Prop} (hgd : o.guard = none) (sl x : Operand)
    (ho : o.op = .call { callee := .builtin .append, args := #[sl, x], argTypes := #[22, 9] }) (base : Nat) (i : TypeInfo) (hi : Tryd.prog.info? 5 = some i) (hz : i.zero = some (.int .u8 0)) (hsize : i.size = 1) (hby : i.bytes = 1)
    (v : Value) (n : Nat) (xs : List Value) (hs : a.eval sl = v) (hown : w.ownsRow base 5 1 v n xs) (s : ByteArray) (hx : a.eval x = .string s) (hb : n + s.size ≤ 140737488355328) (hbase : base ≤ w.heap.size)
    (h : ∀ v' w', w'.ownsRow base 5 1 v' (n + s.size) (xs ++ Lib.strCells s) → w.grownBy w' v.ownBlock → (v'.ownBlock = v.ownBlock ∨ v'.ownBlock = some w.heap.size) → wpList Tryd.prog ops Q rest (a.put o.dst v') w') : wpList Tryd.prog ops Q (o :: rest) a w := by
  have hml : maxLen = 9223372036854775807 := rfl
  refine wpList_plain hgd fun K hK => ?_
  obtain ⟨v', w', hr, h2, h3, h4⟩ := Lib.run_append_own_string (P := Tryd.prog) w base 22 9 o.type 5 i Tryd.underlying22 Tryd.underlying9 hi hz hsize hby v n xs hown s (by omega) hb hbase
  have h5 := string_at hi hz hsize hby hown hb h4 hr
  unfold Oper.wp execOp
  simp only [ho, resolve, invoke, builtin, Sem.run_bind, Sem.run_pure, Result.andThen_ok, List.map_toArray, List.map_cons, List.map_nil, hs, hx, hr]
  exact hK _ _ (h v' w' h2 h3 h5)
end Go.Proofs.YtfnmmpakejdlgaaDoor

/- codec.putNumber: what it leaves as it was. -/
namespace Go.Proofs.YtfnmmpakejdlgaaDoor
open Go.RowKit

set_option maxHeartbeats 4000000 in
set_option maxRecDepth 1000000 in
theorem putNumber_gro (v0 : Value) (B : Nat) (d0 : List UInt8) (n : Nat) (w : World) (hn : n < 18446744073709551616) (hB0 : B ≤ w.heap.size) (hd0 : d0.length ≤ 1000000000) (hown0 : w.ownsRow B 5 1 v0 d0.length (Lib.byteCells d0)) :
    Calls Tryd.prog 34 #[v0, .int .u64 n] w fun e w' => ∃ v, e = .returned v ∧ w'.ownsRow B 5 1 v (d0.length + (varint n).length) (Lib.byteCells d0 ++ Lib.byteCells (varint n)) ∧ Gro v0 w v w' := by
  obtain ⟨i0, hi, hz0, hz1, hz2⟩ := info_parts infoU8
  have hml : maxLen = 9223372036854775807 := rfl
  have HO := mkHid hown0
  clear hown0
  go_enter Tryd.func34, Tryd.ntmps34
  go_wp2_with fail
  go_loopw [0, 1] (fun v x wr => ∃ (n' : Nat) (dn : List UInt8), x = .int .u64 n' ∧ n' < 18446744073709551616 ∧ dn.length ≤ 64 ∧ Hid (n' < 2 ^ (64 - dn.length)) ∧ Hid (varint n = dn ++ varint n') ∧ wr.ownsRow B 5 1 v (d0.length + dn.length) (Lib.byteCells d0 ++ Lib.byteCells dn) ∧ Gro v0 w v wr) (fun _ x _ => (intOf x).toNat)
  case atStart => exact ⟨n, [], rfl, hn, by simp, (by show n < _; simpa using hn), rfl, (by simpa [Lib.byteCells] using HO.out), Gro.refl _ _⟩
  case round =>
    obtain ⟨n', dn, rfl, hn', hdl, HL, HV, hown, hbw⟩ := hrel
    have hbs := hbw.size
    by_cases h128 : 128 ≤ n'
    · have HS := vstep HL.out hdl h128
      have HS2 : Hid (n' / 128 < 2 ^ (64 - (dn.length + 1))) := HS.2
      have hd1 := HS.1
      clear HS
      have HM : Hid (varint n' = UInt8.ofNat (n' % 128 + 128) :: varint (n' / 128)) := varint_more h128
      obtain ⟨q, hq⟩ : ∃ q, n' / 128 = q := ⟨_, rfl⟩
      obtain ⟨r, hr⟩ : ∃ r, n' % 128 = r := ⟨_, rfl⟩
      have hq1 : (n' : Int) / 128 = (q : Int) := by omega
      have hr1 : Int.tmod (n' : Int) 128 = (r : Int) := by rw [Int.tmod_eq_emod_of_nonneg (by omega)]; omega
      have hr3 : (n' : Int) % 128 = (r : Int) := by omega
      have hr2 : r < 128 := by omega
      have hq2 : q < n' := by omega
      rw [hq, hr] at HM
      rw [hq] at HS2
      clear hq hr
      have HB : Hid (Lib.byteCells [UInt8.ofNat (r + 128)] = [.int .u8 ((r : Int) + 128)]) := by
        show Lib.byteCells _ = _
        simp only [Lib.byteCells, List.map_cons, List.map_nil]
        have : (UInt8.ofNat (r + 128)).toNat = r + 128 := by simp; omega
        rw [this]
        rfl
      go_wp2_with (at_builtin; refine wpList_append_own_at _ rfl _ _ 22 rfl B 5 i0 (.int .u8 0) 1 1 Tryd.underlying22 hi hz0 hz1 hz2 rfl (by decide) _ _ _ rfl (hown.alloc _) _ 1 1 [.int .u8 ((r : Int) + 128)] rfl rfl ?c1 ?c2 ?c3 ?c4 ?c5 ?_)
      case c1 =>
        intro j u hj
        match j, hj with
        | 0, hj => simp at hj; subst hj; simp [Addr.add]
      case c2 => intro u hu; simp at hu; subst hu; rfl
      case c3 => omega
      case c4 => omega
      case c5 => simp; omega
      intro v' w3 hown3 hgrow3 _ hat3
      have hbw3 : Gro v0 w v' w3 := hbw.app ((RowKit.Below.refl _ _).alloc (Nat.le_refl _) _) hgrow3 (by simpa using hat3)
      have HOWN : Hid (w3.ownsRow B 5 1 v' (d0.length + dn.length + 1) (Lib.byteCells d0 ++ Lib.byteCells dn ++ [.int .u8 ((r : Int) + 128)])) := by
        show World.ownsRow _ _ _ _ _ _ _
        rw [List.append_assoc]
        exact hown3
      clear hown3 hgrow3
      go_wp2_with fail
      go_roundw
      case rel =>
        refine ⟨q, dn ++ [UInt8.ofNat (r + 128)], rfl, by omega, by simp; omega, (by show q < _; simpa using HS2.out), ?_, ?_, hbw3⟩
        · show _ = _
          rw [HV.out, HM.out]
          simp
        · rw [Lib.byteCells_append, HB.out, List.length_append, ← List.append_assoc]
          exact HOWN.out
      case measure => simp [intOf]; omega
    · have HM : Hid (varint n' = [UInt8.ofNat n']) := varint_last h128
      have HB : Hid (Lib.byteCells [UInt8.ofNat n'] = [.int .u8 (n' : Int)]) := by
        show Lib.byteCells _ = _
        simp only [Lib.byteCells, List.map_cons, List.map_nil]
        have : (UInt8.ofNat n').toNat = n' := by simp; omega
        rw [this]
      go_wp2_with (at_builtin; refine wpList_append_own_at _ rfl _ _ 22 rfl B 5 i0 (.int .u8 0) 1 1 Tryd.underlying22 hi hz0 hz1 hz2 rfl (by decide) _ _ _ rfl (hown.alloc _) _ 1 1 [.int .u8 (n' : Int)] rfl rfl ?c1 ?c2 ?c3 ?c4 ?c5 ?_)
      case c1 =>
        intro j u hj
        match j, hj with
        | 0, hj => simp at hj; subst hj; simp [Addr.add]
      case c2 => intro u hu; simp at hu; subst hu; rfl
      case c3 => omega
      case c4 => omega
      case c5 => simp; omega
      intro v' w3 hown3 hgrow3 _ hat3
      have hbw3 : Gro v0 w v' w3 := hbw.app ((RowKit.Below.refl _ _).alloc (Nat.le_refl _) _) hgrow3 (by simpa using hat3)
      have HOWN : Hid (w3.ownsRow B 5 1 v' (d0.length + dn.length + 1) (Lib.byteCells d0 ++ Lib.byteCells dn ++ [.int .u8 (n' : Int)])) := by
        show World.ownsRow _ _ _ _ _ _ _
        rw [List.append_assoc]
        exact hown3
      clear hown3 hgrow3
      go_wp2_with fail
      go_ret
      refine ⟨_, rfl, ?_, hbw3⟩
      rw [HV.out, HM.out, Lib.byteCells_append, HB.out, List.length_append, ← List.append_assoc]
      exact HOWN.out
end Go.Proofs.YtfnmmpakejdlgaaDoor
