/- The writer of keys: bytes put behind a row of one's own that a block holds. -/
import Derived.Test.YticbcoklpgfkhaaKyMath
import Derived.Test.YticbcoklpgfkhaaKyMem
namespace Go.Proofs.Yticbcoklpgfkhaa
open Go.RowKit

/-- The writer: its block holds a row of bytes of one's own. -/
structure Wr (W B : Nat) (d : List UInt8) (v : Value) (w : World) : Prop where
  blk : Blk1 w W 72 v
  own : w.ownsRow B 5 1 v d.length (Lib.byteCells d)
  ne : v.ownBlock ≠ some W
  low : B ≤ W
/-- What writing leaves as it was. -/
structure GroW (W : Nat) (v0 : Value) (w : World) (v : Value) (w' : World) : Prop where
  os : w'.os = w.os
  tape : w'.tape = w.tape
  output : w'.output = w.output
  size : w.heap.size ≤ w'.heap.size
  block : ∀ k, k < w.heap.size → k ≠ W → some k ≠ v0.ownBlock → w'.heap[k]? = w.heap[k]?
  lies : v.ownBlock = v0.ownBlock ∨ ∃ k, v.ownBlock = some k ∧ w.heap.size ≤ k
theorem GroW.refl (W : Nat) (v : Value) (w : World) : GroW W v w v w := ⟨rfl, rfl, rfl, Nat.le_refl _, fun _ _ _ _ => rfl, .inl rfl⟩
theorem GroW.trans {W : Nat} {v0 v1 v2 : Value} {w w1 w2 : World} (h : GroW W v0 w v1 w1) (g : GroW W v1 w1 v2 w2) : GroW W v0 w v2 w2 := by
  refine ⟨g.os.trans h.os, g.tape.trans h.tape, g.output.trans h.output, Nat.le_trans h.size g.size, fun k hk hW hn => ?_, ?_⟩
  · refine (g.block k (Nat.lt_of_lt_of_le hk h.size) hW ?_).trans (h.block k hk hW hn)
    rcases h.lies with e | ⟨k', e, hk'⟩
    · rw [e]; exact hn
    · rw [e]
      intro e2
      cases e2
      omega
  · rcases g.lies with e | ⟨k', e, hk'⟩
    · rw [e]; exact h.lies
    · exact .inr ⟨k', e, Nat.le_trans h.size hk'⟩
theorem GroW.new {W : Nat} {v0 v : Value} {w w1 w2 : World} (h : GroW W v0 w v w1) (hb : RowKit.Below w1.heap.size w1 w2) : GroW W v0 w v w2 :=
  ⟨hb.os.trans h.os, hb.tape.trans h.tape, hb.output.trans h.output, Nat.le_trans h.size hb.size, fun k hk hW hn => (hb.block k (Nat.lt_of_lt_of_le hk h.size)).trans (h.block k hk hW hn), h.lies⟩
theorem GroW.below {W B n : Nat} {v0 v : Value} {w w' : World} {xs : List Value} (h : GroW W v0 w v w') (ho : w.ownsRow B 5 1 v0 n xs) (hB : B ≤ w.heap.size) (hW : B ≤ W) : RowKit.Below B w w' :=
  ⟨h.os, h.tape, h.output, h.size, fun k hk => h.block k (by omega) (by omega) (fun e => by have := (ho.lt k e.symm).1; omega)⟩
theorem Wr.new {W B : Nat} {d : List UInt8} {v : Value} {w w' : World} (h : Wr W B d v w) (hb : RowKit.Below w.heap.size w w') : Wr W B d v w' :=
  ⟨by unfold Blk1; rw [hb.block W h.blk.lt]; exact h.blk, own_below h.own hb, h.ne, h.low⟩
/-- A block that is neither the writer's nor its row's stays. -/
theorem GroW.keep {W : Nat} {v0 v : Value} {w w' : World} (h : GroW W v0 w v w') {k : Nat} (hk : k < w.heap.size) (hW : k ≠ W) (hn : some k ≠ v0.ownBlock) : w'.heap[k]? = w.heap[k]? := h.block k hk hW hn
theorem Wr.old {W B : Nat} {d : List UInt8} {v : Value} {w : World} (h : Wr W B d v w) {k : Nat} (hk : w.heap.size ≤ k) : k ≠ W ∧ some k ≠ v.ownBlock := by
  refine ⟨fun e => ?_, fun e => ?_⟩
  · have := h.blk.lt
    omega
  · have := (h.own.lt _ e.symm).2
    omega

/-- What a call says that writes. -/
def WSay (W B : Nat) (v0 : Value) (w : World) (d : List UInt8) (e : Ending) (w' : World) : Prop := e = .returned (.tuple #[]) ∧ ∃ v', Wr W B d v' w' ∧ GroW W v0 w v' w'

set_option maxHeartbeats 1000000 in
set_option maxRecDepth 1000000 in
theorem put_any (W B : Nat) (d news : List UInt8) (v0 : Value) (ad : Addr) (c : Nat) (w : World) (h : Wr W B d v0 w) (hB : B ≤ w.heap.size) (hc : ∀ j u, (Lib.byteCells news)[j]? = some u → w.cell? (ad.add j) = some u) (hl : d.length + news.length ≤ 1000000000000) :
    Calls Try.prog 54 #[.pointer (some ⟨W, 0, none⟩), .slice (some ad) news.length c] w fun e w' => WSay W B v0 w (d ++ news) e w' := by
  obtain ⟨i0, hi, hz0, hz1, hz2⟩ := info_parts infoU8
  have hml : maxLen = 9223372036854775807 := rfl
  obtain ⟨a0, c0', rfl, _⟩ := own_slice h.own
  have c0 := h.blk.cell
  have f0 := h.blk.free
  have H := mkHid h
  have HC := mkHid hc
  obtain ⟨n, hn⟩ : ∃ n, n = news.length := ⟨_, rfl⟩
  have HN := mkHid hn
  rw [← hn]
  rw [← hn] at hl
  have h1c : ∀ u ∈ Lib.byteCells news, u.oneCell' = true := by
    intro u hu
    simp [Lib.byteCells] at hu
    obtain ⟨x, _, rfl⟩ := hu
    rfl
  have HN1 : Hid ((Lib.byteCells news).length = n * 1) := by
    show _ = _
    rw [hn]
    simp [Lib.byteCells]
  have H1C := mkHid h1c
  clear h hc hn h1c
  go_enter Try.func54, Try.ntmps54
  go_wp2_with (at_builtin; refine wpList_append_own_at _ rfl _ _ 29 rfl B 5 i0 (.int .u8 0) 1 1 Try.underlying29 hi hz0 hz1 hz2 rfl (by decide) _ _ _ rfl H.out.own ad n c (Lib.byteCells news) rfl HN1.out HC.out H1C.out ?c3 ?c4 ?c5 ?_)
  case c3 => omega
  case c4 => omega
  case c5 => omega
  intro v1 w1 o1 g1 _ at1
  obtain ⟨a1, n1', rfl, _⟩ := own_slice o1
  have hk : w1.heap[W]? = w.heap[W]? := g1.block W H.out.blk.lt (fun e => H.out.ne e.symm)
  have hb1 : Blk1 w1 W 72 (.slice a0 d.length c0') := by unfold Blk1; rw [hk]; exact H.out.blk
  have c1 := hb1.cell
  have f1 := hb1.free
  have hne : (Value.slice a1 (d.length + n) n1').ownBlock ≠ some W := by
    rcases at1 with e | e
    · rw [e]
      exact H.out.ne
    · rw [e]
      intro e2
      cases e2
      have := H.out.blk.lt
      omega
  have HE : Hid (∃ v', Wr W B (d ++ news) v' (w1.setCell ⟨W, 0, none⟩ (.slice a1 (d.length + n) n1')) ∧ GroW W (.slice a0 d.length c0') w v' (w1.setCell ⟨W, 0, none⟩ (.slice a1 (d.length + n) n1'))) := by
    refine ⟨(.slice a1 (d.length + n) n1'), ⟨hb1.set, ?_, hne, H.out.low⟩, ?_⟩
    · refine own_keep1 (w := w1) ?_ ?_
      · rw [Lib.byteCells_append, List.length_append, ← HN.out]
        exact o1
      · intro k e
        exact RowKit.Below.heap_setCell w1 ⟨W, 0, none⟩ (.slice a1 (d.length + n) n1') k (fun e2 => hne (by rw [e, e2]))
    · have hbs := (RowKit.Below.refl 0 w1).setCell (p := ⟨W, 0, none⟩) (Nat.zero_le _) (.slice a1 (d.length + n) n1')
      refine ⟨hbs.os.trans g1.os, hbs.tape.trans g1.tape, hbs.output.trans g1.output, Nat.le_trans g1.size hbs.size, fun k hk hW hn => ?_, ?_⟩
      · rw [RowKit.Below.heap_setCell w1 ⟨W, 0, none⟩ (.slice a1 (d.length + n) n1') k hW]
        exact g1.block k hk hn
      · rcases at1 with e | e
        · exact .inl e
        · exact .inr ⟨_, e, Nat.le_refl _⟩
  clear o1 g1 at1 hk hb1 hne
  go_wp2_with fail
  refine bodyPost_end (v := .tuple #[]) ?_ rfl ⟨rfl, HE.out⟩
  have hres : Try.f54.results = #[] := by kernel_rfl
  simp [results]

/-- One byte, or two, in a new block, put. -/
theorem put_one (W B : Nat) (d : List UInt8) (x : UInt8) (v0 : Value) (w : World) (h : Wr W B d v0 w) (hB : B ≤ w.heap.size) (hl : d.length + 1 ≤ 1000000000000) :
    Calls Try.prog 54 #[.pointer (some ⟨W, 0, none⟩), .slice (some ⟨w.heap.size, 0, none⟩) 1 1] (w.alloc (.cells #[.int .u8 (x.toNat : Int)] 5)) fun e w' => WSay W B v0 w (d ++ [x]) e w' := by
  have hb := (RowKit.Below.refl w.heap.size w).alloc (Nat.le_refl _) (.cells #[.int .u8 (x.toNat : Int)] 5)
  have hr := heap_alloc_new w (.cells #[.int .u8 (x.toNat : Int)] 5)
  refine (put_any W B d [x] v0 ⟨w.heap.size, 0, none⟩ 1 _ (h.new hb) (Nat.le_trans hB hb.size) ?_ hl).mono ?_
  · intro j u hj
    rw [show (⟨w.heap.size, 0, none⟩ : Addr).add j = ⟨w.heap.size, j, none⟩ by simp [Addr.add]; omega, cell_of_row _ _ _ _ _ _ hr]
    simpa [Lib.byteCells] using hj
  · rintro e w' ⟨rfl, v', h1, h2⟩
    exact ⟨rfl, v', h1, ((GroW.refl W v0 w).new hb).trans h2⟩
theorem put_two0 (W B : Nat) (d : List UInt8) (v0 : Value) (w : World) (h : Wr W B d v0 w) (hB : B ≤ w.heap.size) (hl : d.length + 2 ≤ 1000000000000) :
    Calls Try.prog 54 #[.pointer (some ⟨W, 0, none⟩), .slice (some ⟨w.heap.size, 0, none⟩) 2 2] (w.alloc (.cells #[.int .u8 0, .int .u8 0] 5)) fun e w' => WSay W B v0 w (d ++ [0, 0]) e w' := by
  have hb := (RowKit.Below.refl w.heap.size w).alloc (Nat.le_refl _) (.cells #[.int .u8 0, .int .u8 0] 5)
  have hr := heap_alloc_new w (.cells #[.int .u8 0, .int .u8 0] 5)
  refine (put_any W B d [0, 0] v0 ⟨w.heap.size, 0, none⟩ 2 _ (h.new hb) (Nat.le_trans hB hb.size) ?_ hl).mono ?_
  · intro j u hj
    rw [show (⟨w.heap.size, 0, none⟩ : Addr).add j = ⟨w.heap.size, j, none⟩ by simp [Addr.add]; omega, cell_of_row _ _ _ _ _ _ hr]
    simpa [Lib.byteCells] using hj
  · rintro e w' ⟨rfl, v', h1, h2⟩
    exact ⟨rfl, v', h1, ((GroW.refl W v0 w).new hb).trans h2⟩

/-- A text without its end. -/
def lettersP (t : List UInt8) : List UInt8 := t.flatMap fun x => if x = 0 then [0, 255] else [x]
theorem lettersK_eq : ∀ t, lettersK t = lettersP t ++ [0, 0]
  | [] => rfl
  | x :: t => by
    rw [lettersK, lettersK_eq t]
    by_cases h : x = 0
    · rw [if_pos h]
      simp [lettersP, h]
    · rw [if_neg h]
      simp [lettersP, h]
theorem lettersP_snoc (t : List UInt8) (x : UInt8) : lettersP (t ++ [x]) = lettersP t ++ (if x = 0 then [0, 255] else [x]) := by simp [lettersP]
theorem lettersP_len : ∀ t, (lettersP t).length ≤ 2 * t.length
  | [] => by simp [lettersP]
  | x :: t => by
    have := lettersP_len t
    unfold lettersP at this ⊢
    rw [List.flatMap_cons, List.length_append, List.length_cons]
    have h2 : (if x = 0 then [0, 255] else [x]).length ≤ 2 := by split <;> simp
    omega
theorem lettersP_ge : ∀ t, t.length ≤ (lettersP t).length
  | [] => by simp
  | x :: t => by
    have := lettersP_ge t
    unfold lettersP at this ⊢
    rw [List.flatMap_cons, List.length_append, List.length_cons]
    have h2 : 1 ≤ (if x = 0 then [0, 255] else [x]).length := by split <;> simp
    omega
theorem lettersK_ge (t : List UInt8) : t.length + 2 ≤ (lettersK t).length := by
  rw [lettersK_eq, List.length_append]
  have := lettersP_ge t
  simp
  omega
theorem lettersK_len (t : List UInt8) : (lettersK t).length ≤ 2 * t.length + 2 := by
  rw [lettersK_eq, List.length_append]
  have := lettersP_len t
  simp
  omega

set_option maxHeartbeats 1000000 in
set_option maxRecDepth 1000000 in
theorem wletters_any (W B : Nat) (d : List UInt8) (v0 : Value) (s : ByteArray) (w : World) (h : Wr W B d v0 w) (hB : B ≤ w.heap.size) (hl : d.length + (lettersK s.data.toList).length ≤ 1000000000000) :
    Calls Try.prog 89 #[.pointer (some ⟨W, 0, none⟩), .string s] w fun e w' => WSay W B v0 w (d ++ lettersK s.data.toList) e w' := by
  have hml : maxLen = 9223372036854775807 := rfl
  have H := mkHid h
  have HL : Hid (∀ j, j ≤ s.size → (lettersP (s.data.toList.take j)).length + 2 + d.length ≤ 1000000000000) := fun j _ => by
    have h1 : (lettersP (s.data.toList.take j)).length ≤ (lettersP s.data.toList).length := by
      have e : lettersP s.data.toList = lettersP (s.data.toList.take j) ++ lettersP (s.data.toList.drop j) := by
        unfold lettersP
        rw [← List.flatMap_append, List.take_append_drop]
      rw [e, List.length_append]
      omega
    rw [lettersK_eq, List.length_append] at hl
    simp only [List.length_cons, List.length_nil] at hl
    omega
  have HK : Hid (d ++ lettersK s.data.toList = (d ++ lettersP s.data.toList) ++ [0, 0]) := by
    show _ = _
    rw [lettersK_eq, List.append_assoc]
  rw [HK.out]
  have hsm : s.size ≤ 1000000000000 := by
    have h1 := lettersK_ge s.data.toList
    have h2 : s.data.toList.length = s.size := by simp
    omega
  clear h hl
  go_enter Try.func89, Try.ntmps89
  go_wp2_with fail
  go_loopw [7] (fun i wr => ∃ (j : Nat) (v : Value), i = .int .i64 j ∧ j ≤ s.size ∧ Wr W B (d ++ lettersP (s.data.toList.take j)) v wr ∧ GroW W v0 w v wr) (fun i _ => s.size - (intOf i).toNat)
  case atStart => exact ⟨0, v0, rfl, by omega, by simpa [lettersP] using H.out, GroW.refl _ _ _⟩
  case round =>
    obtain ⟨j, v, rfl, hj, hw, hg⟩ := hrel
    by_cases hlt : j < s.size
    · have hsz := hg.size
      have HP := mkHid (put_one W B _ s[j] v wr hw (by omega) (by have := HL.out j hj; simp only [List.length_append]; omega))
      have HG := mkHid hg
      have HT : Hid (s.data.toList.take (j + 1) = s.data.toList.take j ++ [s[j]]) := take_succ_byte s j hlt
      have hLj := HL.out j hj
      by_cases hx : s[j] = 0
      · have kx : ((s[j].toNat : Int) == 0) = true := by rw [hx]; rfl
        have HX := mkHid hx
        clear hw hg hx
        go_wp2_with fail
        refine HP.out.mono ?_
        rintro e w1 ⟨rfl, v1, hw1, hg1⟩
        have hs1 := hg1.size
        have HP1 := mkHid (put_one W B _ 255 v1 w1 hw1 (by omega) (by simp only [List.length_append, List.length_cons, List.length_nil]; omega))
        have HG1 := mkHid (HG.out.trans hg1)
        clear hw1 hg1
        go_wp2_with fail
        refine HP1.out.mono ?_
        rintro e w2 ⟨rfl, v2, hw2, hg2⟩
        have HW2 := mkHid hw2
        have HG2 := mkHid (HG1.out.trans hg2)
        clear hw2 hg2
        go_wp2_with fail
        go_roundw
        case rel =>
          refine ⟨j + 1, v2, by go_num, by omega, ?_, HG2.out⟩
          have h := HW2.out
          rw [HT.out, lettersP_snoc, if_pos HX.out]
          rw [HX.out] at h
          simpa [List.append_assoc] using h
        case measure => simp [intOf]; omega
      · have kx : ((s[j].toNat : Int) == 0) = false := by
          simp only [beq_eq_false_iff_ne, ne_eq]
          intro e
          exact hx (UInt8.toNat_inj.1 (by show s[j].toNat = 0; omega))
        have HX := mkHid hx
        clear hw hg hx
        go_wp2_with fail
        refine HP.out.mono ?_
        rintro e w1 ⟨rfl, v1, hw1, hg1⟩
        have HW1 := mkHid hw1
        have HG1 := mkHid (HG.out.trans hg1)
        clear hw1 hg1
        go_wp2_with fail
        go_roundw
        case rel =>
          refine ⟨j + 1, v1, by go_num, by omega, ?_, HG1.out⟩
          have h := HW1.out
          rw [HT.out, lettersP_snoc, if_neg HX.out]
          simpa [List.append_assoc] using h
        case measure => simp [intOf]; omega
    · obtain rfl : j = s.size := by omega
      have hsz := hg.size
      have e0 : s.data.toList.take s.size = s.data.toList := List.take_of_length_le (by simp)
      rw [e0] at hw
      have hLj := HL.out s.size (Nat.le_refl _)
      rw [e0] at hLj
      have HP := mkHid (put_two0 W B _ v wr hw (by omega) (by simp only [List.length_append]; omega))
      have HG := mkHid hg
      clear hw hg
      go_wp2_with fail
      refine HP.out.mono ?_
      rintro e w1 ⟨rfl, v1, hw1, hg1⟩
      have HE : Hid (∃ v', Wr W B (d ++ lettersP s.data.toList ++ [0, 0]) v' w1 ∧ GroW W v0 w v' w1) := ⟨v1, hw1, HG.out.trans hg1⟩
      clear hw1 hg1
      go_wp2_with fail
      refine bodyPost_end (v := .tuple #[]) ?_ rfl ⟨rfl, HE.out⟩
      have hres : Try.f89.results = #[] := by kernel_rfl
      simp [results]
end Go.Proofs.Yticbcoklpgfkhaa
