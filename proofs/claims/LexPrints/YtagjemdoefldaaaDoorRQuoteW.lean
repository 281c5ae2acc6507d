/- Contract of tidemarkref1.Quote: a text's bytes one by one, each as its part, between two quotes. -/
import Derived.Test.YtagjemdoefldaaaDoorRQuote
import Derived.Test.YtagjemdoefldaaaDoorSame
import Derived.Deep.RegionLaw
namespace Go.Proofs.YtagjemdoefldaaaDoor
open Go.RowKit

/-- append onto a row of one's own, as one step of a region that draws its order. -/
theorem step_append_own {P : Program} {ops : Array Oper} {o : Oper} {a : Act} {w : World} {K : Act → World → Prop} {Q : Exit → Act → World → Prop} {E : Prop}
    (hg : o.guard = none) (s x : Operand) (t : TypeId) (hop : o.op = Op.call { callee := Callee.builtin Builtin.append, args := #[s, x], argTypes := #[t, t] })
    (base : Nat) (e : TypeId) (i : TypeInfo) (z : Value) (size bytes : Nat) (h1 : P.underlying t = some (.slice e)) (h2 : P.info? e = some i) (h3 : i.zero = some z) (h4 : i.size = size) (h5 : i.bytes = bytes) (h6 : z.cells.size = size) (h7 : 0 < size)
    (v : Value) (n : Nat) (xs : List Value) (hs : a.eval s = v) (hown : w.ownsRow base e size v n xs)
    (ad : Addr) (m c : Nat) (news : List Value) (hx : a.eval x = .slice (some ad) m c) (hn : news.length = m * size) (hc : ∀ j u, news[j]? = some u → w.cell? (ad.add j) = some u) (h1c : ∀ u ∈ news, u.oneCell' = true)
    (b1 : n + m ≤ maxLen) (b2 : (n + m) * bytes ≤ 140737488355328) (hbase : base ≤ w.heap.size)
    (hK : ∀ v' w', w'.ownsRow base e size v' (n + m) (xs ++ news) → w.grownBy w' v.ownBlock → K (a.put o.dst v') w') :
    if Region.wanted o (yielded ops a.tmps) = true then Oper.wp P o a w K Q else E := by
  have hw : Region.wanted o (yielded ops a.tmps) = true := by simp [Region.wanted, hg]
  rw [if_pos hw]
  obtain ⟨v', w', hrun, r1, r2, _⟩ := run_append_own (P := P) w base t o.type e i z size bytes h1 h2 h3 h4 h5 h6 h7 v n xs hown ad m c news hn hc h1c b1 b2 hbase
  unfold Oper.wp
  simp [execOp, hop, resolve, invoke, builtin, hs, hx, hrun, Result.andThen]
  exact hK v' w' r1 r2

theorem alloc_cells (W : World) (l : Array Value) (j : Nat) (u : Value) (h : l.toList[j]? = some u) : (W.alloc (.cells l 5)).cell? ((⟨W.heap.size, 0, none⟩ : Addr).add j) = some u := by
  have hadd : (⟨W.heap.size, 0, none⟩ : Addr).add j = ⟨W.heap.size, j, none⟩ := by simp [Addr.add]; omega
  rw [hadd, cell_of_row _ W.heap.size j l 5 (0, 0) (heap_alloc_new W _)]
  simpa using h

theorem bq_of (c : UInt8) (b : Nat) (l : List UInt8) (hc : c.toNat = b) (hb : b < 128) (h : partOf (b : Int) = l) : bq c = l := by
  unfold bq
  rw [hc, if_pos hb, h]

theorem u8_back (c : UInt8) (b : Nat) (hc : c.toNat = b) : c = b.toUInt8 := by
  subst hc
  simp

set_option maxHeartbeats 40000000 in
set_option maxRecDepth 1000000 in
theorem rquote_any (s : ByteArray) (w : World) (hs : 6 * s.size + 16 ≤ 140737488355328) :
    Calls Tryd.prog 30 #[.string s] w fun e w' => e = .returned (.string ⟨(34 :: (qb s.data.toList ++ [34])).toArray⟩) ∧ Below w.heap.size w w' := by
  obtain ⟨i0, hi, hz0, hz1, hz2⟩ := info_parts infoU8
  go_enter Tryd.func30, Tryd.ntmps30
  go_wp2_with fail
  go_loopw [3, 4] (fun v i wr => ∃ k : Nat, i = .int .i64 k ∧ k ≤ s.size ∧ wr.ownsRow w.heap.size 5 1 v (34 :: qb (s.data.toList.take k)).length (Lib.byteCells (34 :: qb (s.data.toList.take k))) ∧ Below w.heap.size w wr) (fun _ i _ => s.size - (intOf i).toNat)
  case atStart =>
    exact ⟨0, rfl, by omega, one_own w [34] #[.int .u8 34] 1 rfl (by omega) rfl, (Below.refl _ w).alloc (Nat.le_refl _) _⟩
  case round =>
    obtain ⟨k, rfl, hk, hown, hbw⟩ := hrel
    have HOWN : Hid (wr.ownsRow w.heap.size 5 1 u3 (34 :: qb (s.data.toList.take k)).length (Lib.byteCells (34 :: qb (s.data.toList.take k)))) := hown
    have hbs := hbw.size
    have hal : (34 :: qb (s.data.toList.take k)).length ≤ 6 * s.size + 1 := by
      have h1 := qb_len (s.data.toList.take k)
      rw [List.length_take, size_list] at h1
      rw [List.length_cons]
      omega
    clear hown
    by_cases hlt : k < s.size
    · have hg := byteAt_get s k hlt
      have hb256 := byteAt_lt s k
      have htk : s.data.toList.take (k + 1) = s.data.toList.take k ++ [s.data.toList.getD k 0] := by
        have hl : k < s.data.toList.length := by rw [size_list]; exact hlt
        rw [List.take_succ_eq_append_getElem hl, List.getD_eq_getElem?_getD, List.getElem?_eq_getElem hl]
        rfl
      have HTK : Hid (s.data.toList.take (k + 1) = s.data.toList.take k ++ [s.data.toList.getD k 0]) := htk
      obtain ⟨b, hb⟩ : ∃ b, byteAt s k = b := ⟨_, rfl⟩
      rw [hb] at hg hb256
      have HB : Hid ((s.data.toList.getD k 0).toNat = b) := hb
      clear hb htk
      by_cases h34 : b = 34
      · subst h34
        have HBQ : Hid (bq (s.data.toList.getD k 0) = [92, 34]) := bq_of _ 34 _ HB.out (by omega) (by decide)
        go_wp2_with (at_builtin; refine wpList_append_own _ rfl _ _ 39 rfl w.heap.size 5 i0 (.int .u8 0) 1 1 Tryd.underlying39 hi hz0 hz1 hz2 rfl (by decide) _ _ _ rfl (HOWN.out.alloc _) _ 2 2 [.int .u8 92, .int .u8 34] rfl rfl ?c1 ?c2 ?c3 ?c4 ?c5 ?_)
        case c1 =>
          intro j u hj
          match j, hj with
          | 0, hj => simp at hj; subst hj; simp [Addr.add]
          | 1, hj => simp at hj; subst hj; simp [Addr.add]
        case c2 => intro u hu; simp only [List.mem_cons, List.not_mem_nil, or_false] at hu; rcases hu with rfl | rfl <;> rfl
        case c3 => unfold maxLen; omega
        case c4 => omega
        case c5 => simp; omega
        intro v' w3 hown3 hgrow3 _
        have hbw3 : Below w.heap.size w w3 := by
          refine (hbw.alloc (by omega) _).grown hgrow3 (by simp; omega) ?_
          intro k hk
          exact (HOWN.out.lt k hk).1
        have HOWN3 : Hid (w3.ownsRow w.heap.size 5 1 v' ((34 :: qb (s.data.toList.take k)).length + 2) (Lib.byteCells (34 :: qb (s.data.toList.take k)) ++ [.int .u8 92, .int .u8 34])) := hown3
        clear hown3 hgrow3
        go_wp2_with fail
        go_roundw
        case rel =>
          refine ⟨k + 1, by go_num, by omega, ?_, hbw3⟩
          rw [HTK.out, qb_snoc, ← List.cons_append, Lib.byteCells_append, List.length_append, HBQ.out]
          exact HOWN3.out
        case measure => simp [intOf]; omega
      by_cases h92 : b = 92
      · subst h92
        have HBQ : Hid (bq (s.data.toList.getD k 0) = [92, 92]) := bq_of _ 92 _ HB.out (by omega) (by decide)
        go_wp2_with (at_builtin; refine wpList_append_own _ rfl _ _ 39 rfl w.heap.size 5 i0 (.int .u8 0) 1 1 Tryd.underlying39 hi hz0 hz1 hz2 rfl (by decide) _ _ _ rfl (HOWN.out.alloc _) _ 2 2 [.int .u8 92, .int .u8 92] rfl rfl ?c1 ?c2 ?c3 ?c4 ?c5 ?_)
        case c1 =>
          intro j u hj
          match j, hj with
          | 0, hj => simp at hj; subst hj; simp [Addr.add]
          | 1, hj => simp at hj; subst hj; simp [Addr.add]
        case c2 => intro u hu; simp only [List.mem_cons, List.not_mem_nil, or_false] at hu; rcases hu with rfl | rfl <;> rfl
        case c3 => unfold maxLen; omega
        case c4 => omega
        case c5 => simp; omega
        intro v' w3 hown3 hgrow3 _
        have hbw3 : Below w.heap.size w w3 := by
          refine (hbw.alloc (by omega) _).grown hgrow3 (by simp; omega) ?_
          intro k hk
          exact (HOWN.out.lt k hk).1
        have HOWN3 : Hid (w3.ownsRow w.heap.size 5 1 v' ((34 :: qb (s.data.toList.take k)).length + 2) (Lib.byteCells (34 :: qb (s.data.toList.take k)) ++ [.int .u8 92, .int .u8 92])) := hown3
        clear hown3 hgrow3
        go_wp2_with fail
        go_roundw
        case rel =>
          refine ⟨k + 1, by go_num, by omega, ?_, hbw3⟩
          rw [HTK.out, qb_snoc, ← List.cons_append, Lib.byteCells_append, List.length_append, HBQ.out]
          exact HOWN3.out
        case measure => simp [intOf]; omega
      by_cases h8 : b = 8
      · subst h8
        have HBQ : Hid (bq (s.data.toList.getD k 0) = [92, 98]) := bq_of _ 8 _ HB.out (by omega) (by decide)
        go_wp2_with (at_builtin; refine wpList_append_own _ rfl _ _ 39 rfl w.heap.size 5 i0 (.int .u8 0) 1 1 Tryd.underlying39 hi hz0 hz1 hz2 rfl (by decide) _ _ _ rfl (HOWN.out.alloc _) _ 2 2 [.int .u8 92, .int .u8 98] rfl rfl ?c1 ?c2 ?c3 ?c4 ?c5 ?_)
        case c1 =>
          intro j u hj
          match j, hj with
          | 0, hj => simp at hj; subst hj; simp [Addr.add]
          | 1, hj => simp at hj; subst hj; simp [Addr.add]
        case c2 => intro u hu; simp only [List.mem_cons, List.not_mem_nil, or_false] at hu; rcases hu with rfl | rfl <;> rfl
        case c3 => unfold maxLen; omega
        case c4 => omega
        case c5 => simp; omega
        intro v' w3 hown3 hgrow3 _
        have hbw3 : Below w.heap.size w w3 := by
          refine (hbw.alloc (by omega) _).grown hgrow3 (by simp; omega) ?_
          intro k hk
          exact (HOWN.out.lt k hk).1
        have HOWN3 : Hid (w3.ownsRow w.heap.size 5 1 v' ((34 :: qb (s.data.toList.take k)).length + 2) (Lib.byteCells (34 :: qb (s.data.toList.take k)) ++ [.int .u8 92, .int .u8 98])) := hown3
        clear hown3 hgrow3
        go_wp2_with fail
        go_roundw
        case rel =>
          refine ⟨k + 1, by go_num, by omega, ?_, hbw3⟩
          rw [HTK.out, qb_snoc, ← List.cons_append, Lib.byteCells_append, List.length_append, HBQ.out]
          exact HOWN3.out
        case measure => simp [intOf]; omega
      by_cases h12 : b = 12
      · subst h12
        have HBQ : Hid (bq (s.data.toList.getD k 0) = [92, 102]) := bq_of _ 12 _ HB.out (by omega) (by decide)
        go_wp2_with (at_builtin; refine wpList_append_own _ rfl _ _ 39 rfl w.heap.size 5 i0 (.int .u8 0) 1 1 Tryd.underlying39 hi hz0 hz1 hz2 rfl (by decide) _ _ _ rfl (HOWN.out.alloc _) _ 2 2 [.int .u8 92, .int .u8 102] rfl rfl ?c1 ?c2 ?c3 ?c4 ?c5 ?_)
        case c1 =>
          intro j u hj
          match j, hj with
          | 0, hj => simp at hj; subst hj; simp [Addr.add]
          | 1, hj => simp at hj; subst hj; simp [Addr.add]
        case c2 => intro u hu; simp only [List.mem_cons, List.not_mem_nil, or_false] at hu; rcases hu with rfl | rfl <;> rfl
        case c3 => unfold maxLen; omega
        case c4 => omega
        case c5 => simp; omega
        intro v' w3 hown3 hgrow3 _
        have hbw3 : Below w.heap.size w w3 := by
          refine (hbw.alloc (by omega) _).grown hgrow3 (by simp; omega) ?_
          intro k hk
          exact (HOWN.out.lt k hk).1
        have HOWN3 : Hid (w3.ownsRow w.heap.size 5 1 v' ((34 :: qb (s.data.toList.take k)).length + 2) (Lib.byteCells (34 :: qb (s.data.toList.take k)) ++ [.int .u8 92, .int .u8 102])) := hown3
        clear hown3 hgrow3
        go_wp2_with fail
        go_roundw
        case rel =>
          refine ⟨k + 1, by go_num, by omega, ?_, hbw3⟩
          rw [HTK.out, qb_snoc, ← List.cons_append, Lib.byteCells_append, List.length_append, HBQ.out]
          exact HOWN3.out
        case measure => simp [intOf]; omega
      by_cases h10 : b = 10
      · subst h10
        have HBQ : Hid (bq (s.data.toList.getD k 0) = [92, 110]) := bq_of _ 10 _ HB.out (by omega) (by decide)
        go_wp2_with (at_builtin; refine wpList_append_own _ rfl _ _ 39 rfl w.heap.size 5 i0 (.int .u8 0) 1 1 Tryd.underlying39 hi hz0 hz1 hz2 rfl (by decide) _ _ _ rfl (HOWN.out.alloc _) _ 2 2 [.int .u8 92, .int .u8 110] rfl rfl ?c1 ?c2 ?c3 ?c4 ?c5 ?_)
        case c1 =>
          intro j u hj
          match j, hj with
          | 0, hj => simp at hj; subst hj; simp [Addr.add]
          | 1, hj => simp at hj; subst hj; simp [Addr.add]
        case c2 => intro u hu; simp only [List.mem_cons, List.not_mem_nil, or_false] at hu; rcases hu with rfl | rfl <;> rfl
        case c3 => unfold maxLen; omega
        case c4 => omega
        case c5 => simp; omega
        intro v' w3 hown3 hgrow3 _
        have hbw3 : Below w.heap.size w w3 := by
          refine (hbw.alloc (by omega) _).grown hgrow3 (by simp; omega) ?_
          intro k hk
          exact (HOWN.out.lt k hk).1
        have HOWN3 : Hid (w3.ownsRow w.heap.size 5 1 v' ((34 :: qb (s.data.toList.take k)).length + 2) (Lib.byteCells (34 :: qb (s.data.toList.take k)) ++ [.int .u8 92, .int .u8 110])) := hown3
        clear hown3 hgrow3
        go_wp2_with fail
        go_roundw
        case rel =>
          refine ⟨k + 1, by go_num, by omega, ?_, hbw3⟩
          rw [HTK.out, qb_snoc, ← List.cons_append, Lib.byteCells_append, List.length_append, HBQ.out]
          exact HOWN3.out
        case measure => simp [intOf]; omega
      by_cases h13 : b = 13
      · subst h13
        have HBQ : Hid (bq (s.data.toList.getD k 0) = [92, 114]) := bq_of _ 13 _ HB.out (by omega) (by decide)
        go_wp2_with (at_builtin; refine wpList_append_own _ rfl _ _ 39 rfl w.heap.size 5 i0 (.int .u8 0) 1 1 Tryd.underlying39 hi hz0 hz1 hz2 rfl (by decide) _ _ _ rfl (HOWN.out.alloc _) _ 2 2 [.int .u8 92, .int .u8 114] rfl rfl ?c1 ?c2 ?c3 ?c4 ?c5 ?_)
        case c1 =>
          intro j u hj
          match j, hj with
          | 0, hj => simp at hj; subst hj; simp [Addr.add]
          | 1, hj => simp at hj; subst hj; simp [Addr.add]
        case c2 => intro u hu; simp only [List.mem_cons, List.not_mem_nil, or_false] at hu; rcases hu with rfl | rfl <;> rfl
        case c3 => unfold maxLen; omega
        case c4 => omega
        case c5 => simp; omega
        intro v' w3 hown3 hgrow3 _
        have hbw3 : Below w.heap.size w w3 := by
          refine (hbw.alloc (by omega) _).grown hgrow3 (by simp; omega) ?_
          intro k hk
          exact (HOWN.out.lt k hk).1
        have HOWN3 : Hid (w3.ownsRow w.heap.size 5 1 v' ((34 :: qb (s.data.toList.take k)).length + 2) (Lib.byteCells (34 :: qb (s.data.toList.take k)) ++ [.int .u8 92, .int .u8 114])) := hown3
        clear hown3 hgrow3
        go_wp2_with fail
        go_roundw
        case rel =>
          refine ⟨k + 1, by go_num, by omega, ?_, hbw3⟩
          rw [HTK.out, qb_snoc, ← List.cons_append, Lib.byteCells_append, List.length_append, HBQ.out]
          exact HOWN3.out
        case measure => simp [intOf]; omega
      by_cases h9 : b = 9
      · subst h9
        have HBQ : Hid (bq (s.data.toList.getD k 0) = [92, 116]) := bq_of _ 9 _ HB.out (by omega) (by decide)
        go_wp2_with (at_builtin; refine wpList_append_own _ rfl _ _ 39 rfl w.heap.size 5 i0 (.int .u8 0) 1 1 Tryd.underlying39 hi hz0 hz1 hz2 rfl (by decide) _ _ _ rfl (HOWN.out.alloc _) _ 2 2 [.int .u8 92, .int .u8 116] rfl rfl ?c1 ?c2 ?c3 ?c4 ?c5 ?_)
        case c1 =>
          intro j u hj
          match j, hj with
          | 0, hj => simp at hj; subst hj; simp [Addr.add]
          | 1, hj => simp at hj; subst hj; simp [Addr.add]
        case c2 => intro u hu; simp only [List.mem_cons, List.not_mem_nil, or_false] at hu; rcases hu with rfl | rfl <;> rfl
        case c3 => unfold maxLen; omega
        case c4 => omega
        case c5 => simp; omega
        intro v' w3 hown3 hgrow3 _
        have hbw3 : Below w.heap.size w w3 := by
          refine (hbw.alloc (by omega) _).grown hgrow3 (by simp; omega) ?_
          intro k hk
          exact (HOWN.out.lt k hk).1
        have HOWN3 : Hid (w3.ownsRow w.heap.size 5 1 v' ((34 :: qb (s.data.toList.take k)).length + 2) (Lib.byteCells (34 :: qb (s.data.toList.take k)) ++ [.int .u8 92, .int .u8 116])) := hown3
        clear hown3 hgrow3
        go_wp2_with fail
        go_roundw
        case rel =>
          refine ⟨k + 1, by go_num, by omega, ?_, hbw3⟩
          rw [HTK.out, qb_snoc, ← List.cons_append, Lib.byteCells_append, List.length_append, HBQ.out]
          exact HOWN3.out
        case measure => simp [intOf]; omega
      by_cases hctl : b < 32 ∨ b = 127
      · have hgs : ((b : Int) == 34) = false ∧ ((b : Int) == 92) = false ∧ ((b : Int) == 8) = false ∧ ((b : Int) == 12) = false ∧ ((b : Int) == 10) = false ∧ ((b : Int) == 13) = false ∧ ((b : Int) == 9) = false := by simp; omega
        obtain ⟨g34, g92, g8, g12, g10, g13, g9⟩ := hgs
        obtain ⟨q, hq⟩ : ∃ q : Nat, (b : Int) / 16 = (q : Int) := ⟨b / 16, by omega⟩
        obtain ⟨r, hr⟩ : ∃ r : Nat, (b : Int) % 16 = (r : Int) := ⟨b % 16, by omega⟩
        have hq16 : q < 16 := by omega
        have hr16 : r < 16 := by omega
        have hrm : Int.tmod (b : Int) 16 = (r : Int) := by rw [Int.tmod_eq_emod_of_nonneg (by omega)]; exact hr
        have hwq : IntKind.u8.wrap (q : Int) = (q : Int) := by rw [IntKind.wrap_u8]; omega
        have hwr : IntKind.u8.wrap (r : Int) = (r : Int) := by rw [IntKind.wrap_u8]; omega
        have hqI : (q : Int) < 16 := by omega
        have hrI : (r : Int) < 16 := by omega
        have hxq := congrArg UInt8.toNat (hex_lit q hq16)
        have hxr := congrArg UInt8.toNat (hex_lit r hr16)
        have hdq := UInt8.toNat_lt (hexB q)
        have hdr := UInt8.toNat_lt (hexB r)
        have HBQ : Hid (Lib.byteCells (bq (s.data.toList.getD k 0)) = [.int .u8 92, .int .u8 117, .int .u8 48, .int .u8 48, .int .u8 ((hexB q).toNat : Int), .int .u8 ((hexB r).toNat : Int)] ∧ (bq (s.data.toList.getD k 0)).length = 6) := by
          have h1 : bq (s.data.toList.getD k 0) = [92, 117, 48, 48, hexB q, hexB r] := bq_of _ b _ HB.out (by omega) (by
            unfold partOf
            rw [if_neg (by omega), if_neg (by omega), if_neg (by omega), if_neg (by omega), if_neg (by omega), if_neg (by omega), if_neg (by omega), if_pos (by omega), Int.toNat_natCast, show b / 16 = q by omega, show b % 16 = r by omega])
          show _ ∧ _
          rw [h1]
          exact ⟨rfl, rfl⟩
        generalize (hexB q).toNat = dq at hxq hdq HBQ
        generalize (hexB r).toNat = dr at hxr hdr HBQ
        have hw : ((b : Int) < 32) ∨ (decide ((b : Int) < 32) = false ∧ ((b : Int) == 127) = true) := by
          rcases hctl with h | h
          · exact Or.inl (by omega)
          · exact Or.inr (by subst h; decide)
        have hb128 : b < 128 := by omega
        clear hctl
        rcases hw with hw | ⟨hw1, hw2⟩
        all_goals
          go_wp2_with fail
          go_region_law (refine step_append_own rfl (.tmp 68) (.tmp 75) 39 rfl w.heap.size 5 i0 (.int .u8 0) 1 1 Tryd.underlying39 hi hz0 hz1 hz2 rfl (by decide) u3 _ _ (by simp [Act.eval]) (HOWN.out.alloc _) ⟨wr.heap.size, 0, none⟩ 6 6 [.int .u8 92, .int .u8 117, .int .u8 48, .int .u8 48, .int .u8 (dq : Int), .int .u8 (dr : Int)] (by simp [Act.eval]) rfl (fun j u hj => alloc_cells wr _ j u hj) (by intro u hu; simp only [List.mem_cons, List.not_mem_nil, or_false] at hu; rcases hu with rfl | rfl | rfl | rfl | rfl | rfl <;> rfl) (by unfold maxLen; omega) (by omega) (by simp; omega) ?_; intro v' w3 hown3 hgrow3)
          all_goals
            have hbw3 : Below w.heap.size w w3 := by
              refine (below_drewN (hbw.alloc (by omega) _) 1).grown hgrow3 (by simp; omega) ?_
              intro k hk
              exact (HOWN.out.lt k hk).1
            have HOWN3 : Hid (w3.ownsRow w.heap.size 5 1 v' ((34 :: qb (s.data.toList.take k)).length + 6) (Lib.byteCells (34 :: qb (s.data.toList.take k)) ++ [.int .u8 92, .int .u8 117, .int .u8 48, .int .u8 48, .int .u8 (dq : Int), .int .u8 (dr : Int)])) := hown3
            clear hown3 hgrow3
            go_wp2_with fail
            go_roundw
            case rel =>
              refine ⟨k + 1, by go_num, by omega, ?_, hbw3⟩
              rw [HTK.out, qb_snoc, ← List.cons_append, Lib.byteCells_append, List.length_append, HBQ.out.1, HBQ.out.2]
              exact HOWN3.out
            case measure => simp [intOf]; omega
      · have hc := u8_back _ b HB.out
        have HBQ : Hid (bq (s.data.toList.getD k 0) = [b.toUInt8]) := by
          show bq (s.data.toList.getD k 0) = [b.toUInt8]
          by_cases h128 : b < 128
          · exact bq_of _ b _ HB.out h128 (by
              unfold partOf
              rw [if_neg (by omega), if_neg (by omega), if_neg (by omega), if_neg (by omega), if_neg (by omega), if_neg (by omega), if_neg (by omega), if_neg (by omega), enc1 b h128])
          · unfold bq
            rw [if_neg (by rw [HB.out]; exact h128), hc]
        have HN : Hid (Lib.byteCells [b.toUInt8] = [.int .u8 (b : Int)]) := by
          show Lib.byteCells [b.toUInt8] = _
          simp only [Lib.byteCells, List.map_cons, List.map_nil]
          rw [u8_of b hb256]
        have h32 : 32 ≤ b := by omega
        have h127 : b ≠ 127 := by omega
        have g34 : ((b : Int) == 34) = false := by simp; omega
        have g92 : ((b : Int) == 92) = false := by simp; omega
        have g8 : ((b : Int) == 8) = false := by simp; omega
        have g12 : ((b : Int) == 12) = false := by simp; omega
        have g10 : ((b : Int) == 10) = false := by simp; omega
        have g13 : ((b : Int) == 13) = false := by simp; omega
        have g9 : ((b : Int) == 9) = false := by simp; omega
        have hd1 : decide ((b : Int) < 32) = false := by simp; omega
        have hd2 : ((b : Int) == 127) = false := by simp; omega
        clear hc hctl
        go_wp2_with (at_builtin; refine wpList_append_own _ rfl _ _ 39 rfl w.heap.size 5 i0 (.int .u8 0) 1 1 Tryd.underlying39 hi hz0 hz1 hz2 rfl (by decide) _ _ _ rfl (HOWN.out.alloc _) _ 1 1 [.int .u8 (b : Int)] rfl rfl ?c1 ?c2 ?c3 ?c4 ?c5 ?_)
        case c1 =>
          intro j u hj
          match j, hj with
          | 0, hj => simp at hj; subst hj; simp [Addr.add]
        case c2 => intro u hu; simp only [List.mem_cons, List.not_mem_nil, or_false] at hu; rcases hu with rfl <;> rfl
        case c3 => unfold maxLen; omega
        case c4 => omega
        case c5 => simp; omega
        intro v' w3 hown3 hgrow3 _
        have hbw3 : Below w.heap.size w w3 := by
          refine (hbw.alloc (by omega) _).grown hgrow3 (by simp; omega) ?_
          intro k hk
          exact (HOWN.out.lt k hk).1
        have HOWN3 : Hid (w3.ownsRow w.heap.size 5 1 v' ((34 :: qb (s.data.toList.take k)).length + 1) (Lib.byteCells (34 :: qb (s.data.toList.take k)) ++ [.int .u8 (b : Int)])) := hown3
        clear hown3 hgrow3
        go_wp2_with fail
        go_roundw
        case rel =>
          refine ⟨k + 1, by go_num, by omega, ?_, hbw3⟩
          rw [HTK.out, qb_snoc, ← List.cons_append, Lib.byteCells_append, List.length_append, HBQ.out, HN.out]
          exact HOWN3.out
        case measure => simp [intOf]; omega
    · have hkl : s.data.toList.take k = s.data.toList := List.take_of_length_le (by rw [size_list]; omega)
      rw [hkl] at hal
      have HOWNk : Hid (wr.ownsRow w.heap.size 5 1 u3 (34 :: qb s.data.toList).length (Lib.byteCells (34 :: qb s.data.toList))) := by
        have := HOWN.out
        rw [hkl] at this
        exact this
      clear hkl HOWN
      go_wp2_with (at_builtin; refine wpList_append_own _ rfl _ _ 39 rfl w.heap.size 5 i0 (.int .u8 0) 1 1 Tryd.underlying39 hi hz0 hz1 hz2 rfl (by decide) _ _ _ rfl (HOWNk.out.alloc _) _ 1 1 [.int .u8 34] rfl rfl ?c1 ?c2 ?c3 ?c4 ?c5 ?_)
      case c1 =>
        intro j u hj
        match j, hj with
        | 0, hj => simp at hj; subst hj; simp [Addr.add]
      case c2 => intro u hu; simp at hu; subst hu; rfl
      case c3 => unfold maxLen; omega
      case c4 => omega
      case c5 => simp; omega
      intro v' w3 hown3 hgrow3 _
      have hbw3 : Below w.heap.size w w3 := by
        refine (hbw.alloc (by omega) _).grown hgrow3 (by simp; omega) ?_
        intro k hk
        exact (HOWNk.out.lt k hk).1
      have hcv : (convert 39 9 v').run Tryd.prog w3 = .ok (.string ⟨(34 :: (qb s.data.toList ++ [34])).toArray⟩) w3 := by
        refine own_string (base := w.heap.size) (n := (34 :: qb s.data.toList).length + 1) ?_
        have h1 : (34 :: (qb s.data.toList ++ [34]) : List UInt8) = (34 :: qb s.data.toList) ++ [34] := rfl
        rw [h1, Lib.byteCells_append]
        exact hown3
      clear hown3 hgrow3
      go_wp2_with fail
      go_ret
      exact ⟨rfl, hbw3⟩
end Go.Proofs.YtagjemdoefldaaaDoor
