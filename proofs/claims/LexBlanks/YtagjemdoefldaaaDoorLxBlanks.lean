/- The walk of the statement LexBlanks: for any two texts and any bytes it returns true. Conditions: the library's variables and its table can be read; texts and row no longer than a machine's memory allows. -/
import Derived.Test.YtagjemdoefldaaaDoorLxJoin
import Derived.Test.YtagjemdoefldaaaDoorLxParts
import Derived.ArgAppend
import Derived.OpenShut
import Derived.Deep.CutRange
import Derived.BigQuiet
namespace Go.Proofs.YtagjemdoefldaaaDoor
open Go.RowKit

def IsRow (k : IntKind) (w : World) (a : Option Addr) (len cap : Nat) (zs : List Int) : Prop :=
  (a = none ∧ len = 0 ∧ cap = 0 ∧ zs = []) ∨
  ∃ x, a = some x ∧ len ≤ cap ∧ cap ≤ maxLen ∧ zs.length = cap ∧ (∀ i, i < zs.length → w.cell? (x.add i) = some (.int k (zs.getD i 0))) ∧ ∀ n ∈ zs, (Lit.int k n).wf = true

/-- An element of such a row, its cell and its range. -/
theorem IsRow.at8 {w : World} {a : Option Addr} {len cap : Nat} {zs : List Int} (h : IsRow .u8 w a len cap zs) :
    len = 0 ∨ ∃ b off, a = some ⟨b, off, none⟩ ∧ b < w.heap.size ∧ ∀ i, i < len → w.cell? ⟨b, off + i, none⟩ = some (.int .u8 (zs.getD i 0)) ∧ 0 ≤ zs.getD i 0 ∧ zs.getD i 0 ≤ 255 := by
  rcases h with ⟨_, h, _⟩ | ⟨x, rfl, hl, hm, hz, hcell, hwz⟩
  · exact Or.inl h
  · by_cases h0 : len = 0
    · exact Or.inl h0
    · obtain ⟨b, off, rfl, hc⟩ := ints_at hcell (by omega)
      refine Or.inr ⟨b, off, rfl, ?_, fun i hi => ⟨hc i (by omega), ?_⟩⟩
      · have h1 := hc 0 (by omega)
        by_cases hb : b < w.heap.size
        · exact hb
        · simp [World.cell?, Array.getElem?_eq_none (Nat.le_of_not_lt hb)] at h1
      · have := range_u8 hwz i
        simpa using this

theorem and3 : ∀ X : Fin 256, bits .and .u8 ((X.val : Nat) : Int) 3 = ((X.val % 4 : Nat) : Int) := by decide +kernel

theorem wpList_growsG {P : Program} (w : World) {ops : Array Oper} {rest : List Oper} {o : Oper} {a : Act} {Q : Exit → Act → World → Prop}
    (hw : Region.wanted o (yielded ops a.tmps) = true) (s x : Operand) (t : TypeId) (hop : o.op = Op.call { callee := Callee.builtin Builtin.append, args := #[s, x], argTypes := #[t, t] })
    (e : TypeId) (i : TypeInfo) (z : Value) (size bytes : Nat) (h1 : P.underlying t = some (.slice e)) (h2 : P.info? e = some i) (h3 : i.zero = some z) (h4 : i.size = size) (h5 : i.bytes = bytes) (h6 : z.cells.size = size) (h7 : 0 < size)
    (b : Addr) (n cap : Nat) (olds : List Value) (hs : a.eval s = .slice (some b) n cap) (hlo : olds.length = n * size) (holds : ∀ j u, olds[j]? = some u → w.cell? (b.add j) = some u)
    (ad : Addr) (m c : Nat) (news : List Value) (hx : a.eval x = .slice (some ad) m c) (hn : news.length = m * size) (hc : ∀ j u, news[j]? = some u → w.cell? (ad.add j) = some u)
    (hfull : cap < n + m) (b1 : n + m ≤ maxLen) (b2 : (n + m) * bytes ≤ 140737488355328)
    (hK : ∀ v' w', w'.ownsRow w.heap.size e size v' (n + m) (olds ++ news) → w.grownBy w' none → wpList P ops Q rest (a.put o.dst v') w') :
    wpList P ops Q (o :: rest) a w := by
  refine wpList_step fun K hK' => ?_
  rw [if_pos hw]
  obtain ⟨v', w', hrun, r1, r2⟩ := run_append_arg_grows (P := P) w t o.type e i z size bytes h1 h2 h3 h4 h5 h6 h7 b n cap olds hlo holds ad m c news hn hc hfull b1 b2
  unfold Oper.wp
  simp [execOp, hop, resolve, invoke, builtin, hs, hx, hrun, Result.andThen]
  exact hK' _ _ (hK v' w' r1 r2)

/-- A row of one's own keeps its cells. -/
theorem row_cells4 {w : World} {B : Nat} {g c : Nat} {l : List Tok} (h : w.ownsRow B 29 4 (.slice (some ⟨g, 0, none⟩) l.length c) l.length (toksC l)) : g < w.heap.size ∧ ∀ j u, (toksC l)[j]? = some u → w.cell? ⟨g, j, none⟩ = some u := by
  rcases h.2 with ⟨h1, _⟩ | ⟨g', cap, cur, h1, _, h2, h3, h4, h5, h6⟩
  · cases h1
  · injection h1 with e1 _ _
    injection e1 with e1
    injection e1 with e1 _ _
    subst e1
    refine ⟨(Array.getElem?_eq_some_iff.1 h2).1, fun j u hj => ?_⟩
    have hlt := (List.getElem?_eq_some_iff.1 hj).1
    rw [cell_of_row w g _ _ _ _ h2, ← hj, ← h6, List.getElem?_take_of_lt (by rw [toksC_len] at hlt; omega)]
    simp
theorem toksC_app (l m : List Tok) : toksC (l ++ m) = toksC l ++ toksC m := by
  induction l with
  | nil => rfl
  | cons x l ih =>
    show x.cells ++ toksC (l ++ m) = (x.cells ++ toksC l) ++ toksC m
    rw [ih, List.append_assoc]
theorem cells_mono {w w' : World} {g : Nat} {L : List Value} (h : g < w.heap.size ∧ ∀ j u, L[j]? = some u → w.cell? ⟨g, j, none⟩ = some u) (hb : Below w.heap.size w w') : g < w'.heap.size ∧ ∀ j u, L[j]? = some u → w'.cell? ⟨g, j, none⟩ = some u :=
  ⟨Nat.lt_of_lt_of_le h.1 hb.size, fun j u hj => (hb.cell (show (⟨g, j, none⟩ : Addr).block < w.heap.size from h.1)).trans (h.2 j u hj)⟩
theorem addr_at (g j : Nat) : (⟨g, 0, none⟩ : Addr).add j = ⟨g, j, none⟩ := by unfold Addr.add; split <;> simp_all

theorem snoc_bytes (B : List UInt8) (c : UInt8) (x : ByteArray) (h : x.data.toList = [c]) : (⟨(32 :: B).toArray⟩ : ByteArray) ++ x = ⟨(32 :: (B ++ [c])).toArray⟩ := by
  apply ByteArray.ext
  apply Array.toList_inj.1
  rw [ByteArray.data_append, Array.toList_append, h]
  simp
theorem round_blank (B : List UInt8) (i n nq : Nat) (x : ByteArray) (w2 wc : World) (hx : ∃ c, x.data.toList = [c] ∧ isB c = true) (hBl : B.length = i) (hBb : ∀ c ∈ B, isB c = true) (h1 : i < n) (h2 : i < 9) (hb : Below w2.heap.size w2 wc) :
    ∃ (i' : Nat) (B' : List UInt8), Value.string ((⟨(32 :: B).toArray⟩ : ByteArray) ++ x) = .string ⟨(32 :: B').toArray⟩ ∧ Value.int .i64 ((i : Int) + 1) = .int .i64 (i' : Int) ∧ i' ≤ 9 ∧ i' ≤ n ∧ B'.length = i' ∧ (∀ c ∈ B', isB c = true) ∧ Below w2.heap.size w2 (wc.drewN nq) := by
  obtain ⟨c, hc, hcb⟩ := hx
  refine ⟨i + 1, B ++ [c], by rw [snoc_bytes B c x hc], by go_num, by omega, by omega, by rw [List.length_append, hBl]; rfl, ?_, below_drewN hb _⟩
  intro d hd
  rcases List.mem_append.1 hd with h | h
  · exact hBb d h
  · rw [List.mem_singleton] at h
    rw [h]
    exact hcb

theorem lexR_good (l : List UInt8) (T : List Tok) (q : Nat) (h : lexR l = (T, q, 0)) : T ≠ [] ∧ q = 0 ∧ T.length ≤ 8193 := by
  obtain ⟨h1, h2⟩ := lexR_ok l (by rw [h])
  rw [h] at h2
  have h3 : q = 0 := by
    have := lexR_lxs l h1
    rw [h, h2] at this
    injection this with _ t
    injection t
  have h4 := lexR_len l
  rw [h] at h4
  exact ⟨(parts_at _ _ _ _ _ (Nat.le_refl _) h2).1, h3, h4⟩

set_option maxHeartbeats 4000000 in
set_option maxRecDepth 1000000 in
theorem blanks14_any (s t : ByteArray) (pa : Option Addr) (n cap : Nat) (zs : List Int) (w : World) (hs : s.size ≤ 140737488355328) (ht : t.size ≤ 140737488355328) (hn : n ≤ 140737488355328) (row : IsRow .u8 w pa n cap zs) (hw : LexOk w) :
    Calls Tryd.prog 7 #[.string s, .string t, .slice pa n cap] w fun e w' => e = .returned (.bool true) ∧ Below w.heap.size w w' := by
  obtain ⟨i0, hi, hz0, hz1, hz2⟩ := info_parts infoTok
  have HAW := mkHid (awake_any w hw)
  have HLX := mkHid (fun W (hb : Below w.heap.size w W) => lex_any s W (hw.mono hb))
  have HLY := mkHid (fun W (hb : Below w.heap.size w W) => lex_any t W (hw.mono hb))
  have HLZ := mkHid (fun (x : ByteArray) W (hb : Below w.heap.size w W) => lex_any x W (hw.mono hb))
  have HROW := mkHid row.at8
  have HS := mkHid (rfl : lexR s.data.toList = lexR s.data.toList)
  have HT := mkHid (rfl : lexR t.data.toList = lexR t.data.toList)
  clear hw row
  go_enter Tryd.func7, Tryd.ntmps7
  go_wp2_with fail
  refine HAW.out.mono ?_
  clear HAW
  rintro e w0 ⟨rfl, b0⟩
  go_wp2_with fail
  refine (HLX.out _ b0).mono ?_
  clear HLX
  rintro e w1 ⟨⟨xv, rfl, hownX⟩, b1⟩
  have hb1 := b0.trans (b1.mono b0.size)
  obtain ⟨RX, hRX⟩ : ∃ R, lexR s.data.toList = R := ⟨_, rfl⟩
  rw [hRX] at hownX ⊢
  obtain ⟨T, q1, E1⟩ := RX
  simp only at hownX ⊢
  have HX := mkHid (And.intro hRX hownX)
  clear hRX hownX HS
  go_wp2_with fail
  refine (HLY.out _ hb1).mono ?_
  clear HLY
  rintro e w2 ⟨⟨yv, rfl, hownY⟩, b2⟩
  have hb2 := hb1.trans (b2.mono hb1.size)
  obtain ⟨RY, hRY⟩ : ∃ R, lexR t.data.toList = R := ⟨_, rfl⟩
  rw [hRY] at hownY ⊢
  obtain ⟨U, q2, E2⟩ := RY
  simp only at hownY ⊢
  have HY := mkHid (And.intro hRY hownY)
  clear hRY hownY HT
  go_wp2_with fail
  go_loopw [13, 14] (fun bv iv wr => ∃ (i : Nat) (B : List UInt8), bv = .string ⟨(32 :: B).toArray⟩ ∧ iv = .int .i64 i ∧ i ≤ 9 ∧ i ≤ n ∧ B.length = i ∧ (∀ c ∈ B, isB c = true) ∧ Below w2.heap.size w2 wr) (fun _ iv _ => 9 - (intOf iv).toNat)
  case atStart => exact ⟨0, [], rfl, rfl, by omega, by omega, rfl, by simp, Below.refl _ _⟩
  case round =>
    obtain ⟨i, B, rfl, rfl, hi9, hin, hBl, hBb, hbw⟩ := hrel
    have HBL := mkHid hBl
    have HBB := mkHid hBb
    clear hBl hBb
    go_upto_region 7 with fail
    go_cut [39] from 39 to 39 (fun y39 wx => ∃ bt : Bool, y39 = .bool bt ∧ (bt = true ↔ i < n ∧ i < 9) ∧ wx = wr)
    case first =>
      by_cases h1 : i < n
      · have h1' : (i : Int) < (n : Int) := by omega
        by_cases h2 : i < 9
        · have h2' : (i : Int) < 9 := by omega
          go_wp2_with fail
          go_meet
          case rel => exact ⟨_, rfl, ⟨fun _ => ⟨h1, h2⟩, fun _ => rfl⟩, rfl⟩
        · have h2' : ¬ (i : Int) < 9 := by omega
          have hdt : Hid (false = true ↔ i < n ∧ i < 9) := ⟨fun h => (by cases h), fun h => absurd h.2 h2⟩
          go_wp2_with fail
          go_meet
          case rel => exact ⟨_, rfl, hdt.out, rfl⟩
      · have h1' : ¬ (i : Int) < (n : Int) := by omega
        have hdt : Hid (false = true ↔ i < n ∧ i < 9) := ⟨fun h => (by cases h), fun h => absurd h.1 h1⟩
        go_wp2_with fail
        go_meet
        case rel => exact ⟨_, rfl, hdt.out, rfl⟩
    case rest =>
      obtain ⟨bt, rfl, hbt, rfl⟩ := hcut
      cases bt with
      | true =>
        obtain ⟨hl1, hl2⟩ := hbt.1 rfl
        clear hbt
        obtain ⟨gb, off, rfl, hbl, hk⟩ : ∃ b o, pa = some ⟨b, o, none⟩ ∧ b < w.heap.size ∧ ∀ i, i < n → w.cell? ⟨b, o + i, none⟩ = some (.int .u8 (zs.getD i 0)) ∧ 0 ≤ zs.getD i 0 ∧ zs.getD i 0 ≤ 255 := by
          rcases HROW.out with h | h
          · omega
          · exact h
        obtain ⟨hk1, hk2, hk3⟩ := hk i hl1
        have hcell : wc.cell? ⟨gb, off + i, none⟩ = some (.int .u8 (zs.getD i 0)) := ((hb2.trans (hbw.mono hb2.size)).cell (p := ⟨gb, off + i, none⟩) hbl).trans hk1
        have h3 := and3 ⟨(zs.getD i 0).toNat, by omega⟩
        simp only [Int.toNat_of_nonneg hk2] at h3
        generalize zs.getD i 0 = z at hcell h3
        have hm4 : bits .and .u8 z 3 = 0 ∨ bits .and .u8 z 3 = 1 ∨ bits .and .u8 z 3 = 2 ∨ bits .and .u8 z 3 = 3 := by rw [h3]; omega
        clear hk hk1 hk2 hk3 h3
        have hBsz : (⟨(32 :: B).toArray⟩ : ByteArray).size = i + 1 := by rw [← size_list]; simp [HBL.out]
        rcases hm4 with h3 | h3 | h3 | h3
        all_goals (
          have hnl : ¬ 9223372036854775807 < i + 1 + 1 := by omega
          go_upto_region 9 with fail
          go_quiet (fail)
          go_wp2_with fail
          go_roundw
          case rel => exact round_blank B i n nq _ w2 wc (by first | exact ⟨32, rfl, rfl⟩ | exact ⟨9, rfl, rfl⟩ | exact ⟨10, rfl, rfl⟩ | exact ⟨13, rfl, rfl⟩) HBL.out HBB.out hl1 hl2 hbw
          case measure => simp [intOf]; omega)
      | false =>
        clear hbt
        have hbW : Below w.heap.size w wc := hb2.trans (hbw.mono hb2.size)
        have hBsz : (⟨(32 :: B).toArray⟩ : ByteArray).size = i + 1 := by rw [← size_list]; simp [HBL.out]
        by_cases h8 : s.size + t.size + (i + 1) ≤ 8192
        · have h8' : ¬ (s.size : Int) + (t.size : Int) + ((i : Int) + 1) > 8192 := by omega
          have hs1 : ¬ 9223372036854775807 < s.size + (i + 1) := by omega
          have hs2 : ¬ 9223372036854775807 < s.size + (i + 1) + t.size := by omega
          go_wp2_with fail
          refine (HLZ.out _ _ hbW).mono ?_
          rintro e w3 ⟨⟨zv, rfl, hownZ⟩, b3⟩
          have hb3 := hbW.trans (b3.mono hbW.size)
          have hcat : (s ++ (⟨(32 :: B).toArray⟩ : ByteArray) ++ t).data.toList = s.data.toList ++ 32 :: B ++ t.data.toList := by simp
          rw [hcat] at hownZ ⊢
          have hlen8 : (s.data.toList ++ 32 :: B ++ t.data.toList).length ≤ 8192 := by
            rw [List.length_append, List.length_append, size_list, size_list, List.length_cons, HBL.out]
            omega
          by_cases hE1 : E1 = 0
          · subst hE1
            obtain ⟨hTne, rfl, hTl⟩ := lexR_good _ _ _ HX.out.1
            by_cases hE2 : E2 = 0
            · subst hE2
              obtain ⟨hUne, rfl, hUl⟩ := lexR_good _ _ _ HY.out.1
              obtain ⟨Z, hZ, hst⟩ := join_ok _ _ B T U HBB.out hlen8 HX.out.1 HY.out.1
              rw [hZ] at hownZ ⊢
              obtain ⟨g, c, rfl, hLc, hcm, _⟩ := own_trow2 HX.out.2 hTne
              obtain ⟨gu, cu, rfl, hLu, hcu, _⟩ := own_trow2 HY.out.2 hUne
              obtain ⟨az, cz, rfl, hTZ⟩ := own_trow hownZ
              have b13 : Below w1.heap.size w1 w3 := (b2.trans (hbw.mono b2.size)).trans (b3.mono (Nat.le_trans b2.size hbw.size))
              have b23 : Below w2.heap.size w2 w3 := hbw.trans (b3.mono hbw.size)
              have hX3 := cells_mono (row_cells4 HX.out.2) b13
              have hY3 := cells_mono (row_cells4 HY.out.2) b23
              obtain ⟨N, hN⟩ : ∃ N, T.length = N + 1 := ⟨T.length - 1, by
                have : T.length ≠ 0 := fun h => hTne (List.eq_nil_of_length_eq_zero h)
                omega⟩
              have hdl : T.dropLast.length = N := by rw [List.length_dropLast]; omega
              have holds : ∀ j u, (toksC T.dropLast)[j]? = some u → w3.cell? ((⟨g, 0, none⟩ : Addr).add j) = some u := by
                intro j u hj
                rw [addr_at]
                refine hX3.2 j u ?_
                have hlt := (List.getElem?_eq_some_iff.1 hj).1
                have e : T = T.dropLast ++ [T.getLast hTne] := (List.dropLast_concat_getLast hTne).symm
                rw [e, toksC_app, List.getElem?_append_left hlt]
                exact hj
              have hnews : ∀ j u, (toksC U)[j]? = some u → w3.cell? ((⟨gu, 0, none⟩ : Addr).add j) = some u := by
                intro j u hj
                rw [addr_at]
                exact hY3.2 j u hj
              have hUp : 0 < U.length := by
                rcases Nat.eq_zero_or_pos U.length with h | h
                · exact absurd (List.eq_nil_of_length_eq_zero h) hUne
                · exact h
              have HHO := mkHid holds
              have HHN := mkHid hnews
              have HTZ := mkHid hTZ
              have HST := mkHid hst
              have HDL := mkHid hdl
              obtain ⟨M, hM⟩ : ∃ M, U.length = M := ⟨_, rfl⟩
              have HM := mkHid hM
              rw [hN] at hLc ⊢
              rw [hM] at hUl hUp hLu ⊢
              have hsub : ((N : Int) + 1) - 1 = (N : Int) := by omega
              have hNl : N ≤ 8192 := by omega
              unfold maxLen at hcm hcu
              clear hownZ hZ hcat hlen8 hTne hUne hX3 hY3 holds hnews hTZ hst hdl hN hM hTl HX HY
              go_wp2_with (at_builtin; refine wpList_growsG _ rfl _ _ 22 rfl 29 i0 _ 4 40 Tryd.underlying22 hi hz0 hz1 hz2 rfl (by decide) ⟨g, 0, none⟩ N N (toksC T.dropLast) rfl ?c0 HHO.out ⟨gu, 0, none⟩ M cu (toksC U) rfl ?c2 HHN.out ?c4 ?c5 ?c6 ?_)
              case c0 => rw [toksC_len, HDL.out]
              case c2 => rw [toksC_len, HM.out]
              case c4 => omega
              case c5 => unfold maxLen; omega
              case c6 => omega
              intro v9 w9 hown9 hgrow9
              have hb9 : Below w3.heap.size w3 w9 := (Below.refl _ w3).grown hgrow9 (Nat.le_refl _) (fun k hk => by cases hk)
              obtain ⟨V, hV⟩ : ∃ V, T.dropLast ++ U = V := ⟨_, rfl⟩
              have hWl : V.length = N + M := by rw [← hV, List.length_append, HDL.out, HM.out]
              have hst : Z.map bare = V.map bare := by rw [← hV]; exact HST.out
              rw [← toksC_app, ← hWl, hV] at hown9
              obtain ⟨a9, c9, rfl, hT9⟩ := own_trow hown9
              have hZl : V.length = Z.length := by
                have := congrArg List.length hst
                rw [List.length_map, List.length_map] at this
                exact this.symm
              have HSM := mkHid (same_yes az a9 cz c9 Z V _ _ false w9 (TRow.below HTZ.out hb9) hT9 hZl (by omega) (fun i h h' => bare_at hst.symm i h h') (fun h => by cases h))
              have hb39 := hb3.trans (hb9.mono hb3.size)
              clear hown9 hgrow9 hWl hZl hT9 hV hst HST HTZ HHO HHN HDL HM
              go_wp2_with fail
              refine HSM.out.mono ?_
              clear HSM
              rintro e w10 ⟨rfl, b10⟩
              go_wp2_with fail
              go_ret
              exact ⟨rfl, hb39.trans (b10.mono hb39.size)⟩
            · obtain ⟨Z, q3, hZ, hq3⟩ := join_bad _ _ B T U q2 E2 hE2 HBB.out hlen8 HX.out.1 HY.out.1
              rw [hZ] at hownZ ⊢
              rw [size_list] at hq3
              have hq3' : (q3 : Int) ≥ (s.size : Int) := by omega
              have hEb : (E2 == 0) = false := by simp [hE2]
              have hEc : (E2 == E2) = true := by simp
              clear hownZ hZ hcat hlen8
              go_wp2_with fail
              go_ret
              exact ⟨rfl, hb3⟩
          · by_cases h12 : E1 = 12
            · subst h12
              obtain ⟨hZ, hq⟩ := join_12 _ t.data.toList B T q1 hlen8 HX.out.1
              rw [hZ] at hownZ ⊢
              rw [size_list] at hq
              have hq' : (q1 : Int) < (s.size : Int) := by omega
              clear hownZ hZ hcat hlen8 hE1
              go_wp2_with fail
              go_ret
              exact ⟨rfl, hb3⟩
            · have hEb : (E1 == 0) = false := by simp [hE1]
              have hEc : (E1 == 12) = false := by simp [h12]
              have hEd : (E1 != 0) = true := by simp [hE1]
              generalize lexR (s.data.toList ++ 32 :: B ++ t.data.toList) = R
              clear hownZ hcat hlen8
              go_wp2_with fail
              go_ret
              exact ⟨rfl, hb3⟩
        · have h8' : (s.size : Int) + (t.size : Int) + ((i : Int) + 1) > 8192 := by omega
          go_wp2_with fail
          go_ret
          exact ⟨rfl, hbW⟩
end Go.Proofs.YtagjemdoefldaaaDoor
