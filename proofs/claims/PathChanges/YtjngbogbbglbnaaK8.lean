/- Some texts in one: each opens with its own remark. -/
import Derived.Test.YtjngbogbbglbnaaK6
import Derived.Test.YtjngbogbbglbnaaK7
import Derived.Test.YtjngbogbbglbnaaZGood
import Derived.Test.YtjngbogbbglbnaaZEncSz
/- The walk of the document's own 'Bytes', of a Text. -/
namespace Go.Proofs.Ytjngbogbbglbnaa
open Go.RowKit

theorem keepB {w u w1 : World} {s : ByteArray} {B : Nat} {a : World} (hb : Below u.heap.size u w1) (hB : B ≤ u.heap.size) (h : u.cell? ⟨w.heap.size, 2, none⟩ = some (.string s) ∧ Below B a u) : w1.cell? ⟨w.heap.size, 2, none⟩ = some (.string s) ∧ Below B a w1 :=
 ⟨below_keeps hb _ _ _ h.1, h.2.trans (hb.mono hB)⟩

theorem keepG {w u w1 : World} {s : ByteArray} {a : World} {r : Option Nat} (hg : u.grownBy w1 r) (hB : w.heap.size + 1 ≤ u.heap.size) (hr : ∀ k, r = some k → w.heap.size + 1 ≤ k) (h : u.cell? ⟨w.heap.size, 2, none⟩ = some (.string s) ∧ Below (w.heap.size + 1) a u) : w1.cell? ⟨w.heap.size, 2, none⟩ = some (.string s) ∧ Below (w.heap.size + 1) a w1 := by
 have hb : Below (w.heap.size + 1) u w1 := (Below.refl _ u).grown hg hB hr;refine ⟨?_, h.2.trans hb⟩;rw [hb.cell (p := ⟨w.heap.size, 2, none⟩) (by show w.heap.size < _; omega)];exact h.1

set_option maxHeartbeats 4000000 in
set_option maxRecDepth 1000000 in
theorem bytes_k4 (n : Int) (s : ByteArray) (ln : Nat) (l : Nat → GV) (fn : Nat) (nm : Nat → ByteArray) (f : Nat → GV) (la fa : Option Addr) (lc fc : Nat) (w : World) (hs : s.size ≤ 4194304) : Calls Try.prog 50 #[.agg #[.int .i64 4, .int .i64 n, .string s, .slice la ln lc, .slice fa fn fc]] w fun e w' => BytesSay w (GV.mk 4 n s ln l fn nm f).enc e w' := by
 obtain ⟨i0, hi, hz0, hz1, hz2⟩ := info_parts infoU8;have hml : maxLen = 9223372036854775807 := rfl;have hbx : Below w.heap.size w (w.alloc (.cells #[.int .i64 4, .int .i64 n, .string s, .slice la ln lc, .slice fa fn fc] 25)) := (Below.refl w.heap.size w).alloc (Nat.le_refl _) _;have HB1 : Hid (Below (w.heap.size + 1) (w.alloc (.cells #[.int .i64 4, .int .i64 n, .string s, .slice la ln lc, .slice fa fn fc] 25)) ((w.alloc (.cells #[.int .i64 4, .int .i64 n, .string s, .slice la ln lc, .slice fa fn fc] 25)).alloc (.cells #[.int .u8 4] 5))) := (Below.refl _ _).alloc (by simp) _
 have HO1 : Hid (((w.alloc (.cells #[.int .i64 4, .int .i64 n, .string s, .slice la ln lc, .slice fa fn fc] 25)).alloc (.cells #[.int .u8 4] 5)).ownsRow (w.heap.size + 1) 5 1 (.slice (some ⟨w.heap.size + 1, 0, none⟩) 1 1) 1 [.int .u8 4]) := by
  have := World.ownsRow_lit (base := w.heap.size + 1) (e := 5) (size := 1) (w.alloc (.cells #[.int .i64 4, .int .i64 n, .string s, .slice la ln lc, .slice fa fn fc] 25)) #[.int .u8 4] 1 (by simp) (by decide) rfl;show World.ownsRow _ _ _ _ _ _ _;simpa using this
 have hten := varint_ten (n := s.size) (by omega);have hpos := varint_pos s.size;obtain ⟨lv, hlv⟩ : ∃ lv, varint s.size = lv := ⟨_, rfl⟩;have HV : Hid (varint s.size = lv) := hlv;rw [hlv] at hten hpos;rw [enc_k4, hlv];clear hlv
 have HVC : Hid (∀ u, Calls Try.prog 70 #[.int .u64 (IntKind.u64.wrap (s.size : Int))] u fun e w' => ∃ v, e = .returned v ∧ w'.ownsRow u.heap.size 5 1 v lv.length (Lib.byteCells lv) ∧ Below u.heap.size u w') := by
  intro u;have := rvarint_any s.size u (by omega);rw [HV.out] at this;rw [show IntKind.u64.wrap (s.size : Int) = (s.size : Int) by rw [u64_wrap]; omega];exact this
 have q2 : ((w.alloc (.cells #[.int .i64 4, .int .i64 n, .string s, .slice la ln lc, .slice fa fn fc] 25)).alloc (.cells #[.int .u8 4] 5)).cell? ⟨w.heap.size, 2, none⟩ = some (.string s) := by simp
 go_enter Try.func50, Try.ntmps50
 go_wp2_with fail
 go_region_held3 (fun w' => w'.cell? ⟨w.heap.size, 2, none⟩ = some (.string s) ∧ Below (w.heap.size + 1) (w.alloc (.cells #[.int .i64 4, .int .i64 n, .string s, .slice la ln lc, .slice fa fn fc] 25)) w') (first | exact hS | exact ⟨q2, HB1.out.drew⟩) (first
  | (go_at_call 70; refine (HVC.out _).mono ?_; rintro e w2 ⟨v2, rfl, hv2, hb2⟩; obtain ⟨g2, c2, rfl, hc2⟩ := own_some hv2 hpos; have hb2s := hb2.size; simp at hb2s; have hown2 := own_below (own_drew HO1.out) hb2; have hS := keepB (B := w.heap.size + 1) hb2 (by simp <;> omega) (by assumption))
  | (have _t := hown3; refine step_append_own_string rfl (.tmp 36) (.tmp 38) 72 9 rfl (w.heap.size + 1) 5 i0 Try.underlying72 Try.underlying9 hi hz0 hz1 hz2 v3 _ _ (by simp [Act.eval]) hown3 s (by simp [Act.eval]) (by omega) (by omega) (by omega) ?_; intro v4 w4 hown4 hgrow4; have hS := keepG hgrow4 (by omega) (fun k hk => (hown3.lt k hk).1) hS)
  | (have _t := hown2; refine step_append_own rfl (.tmp 30) (.tmp 35) 72 rfl (w.heap.size + 1) 5 i0 (.int .u8 0) 1 1 Try.underlying72 hi hz0 hz1 hz2 rfl (by decide) (.slice (some ⟨w.heap.size + 1, 0, none⟩) 1 1) _ _ (by simp [Act.eval]) hown2 ⟨g2, 0, none⟩ lv.length c2 (Lib.byteCells lv) (by simp [Act.eval]) (byteLen _) hc2 (byteOne _) (by omega) (by omega) (by omega) ?_; intro v3 w3 hown3 hgrow3; have hw3 := hgrow3.size; have hS := keepG hgrow3 (by omega) (fun k hk => (hown2.lt k hk).1) hS))
 all_goals
  have B4 := hS.2;have HOWN : Hid (w4.ownsRow (w.heap.size + 1) 5 1 v4 (1 + lv.length + s.size) (([.int .u8 4] ++ Lib.byteCells lv) ++ Lib.strCells s)) := hown4;clear hown4 hgrow4 hown3 hgrow3 hown2 hv2 hc2 hS;go_wp2_with fail;go_ret
  refine ⟨_, rfl, own_lit (own_base HOWN.out (by omega)) ?_ ?_, hbx.trans (B4.mono (by omega))⟩
  ·simp only [List.length_cons, List.length_append, Array.length_toList];have : s.data.size = s.size := rfl;omega
  ·rw [Lib.strCells_eq, List.append_assoc, ← Lib.byteCells_append]
   rfl
end Go.Proofs.Ytjngbogbbglbnaa

/- The walk of the document's own 'Bytes', of a Doc. -/
namespace Go.Proofs.Ytjngbogbbglbnaa
open Go.RowKit

theorem keep6 {w u w1 a : World} {b o j fn fc : Nat} {x : ByteArray} (hb0 : b < w.heap.size) (hb : Below (w.heap.size + 1) u w1) (h : u.cell? ⟨w.heap.size, 4, none⟩ = some (.slice (some ⟨b, o, none⟩) fn fc) ∧ u.cell? ⟨b, o + j * 6, none⟩ = some (.string x) ∧ Below (w.heap.size + 1) a u) :
  w1.cell? ⟨w.heap.size, 4, none⟩ = some (.slice (some ⟨b, o, none⟩) fn fc) ∧ w1.cell? ⟨b, o + j * 6, none⟩ = some (.string x) ∧ Below (w.heap.size + 1) a w1 := by
 refine ⟨?_, ?_, h.2.2.trans hb⟩
 ·rw [hb.cell (p := ⟨w.heap.size, 4, none⟩) (by show w.heap.size < _; omega)];exact h.1
 ·rw [hb.cell (p := ⟨b, o + j * 6, none⟩) (by show b < _; omega)];exact h.2.1

set_option maxHeartbeats 8000000 in
set_option maxRecDepth 1000000 in
theorem bytes_k6 (n : Int) (s : ByteArray) (ln : Nat) (l : Nat → GV) (fn : Nat) (nm : Nat → ByteArray) (f : Nat → GV) (la fa : Option Addr) (lc fc : Nat) (w : World) (h6 : fn ≤ fc) (h7 : fc ≤ maxLen) (hV : Flds w fa fn nm f) (hB : (GV.mk 6 n s ln l fn nm f).enc.length ≤ 1000000000)
  (hI : ∀ i, i < fn → ∀ v w, Lies w (f i) v → Calls Try.prog 50 #[v] w fun e w' => BytesSay w (f i).enc e w') : Calls Try.prog 50 #[.agg #[.int .i64 6, .int .i64 n, .string s, .slice la ln lc, .slice fa fn fc]] w fun e w' => BytesSay w (GV.mk 6 n s ln l fn nm f).enc e w' := by
 obtain ⟨i0, hi, hz0, hz1, hz2⟩ := info_parts infoU8;have hml : maxLen = 9223372036854775807 := rfl;have hbx : Below w.heap.size w (w.alloc (.cells #[.int .i64 6, .int .i64 n, .string s, .slice la ln lc, .slice fa fn fc] 25)) := (Below.refl w.heap.size w).alloc (Nat.le_refl _) _;have HB1 : Hid (Below (w.heap.size + 1) (w.alloc (.cells #[.int .i64 6, .int .i64 n, .string s, .slice la ln lc, .slice fa fn fc] 25)) ((w.alloc (.cells #[.int .i64 6, .int .i64 n, .string s, .slice la ln lc, .slice fa fn fc] 25)).alloc (.cells #[.int .u8 6] 5))) := (Below.refl _ _).alloc (by simp) _
 have HO1 : Hid (((w.alloc (.cells #[.int .i64 6, .int .i64 n, .string s, .slice la ln lc, .slice fa fn fc] 25)).alloc (.cells #[.int .u8 6] 5)).ownsRow (w.heap.size + 1) 5 1 (.slice (some ⟨w.heap.size + 1, 0, none⟩) 1 1) 1 [.int .u8 6]) := by
  have := World.ownsRow_lit (base := w.heap.size + 1) (e := 5) (size := 1) (w.alloc (.cells #[.int .i64 6, .int .i64 n, .string s, .slice la ln lc, .slice fa fn fc] 25)) #[.int .u8 6] 1 (by simp) (by decide) rfl;show World.ownsRow _ _ _ _ _ _ _;simpa using this
 have HVL : Hid (Flds w fa fn nm f) := hV;have HI : Hid (∀ i, i < fn → ∀ v w, Lies w (f i) v → Calls Try.prog 50 #[v] w fun e w' => BytesSay w (f i).enc e w') := hI;have hten := varint_ten (n := fn) (by omega);have hpos := varint_pos fn;obtain ⟨lv, hlv⟩ : ∃ lv, varint fn = lv := ⟨_, rfl⟩;have HV : Hid (varint fn = lv) := hlv;rw [hlv] at hten hpos;rw [enc_k6, hlv] at hB ⊢
 have HEL : Hid (∀ j, j ≤ fn → (6 :: (lv ++ (List.range j).flatMap (fun i => encS (nm i) ++ (f i).enc))).length ≤ 1000000000) := by
  intro j hj;have := flat_len (c := fun i => encS (nm i) ++ (f i).enc) hj;simp only [List.length_cons, List.length_append] at hB ⊢;omega
 clear hlv hV hI hB
 have HVC : Hid (∀ u, Calls Try.prog 70 #[.int .u64 (fn : Int)] u fun e w' => ∃ v, e = .returned v ∧ w'.ownsRow u.heap.size 5 1 v lv.length (Lib.byteCells lv) ∧ Below u.heap.size u w') := by
  intro u;have := rvarint_any fn u (by omega);rw [HV.out] at this;exact this
 go_enter Try.func50, Try.ntmps50
 go_wp2_with fail;refine (HVC.out _).mono ?_;rintro e w2 ⟨v2, rfl, hv2, hb2⟩;obtain ⟨g2, c2, rfl, hc2⟩ := own_some hv2 hpos;have hb2s := hb2.size;simp at hb2s;have HOW : Hid _ := own_below HO1.out hb2;have HB2 : Hid (Below (w.heap.size + 1) (w.alloc (.cells #[.int .i64 6, .int .i64 n, .string s, .slice la ln lc, .slice fa fn fc] 25)) w2) := HB1.out.trans (hb2.mono (by simp <;> omega));have HC2 : Hid (∀ j u, (Lib.byteCells lv)[j]? = some u → w2.cell? ((⟨g2, 0, none⟩ : Addr).add j) = some u) := hc2;clear hv2 hb2 hc2 HVC;go_wp2_with (at_builtin; refine wpList_append_own _ rfl _ _ 72 rfl (w.heap.size + 1) 5 i0 (.int .u8 0) 1 1 Try.underlying72 hi hz0 hz1 hz2 rfl (by decide) _ _ _ rfl HOW.out _ _ _ (Lib.byteCells lv) rfl ?c0 ?c1 ?c2 ?c3 ?c4 ?c5 ?_)
 case c0 => exact byteLen _
 case c1 => exact HC2.out
 case c2 => exact byteOne _
 case c3 => omega
 case c4 => omega
 case c5 => omega
 intro v3 w3 hown3 hgrow3 _
 have B3 : Below (w.heap.size + 1) (w.alloc (.cells #[.int .i64 6, .int .i64 n, .string s, .slice la ln lc, .slice fa fn fc] 25)) w3 := by
  refine HB2.out.grown hgrow3 (by omega) ?_;intro k hk;simp [Value.ownBlock] at hk;omega
 have HOWN : Hid (w3.ownsRow (w.heap.size + 1) 5 1 v3 (6 :: (lv ++ (List.range 0).flatMap (fun i => encS (nm i) ++ (f i).enc))).length (Lib.byteCells (6 :: (lv ++ (List.range 0).flatMap (fun i => encS (nm i) ++ (f i).enc))))) :=
  own_lit hown3 (by simp; omega) (by simp [Lib.byteCells])
 clear hown3 hgrow3 HC2 HB2 HOW;go_wp2_with fail
 go_loopw [3, 5] (fun v i wr => ∃ (j : Nat), i = .int .i64 j ∧ j ≤ fn ∧ wr.ownsRow (w.heap.size + 1) 5 1 v (6 :: (lv ++ (List.range j).flatMap (fun i => encS (nm i) ++ (f i).enc))).length (Lib.byteCells (6 :: (lv ++ (List.range j).flatMap (fun i => encS (nm i) ++ (f i).enc)))) ∧ Below (w.heap.size + 1) (w.alloc (.cells #[.int .i64 6, .int .i64 n, .string s, .slice la ln lc, .slice fa fn fc] 25)) wr) (fun _ i _ => fn - (intOf i).toNat)
 case atStart => exact ⟨0, rfl, by omega, HOWN.out, B3⟩
 case round =>
  obtain ⟨j, rfl, hj, hown, hbw⟩ := hrel;have hbs := hbw.size;simp at hbs;have hbw0 : Below w.heap.size w wr := hbx.trans (hbw.mono (by omega));have q4 : wr.cell? ⟨w.heap.size, 4, none⟩ = some (.slice fa fn fc) := by rw [hbw.cell (p := ⟨w.heap.size, 4, none⟩) (by show w.heap.size < _; omega)]; simp
  by_cases hlt : j < fn
  ·obtain ⟨b, o, v', rfl, hnm, cn, hLj, hA⟩ := HVL.out j hlt;have HLj : Hid (Lies w (f j) v') := hLj;have hb0 := cell_lt cn;obtain ⟨k', n', s', la', ln', lc', fa', fn', fc', rfl⟩ := hLj.agg;obtain ⟨c0, c1, c2, c3, c4⟩ := hA.five;have HA5 : Hid (w.cell? ⟨b, o + j * 6 + 1, none⟩ = some (.int .i64 k') ∧ w.cell? ⟨b, o + j * 6 + 1 + 1, none⟩ = some (.int .i64 n') ∧ w.cell? ⟨b, o + j * 6 + 1 + 2, none⟩ = some (.string s') ∧ w.cell? ⟨b, o + j * 6 + 1 + 3, none⟩ = some (.slice la' ln' lc') ∧ w.cell? ⟨b, o + j * 6 + 1 + 4, none⟩ = some (.slice fa' fn' fc')) := ⟨c0, c1, c2, c3, c4⟩;have en := below_keeps hbw0 _ _ _ cn;have hpj : 0 < (f j).enc.length := enc_pos hLj;clear hLj hA c0 c1 c2 c3 c4 cn;have HE1 := HEL.out (j + 1) hlt;rw [flat_snoc] at HE1;obtain ⟨E, hE⟩ : ∃ E, 6 :: (lv ++ (List.range j).flatMap (fun i => encS (nm i) ++ (f i).enc)) = E := ⟨_, rfl⟩;obtain ⟨F, hF⟩ : ∃ F, (f j).enc = F := ⟨_, rfl⟩;obtain ⟨x, hx⟩ : ∃ x, nm j = x := ⟨_, rfl⟩;obtain ⟨nv, hnv⟩ : ∃ nv, varint x.size = nv := ⟨_, rfl⟩;rw [hx] at en hnm
   have HEQ : Hid (6 :: (lv ++ (List.range (j + 1)).flatMap (fun i => encS (nm i) ++ (f i).enc)) = E ++ (nv ++ x.data.toList) ++ F) := by
    show _ = _;rw [flat_snoc, ← hE, ← hF, ← hnv, ← hx];simp [encS]
   have hxd : x.data.size = x.size := rfl
   have hlen : E.length + (nv.length + x.size) + F.length ≤ 1000000000 := by
    rw [← hE, ← hF, ← hnv, ← hx];rw [← hx] at hxd;simp only [List.length_cons, List.length_append, encS, Array.length_toList] at HE1 ⊢;omega
   have hnp := varint_pos x.size;rw [hnv] at hnp
   have HCI : Hid (∀ w0, Lies w0 (f j) (.agg #[.int .i64 k', .int .i64 n', .string s', .slice la' ln' lc', .slice fa' fn' fc']) → Calls Try.prog 50 #[.agg #[.int .i64 k', .int .i64 n', .string s', .slice la' ln' lc', .slice fa' fn' fc']] w0 fun e w' => BytesSay w0 F e w') := by
    intro w0 h0;rw [← hF];exact HI.out j hlt _ _ h0
   have HNC : Hid (∀ u, Calls Try.prog 70 #[.int .u64 (IntKind.u64.wrap (x.size : Int))] u fun e w' => ∃ v, e = .returned v ∧ w'.ownsRow u.heap.size 5 1 v nv.length (Lib.byteCells nv) ∧ Below u.heap.size u w') := by
    intro u;have := rvarint_any x.size u (by omega);rw [hnv] at this;rw [show IntKind.u64.wrap (x.size : Int) = (x.size : Int) by rw [u64_wrap]; omega];exact this
   rw [hE] at hown;rw [hF] at hpj;clear hE hF HE1 hx hnv hxd;have hown0 := hown;have HLT : Hid (∀ k, Value.ownBlock u3 = some k → w.heap.size + 1 ≤ k) := fun k hk => (hown0.lt k hk).1
   clear hown0;have hb5 : 0 ≤ (j : Int) ∧ (j : Int) < (fn : Int) := by omega
   go_wp2_with fail
   go_region_held3 (fun w' => w'.cell? ⟨w.heap.size, 4, none⟩ = some (.slice (some ⟨b, o, none⟩) fn fc) ∧ w'.cell? ⟨b, o + j * 6, none⟩ = some (.string x) ∧ Below (w.heap.size + 1) (w.alloc (.cells #[.int .i64 6, .int .i64 n, .string s, .slice la ln lc, .slice (some ⟨b, o, none⟩) fn fc] 25)) w') (first | exact hS | exact ⟨q4, en, hbw.drew⟩) (first
    | (go_at_call 70; refine (HNC.out _).mono ?_; rintro e w5 ⟨v5, rfl, hv5, hb5⟩; obtain ⟨g5, c5, rfl, hc5⟩ := own_some hv5 hnp; have hb5s := hb5.size; simp at hb5s; have hown5 := own_below (own_drew hown) hb5; have hS := keep6 hb0 (hb5.mono (by simp <;> omega)) (by assumption))
    | (have _t := hown6; refine step_append_own_string rfl (.tmp 90) (.tmp 96) 72 9 rfl (w.heap.size + 1) 5 i0 Try.underlying72 Try.underlying9 hi hz0 hz1 hz2 v6 _ _ (by simp [Act.eval]) hown6 x (by simp [Act.eval]) (by omega) (by omega) (by omega) ?_; intro v7 w7 hown7 hgrow7; have hw7 := hgrow7.size; have hS := keep6 hb0 ((Below.refl _ _).grown hgrow7 (by omega) (fun k hk => (hown6.lt k hk).1)) hS)
    | (have _t := hown5; refine step_append_own rfl (.tmp 80) (.tmp 89) 72 rfl (w.heap.size + 1) 5 i0 (.int .u8 0) 1 1 Try.underlying72 hi hz0 hz1 hz2 rfl (by decide) u3 _ _ (by simp [Act.eval]) hown5 ⟨g5, 0, none⟩ nv.length c5 (Lib.byteCells nv) (by simp [Act.eval]) (byteLen _) hc5 (byteOne _) (by omega) (by omega) (by omega) ?_; intro v6 w6 hown6 hgrow6; have hw6 := hgrow6.size; have hS := keep6 hb0 ((Below.refl _ _).grown hgrow6 (by omega) (fun k hk => (hown5.lt k hk).1)) hS))
   all_goals
    have B7 := hS.2.2;have q47 := hS.1;have hbw7 : Below w.heap.size w w7 := hbx.trans (B7.mono (by omega));have hb7s := B7.size;simp at hb7s;have HOW7 : Hid (w7.ownsRow (w.heap.size + 1) 5 1 v7 (E.length + nv.length + x.size) ((Lib.byteCells E ++ Lib.byteCells nv) ++ Lib.strCells x)) := hown7;clear hown7 hgrow7 hown6 hgrow6 hown5 hv5 hc5 hS hown q4 en hb5;obtain ⟨c0, c1, c2, c3, c4⟩ := HA5.out;have e0 := below_keeps hbw7 _ _ _ c0;have e1 := below_keeps hbw7 _ _ _ c1;have e2 := below_keeps hbw7 _ _ _ c2;have e3 := below_keeps hbw7 _ _ _ c3;have e4 := below_keeps hbw7 _ _ _ c4;clear c0 c1 c2 c3 c4;go_wp2_with fail;refine (HCI.out _ (HLj.out.below hbw7)).mono ?_;rintro e w8 ⟨v8, rfl, hv8, hb8⟩;obtain ⟨g8, c8, rfl, hc8⟩ := own_some hv8 hpj;have hb8s := hb8.size;have HOW8 : Hid _ := own_below HOW7.out hb8;have HB8 : Hid (Below (w.heap.size + 1) (w.alloc (.cells #[.int .i64 6, .int .i64 n, .string s, .slice la ln lc, .slice (some ⟨b, o, none⟩) fn fc] 25)) w8) := B7.trans (hb8.mono (by omega));have HC8 : Hid (∀ j u, (Lib.byteCells F)[j]? = some u → w8.cell? ((⟨g8, 0, none⟩ : Addr).add j) = some u) := hc8;clear hv8 hb8 hc8 e0 e1 e2 e3 e4;go_wp2_with (at_builtin; refine wpList_append_own _ rfl _ _ 72 rfl (w.heap.size + 1) 5 i0 (.int .u8 0) 1 1 Try.underlying72 hi hz0 hz1 hz2 rfl (by decide) _ _ _ rfl HOW8.out _ _ _ (Lib.byteCells F) rfl ?c0 ?c1 ?c2 ?c3 ?c4 ?c5 ?_)
    case c0 => exact byteLen _
    case c1 => exact HC8.out
    case c2 => exact byteOne _
    case c3 => omega
    case c4 => omega
    case c5 => omega
    intro v9 w9 hown9 hgrow9 _
    have B9 : Below (w.heap.size + 1) (w.alloc (.cells #[.int .i64 6, .int .i64 n, .string s, .slice la ln lc, .slice (some ⟨b, o, none⟩) fn fc] 25)) w9 := by
     refine HB8.out.grown hgrow9 (by omega) ?_;intro k hk;exact (HOW7.out.lt k hk).1
    have HOWN9 : Hid (w9.ownsRow (w.heap.size + 1) 5 1 v9 (E.length + nv.length + x.size + F.length) (Lib.byteCells E ++ (Lib.byteCells nv ++ (Lib.strCells x ++ Lib.byteCells F)))) := hown9;clear hown9 hgrow9;go_wp2_with fail
    go_roundw
    case rel =>
     refine ⟨j + 1, by go_num, by omega, ?_, B9⟩;rw [HEQ.out]
     refine own_lit HOWN9.out ?_ ?_
     ·simp only [List.length_append, Array.length_toList];have : x.data.size = x.size := rfl;omega
     ·rw [Lib.strCells_eq, ← Lib.byteCells_append, ← Lib.byteCells_append, ← Lib.byteCells_append];simp
    case measure => simp [intOf]; omega
  ·obtain rfl : j = fn := by omega
   have HOWN2 : Hid (wr.ownsRow (w.heap.size + 1) 5 1 _ _ _) := hown;clear hown;go_wp2_with fail;go_ret;exact ⟨_, rfl, own_base HOWN2.out (by omega), hbw0⟩

theorem rbytes_any : ∀ (g : GV) (v : Value) (w : World), Lies w g v → g.mass ≤ 4194304 → g.every GV.formed = true → Calls Try.prog 50 #[v] w fun e w' => BytesSay w g.enc e w' := by
 intro g
 induction g with
 | nil => intro v w hL; exact False.elim hL
 | mk k n s ln l fn nm f ihl ihf =>
  intro v w hL hM hF;have hE := enc_le hL hM;obtain ⟨la, lc, fa, fc, rfl, hk, hn, hs, h4, h5, h6, h7, hl, hf⟩ := hL;have hs2 : s.size ≤ 4194304 := by have := GV.mass_s (k := k) (n := n) (s := s) (ln := ln) (l := l) (fn := fn) (nm := nm) (f := f); omega
  have hhead : (GV.mk k n s ln l fn nm f).formed = true := by
   rw [GV.every_parts, Bool.and_eq_true] at hF;exact hF.1
  have hkids : ∀ i, i < (GV.mk k n s ln l fn nm f).pn → ((GV.mk k n s ln l fn nm f).pf i).every GV.formed = true := by
   rw [GV.every_parts, Bool.and_eq_true, List.all_eq_true] at hF;intro i hi;exact hF.2 i (by simpa using hi)
  have hcase : k = 1 ∨ k = 2 ∨ k = 3 ∨ k = 4 ∨ k = 5 ∨ k = 6 ∨ (k ≠ 1 ∧ k ≠ 2 ∧ k ≠ 3 ∧ k ≠ 4 ∧ k ≠ 5 ∧ k ≠ 6) := by omega
  rcases hcase with rfl | rfl | rfl | rfl | rfl | rfl | ⟨k1, k2, k3, k4, k5, k6⟩
  ·exact bytes_k1 n s ln l fn nm f la fa lc fc w
  ·have : n = 0 ∨ n = 1 := by
    simp [GV.formed] at hhead;exact hhead.1.1.1
   rcases this with rfl | rfl
   ·exact bytes_k2_0 s ln l fn nm f la fa lc fc w
   ·exact bytes_k2_1 s ln l fn nm f la fa lc fc w
  ·exact bytes_k3 n s ln l fn nm f la fa lc fc w hn
  ·exact bytes_k4 n s ln l fn nm f la fa lc fc w hs2
  ·refine bytes_k5 n s ln l fn nm f la fa lc fc w h4 h5 hl (by omega) (fun i hi v w hv => ihl i v w hv ?_ ?_)
   ·have := GV.mass_l (k := 5) (n := n) (s := s) (l := l) (fn := fn) (nm := nm) (f := f) hi;omega
   ·have := hkids i (by simpa [GV.pn] using hi);simpa [GV.pf] using this
  ·refine bytes_k6 n s ln l fn nm f la fa lc fc w h6 h7 hf (by omega) (fun i hi v w hv => ihf i v w hv ?_ ?_)
   ·have := GV.mass_f (k := 6) (n := n) (s := s) (ln := ln) (l := l) (nm := nm) (f := f) hi;omega
   ·have := hkids i (by simpa [GV.pn] using hi);simpa [GV.pf] using this
  ·simp [GV.formed, k1, k2, k3, k4, k5, k6] at hhead
end Go.Proofs.Ytjngbogbbglbnaa

/- The walk of the document's own 'Good': the first error, or 0: the same as GV.err. -/
namespace Go.Proofs.Ytjngbogbbglbnaa
open Go.RowKit

/-- Of values whose parts are formed, two tests that agree on each formed part agree. -/
theorem every_agree {p q : GV → Bool} (h : ∀ g, g.formed = true → p g = q g) : ∀ g : GV, g.every GV.formed = true → g.every p = g.every q := by
 intro g
 induction g with
 | nil => intro hF; simp [GV.every, GV.formed] at hF
 | mk k n s ln l fn nm f ihl ihf =>
  intro hF;rw [GV.every_parts, Bool.and_eq_true, List.all_eq_true] at hF;rw [GV.every_parts, GV.every_parts, h _ hF.1]
  congr 1
  have e : ∀ i, i < (GV.mk k n s ln l fn nm f).pn → ((GV.mk k n s ln l fn nm f).pf i).every p = ((GV.mk k n s ln l fn nm f).pf i).every q := by
   intro i hi;have hv := hF.2 i (by simpa using hi)
   have hq : (GV.mk k n s ln l fn nm f).pf i = l i ∨ (GV.mk k n s ln l fn nm f).pf i = f i := by
    simp only [GV.pf]
    split
    ·exact Or.inl rfl
    ·exact Or.inr rfl
   rcases hq with e | e
   ·rw [e] at hv ⊢;exact ihl i hv
   ·rw [e] at hv ⊢;exact ihf i hv
  rw [Bool.eq_iff_iff, List.all_eq_true, List.all_eq_true]
  constructor
  ·intro h1 i hi;rw [← e i (by simpa using hi)];exact h1 i hi
  ·intro h1 i hi;rw [e i (by simpa using hi)];exact h1 i hi

theorem valid_nil : validB ⟨#[]⟩ = true := rfl

theorem text_agree (g : GV) (h : g.formed = true) : g.textOk = g.readable := by
 cases g with
 | nil => simp [GV.formed] at h
 | mk k n s ln l fn nm f =>
  have hcase : k = 1 ∨ k = 2 ∨ k = 3 ∨ k = 4 ∨ k = 5 ∨ k = 6 ∨ (k ≠ 1 ∧ k ≠ 2 ∧ k ≠ 3 ∧ k ≠ 4 ∧ k ≠ 5 ∧ k ≠ 6) := by omega
  rcases hcase with rfl | rfl | rfl | rfl | rfl | rfl | ⟨k1, k2, k3, k4, k5, k6⟩
  ·simp [GV.formed] at h;obtain ⟨⟨⟨_, hs⟩, _⟩, hf⟩ := h;have hs' := empty_is (s := s) (by simpa using hs);subst hs' hf;simp [GV.textOk, GV.readable, valid_nil]
  ·simp [GV.formed] at h;obtain ⟨⟨⟨_, hs⟩, _⟩, hf⟩ := h;have hs' := empty_is (s := s) (by simpa using hs);subst hs' hf;simp [GV.textOk, GV.readable, valid_nil]
  ·simp [GV.formed] at h;obtain ⟨⟨hs, _⟩, hf⟩ := h;have hs' := empty_is (s := s) (by simpa using hs);subst hs' hf;simp [GV.textOk, GV.readable, valid_nil]
  ·simp [GV.formed] at h;obtain ⟨_, hf⟩ := h;subst hf;simp [GV.textOk, GV.readable]
  ·simp [GV.formed] at h;obtain ⟨⟨_, hs⟩, hf⟩ := h;have hs' := empty_is (s := s) (by simpa using hs);subst hs' hf;simp [GV.textOk, GV.readable, valid_nil]
  ·simp [GV.formed] at h;obtain ⟨⟨_, hs⟩, _⟩ := h;have hs' := empty_is (s := s) (by simpa using hs);subst hs';simp [GV.textOk, GV.readable, valid_nil]
  ·simp [GV.formed, k1, k2, k3, k4, k5, k6] at h

theorem few_agree (g : GV) (h : g.formed = true) : g.fewOk = g.limited := by
 cases g with
 | nil => simp [GV.formed] at h
 | mk k n s ln l fn nm f =>
  have hcase : k = 1 ∨ k = 2 ∨ k = 3 ∨ k = 4 ∨ k = 5 ∨ k = 6 ∨ (k ≠ 1 ∧ k ≠ 2 ∧ k ≠ 3 ∧ k ≠ 4 ∧ k ≠ 5 ∧ k ≠ 6) := by omega
  rcases hcase with rfl | rfl | rfl | rfl | rfl | rfl | ⟨k1, k2, k3, k4, k5, k6⟩
  ·simp [GV.formed] at h;obtain ⟨⟨_, hl⟩, hf⟩ := h;subst hl hf;simp [GV.fewOk, GV.limited]
  ·simp [GV.formed] at h;obtain ⟨⟨_, hl⟩, hf⟩ := h;subst hl hf;simp [GV.fewOk, GV.limited]
  ·simp [GV.formed] at h;obtain ⟨⟨_, hl⟩, hf⟩ := h;subst hl hf;simp [GV.fewOk, GV.limited]
  ·simp [GV.formed] at h;obtain ⟨⟨_, hl⟩, hf⟩ := h;subst hl hf;simp [GV.fewOk, GV.limited]
  ·simp [GV.formed] at h;obtain ⟨_, hf⟩ := h;subst hf;simp [GV.fewOk, GV.limited]
  ·simp [GV.formed] at h;obtain ⟨_, hl⟩ := h;subst hl;simp [GV.fewOk, GV.limited, Bool.and_comm]
  ·simp [GV.formed, k1, k2, k3, k4, k5, k6] at h

set_option maxHeartbeats 4000000 in
set_option maxRecDepth 1000000 in
theorem rgood_any (g : GV) (v : Value) (w : World) (hL : Lies w g v) (hM : g.mass ≤ 4194304) :
  Calls Try.prog 25 #[v] w fun e w' => e = .returned (.int .i64 g.err) ∧ Below w.heap.size w w' := by
 have HL : Hid (Lies w g v) := hL;have hN : g.nodes ≤ 4194304 := by have := GV.nodes_mass g; omega
 have hdn := GV.depth_le g;have hES := enc_size hL;have hEL := enc_le hL hM;have hEP := enc_pos hL;obtain ⟨k, n, s, la, ln, lc, fa, fn, fc, rfl⟩ := hL.agg;clear hL;have hbx := (Below.refl w.heap.size w).alloc (Nat.le_refl _) (.cells #[.int .i64 k, .int .i64 n, .string s, .slice la ln lc, .slice fa fn fc] 25)
 go_enter Try.func25, Try.ntmps25
 go_wp2_with fail;refine (shape_any g _ _ (HL.out.below hbx) (by omega)).mono ?_;rintro e w1 ⟨rfl, hb1⟩;have X1 := hb1.mono (B' := w.heap.size + 1) (by simp);have B1 : Below w.heap.size w w1 := hbx.trans (X1.mono (by omega));clear hb1;obtain ⟨c0, c1, c2, c3, c4⟩ := box_cells X1
 cases hE1 : g.every GV.formed with
 | false =>
  have HE : Hid (g.err = 4) := (err_1 hE1).1;clear hE1;go_wp2_with fail;go_ret;exact ⟨by rw [HE.out]; rfl, B1⟩
 | true =>
  have HE1 : Hid (g.every GV.formed = true) := hE1;have HT : Hid (g.every GV.textOk = g.every GV.readable) := every_agree text_agree g hE1;have HW : Hid (g.every GV.fewOk = g.every GV.limited) := every_agree few_agree g hE1;clear hE1;go_wp2_with fail;refine (texts_any g _ _ (HL.out.below B1) hM).mono ?_;rintro e w2 ⟨rfl, hb2⟩;have X2 := X1.trans (hb2.mono (B' := w.heap.size + 1) (by have := X1.size; simp at this; omega));have B2 : Below w.heap.size w w2 := hbx.trans (X2.mono (by omega));clear hb2 X1 B1 c0 c1 c2 c3 c4;obtain ⟨c0, c1, c2, c3, c4⟩ := box_cells X2;rw [HT.out]
  cases hE2 : g.every GV.readable with
  | false =>
   have HE : Hid (g.err = 11) := (err_2 HE1.out hE2).1;clear hE2;go_wp2_with fail;go_ret;exact ⟨by rw [HE.out]; rfl, B2⟩
  | true =>
   have HE2 : Hid (g.every GV.readable = true) := hE2;clear hE2;go_wp2_with fail;refine (few_any g _ _ (HL.out.below B2) hM).mono ?_;rintro e w3 ⟨rfl, hb3⟩;have X3 := X2.trans (hb3.mono (B' := w.heap.size + 1) (by have := X2.size; simp at this; omega));have B3 : Below w.heap.size w w3 := hbx.trans (X3.mono (by omega));clear hb3 X2 B2 c0 c1 c2 c3 c4;obtain ⟨c0, c1, c2, c3, c4⟩ := box_cells X3;rw [HW.out]
   cases hE3 : g.every GV.limited with
   | false =>
    have HE : Hid (g.err = 15) := (err_3 HE1.out HE2.out hE3).1;clear hE3;go_wp2_with fail;go_ret;exact ⟨by rw [HE.out]; rfl, B3⟩
   | true =>
    have HE3 : Hid (g.every GV.limited = true) := hE3;clear hE3;go_wp2_with fail;refine (rDepth_any g _ _ (HL.out.below B3) (by omega)).mono ?_;rintro e w4 ⟨rfl, hb4⟩;have X4 := X3.trans (hb4.mono (B' := w.heap.size + 1) (by have := X3.size; simp at this; omega));have B4 : Below w.heap.size w w4 := hbx.trans (X4.mono (by omega));clear hb4 X3 B3 c0 c1 c2 c3 c4;obtain ⟨c0, c1, c2, c3, c4⟩ := box_cells X4
    by_cases hd : 8 < g.depth
    ·have HE : Hid (g.err = 3) := (err_4 HE1.out HE2.out HE3.out hd).1;have hd2 : (8 : Int) < (g.depth : Int) := by omega
     go_wp2_with fail;go_ret;exact ⟨by rw [HE.out]; rfl, B4⟩
    ·have hd2 : ¬ (8 : Int) < (g.depth : Int) := by omega
     have HD : Hid (¬ 8 < g.depth) := hd;go_wp2_with fail;refine (rbytes_any g _ _ (HL.out.below B4) hM HE1.out).mono ?_;rintro e w5 ⟨v5, rfl, hv5, hb5⟩;obtain ⟨g5, c5, rfl, _⟩ := own_some hv5 hEP;have B5 : Below w.heap.size w w5 := B4.trans (hb5.mono B4.size);clear hb5 X4 B4 c0 c1 c2 c3 c4 hv5;obtain ⟨E, hEe⟩ : ∃ E, g.enc.length = E := ⟨_, rfl⟩;rw [hEe] at hES hEL ⊢;clear hEe
     by_cases hz : 2048 < g.size
     ·have HE : Hid (g.err = 2) := (err_5 HE1.out HE2.out HE3.out HD.out hz).1;have hz2 : (2048 : Int) < (E : Int) := by omega
      go_wp2_with fail;go_ret;exact ⟨by rw [HE.out]; rfl, B5⟩
     ·have HE : Hid (g.err = 0) := (err_6 HE1.out HE2.out HE3.out HD.out hz).1;have hz2 : ¬ (2048 : Int) < (E : Int) := by omega
      go_wp2_with fail;go_ret;exact ⟨by rw [HE.out]; rfl, B5⟩
end Go.Proofs.Ytjngbogbbglbnaa
