/- The walk of the statement KeyMany. -/
import Derived.Test.YticbcoklpgfkhaaZKyRSplit
import Derived.Test.YticbcoklpgfkhaaK4
import Derived.Test.YticbcoklpgfkhaaK5
import Derived.Test.YticbcoklpgfkhaaK5
import Derived.Test.YticbcoklpgfkhaaWalked
namespace Go.Proofs.Yticbcoklpgfkhaa
open Go.RowKit

theorem nodes_posM {w : World} {g : GV} {v : Value} (h : Lies w g v) : 1 ≤ g.nodes := by
  cases g with
  | nil => exact False.elim h
  | mk k n s ln l fn nm f => rw [nodes_mk]; omega
theorem sumN_posM {w : World} {la : Option Addr} {n : Nat} {l : Nat → GV} (h : Vals w la n l) : ∀ j, j ≤ n → j ≤ sumN l j
  | 0, _ => Nat.zero_le _
  | j + 1, hj => by
    obtain ⟨_, _, _, _, hL, _⟩ := h j (by omega)
    have h1 := nodes_posM hL
    have h2 := sumN_posM h j (by omega)
    rw [sumN_succ]
    omega
theorem node_leM {l : Nat → GV} {n i : Nat} (h : i < n) : (l i).nodes ≤ sumN l n := by
  have h1 := sumN_succ l i
  have h2 := sumN_le (l := l) (j := i + 1) (n := n) (by omega)
  omega
/-- The first fault of a row of values. -/
def joinE (l : Nat → GV) : Nat → Int
  | 0 => 0
  | n + 1 => if joinE l n ≠ 0 then joinE l n else (l n).err
theorem joinE_ok (l : Nat → GV) : ∀ n, (∀ i, i < n → (l i).err = 0) → joinE l n = 0
  | 0, _ => rfl
  | n + 1, h => by rw [joinE, joinE_ok l n fun i hi => h i (by omega), if_neg (by simp)]; exact h n (by omega)
theorem joinE_at (l : Nat → GV) (j : Nat) (h : ∀ i, i < j → (l i).err = 0) (he : (l j).err ≠ 0) : ∀ n, j < n → joinE l n = (l j).err
  | 0, hj => absurd hj (Nat.not_lt_zero _)
  | n + 1, hj => by
    rw [joinE]
    rcases Nat.lt_or_ge j n with h1 | h1
    · rw [joinE_at l j h he n h1, if_pos he]
    · obtain rfl : j = n := by omega
      rw [joinE_ok l j h, if_neg (by simp)]
/-- What both Joins tell, as one. -/
theorem join_one {n : Nat} {l : Nat → GV} {w w' : World} {e : Ending} (h : JoinSay n l w e w') : ∃ kv, e = .returned (.tuple #[kv, .int .i64 (joinE l n)]) ∧ RowKit.Below w.heap.size w w' ∧ ∀ u, RowKit.Below w'.heap.size w' u → (convert 29 9 kv).run Try.prog u = .ok (.string ⟨(if joinE l n = 0 then keysN l n else []).toArray⟩) u := by
  obtain ⟨b, ⟨j, hj, h1, h2, rfl⟩ | ⟨h1, v, rfl, ho⟩⟩ := h
  · refine ⟨_, by rw [joinE_at l j h1 h2 n hj], b, fun u _ => ?_⟩
    rw [joinE_at l j h1 h2 n hj, if_neg h2]
    exact byts_text (a := none) (c := 0) (t := []) fun i hi => absurd hi (Nat.not_lt_zero _)
  · refine ⟨v, by rw [joinE_ok l n h1], b, fun u hu => ?_⟩
    rw [joinE_ok l n h1, if_pos rfl]
    exact own_string (own_below ho hu)
/-- What both Afters tell, as one. -/
theorem after_one {l : List UInt8} {w w' : World} {e : Ending} (h : AfterSay l w e w') : ∃ av, e = .returned (.tuple #[av, .bool (decide (cutR l ≠ []))]) ∧ RowKit.Below w.heap.size w w' ∧ ∀ u, RowKit.Below w'.heap.size w' u → (convert 29 9 av).run Try.prog u = .ok (.string ⟨(riseR l).toArray⟩) u := by
  obtain ⟨b, ⟨h1, rfl⟩ | ⟨h1, v, rfl, ho⟩⟩ := h
  · refine ⟨_, by rw [h1]; rfl, b, fun u _ => ?_⟩
    have e : riseR l = [] := by unfold riseR; rw [h1]
    rw [e]
    exact byts_text (a := none) (c := 0) (t := []) fun i hi => absurd hi (Nat.not_lt_zero _)
  · refine ⟨v, by rw [decide_eq_true h1], b, fun u hu => ?_⟩
    exact own_string (own_below ho hu)
theorem keysF_len : ∀ fs : List Fl, (∀ f ∈ fs, f.g.err = 0) → fs.length ≤ (keysF fs).length
  | [], _ => Nat.zero_le _
  | f :: fs, h => by
    have h1 := keysF_len fs fun x hx => h x (by simp [hx])
    have h2 := key_pos (h f (by simp))
    show _ ≤ (f.g.key ++ keysF fs).length
    rw [List.length_append, List.length_cons]
    omega
theorem gkeys_len : ∀ gs : List GV, (∀ g ∈ gs, g.err = 0) → gs.length ≤ (gs.flatMap GV.key).length
  | [], _ => Nat.zero_le _
  | g :: gs, h => by
    have h1 := gkeys_len gs fun x hx => h x (by simp [hx])
    have h2 := key_pos (h g (by simp))
    rw [List.flatMap_cons, List.length_append, List.length_cons]
    omega
def flG (fs : List Fl) (i : Nat) : GV := (fs[i]?.map Fl.g).getD .nil
theorem flG_at {fs : List Fl} {i : Nat} (h : i < fs.length) : flG fs i = fs[i].g := by simp [flG, h]
theorem keysF_flat : ∀ (fs : List Fl), keysF fs = (List.range' 0 fs.length).flatMap (fun j => (flG fs j).key) := by
  intro fs
  rw [← List.range_eq_range']
  induction fs with
  | nil => rfl
  | cons f fs ih =>
    rw [List.length_cons, List.range_succ_eq_map, List.flatMap_cons, List.flatMap_map]
    show f.g.key ++ keysF fs = _
    rw [ih]
    rfl
/-- Two rows that were read out of the same bytes. -/
theorem rows_same {fs fs' : List Fl} {n : Nat} (hn : fs.length = n) (hn' : fs'.length = n) (hk : keysF fs = keysF fs') (h : ∀ f ∈ fs, f.g.err = 0 ∧ f.g.every GV.nOk = true) (h' : ∀ f ∈ fs', f.g.err = 0 ∧ f.g.every GV.nOk = true) : ∀ i, i < n → (flG fs i).same (flG fs' i) = true := by
  intro i hi
  have h1 := joint_same (flG fs') fs 0 n hn h (fun j hj => by
    rw [Nat.zero_add, flG_at (by omega)]
    exact h' _ (List.getElem_mem _)) (by rw [hk, keysF_flat, hn']) i (by omega)
  rw [Nat.zero_add] at h1
  rw [flG_at (by omega)]
  exact h1
theorem sp_row {w w' : World} {v : Value} {fs : List Fl} {n : Nat} (h : Sp w w' v fs) (hn : fs.length = n) : ∃ a c, v = .slice a n c ∧ n ≤ c ∧ c ≤ maxLen ∧ Vals w' a n (flG fs) := by
  have ho := h.own
  rw [hn] at ho
  refine vals_own (l := flG fs) ho (by simp [hn]) (fun i hi => ?_)
  have hi2 : i < fs.length := by simpa using hi
  have hL := (h.trees _ (List.getElem_mem hi2)).1.lies
  rw [flG_at hi2]
  simpa using hL

set_option maxHeartbeats 1000000 in
set_option maxRecDepth 1000000 in
theorem split_neg (a : Option Addr) (N c : Nat) (n : Int) (w : World) (hn : n < 0) :
    Calls Try.prog 10 #[.slice a N c, .int .i64 n] w fun e w' => e = .returned (.tuple #[.slice none 0 0, .int .i64 1]) ∧ w' = w := by
  go_enter Try.func10, Try.ntmps10
  go_wp2_with fail
  go_ret2
  exact ⟨rfl, rfl⟩

set_option maxHeartbeats 8000000 in
set_option maxRecDepth 1000000 in
theorem many_any (lv : Nat → GV) (la : Option Addr) (m lc : Nat) (a : Option Addr) (c : Nat) (l : List UInt8) (n : Int) (w : World) (hV : Vals w la m lv) (hm1 : m ≤ lc) (hm2 : lc ≤ maxLen) (hM : ∀ i, i < m → (lv i).mass ≤ 4194304) (hBy : Byts w a l) (hlc : l.length ≤ c) (hcm : c ≤ maxLen) (hl : l.length ≤ 4194304) (hn : n ≤ 9223372036854775807) :
    Calls Try.prog 5 #[.slice la m lc, .slice a l.length c, .int .i64 n] w fun e w' => e = .returned (.bool true) ∧ RowKit.Below w.heap.size w w' := by
  have hml : maxLen = 9223372036854775807 := rfl
  obtain ⟨N, hN⟩ : ∃ N, N = l.length := ⟨_, rfl⟩
  have HN := mkHid hN
  have HV := mkHid hV
  have HM := mkHid hM
  have HB := mkHid hBy
  have HVA : Hid (Calls Try.prog 19 #[.slice la m lc] w fun e w' => e = .returned (.bool (decide (5000 ≤ sumN lv m))) ∧ RowKit.Below w.heap.size w w') := Vast_any la m lc lv w (by omega) hV
  have hpos := sumN_posM hV m (Nat.le_refl _)
  rw [← hN] at hlc hl ⊢
  clear hV hM hBy hN
  go_enter Try.func5, Try.ntmps5
  go_wp2_with fail
  by_cases hbig : 5000 ≤ sumN lv m
  · rw [decide_eq_true hbig] at HVA
    refine HVA.out.mono ?_
    rintro e w2 ⟨rfl, b2⟩
    have HE := mkHid b2
    clear b2
    go_wp2_with fail
    go_ret
    exact ⟨rfl, HE.out⟩
  rw [decide_eq_false hbig] at HVA
  have HNN : Hid (∀ i, i < m → (lv i).nodes ≤ 16384) := fun i hi => by have := node_leM (l := lv) (n := m) (i := i) hi; omega
  have hm5 : m ≤ 10000000 := by omega
  clear hbig hpos
  refine HVA.out.mono ?_
  rintro e w2 ⟨rfl, b2⟩
  have HB2 := mkHid b2
  have HJ1 := mkHid (Join_any m lc la lv w2 (HV.out.below b2) HNN.out hm1 hm2 hm5)
  clear b2
  go_wp2_with fail
  refine HJ1.out.mono ?_
  intro e w3 hj1
  obtain ⟨kv, rfl, b3, hk3⟩ := join_one hj1
  obtain ⟨er, her⟩ : ∃ er, er = joinE lv m := ⟨_, rfl⟩
  have HER := mkHid her
  rw [← her] at hk3 ⊢
  obtain ⟨T, hT⟩ : ∃ T, T = (if er = 0 then keysN lv m else []) := ⟨_, rfl⟩
  have HTT := mkHid hT
  rw [← hT] at hk3
  have HK3 := mkHid hk3
  have hb3 := HB2.out.trans (b3.mono HB2.out.size)
  have HB3 := mkHid hb3
  have HSX : Hid (Calls Try.prog 10 #[.slice a N c, .int .i64 n] w3 fun e w' => ∃ xv fe, e = .returned (.tuple #[xv, .int .i64 fe]) ∧ RowKit.Below w3.heap.size w3 w' ∧ ((n < 0 ∧ fe = 1 ∧ xv = .slice none 0 0) ∨ (¬ n < 0 ∧ (N : Int) < n ∧ fe = 4 ∧ xv = .slice none 0 0) ∨ (¬ n < 0 ∧ ¬ (N : Int) < n ∧ (((∀ gs, ¬ KeysAre gs n.toNat l) ∧ fe = 4 ∧ xv = .slice none 0 0) ∨ (fe = 0 ∧ ∃ fs, fs.length = n.toNat ∧ l = keysF fs ∧ Sp w3 w' xv fs))))) := by
    by_cases h0 : n < 0
    · refine (split_neg a N c n w3 h0).mono ?_
      rintro e w' ⟨rfl, rfl⟩
      exact ⟨_, _, rfl, RowKit.Below.refl _ _, Or.inl ⟨h0, rfl, rfl⟩⟩
    · have h := Split_any a c l n.toNat w3 (HB.out.below hb3) (by rw [← HN.out]; exact hlc) hcm (by omega) (by rw [← HN.out]; omega)
      rw [← HN.out, show ((n.toNat : Nat) : Int) = n by omega] at h
      refine h.mono ?_
      rintro e w' ⟨b, ⟨v, fs, h1, h2, h3, rfl⟩ | ⟨h1, rfl⟩⟩
      · refine ⟨_, _, rfl, b, Or.inr (Or.inr ⟨h0, fun hh => ?_, Or.inr ⟨rfl, fs, h1, h2, h3⟩⟩)⟩
        have hlen := keysF_len fs fun f hf => (h3.trees f hf).2
        rw [← h2, ← HN.out, h1] at hlen
        omega
      · refine ⟨_, _, rfl, b, ?_⟩
        by_cases hh : (N : Int) < n
        · exact Or.inr (Or.inl ⟨h0, hh, rfl, rfl⟩)
        · exact Or.inr (Or.inr ⟨h0, hh, Or.inl ⟨h1, rfl, rfl⟩⟩)
  clear hj1 her hT hk3 b3 hb3
  go_wp2_with fail
  refine HSX.out.mono ?_
  rintro e w4 ⟨xv, fe, rfl, b4, hx⟩
  have HX := mkHid hx
  have hb4 := HB3.out.trans (b4.mono HB3.out.size)
  have HB4 := mkHid hb4
  have HB34 := mkHid b4
  have HA1 : Hid (Calls Try.prog 11 #[.slice a N c] w4 fun e w' => AfterSay l w4 e w') := by
    have h := After_any a c l w4 (HB.out.below hb4) (by rw [← HN.out]; exact hlc) hcm (by rw [← HN.out]; omega)
    rw [← HN.out] at h
    exact h
  clear hx b4 hb4
  go_wp2_with fail
  refine HA1.out.mono ?_
  intro e w5 ha1
  obtain ⟨av, rfl, b5, hk5⟩ := after_one ha1
  obtain ⟨ab, hab⟩ : ∃ ab, ab = decide (cutR l ≠ []) := ⟨_, rfl⟩
  have HAB := mkHid hab
  obtain ⟨R, hR⟩ : ∃ R, R = riseR l := ⟨_, rfl⟩
  have HRR := mkHid hR
  rw [← hab]
  rw [← hR] at hk5
  have HK5 := mkHid hk5
  have hb5 := HB4.out.trans (b5.mono HB4.out.size)
  have HB5 := mkHid hb5
  have HB45 := mkHid b5
  have HJ2 := mkHid (rjoin_any m lc la lv w5 (HV.out.below hb5) HM.out hm1 hm2 hm5)
  clear ha1 hab hR hk5 b5 hb5
  go_wp2_with fail
  refine HJ2.out.mono ?_
  intro e w6 hj2
  obtain ⟨kv2, rfl, b6, hk6⟩ := join_one hj2
  rw [← HER.out] at hk6 ⊢
  rw [← HTT.out] at hk6
  have HK6 := mkHid hk6
  have hb6 := HB5.out.trans (b6.mono HB5.out.size)
  have HB6 := mkHid hb6
  have HB56 := mkHid b6
  have HA2 : Hid (Calls Try.prog 28 #[.slice a N c] w6 fun e w' => AfterSay l w6 e w') := by
    have h := rafter_any a c l w6 (HB.out.below hb6) (by rw [← HN.out]; exact hlc) hcm (by rw [← HN.out]; omega)
    rw [← HN.out] at h
    exact h
  clear hj2 hk6 b6 hb6
  go_wp2_with fail
  refine HA2.out.mono ?_
  intro e w7 ha2
  obtain ⟨av2, rfl, b7, hk7⟩ := after_one ha2
  rw [← HAB.out]
  rw [← HRR.out] at hk7
  have HK7 := mkHid hk7
  have HB7 := mkHid (HB6.out.trans (b7.mono HB6.out.size))
  have HB67 := mkHid b7
  clear ha2 hk7 b7
  go_wp2_with fail
  refine (awake5_any w7).mono ?_
  rintro e w8 ⟨rfl, b8⟩
  have b78 := b8
  have b68 := HB67.out.trans (b78.mono HB67.out.size)
  have b58 := HB56.out.trans (b68.mono HB56.out.size)
  have b48 := HB45.out.trans (b58.mono HB45.out.size)
  have b38 := HB34.out.trans (b48.mono HB34.out.size)
  have q1 := HK3.out w8 b38
  have q2 := HK6.out w8 b68
  have q3 := HK5.out w8 b58
  have q4 := HK7.out w8 b78
  have hb8 := HB7.out.trans (b8.mono HB7.out.size)
  have HB8 := mkHid hb8
  have HB48 := mkHid b48
  have HRS : Hid (¬ n < 0 → Calls Try.prog 22 #[.slice a N c, .int .i64 n] w8 fun e w' => RSplitSay l n.toNat w8 e w') := fun h0 => by
    have h := rsplit_any a c l n.toNat w8 (HB.out.below hb8) (by rw [← HN.out]; exact hlc) hcm (by omega) (by rw [← HN.out]; omega)
    rw [← HN.out, show ((n.toNat : Nat) : Int) = n by omega] at h
    exact h
  clear b8 b78 b68 b58 b48 b38 hb8
  rcases HX.out with ⟨h0, rfl, rfl⟩ | ⟨h0, h1, rfl, rfl⟩ | ⟨h0, h1, h2⟩
  · clear HX
    go_wp2_with fail
    go_ret
    exact ⟨rfl, HB8.out⟩
  · clear HX
    go_wp2_with fail
    go_ret
    exact ⟨rfl, HB8.out⟩
  · have HR2 := mkHid (HRS.out (by omega))
    rcases h2 with ⟨hno, rfl, rfl⟩ | ⟨rfl, fs, hfl, hfk, hsp⟩
    · have HNO := mkHid hno
      clear HX hno
      go_wp2_with fail
      refine HR2.out.mono ?_
      rintro e w9 ⟨b9, ⟨v, fs, g1, g2, g3, rfl⟩ | ⟨_, rfl⟩⟩
      · refine absurd ⟨?_, ?_, ?_⟩ (HNO.out (fs.map Fl.g))
        · simp [g1]
        · intro g hg
          obtain ⟨f, hf, rfl⟩ := List.mem_map.1 hg
          exact ⟨(g3.trees f hf).2, nOk_lies (g3.trees f hf).1.lies⟩
        · rw [g2]
          simp [keysF, List.flatMap_map]
      · have HE := mkHid (HB8.out.trans (b9.mono HB8.out.size))
        clear b9
        go_wp2_with fail
        go_ret
        exact ⟨rfl, HE.out⟩
    · obtain ⟨xa, xc, rfl, hx1, hx2, hxV⟩ := sp_row hsp hfl
      have HXV := mkHid (hxV.below HB48.out)
      have HFS : Hid (∀ f ∈ fs, f.g.err = 0 ∧ f.g.every GV.nOk = true) := fun f hf => ⟨(hsp.trees f hf).2, nOk_lies (hsp.trees f hf).1.lies⟩
      have HFL := mkHid hfl
      have HFK := mkHid hfk
      clear HX hsp hxV hfl hfk
      go_wp2_with fail
      refine HR2.out.mono ?_
      rintro e w9 ⟨b9, ⟨v, fs', g1, g2, g3, rfl⟩ | ⟨hno, _⟩⟩
      · obtain ⟨ya, yc, rfl, hy1, hy2, hyV⟩ := sp_row g3 g1
        have hsame := rows_same HFL.out g1 (by rw [← HFK.out, ← g2]) HFS.out (fun f hf => ⟨(g3.trees f hf).2, nOk_lies (g3.trees f hf).1.lies⟩)
        have HLI := mkHid (list_any xa ya n.toNat xc yc (flG fs) (flG fs') w9 (HXV.out.below b9) hyV hx1 hx2 hy1 hy2 hsame)
        have HB9 := mkHid (HB8.out.trans (b9.mono HB8.out.size))
        clear b9 g1 g2 g3 hyV hsame
        go_wp2_with fail
        refine HLI.out.mono ?_
        rintro e w10 ⟨rfl, b10⟩
        have HE := mkHid (HB9.out.trans (b10.mono HB9.out.size))
        clear b10
        go_wp2_with fail
        go_ret
        exact ⟨rfl, HE.out⟩
      · refine absurd ⟨?_, ?_, ?_⟩ (hno (fs.map Fl.g))
        · simp [HFL.out]
        · intro g hg
          obtain ⟨f, hf, rfl⟩ := List.mem_map.1 hg
          exact HFS.out f hf
        · rw [HFK.out]
          simp [keysF, List.flatMap_map]
end Go.Proofs.Yticbcoklpgfkhaa
