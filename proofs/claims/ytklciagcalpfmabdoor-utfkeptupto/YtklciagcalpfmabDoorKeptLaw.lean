/- The walk of the statement UtfKept: for any text and any row of numbers that are not too long the call returns true; nothing that was there is changed. -/
import Derived.Test.YtklciagcalpfmabDoorOwnRow
import Derived.Test.YtklciagcalpfmabDoorAwake
import Derived.Laws.AppendOwnNone
import Derived.Laws.OwnMore
namespace Go.Proofs.YtklciagcalpfmabDoor
open Go.RowKit

def int32s (zs : List Int) : List Value := zs.map (Value.int .i32)
theorem int32s_length (zs : List Int) : (int32s zs).length = zs.length := by simp [int32s]

/-- A row of one's own that is not empty. -/
theorem own_some {w : World} {base e n : Nat} {v : Value} {xs : List Value} (h : w.ownsRow base e 1 v n xs) (hn : 0 < n) :
    ∃ g c, v = .slice (some ⟨g, 0, none⟩) n c ∧ base ≤ g ∧ g < w.heap.size ∧ n ≤ c ∧ c ≤ maxLen ∧ ∀ j u, xs[j]? = some u → w.cell? ⟨g, j, none⟩ = some u := by
  rcases h.2 with ⟨_, h0⟩ | ⟨g, cap, cur, rfl, hb, hg, hnc, hcm, hg2⟩
  · omega
  · refine ⟨g, cap, rfl, hb, (Array.getElem?_eq_some_iff.1 hg).1, hnc, hcm, fun j u hj => ?_⟩
    have h1 := (List.getElem?_eq_some_iff.1 hj).1
    have h2 := h.1
    rw [h.cellAt j (by omega)]
    exact hj

theorem own_slice {w : World} {base e n : Nat} {v : Value} {xs : List Value} (h : w.ownsRow base e 1 v n xs) : ∃ a c, v = .slice a n c := by
  rcases h.2 with ⟨rfl, h0⟩ | ⟨g, cap, cur, rfl, _⟩
  · exact ⟨none, 0, by rw [h0]⟩
  · exact ⟨_, _, rfl⟩

/-- The copy with one more behind it. -/
theorem copy_up {w w1 w2 w3 : World} {zs : List Int} {v2 v3 : Value} {o : Obj} (hs1 : w.heap.size ≤ w1.heap.size) (h2 : w2.ownsRow w1.heap.size 21 1 v2 zs.length (int32s zs)) (hb2 : Below w.heap.size w w2) (hsz2 : w1.heap.size ≤ w2.heap.size) (h3 : w3.ownsRow w1.heap.size 21 1 v3 (zs.length + 1) (int32s zs ++ [.int .i32 201])) (hg3 : (w2.alloc o).grownBy w3 v2.ownBlock) :
    Below w.heap.size w w3 ∧ ∃ g c, v3 = .slice (some ⟨g, 0, none⟩) (zs.length + 1) c ∧ g < w3.heap.size ∧ zs.length + 1 ≤ c ∧ c ≤ maxLen ∧ RowIs .i32 w3 (some ⟨g, 0, none⟩) zs ∧ w3.cell? ⟨g, zs.length, none⟩ = some (.int .i32 201) := by
  refine ⟨(hb2.alloc (by omega) _).grown hg3 (by simp; omega) (fun k hk => Nat.le_trans hs1 (h2.lt k hk).1), ?_⟩
  obtain ⟨g, c, rfl, _, hgl, hnc, hcm, hcell⟩ := own_some h3 (by omega)
  refine ⟨g, c, rfl, hgl, hnc, hcm, Or.inr ⟨g, 0, rfl, hgl, fun k hk => ?_⟩, ?_⟩
  · refine hcell (0 + k) _ ?_
    rw [Nat.zero_add, List.getElem?_append_left (by rw [int32s_length]; exact hk)]
    simp [int32s, List.getD_eq_getElem?_getD, List.getElem?_eq_getElem hk]
  · refine hcell zs.length _ ?_
    rw [List.getElem?_append_right (by rw [int32s_length]; exact Nat.le_refl _), int32s_length, Nat.sub_self]
    rfl

set_option maxHeartbeats 8000000 in
set_option maxRecDepth 1000000 in
theorem kept_in (s : ByteArray) (ad : Addr) (cap : Nat) (zs : List Int) (rs : List Nat) (f : Int) (okb : Bool) (w : World) (hl : zs.length ≤ 1048576) (hrs : rs.length ≤ 1048576) (hr : ∀ z ∈ zs, -2147483648 ≤ z ∧ z ≤ 2147483647) (row : RowIs .i32 w (some ad) zs)
    (hR : ∀ w, Calls Tryd.prog 9 #[.string s] w fun e w' => ∃ v, e = .returned (.tuple #[v, .int .i64 f]) ∧ w'.ownsRow w.heap.size 21 1 v rs.length (runeCellsOf rs) ∧ Below w.heap.size w w')
    (hQ : ∀ w, Calls Tryd.prog 10 #[.string s] w fun e w' => ∃ v, e = .returned (.tuple #[v, .bool okb]) ∧ w'.ownsRow w.heap.size 21 1 v rs.length (runeCellsOf rs) ∧ Below w.heap.size w w')
    (hf : (f = 0 ∧ okb = true) ∨ (f = 11 ∧ okb = false)) :
    Calls Tryd.prog 4 #[.string s, .slice (some ad) zs.length cap] w fun e w' => e = .returned (.bool true) ∧ Below w.heap.size w w' := by
  obtain ⟨i0, hi, hz0, hz1, hz2⟩ := info_parts infoRune
  have HR : Hid (∀ z ∈ zs, -2147483648 ≤ z ∧ z ≤ 2147483647) := hr
  have HROW : Hid (RowIs .i32 w (some ad) zs) := row
  have HRU : Hid (∀ w, Calls Tryd.prog 9 #[.string s] w fun e w' => ∃ v, e = .returned (.tuple #[v, .int .i64 f]) ∧ w'.ownsRow w.heap.size 21 1 v rs.length (runeCellsOf rs) ∧ Below w.heap.size w w') := hR
  have HQU : Hid (∀ w, Calls Tryd.prog 10 #[.string s] w fun e w' => ∃ v, e = .returned (.tuple #[v, .bool okb]) ∧ w'.ownsRow w.heap.size 21 1 v rs.length (runeCellsOf rs) ∧ Below w.heap.size w w') := hQ
  have HF : Hid ((f = 0 ∧ okb = true) ∨ (f = 11 ∧ okb = false)) := hf
  clear hr row hR hQ hf
  go_enter Tryd.func4, Tryd.ntmps4
  go_wp2_with fail
  refine (awake_any _).mono ?_
  rintro e w1 ⟨rfl, b1⟩
  have hown1 : (w1.alloc (.cells #[] 21)).ownsRow w1.heap.size 21 1 (.slice (some ⟨w1.heap.size, 0, none⟩) 0 0) 0 [] := World.ownsRow_lit w1 #[] 0 (Nat.le_refl _) (by unfold maxLen; omega) rfl
  have B1 : Below w.heap.size w (w1.alloc (.cells #[] 21)) := b1.alloc b1.size _
  have hs1 : w.heap.size ≤ w1.heap.size := b1.size
  clear b1
  have HOWN1 : Hid ((w1.alloc (.cells #[] 21)).ownsRow w1.heap.size 21 1 (.slice (some ⟨w1.heap.size, 0, none⟩) 0 0) 0 []) := hown1
  clear hown1
  go_wp2_with (at_builtin; refine wpList_append_own _ rfl _ _ 28 rfl w1.heap.size 21 i0 (.int .i32 0) 1 4 Tryd.underlying28 hi hz0 hz1 hz2 rfl (by decide) _ _ _ rfl HOWN1.out ad zs.length cap (int32s zs) rfl ?d0 ?d1 ?d2 ?d3 ?d4 ?d5 ?_)
  case d0 => rw [int32s_length]; omega
  case d1 =>
    intro j u hj
    have hjl := (List.getElem?_eq_some_iff.1 hj).1
    rw [int32s_length] at hjl
    rcases HROW.out with h | ⟨b, off, h, hb, hc⟩
    · omega
    · injection h with h
      subst h
      have := hc j hjl
      rw [B1.cell (p := (⟨b, off, none⟩ : Addr).add j) (by simp [Addr.add]; split <;> exact hb)]
      have hadd : (⟨b, off, none⟩ : Addr).add j = ⟨b, off + j, none⟩ := by
        unfold Addr.add
        split
        · rename_i h0; subst h0; rfl
        · rfl
      rw [hadd, this]
      simp only [int32s, List.getElem?_map, List.getElem?_eq_getElem hjl, Option.map_some, Option.some.injEq] at hj
      rw [← hj, List.getD_eq_getElem?_getD, List.getElem?_eq_getElem hjl]
      rfl
  case d2 => intro u hu; simp only [int32s, List.mem_map] at hu; obtain ⟨z, _, rfl⟩ := hu; rfl
  case d3 => unfold maxLen; omega
  case d4 => omega
  case d5 => simp
  intro v2 w2 hown2 hg2 _
  have B2 : Below w.heap.size w w2 := B1.grown hg2 (by simp; omega) (fun k hk => Nat.le_trans hs1 (HOWN1.out.lt k hk).1)
  have hs2 : w1.heap.size ≤ w2.heap.size := by have := hg2.size; simp at this; omega
  have HOWN2 : Hid (w2.ownsRow w1.heap.size 21 1 v2 zs.length (int32s zs)) := hown2
  clear hown2 hg2 B1 HOWN1
  go_wp2_with (at_builtin; refine wpList_append_own _ rfl _ _ 28 rfl w1.heap.size 21 i0 (.int .i32 0) 1 4 Tryd.underlying28 hi hz0 hz1 hz2 rfl (by decide) _ _ _ rfl (HOWN2.out.alloc _) _ 1 1 [.int .i32 201] rfl rfl ?e1 ?e2 ?e3 ?e4 ?e5 ?_)
  case e1 =>
    intro j u hj
    match j, hj with
    | 0, hj => simp at hj; subst hj; simp [Addr.add]
  case e2 => intro u hu; simp at hu; subst hu; rfl
  case e3 => unfold maxLen; omega
  case e4 => omega
  case e5 => simp; omega
  intro v3 w3 hown3 hg3 _
  obtain ⟨B3, g, c3, rfl, hgl, hnc, hcm, hrowc, hlast⟩ := copy_up hs1 HOWN2.out B2 hs2 hown3 hg3
  clear hown3 hg3 HOWN2 B2
  have HROWC : Hid (RowIs .i32 w3 (some ⟨g, 0, none⟩) zs) := hrowc
  clear hrowc
  have HTX : Hid (∀ wv, RowIs .i32 wv (some ⟨g, 0, none⟩) zs → Calls Tryd.prog 8 #[.slice (some ⟨g, 0, none⟩) zs.length c3] wv fun e w' => e = .returned (.tuple #[.string (tText zs), .int .i64 (tErr zs)]) ∧ Below wv.heap.size wv w') := by
    intro wv h0
    have h := text_any (some ⟨g, 0, none⟩) c3 zs wv (by omega) HR.out h0
    exact h
  have HRX : Hid (∀ wv, RowIs .i32 wv (some ad) zs → Calls Tryd.prog 11 #[.slice (some ad) zs.length cap] wv fun e w' => e = .returned (.tuple #[.string (tText zs), .bool (okAll zs)]) ∧ Below wv.heap.size wv w') := by
    intro wv h0
    have h := rtext_any (some ad) cap zs wv (by omega) HR.out h0
    exact h
  have HSM : Hid (∀ wv, RowIs .i32 wv (some ⟨g, 0, none⟩) zs → RowIs .i32 wv (some ad) zs → Calls Tryd.prog 12 #[.slice (some ⟨g, 0, none⟩) zs.length c3, .slice (some ad) zs.length cap] wv fun e w' => e = .returned (.bool true) ∧ Below wv.heap.size wv w') := by
    intro wv h0 h1
    have h := same_yes (some ⟨g, 0, none⟩) (some ad) c3 cap zs wv (by omega) h0 h1
    exact h
  go_wp2_with fail
  refine (HTX.out _ HROWC.out).mono ?_
  rintro e w4 ⟨rfl, b4⟩
  go_wp2_with fail
  refine (HRU.out _).mono ?_
  rintro e w5 ⟨v5, rfl, hown5, b5⟩
  obtain ⟨a5, c5, rfl⟩ := own_slice hown5
  have HOWN5 : Hid (w5.ownsRow w4.heap.size 21 1 (.slice a5 rs.length c5) rs.length (runeCellsOf rs)) := hown5
  have hs4 := b4.size
  have HLAST : Hid (w3.cell? ⟨g, zs.length, none⟩ = some (.int .i32 201)) := hlast
  clear hown5 hlast
  go_wp2_with fail
  go_loopw [10] (fun i wr => ∃ (k : Nat) (xs : List Value), i = .int .i64 k ∧ k ≤ rs.length ∧ wr.ownsRow w4.heap.size 21 1 (.slice a5 rs.length c5) rs.length xs ∧ Below w4.heap.size w4 wr) (fun i _ => rs.length - (intOf i).toNat)
  case atStart => exact ⟨0, _, rfl, by omega, HOWN5.out, b5⟩
  case round =>
    obtain ⟨k, xs, rfl, hk, hown, hbw⟩ := hrel
    have hbws := hbw.size
    by_cases hlt : k < rs.length
    · obtain ⟨g5, c6, hv, hg5, hgl5, _, _, _⟩ := own_some hown (by omega)
      injection hv with e1 e2 e3
      subst e1 e3
      have hxl := hown.1
      have hc := hown.cellAt k (by omega)
      have hfr := hown.frozenAt k
      obtain ⟨u, hu⟩ : ∃ u, xs[k]? = some u := ⟨_, List.getElem?_eq_getElem (by omega)⟩
      rw [hu] at hc
      obtain ⟨hst, hgr⟩ := hown.stored k (.int .i32 99)
      have hbs : Below w4.heap.size w4 (wr.setCell ⟨g5, k, none⟩ (.int .i32 99)) := by
        refine hbw.grown hgr hbws ?_
        intro j hj
        injection hj with hj
        omega
      have HST : Hid ((wr.setCell ⟨g5, k, none⟩ (.int .i32 99)).ownsRow w4.heap.size 21 1 (.slice (some ⟨g5, 0, none⟩) rs.length c5) rs.length (xs.set k (.int .i32 99))) := hst
      have HBS : Hid (Below w4.heap.size w4 (wr.setCell ⟨g5, k, none⟩ (.int .i32 99))) := hbs
      clear hst hgr hbs hu hown HOWN5 hxl
      go_wp2_with fail
      go_roundw
      case rel => exact ⟨k + 1, _, by go_num, by omega, HST.out, HBS.out⟩
      case measure => simp [intOf]; omega
    · have HOWN : Hid (wr.ownsRow w4.heap.size 21 1 (.slice a5 rs.length c5) rs.length xs) := hown
      clear hown
      go_wp2_with (at_builtin; refine wpList_append_own _ rfl _ _ 28 rfl w4.heap.size 21 i0 (.int .i32 0) 1 4 Tryd.underlying28 hi hz0 hz1 hz2 rfl (by decide) _ _ _ rfl (HOWN.out.alloc _) _ 1 1 [.int .i32 98] rfl rfl ?f1 ?f2 ?f3 ?f4 ?f5 ?_)
      case f1 =>
        intro j u hj
        match j, hj with
        | 0, hj => simp at hj; subst hj; simp [Addr.add]
      case f2 => intro u hu; simp at hu; subst hu; rfl
      case f3 => unfold maxLen; omega
      case f4 => omega
      case f5 => simp; omega
      intro v6 w6 hown6 hg6 _
      have b6 : Below w4.heap.size w4 w6 := (hbw.alloc (by omega) _).grown hg6 (by simp; omega) (fun k hk => (HOWN.out.lt k hk).1)
      have BC6 : Below w3.heap.size w3 w6 := b4.trans (b6.mono b4.size)
      clear hown6 hg6 b6 b4 b5 hbw HOWN HOWN5
      go_wp2_with fail
      refine (HRU.out _).mono ?_
      rintro e w7 ⟨v7, rfl, hown7, b7⟩
      obtain ⟨a7, c7, rfl, hrow7⟩ := own_row rs hown7
      have BC7 : Below w3.heap.size w3 w7 := BC6.trans (b7.mono BC6.size)
      have HROW7 : Hid (RowIs .i32 w7 a7 (intsOf rs)) := hrow7
      clear hown7 hrow7 b7 BC6
      go_wp2_with fail
      refine (HQU.out _).mono ?_
      rintro e w8 ⟨v8, rfl, hown8, b8⟩
      obtain ⟨a8, c8, rfl, hrow8⟩ := own_row rs hown8
      have BC8 : Below w3.heap.size w3 w8 := BC7.trans (b8.mono BC7.size)
      have HROW8 : Hid (RowIs .i32 w8 a8 (intsOf rs)) := hrow8
      have HROW7b : Hid (RowIs .i32 w8 a7 (intsOf rs)) := HROW7.out.mono b8 (Nat.le_refl _)
      clear hown8 hrow8 b8 BC7 HROW7
      have BW8 : Below w.heap.size w w8 := B3.trans (BC8.mono B3.size)
      go_wp2_with fail
      refine (HRX.out _ (HROW.out.mono BW8 (Nat.le_refl _))).mono ?_
      rintro e w9 ⟨rfl, b9⟩
      have BC9 : Below w3.heap.size w3 w9 := BC8.trans (b9.mono BC8.size)
      have HROW8c : Hid (RowIs .i32 w9 a8 (intsOf rs)) := HROW8.out.mono b9 (Nat.le_refl _)
      have HROW7c : Hid (RowIs .i32 w9 a7 (intsOf rs)) := HROW7b.out.mono b9 (Nat.le_refl _)
      clear b9 BC8 BW8 HROW8 HROW7b
      rcases HF.out with ⟨rfl, rfl⟩ | ⟨rfl, rfl⟩
      all_goals
        clear HF
        go_wp2_with fail
        refine (same_yes a7 a8 c7 c8 (intsOf rs) _ (by rw [intsOf_length]; omega) HROW7c.out HROW8c.out).mono ?_
        rintro e w10 ⟨rfl, b10⟩
        have BC10 : Below w3.heap.size w3 w10 := BC9.trans (b10.mono BC9.size)
        have BW10 : Below w.heap.size w w10 := B3.trans (BC10.mono B3.size)
        clear b10 BC9 HROW7c HROW8c
        cases hok : okAll zs
        all_goals
          first
          | (have hte : tErr zs = 11 := by simp [tErr, hok])
          | (have hte : tErr zs = 0 := by simp [tErr, hok])
          have htt : ((tText zs).toList == (tText zs).toList) = true := by simp
          go_wp2_with fail
          refine (HSM.out _ (HROWC.out.mono BC10 (Nat.le_refl _)) (HROW.out.mono BW10 (Nat.le_refl _))).mono ?_
          rintro e w11 ⟨rfl, b11⟩
          have BC11 : Below w3.heap.size w3 w11 := BC10.trans (b11.mono BC10.size)
          have BW11 : Below w.heap.size w w11 := B3.trans (BC11.mono B3.size)
          have hlast11 : w11.cell? ⟨g, zs.length, none⟩ = some (.int .i32 201) := by
            rw [BC11.cell (p := ⟨g, zs.length, none⟩) hgl]; exact HLAST.out
          clear b11 BC11 BC10 BW10
          go_wp2_with fail
          go_ret
          exact ⟨rfl, BW11⟩

set_option maxHeartbeats 8000000 in
set_option maxRecDepth 1000000 in
theorem kept_nil (s : ByteArray) (zs : List Int) (hz : zs.length = 0) (rs : List Nat) (f : Int) (okb : Bool) (w : World) (_hl : zs.length ≤ 1048576) (hrs : rs.length ≤ 1048576) (hr : ∀ z ∈ zs, -2147483648 ≤ z ∧ z ≤ 2147483647) (row : RowIs .i32 w none zs)
    (hR : ∀ w, Calls Tryd.prog 9 #[.string s] w fun e w' => ∃ v, e = .returned (.tuple #[v, .int .i64 f]) ∧ w'.ownsRow w.heap.size 21 1 v rs.length (runeCellsOf rs) ∧ Below w.heap.size w w')
    (hQ : ∀ w, Calls Tryd.prog 10 #[.string s] w fun e w' => ∃ v, e = .returned (.tuple #[v, .bool okb]) ∧ w'.ownsRow w.heap.size 21 1 v rs.length (runeCellsOf rs) ∧ Below w.heap.size w w')
    (hf : (f = 0 ∧ okb = true) ∨ (f = 11 ∧ okb = false)) :
    Calls Tryd.prog 4 #[.string s, .slice none 0 0] w fun e w' => e = .returned (.bool true) ∧ Below w.heap.size w w' := by
  obtain ⟨i0, hi, hz0, hz1, hz2⟩ := info_parts infoRune
  have HR : Hid (∀ z ∈ zs, -2147483648 ≤ z ∧ z ≤ 2147483647) := hr
  have HROW : Hid (RowIs .i32 w none zs) := row
  have HRU : Hid (∀ w, Calls Tryd.prog 9 #[.string s] w fun e w' => ∃ v, e = .returned (.tuple #[v, .int .i64 f]) ∧ w'.ownsRow w.heap.size 21 1 v rs.length (runeCellsOf rs) ∧ Below w.heap.size w w') := hR
  have HQU : Hid (∀ w, Calls Tryd.prog 10 #[.string s] w fun e w' => ∃ v, e = .returned (.tuple #[v, .bool okb]) ∧ w'.ownsRow w.heap.size 21 1 v rs.length (runeCellsOf rs) ∧ Below w.heap.size w w') := hQ
  have HF : Hid ((f = 0 ∧ okb = true) ∨ (f = 11 ∧ okb = false)) := hf
  clear hr row hR hQ hf
  go_enter Tryd.func4, Tryd.ntmps4
  go_wp2_with fail
  refine (awake_any _).mono ?_
  rintro e w1 ⟨rfl, b1⟩
  have hown1 : (w1.alloc (.cells #[] 21)).ownsRow w1.heap.size 21 1 (.slice (some ⟨w1.heap.size, 0, none⟩) 0 0) 0 [] := World.ownsRow_lit w1 #[] 0 (Nat.le_refl _) (by unfold maxLen; omega) rfl
  have B1 : Below w.heap.size w (w1.alloc (.cells #[] 21)) := b1.alloc b1.size _
  have hs1 : w.heap.size ≤ w1.heap.size := b1.size
  clear b1
  have HOWN1 : Hid ((w1.alloc (.cells #[] 21)).ownsRow w1.heap.size 21 1 (.slice (some ⟨w1.heap.size, 0, none⟩) 0 0) 0 []) := hown1
  clear hown1
  have HZ : Hid (zs.length = 0) := hz
  go_wp2_with (at_builtin; first | refine wpList_append_own_none rfl _ _ 28 rfl w1.heap.size 21 i0 1 Tryd.underlying28 hi _ _ _ rfl HOWN1.out rfl ?_ | (at_builtin; refine wpList_append_own _ rfl _ _ 28 rfl w1.heap.size 21 i0 (.int .i32 0) 1 4 Tryd.underlying28 hi hz0 hz1 hz2 rfl (by decide) _ _ _ rfl (HOWN1.out.alloc _) _ 1 1 [.int .i32 201] rfl rfl ?e1 ?e2 ?e3 ?e4 ?e5 ?_))
  case e1 =>
    intro j u hj
    match j, hj with
    | 0, hj => simp at hj; subst hj; simp [Addr.add]
  case e2 => intro u hu; simp at hu; subst hu; rfl
  case e3 => unfold maxLen; omega
  case e4 => omega
  case e5 => simp; omega
  intro v3 w3 hown3 hg3 _
  obtain ⟨B3, g, c3, rfl, hgl, hnc, hcm, hrowc, hlast⟩ := copy_up (zs := []) hs1 HOWN1.out B1 (by simp) hown3 hg3
  clear hown3 hg3 HOWN1 B1
  have HROWC : Hid (RowIs .i32 w3 (some ⟨g, 0, none⟩) zs) := Or.inl HZ.out
  clear hrowc
  have HTX : Hid (∀ wv, RowIs .i32 wv (some ⟨g, 0, none⟩) zs → Calls Tryd.prog 8 #[.slice (some ⟨g, 0, none⟩) 0 c3] wv fun e w' => e = .returned (.tuple #[.string (tText zs), .int .i64 (tErr zs)]) ∧ Below wv.heap.size wv w') := by
    intro wv h0
    have h := text_any (some ⟨g, 0, none⟩) c3 zs wv (by omega) HR.out h0; rw [HZ.out] at h
    exact h
  have HRX : Hid (∀ wv, RowIs .i32 wv none zs → Calls Tryd.prog 11 #[.slice none 0 0] wv fun e w' => e = .returned (.tuple #[.string (tText zs), .bool (okAll zs)]) ∧ Below wv.heap.size wv w') := by
    intro wv h0
    have h := rtext_any none 0 zs wv (by omega) HR.out h0; rw [HZ.out] at h
    exact h
  have HSM : Hid (∀ wv, RowIs .i32 wv (some ⟨g, 0, none⟩) zs → RowIs .i32 wv none zs → Calls Tryd.prog 12 #[.slice (some ⟨g, 0, none⟩) 0 c3, .slice none 0 0] wv fun e w' => e = .returned (.bool true) ∧ Below wv.heap.size wv w') := by
    intro wv h0 h1
    have h := same_yes (some ⟨g, 0, none⟩) none c3 0 zs wv (by omega) h0 h1; rw [HZ.out] at h
    exact h
  go_wp2_with fail
  refine (HTX.out _ HROWC.out).mono ?_
  rintro e w4 ⟨rfl, b4⟩
  go_wp2_with fail
  refine (HRU.out _).mono ?_
  rintro e w5 ⟨v5, rfl, hown5, b5⟩
  obtain ⟨a5, c5, rfl⟩ := own_slice hown5
  have HOWN5 : Hid (w5.ownsRow w4.heap.size 21 1 (.slice a5 rs.length c5) rs.length (runeCellsOf rs)) := hown5
  have hs4 := b4.size
  have HLAST : Hid (w3.cell? ⟨g, 0, none⟩ = some (.int .i32 201)) := hlast
  clear hown5 hlast
  go_wp2_with fail
  go_loopw [10] (fun i wr => ∃ (k : Nat) (xs : List Value), i = .int .i64 k ∧ k ≤ rs.length ∧ wr.ownsRow w4.heap.size 21 1 (.slice a5 rs.length c5) rs.length xs ∧ Below w4.heap.size w4 wr) (fun i _ => rs.length - (intOf i).toNat)
  case atStart => exact ⟨0, _, rfl, by omega, HOWN5.out, b5⟩
  case round =>
    obtain ⟨k, xs, rfl, hk, hown, hbw⟩ := hrel
    have hbws := hbw.size
    by_cases hlt : k < rs.length
    · obtain ⟨g5, c6, hv, hg5, hgl5, _, _, _⟩ := own_some hown (by omega)
      injection hv with e1 e2 e3
      subst e1 e3
      have hxl := hown.1
      have hc := hown.cellAt k (by omega)
      have hfr := hown.frozenAt k
      obtain ⟨u, hu⟩ : ∃ u, xs[k]? = some u := ⟨_, List.getElem?_eq_getElem (by omega)⟩
      rw [hu] at hc
      obtain ⟨hst, hgr⟩ := hown.stored k (.int .i32 99)
      have hbs : Below w4.heap.size w4 (wr.setCell ⟨g5, k, none⟩ (.int .i32 99)) := by
        refine hbw.grown hgr hbws ?_
        intro j hj
        injection hj with hj
        omega
      have HST : Hid ((wr.setCell ⟨g5, k, none⟩ (.int .i32 99)).ownsRow w4.heap.size 21 1 (.slice (some ⟨g5, 0, none⟩) rs.length c5) rs.length (xs.set k (.int .i32 99))) := hst
      have HBS : Hid (Below w4.heap.size w4 (wr.setCell ⟨g5, k, none⟩ (.int .i32 99))) := hbs
      clear hst hgr hbs hu hown HOWN5 hxl
      go_wp2_with fail
      go_roundw
      case rel => exact ⟨k + 1, _, by go_num, by omega, HST.out, HBS.out⟩
      case measure => simp [intOf]; omega
    · have HOWN : Hid (wr.ownsRow w4.heap.size 21 1 (.slice a5 rs.length c5) rs.length xs) := hown
      clear hown
      go_wp2_with (at_builtin; refine wpList_append_own _ rfl _ _ 28 rfl w4.heap.size 21 i0 (.int .i32 0) 1 4 Tryd.underlying28 hi hz0 hz1 hz2 rfl (by decide) _ _ _ rfl (HOWN.out.alloc _) _ 1 1 [.int .i32 98] rfl rfl ?f1 ?f2 ?f3 ?f4 ?f5 ?_)
      case f1 =>
        intro j u hj
        match j, hj with
        | 0, hj => simp at hj; subst hj; simp [Addr.add]
      case f2 => intro u hu; simp at hu; subst hu; rfl
      case f3 => unfold maxLen; omega
      case f4 => omega
      case f5 => simp; omega
      intro v6 w6 hown6 hg6 _
      have b6 : Below w4.heap.size w4 w6 := (hbw.alloc (by omega) _).grown hg6 (by simp; omega) (fun k hk => (HOWN.out.lt k hk).1)
      have BC6 : Below w3.heap.size w3 w6 := b4.trans (b6.mono b4.size)
      clear hown6 hg6 b6 b4 b5 hbw HOWN HOWN5
      go_wp2_with fail
      refine (HRU.out _).mono ?_
      rintro e w7 ⟨v7, rfl, hown7, b7⟩
      obtain ⟨a7, c7, rfl, hrow7⟩ := own_row rs hown7
      have BC7 : Below w3.heap.size w3 w7 := BC6.trans (b7.mono BC6.size)
      have HROW7 : Hid (RowIs .i32 w7 a7 (intsOf rs)) := hrow7
      clear hown7 hrow7 b7 BC6
      go_wp2_with fail
      refine (HQU.out _).mono ?_
      rintro e w8 ⟨v8, rfl, hown8, b8⟩
      obtain ⟨a8, c8, rfl, hrow8⟩ := own_row rs hown8
      have BC8 : Below w3.heap.size w3 w8 := BC7.trans (b8.mono BC7.size)
      have HROW8 : Hid (RowIs .i32 w8 a8 (intsOf rs)) := hrow8
      have HROW7b : Hid (RowIs .i32 w8 a7 (intsOf rs)) := HROW7.out.mono b8 (Nat.le_refl _)
      clear hown8 hrow8 b8 BC7 HROW7
      have BW8 : Below w.heap.size w w8 := B3.trans (BC8.mono B3.size)
      go_wp2_with fail
      refine (HRX.out _ (HROW.out.mono BW8 (Nat.le_refl _))).mono ?_
      rintro e w9 ⟨rfl, b9⟩
      have BC9 : Below w3.heap.size w3 w9 := BC8.trans (b9.mono BC8.size)
      have HROW8c : Hid (RowIs .i32 w9 a8 (intsOf rs)) := HROW8.out.mono b9 (Nat.le_refl _)
      have HROW7c : Hid (RowIs .i32 w9 a7 (intsOf rs)) := HROW7b.out.mono b9 (Nat.le_refl _)
      clear b9 BC8 BW8 HROW8 HROW7b
      rcases HF.out with ⟨rfl, rfl⟩ | ⟨rfl, rfl⟩
      all_goals
        clear HF
        go_wp2_with fail
        refine (same_yes a7 a8 c7 c8 (intsOf rs) _ (by rw [intsOf_length]; omega) HROW7c.out HROW8c.out).mono ?_
        rintro e w10 ⟨rfl, b10⟩
        have BC10 : Below w3.heap.size w3 w10 := BC9.trans (b10.mono BC9.size)
        have BW10 : Below w.heap.size w w10 := B3.trans (BC10.mono B3.size)
        clear b10 BC9 HROW7c HROW8c
        cases hok : okAll zs
        all_goals
          first
          | (have hte : tErr zs = 11 := by simp [tErr, hok])
          | (have hte : tErr zs = 0 := by simp [tErr, hok])
          have htt : ((tText zs).toList == (tText zs).toList) = true := by simp
          go_wp2_with fail
          refine (HSM.out _ (HROWC.out.mono BC10 (Nat.le_refl _)) (HROW.out.mono BW10 (Nat.le_refl _))).mono ?_
          rintro e w11 ⟨rfl, b11⟩
          have BC11 : Below w3.heap.size w3 w11 := BC10.trans (b11.mono BC10.size)
          have BW11 : Below w.heap.size w w11 := B3.trans (BC11.mono B3.size)
          have hlast11 : w11.cell? ⟨g, 0, none⟩ = some (.int .i32 201) := by
            rw [BC11.cell (p := ⟨g, 0, none⟩) hgl]; exact HLAST.out
          clear b11 BC11 BC10 BW10
          go_wp2_with fail
          go_ret
          exact ⟨rfl, BW11⟩
end Go.Proofs.YtklciagcalpfmabDoor
