/- Contract of tidemarkref1.Take at the beginning of a text, and of tidemarkref1.Unquote: it tells just what utf.Unquote tells. -/
import Derived.Test.YtklciagcalpfmaaDoorPartE
namespace Go.Proofs.YtklciagcalpfmaaDoor
open Go.RowKit

theorem part_any (s : ByteArray) (p : Nat) (w : World) (hs : s.size ≤ 140737488355328) (hp : p ≤ s.size) :
    Calls Tryd.prog 49 #[.string s, .int .i64 p] w fun e w' => PartSays s p w e w' ∧ Below w.heap.size w w' := by
  by_cases h : p < s.size
  · have hg := byteAt_get s p h
    by_cases h92 : byteAt s p = 92
    · rw [h92] at hg
      by_cases h1 : p + 1 < s.size
      · exact part_esc s p (byteAt s (p + 1)) w hs h hg h92 h1 (byteAt_get s (p + 1) h1) rfl (byteAt_lt s _)
      · exact part_lone s p w hs h hg h92 (by omega)
    · exact part_plain s p (byteAt s p) w hs h hg rfl (byteAt_lt s _) h92
  · exact part_out s p w hs (by omega)

def TakeSays (s : ByteArray) (e : Ending) : Prop :=
  (∃ E : Int, (E = 4 ∨ E = 11) ∧ e = .returned (.tuple #[.string ⟨#[]⟩, .int .i64 0, .int .i64 E]) ∧ uRes s = ([], E)) ∨
  (∃ (acc : List UInt8) (q : Nat), e = .returned (.tuple #[.string ⟨acc.toArray⟩, .int .i64 (q : Int), .int .i64 0]) ∧ q ≤ s.size ∧ uRes s = if q = s.size then (acc, 0) else ([], 4))

theorem uRes_uq (s : ByteArray) (h : 0 < s.size) (hb : byteAt s 0 = 34) : uRes s = uq (s.extract 1 s.size) [] := by
  have hl : s.data.toList = 34 :: s.data.toList.drop 1 := by
    have := drop_getD s.data.toList 0 (by rw [size_list]; exact h)
    rw [List.drop_zero] at this
    rw [this]
    have hc : s.data.toList.getD 0 0 = 34 := UInt8.toNat_inj.1 hb
    rw [hc]
    rfl
  have hq : Lib.hasPrefix s.data.toList [34] = true := by
    rw [hl]
    simp [Lib.hasPrefix]
  unfold uRes
  rw [if_pos hq]
  have := extract_size s 1 (by omega)
  exact uq_fuel _ _ _ _ (by omega) (by omega)

theorem uRes_form (s : ByteArray) (h : s.size = 0 ∨ (0 < s.size ∧ byteAt s 0 ≠ 34)) : uRes s = ([], 4) := by
  unfold uRes
  rw [if_neg]
  intro hq
  rcases h with h | ⟨h, hb⟩
  · have : s.data.toList = [] := List.eq_nil_of_length_eq_zero (by rw [size_list]; exact h)
    rw [this] at hq
    simp [Lib.hasPrefix] at hq
  · have := drop_getD s.data.toList 0 (by rw [size_list]; exact h)
    rw [List.drop_zero] at this
    rw [this] at hq
    simp only [Lib.hasPrefix] at hq
    apply hb
    unfold byteAt
    generalize s.data.toList.getD 0 0 = c at hq
    simp at hq
    rw [← hq]
    rfl

set_option maxHeartbeats 4000000 in
set_option maxRecDepth 1000000 in
theorem take_any (s : ByteArray) (w : World) (hs : s.size ≤ 70368744177664) :
    Calls Tryd.prog 40 #[.string s, .int .i64 0] w fun e w' => TakeSays s e ∧ Below w.heap.size w w' := by
  obtain ⟨i0, hi, hz0, hz1, hz2⟩ := info_parts infoU8
  by_cases h0 : 0 < s.size
  · by_cases hb : byteAt s 0 = 34
    · have hg := byteAt_get s 0 h0
      rw [hb] at hg
      have HU : Hid (uRes s = uq (s.extract 1 s.size) []) := uRes_uq s h0 hb
      have HB : Hid (byteAt s 0 = 34) := hb
      clear hb
      have hne : ¬ s = ByteArray.empty := by intro h; subst h; simp at h0
      go_enter Tryd.func40, Tryd.ntmps40
      go_wp2_with fail
      go_loopw [1, 7] (fun a v wr => ∃ (p : Nat) (acc : List UInt8), a = .int .i64 p ∧ 1 ≤ p ∧ p ≤ s.size ∧ wr.ownsRow w.heap.size 5 1 v acc.length (Lib.byteCells acc) ∧ Below w.heap.size w wr ∧ acc.length ≤ p ∧ uq (s.extract p s.size) acc = uq (s.extract 1 s.size) []) (fun a _ _ => s.size - (intOf a).toNat)
      case atStart => exact ⟨1, [], rfl, by omega, by omega, World.ownsRow_nil _ _ _ _, Below.refl _ _, by simp, rfl⟩
      case round =>
        obtain ⟨p, acc, rfl, hp1, hps, hown, hbw, hal, huq⟩ := hrel
        have HOWN : Hid (wr.ownsRow w.heap.size 5 1 u7 acc.length (Lib.byteCells acc)) := hown
        have HUQ : Hid (uq (s.extract p s.size) acc = uq (s.extract 1 s.size) []) := huq
        have hbs := hbw.size
        have hpart := part_any s p wr (by omega) hps
        clear hown huq
        go_wp2_with fail
        refine hpart.mono ?_
        clear hpart
        rintro e w1 ⟨hsay, b1⟩
        rcases hsay with ⟨E, hE, rfl, hu⟩ | ⟨rfl, hlt, h34⟩ | ⟨v1, bs, q, rfl, hb0, hbq, hpq, hq, hrd, hu⟩
        · have HUR : Hid (uRes s = ([], E)) := by
            show uRes s = ([], E)
            rw [HU.out, ← HUQ.out]
            exact hu acc
          clear hu
          have hB : Below w.heap.size w w1 := hbw.trans (b1.mono hbs)
          rcases hE with rfl | rfl
          · go_wp2_with fail
            go_ret3
            exact ⟨Or.inl ⟨4, Or.inl rfl, rfl, HUR.out⟩, hB⟩
          · go_wp2_with fail
            go_ret3
            exact ⟨Or.inl ⟨11, Or.inr rfl, rfl, HUR.out⟩, hB⟩
        · have HUR : Hid (uRes s = if p + 1 = s.size then (acc, 0) else ([], 4)) := by
            show uRes s = if p + 1 = s.size then (acc, 0) else ([], 4)
            rw [HU.out, ← HUQ.out]
            exact uq_quote s p acc hlt h34
          have hcv := own_string (own_below HOWN.out b1)
          have hB : Below w.heap.size w w1 := hbw.trans (b1.mono hbs)
          clear h34 hne
          go_wp2_with fail
          go_ret3
          exact ⟨Or.inr ⟨acc, p + 1, rfl, by omega, HUR.out⟩, hB⟩
        · obtain ⟨ad, c, rfl, hcs⟩ := hrd
          have HCS : Hid (∀ j u, (Lib.byteCells bs)[j]? = some u → w1.cell? (ad.add j) = some u) := hcs
          have HUN : Hid (uq (s.extract q s.size) (acc ++ bs) = uq (s.extract 1 s.size) []) := by
            show uq (s.extract q s.size) (acc ++ bs) = uq (s.extract 1 s.size) []
            rw [← hu acc]
            exact HUQ.out
          have HOWN1 : Hid (w1.ownsRow w.heap.size 5 1 u7 acc.length (Lib.byteCells acc)) := own_below HOWN.out b1
          have hb1s := b1.size
          clear hcs hu HOWN HUQ
          go_wp2_with (at_builtin; refine wpList_append_own _ rfl _ _ 46 rfl w.heap.size 5 i0 (.int .u8 0) 1 1 Tryd.underlying46 hi hz0 hz1 hz2 rfl (by decide) _ _ _ rfl HOWN1.out ad bs.length c (Lib.byteCells bs) rfl ?c0 ?c1 ?c2 ?c3 ?c4 ?c5 ?_)
          case c0 => rw [Lib.byteCells_length]; omega
          case c1 => exact HCS.out
          case c2 => intro u hu; simp [Lib.byteCells] at hu; obtain ⟨x, _, rfl⟩ := hu; rfl
          case c3 => unfold maxLen; omega
          case c4 => omega
          case c5 => omega
          intro v' w3 hown3 hgrow3 _
          have hbw3 : Below w.heap.size w w3 := by
            refine (hbw.trans (b1.mono (by omega))).grown hgrow3 (by omega) ?_
            intro k hk
            exact (HOWN1.out.lt k hk).1
          have HOWN3 : Hid (w3.ownsRow w.heap.size 5 1 v' (acc.length + bs.length) (Lib.byteCells acc ++ Lib.byteCells bs)) := hown3
          clear hown3 hgrow3
          go_wp2_with fail
          go_roundw
          case rel =>
            refine ⟨q, acc ++ bs, rfl, by omega, hq, ?_, hbw3, ?_, HUN.out⟩
            · rw [Lib.byteCells_append, List.length_append]
              exact HOWN3.out
            · rw [List.length_append]; omega
          case measure => simp [intOf]; omega
    · have hg := byteAt_get s 0 h0
      have hl := byteAt_lt s 0
      have HU : Hid (uRes s = ([], 4)) := uRes_form s (Or.inr ⟨h0, hb⟩)
      generalize byteAt s 0 = b at hg hl hb
      have hne : ¬ s = ByteArray.empty := by intro h; subst h; simp at h0
      have hbn : ((b : Int) != 34) = true := by simp; omega
      go_enter Tryd.func40, Tryd.ntmps40
      go_wp2_with fail
      go_ret3
      exact ⟨Or.inl ⟨4, Or.inl rfl, rfl, HU.out⟩, Below.refl _ _⟩
  · have HU : Hid (uRes s = ([], 4)) := uRes_form s (Or.inl (by omega))
    have hse : s = ByteArray.empty := by
      apply ByteArray.ext
      apply Array.toList_inj.1
      exact List.eq_nil_of_length_eq_zero (by rw [size_list]; omega)
    subst hse
    go_enter Tryd.func40, Tryd.ntmps40
    go_wp2_with fail
    go_ret3
    exact ⟨Or.inl ⟨4, Or.inl rfl, rfl, HU.out⟩, Below.refl _ _⟩
end Go.Proofs.YtklciagcalpfmaaDoor
