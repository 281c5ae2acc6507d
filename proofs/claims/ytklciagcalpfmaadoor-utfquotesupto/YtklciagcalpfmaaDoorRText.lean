/- Contract of tidemarkref1.Text: of characters their bytes and true; of numbers among which one is none the empty text and false. -/
import Derived.Laws.IdiomStrings
import Derived.Laws.BytesArg
import Derived.Test.YtklciagcalpfmaaDoorROne
import Derived.Test.YtklciagcalpfmaaDoorTextW
namespace Go.Proofs.YtklciagcalpfmaaDoor
open Go.RowKit

theorem infoU8 : (Tryd.prog.info? 5).map (fun i => (i.zero, i.size, i.bytes)) = some (some (.int .u8 0), 1, 1) := by kernel_rfl

/-- 'string(b)' of a row of bytes of one's own. -/
theorem own_string {w : World} {base n : Nat} {v : Value} {bs : List UInt8} (h : w.ownsRow base 5 1 v n (Lib.byteCells bs)) :
    (convert 46 9 v).run Tryd.prog w = .ok (.string ⟨bs.toArray⟩) w := by
  have hn : bs.length = n := by have := h.1; rw [Lib.byteCells_length] at this; omega
  subst hn
  rcases h.2 with ⟨rfl, h0⟩ | ⟨g, cap, cur, rfl, hg⟩
  · cases bs with
    | nil => exact run_convert_bytes_nil w 46 5 Tryd.underlying46 Tryd.underlying5 0 0 9 Tryd.underlying9
    | cons b bs => simp at h0
  · refine run_convert_bytes_back w 46 9 5 ⟨g, 0, none⟩ cap bs Tryd.underlying46 Tryd.underlying5 Tryd.underlying9 ?_
    intro j hj
    exact h.cells (g := g) rfl j _ (by simp [Lib.byteCells, List.getElem?_eq_getElem hj])

theorem own_below {w w' : World} {B e size n : Nat} {v : Value} {xs : List Value} (h : w.ownsRow B e size v n xs) (hb : Below w.heap.size w w') : w'.ownsRow B e size v n xs := by
  refine ⟨h.1, ?_⟩
  rcases h.2 with hn | ⟨g, cap, cur, hv, hbg, hg, rest⟩
  · exact .inl hn
  · exact .inr ⟨g, cap, cur, hv, hbg, (hb.block g (Array.getElem?_eq_some_iff.1 hg).1).trans hg, rest⟩

/-- The cells of a row of one's own that is not empty. -/
theorem own_cells {w : World} {base n : Nat} {v : Value} {xs : List Value} (h : w.ownsRow base 5 1 v n xs) (hn : 0 < n) :
    ∃ g c, v = .slice (some ⟨g, 0, none⟩) n c ∧ g < w.heap.size ∧ base ≤ g ∧ ∀ j u, xs[j]? = some u → w.cell? ((⟨g, 0, none⟩ : Addr).add j) = some u := by
  rcases h.2 with ⟨_, h0⟩ | ⟨g, cap, cur, rfl, hb, hg, hg2⟩
  · omega
  · exact ⟨g, cap, rfl, (Array.getElem?_eq_some_iff.1 hg).1, hb, h.cells (g := g) rfl⟩

set_option maxHeartbeats 4000000 in
set_option maxRecDepth 1000000 in
theorem rtext_any (a : Option Addr) (cap : Nat) (zs : List Int) (w : World) (hl : 4 * zs.length + 16 ≤ 140737488355328) (hr : ∀ z ∈ zs, -2147483648 ≤ z ∧ z ≤ 2147483647) (row : RowIs .i32 w a zs) :
    Calls Tryd.prog 20 #[.slice a zs.length cap] w fun e w' => e = .returned (.tuple #[.string (tText zs), .bool (okAll zs)]) ∧ Below w.heap.size w w' := by
  obtain ⟨i0, hi, hz0, hz1, hz2⟩ := info_parts infoU8
  have HROW : Hid (RowIs .i32 w a zs) := row
  have HR : Hid (∀ z ∈ zs, -2147483648 ≤ z ∧ z ≤ 2147483647) := hr
  clear row hr
  go_enter Tryd.func20, Tryd.ntmps20
  go_wp2_with fail
  go_loopw [4, 5] (fun v i wr => ∃ (k : Nat), i = .int .i64 k ∧ k ≤ zs.length ∧ okAll (zs.take k) = true ∧ wr.ownsRow w.heap.size 5 1 v (encAll (zs.take k)).length (Lib.byteCells (encAll (zs.take k))) ∧ Below w.heap.size w wr ∧ (encAll (zs.take k)).length ≤ 4 * k) (fun _ i _ => zs.length - (intOf i).toNat)
  case atStart =>
    exact ⟨0, rfl, by omega, rfl, World.ownsRow_nil _ _ _ _, Below.refl _ w, by simp [encAll]⟩
  case round =>
    obtain ⟨k, rfl, hk, hok, hown, hbw, hal⟩ := hrel
    have HOK : Hid (okAll (zs.take k) = true) := hok
    clear hok
    have hbs := hbw.size
    by_cases hlt : k < zs.length
    · obtain ⟨b, off, rfl, hb, hcells⟩ : ∃ b off, a = some ⟨b, off, none⟩ ∧ b < w.heap.size ∧ ∀ i, i < zs.length → w.cell? ⟨b, off + i, none⟩ = some (.int .i32 (zs.getD i 0)) := by
        rcases HROW.out with h | h
        · omega
        · exact h
      have hcw : wr.cell? ⟨b, off + k, none⟩ = some (.int .i32 (zs.getD k 0)) := by
        rw [hbw.cell (p := ⟨b, off + k, none⟩) hb]; exact hcells k hlt
      have hget : zs.getD k 0 = zs[k]'hlt := by simp [List.getD, List.getElem?_eq_getElem hlt]
      have htk : zs.take (k + 1) = zs.take k ++ [zs[k]'hlt] := List.take_succ_eq_append_getElem hlt
      have hzr := HR.out (zs[k]'hlt) (List.getElem_mem _)
      have hall : Lib.validRune (zs[k]'hlt) = false → okAll zs = false := by
        intro h
        unfold okAll
        rw [List.all_eq_false]
        exact ⟨_, List.getElem_mem hlt, by simp [h]⟩
      clear hcells
      rw [hget] at hcw
      clear hget
      generalize zs[k]'hlt = z at hcw htk hzr hall
      have HTK : Hid (zs.take (k + 1) = zs.take k ++ [z]) := htk
      have HALL : Hid (Lib.validRune z = false → okAll zs = false) := hall
      have HOWN : Hid (wr.ownsRow w.heap.size 5 1 u4 (encAll (zs.take k)).length (Lib.byteCells (encAll (zs.take k)))) := hown
      clear htk hall hown
      go_wp2_with fail
      refine (one_any z wr (by omega) (by omega)).mono ?_
      rintro e w1 (⟨hv, v1, rfl, hown1, hb1⟩ | ⟨hv, rfl, rfl⟩)
      · have he4 := Lib.runeCells_le z
        rw [Lib.runeCells_length] at he4
        obtain ⟨g, c, rfl, hg1, hg0, hcs⟩ := own_cells hown1 (by omega)
        have hown' : w1.ownsRow w.heap.size 5 1 u4 (encAll (zs.take k)).length (Lib.byteCells (encAll (zs.take k))) := own_below HOWN.out hb1
        have hb1s := hb1.size
        have HCS : Hid (∀ j u, (Lib.byteCells (Lib.encodeRune z))[j]? = some u → w1.cell? ((⟨g, 0, none⟩ : Addr).add j) = some u) := hcs
        have HV : Hid (Lib.validRune z = true) := hv
        clear hown1 hcs hv
        go_wp2_with (at_builtin; refine wpList_append_own _ rfl _ _ 46 rfl w.heap.size 5 i0 (.int .u8 0) 1 1 Tryd.underlying46 hi hz0 hz1 hz2 rfl (by decide) _ _ _ rfl hown' _ _ _ (Lib.byteCells (Lib.encodeRune z)) rfl ?c0 ?c1 ?c2 ?c3 ?c4 ?c5 ?_)
        case c0 => rw [Lib.byteCells_length]; omega
        case c1 => exact HCS.out
        case c2 => intro u hu; simp [Lib.byteCells] at hu; obtain ⟨x, _, rfl⟩ := hu; rfl
        case c3 => unfold maxLen; omega
        case c4 => omega
        case c5 => omega
        intro v' w3 hown3 hgrow3 _
        have hbw3 : Below w.heap.size w w3 := by
          refine (hbw.trans (hb1.mono (by omega))).grown hgrow3 (by omega) ?_
          intro k hk
          exact (hown'.lt k hk).1
        have HOWN3 : Hid (w3.ownsRow w.heap.size 5 1 v' _ _) := hown3
        clear hown3 hgrow3
        go_wp2_with fail
        go_roundw
        case rel =>
          refine ⟨k + 1, by go_num, by omega, ?_, ?_, hbw3, ?_⟩
          · rw [HTK.out]
            have := HOK.out
            unfold okAll at this ⊢
            rw [List.all_append, this]
            simp [HV.out]
          · rw [HTK.out, encAll_snoc, Lib.byteCells_append, List.length_append]
            exact HOWN3.out
          · rw [HTK.out, encAll_snoc, List.length_append]; omega
        case measure => simp [intOf]; omega
      · have hA := HALL.out hv
        have HT : Hid (tText zs = ⟨#[]⟩) := by show tText zs = _; simp [tText, hA]
        have HA : Hid (okAll zs = false) := hA
        clear hA
        go_wp2_with fail
        go_ret2
        refine ⟨?_, hbw⟩
        rw [HT.out, HA.out]
        rfl
    · have hkl : zs.take k = zs := List.take_of_length_le (by omega)
      have hA : okAll zs = true := by have := HOK.out; rwa [hkl] at this
      have HT : Hid (tText zs = ⟨(encAll (zs.take k)).toArray⟩) := by show tText zs = _; simp [tText, hA, hkl]
      have HA : Hid (okAll zs = true) := hA
      have hcv := own_string hown
      clear hA hkl hown
      go_wp2_with fail
      go_ret2
      refine ⟨?_, hbw⟩
      rw [HT.out, HA.out]
      rfl
end Go.Proofs.YtklciagcalpfmaaDoor
