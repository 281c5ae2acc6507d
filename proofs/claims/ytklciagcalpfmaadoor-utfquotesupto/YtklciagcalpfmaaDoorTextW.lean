/- Contract of utf.Text: of characters their bytes, of numbers among which one is no character the empty text and the error 11; nothing that was there is changed. -/
import Derived.Test.YtklciagcalpfmaaDoorPart2
namespace Go.Proofs.YtklciagcalpfmaaDoor
open Go.RowKit

def RowIs (k : IntKind) (w : World) (a : Option Addr) (zs : List Int) : Prop :=
  zs.length = 0 ∨ ∃ b off, a = some ⟨b, off, none⟩ ∧ b < w.heap.size ∧ ∀ i, i < zs.length → w.cell? ⟨b, off + i, none⟩ = some (.int k (zs.getD i 0))

theorem RowIs.mono {k : IntKind} {w w' : World} {a : Option Addr} {zs : List Int} {B : Nat} (h : RowIs k w a zs) (hb : Below B w w') (hB : w.heap.size ≤ B) : RowIs k w' a zs := by
  rcases h with h | ⟨b, off, ha, hlt, hc⟩
  · exact Or.inl h
  · exact Or.inr ⟨b, off, ha, Nat.lt_of_lt_of_le hlt hb.size, fun i hi => by rw [hb.cell (p := ⟨b, off + i, none⟩) (Nat.lt_of_lt_of_le hlt hB)]; exact hc i hi⟩

def okAll (zs : List Int) : Bool := zs.all Lib.validRune
def encAll (zs : List Int) : List UInt8 := zs.flatMap Lib.encodeRune
def tText (zs : List Int) : ByteArray := if okAll zs = true then ⟨(encAll zs).toArray⟩ else ⟨#[]⟩
def tErr (zs : List Int) : Int := if okAll zs = true then 0 else 11

theorem encAll_snoc (zs : List Int) (z : Int) : encAll (zs ++ [z]) = encAll zs ++ Lib.encodeRune z := by simp [encAll]

set_option maxHeartbeats 4000000 in
set_option maxRecDepth 1000000 in
theorem text_any (a : Option Addr) (cap : Nat) (zs : List Int) (w : World) (hl : 4 * zs.length + 16 ≤ 140737488355328) (hr : ∀ z ∈ zs, -2147483648 ≤ z ∧ z ≤ 2147483647) (row : RowIs .i32 w a zs) :
    Calls Tryd.prog 17 #[.slice a zs.length cap] w fun e w' => e = .returned (.tuple #[.string (tText zs), .int .i64 (tErr zs)]) ∧ Below w.heap.size w w' := by
  have HROW : Hid (RowIs .i32 w a zs) := row
  have HR : Hid (∀ z ∈ zs, -2147483648 ≤ z ∧ z ≤ 2147483647) := hr
  clear row hr
  go_enter Tryd.func17, Tryd.ntmps17
  go_wp2
  go_loopw [9] (fun i wr => ∃ (k : Nat), i = .int .i64 k ∧ k ≤ zs.length ∧ okAll (zs.take k) = true ∧ Lib.IsBuilderF 51 5 w.heap.size w.heap.size (Lib.byteCells (encAll (zs.take k))) wr ∧ Below w.heap.size w wr ∧ (encAll (zs.take k)).length ≤ 4 * k ∧ w.heap.size < wr.heap.size) (fun i _ => zs.length - (intOf i).toNat)
  case atStart =>
    exact ⟨0, rfl, by omega, rfl, Lib.IsBuilderF.of (Lib.fresh_isBuilder 51 5 w), (Below.refl _ w).alloc (Nat.le_refl _) _, by simp [encAll], by simp⟩
  case round =>
    obtain ⟨k, rfl, hk, hok, hI, hbw, hal, hsz⟩ := hrel
    have HOK : Hid (okAll (zs.take k) = true) := hok
    clear hok
    by_cases hlt : k < zs.length
    · obtain ⟨b, off, rfl, hb, hcells⟩ : ∃ b off, a = some ⟨b, off, none⟩ ∧ b < w.heap.size ∧ ∀ i, i < zs.length → w.cell? ⟨b, off + i, none⟩ = some (.int .i32 (zs.getD i 0)) := by
        rcases HROW.out with h | h
        · omega
        · exact h
      have hcw : wr.cell? ⟨b, off + k, none⟩ = some (.int .i32 (zs.getD k 0)) := by
        rw [hbw.cell (p := ⟨b, off + k, none⟩) hb]; exact hcells k hlt
      have hget : zs.getD k 0 = zs[k]'hlt := by simp [List.getD, List.getElem?_eq_getElem hlt]
      have htk : zs.take (k + 1) = zs.take k ++ [zs[k]'hlt] := List.take_succ_eq_append_getElem hlt
      have hzr := HR.out (zs[k]'hlt) (List.getElem_mem _)
      have hall : Lib.validRune (zs[k]'hlt) = false → okAll zs = false := by
        intro h
        unfold okAll
        rw [List.all_eq_false]
        exact ⟨_, List.getElem_mem hlt, by simp [h]⟩
      clear hcells
      rw [hget] at hcw
      clear hget
      generalize zs[k]'hlt = z at hcw htk hzr hall
      have HTK : Hid (zs.take (k + 1) = zs.take k ++ [z]) := htk
      clear htk
      cases hv : Lib.validRune z
      · have hA := hall hv
        have HT : Hid (tText zs = ⟨#[]⟩) := by show tText zs = _; simp [tText, hA]
        have HE : Hid (tErr zs = 11) := by show tErr zs = _; simp [tErr, hA]
        clear hA hall
        go_wp2_with fail
        refine (Tryd.utf8_ValidRune _ _).mono ?_
        rintro e w1 ⟨rfl, rfl⟩
        go_wp2_with fail
        go_ret2
        refine ⟨?_, hbw⟩
        rw [HT.out, HE.out]
        rfl
      · clear hall
        have he4 := Lib.runeCells_le z
        rw [Lib.runeCells_length] at he4
        go_wp2_with fail
        refine (Tryd.utf8_ValidRune _ _).mono ?_
        rintro e w1 ⟨rfl, rfl⟩
        go_wp2_with fail
        refine (Tryd.Builder_WriteRune_k w.heap.size w.heap.size _ z (by omega) (by omega) _ hI (by rw [Lib.byteCells_length]; omega) (by omega)).mono ?_
        rintro e W1 ⟨rfl, k1, k2, k3⟩
        have hk2 := k2.size
        go_wp2_with fail
        go_roundw
        case rel =>
          refine ⟨k + 1, by go_num, by omega, ?_, ?_, hbw.trans k2, ?_, by omega⟩
          · rw [HTK.out]
            have := HOK.out
            unfold okAll at this ⊢
            rw [List.all_append, this]
            simp [hv]
          · rw [HTK.out, encAll_snoc, Lib.byteCells_append, Lib.byteCells_encodeRune]
            exact Or.inr k1
          · rw [HTK.out, encAll_snoc, List.length_append]; omega
        case measure => simp [intOf]; omega
    · have hkl : zs.take k = zs := List.take_of_length_le (by omega)
      have hA : okAll zs = true := by have := HOK.out; rwa [hkl] at this
      have HT : Hid (tText zs = ⟨(encAll (zs.take k)).toArray⟩) := by show tText zs = _; simp [tText, hA, hkl]
      have HE : Hid (tErr zs = 0) := by show tErr zs = _; simp [tErr, hA]
      clear hA hkl
      go_wp2_with fail
      refine (Tryd.Builder_String_any_k w.heap.size w.heap.size _ _ hI (by omega)).mono ?_
      rintro e W1 ⟨rfl, k1, k2, k3⟩
      go_wp2_with fail
      go_ret2
      refine ⟨?_, hbw.trans k2⟩
      rw [HT.out, HE.out]
      rfl
end Go.Proofs.YtklciagcalpfmaaDoor
