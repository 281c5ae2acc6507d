/- Contract of utf.writePart at every character: it writes the part that stands for it; nothing else that was there is changed. -/
import Derived.Test.YtagjemdoefldaaaDoorIndex
import Derived.WalkSmall
namespace Go.Proofs.YtagjemdoefldaaaDoor
open Go.RowKit

theorem isBuilder_below {T e : TypeId} {B b : Nat} {bs : List Value} {w w' : World} (h : Lib.IsBuilderF T e B b bs w) (hb : Below w.heap.size w w') : Lib.IsBuilderF T e B b bs w' := by
  have one : ∀ p, Lib.BuilderAtF T e B b p bs w → Lib.BuilderAtF T e B b p bs w' := by
    intro p ⟨hB, v, hv, hown, hne⟩
    refine ⟨hB, v, (hb.block b (Array.getElem?_eq_some_iff.1 hv).1).trans hv, ⟨hown.1, ?_⟩, hne⟩
    rcases hown.2 with hn | ⟨g, cap, cur, fz, hv2, hbg, hg, rest⟩
    · exact .inl hn
    · exact .inr ⟨g, cap, cur, fz, hv2, hbg, (hb.block g (Array.getElem?_eq_some_iff.1 hg).1).trans hg, rest⟩
  exact h.elim (fun x => .inl (one _ x)) (fun x => .inr (one _ x))

theorem othersKept_below {e : TypeId} {b : Option Nat} {w w' : World} (hb : Below w.heap.size w w') : Lib.OthersKept e b w w' := by
  intro k o hk _ _
  exact (hb.block k (Array.getElem?_eq_some_iff.1 hk).1).trans hk

set_option maxHeartbeats 4000000 in
set_option maxRecDepth 1000000 in
theorem indexRune_err (w : World) :
    Calls Tryd.prog 32 #[.string ⟨#[34, 92, 8, 12, 10, 13, 9]⟩, .int .i32 65533] w fun e w' => e = .returned (.int .i64 (-1)) ∧ Below w.heap.size w w' := by
  go_enter Tryd.func32, Tryd.ntmps32
  go_wp2
  go_loopw [] (fun wr => ∃ (pos : Nat), wr.heap[w.heap.size]? = some (.stringIter ⟨#[34, 92, 8, 12, 10, 13, 9]⟩ pos) ∧ Below w.heap.size w wr) (fun wr => 7 - wr.iterPos w.heap.size)
  case atStart =>
    refine ⟨0, ?_, (Below.refl _ w).alloc (Nat.le_refl _) _⟩
    have := World.iter_heap w ⟨#[34, 92, 8, 12, 10, 13, 9]⟩ 0
    simpa using this
  case round =>
    obtain ⟨pos, hit, hbw⟩ := hrel
    by_cases hp : pos < 7
    · have hnx : ∀ ty, (Instr.next (.pointer (some ⟨w.heap.size, 0, none⟩)) true ty).run Tryd.prog wr = _ := fun ty => Lib.run_next_any_at wr w.heap.size _ pos ty hit hp
      have hdec : ∀ p : Nat, p < 7 → (Utf8.decode ⟨#[34, 92, 8, 12, 10, 13, 9]⟩ p).1 < 128 ∧ (Utf8.decode ⟨#[34, 92, 8, 12, 10, 13, 9]⟩ p).2 = 1 := by decide
      have hd := hdec pos hp
      have hd2 := hd.2
      have hd1 : ((Utf8.decode ⟨#[34, 92, 8, 12, 10, 13, 9]⟩ pos).1 : Int) < 128 := by omega
      have hne : (((Utf8.decode ⟨#[34, 92, 8, 12, 10, 13, 9]⟩ pos).1 : Int) == 65533) = false := by rw [beq_eq_false_iff_ne]; omega
      clear hdec hd
      have hit2 := Lib.iterAt_heap wr w.heap.size _ pos (pos + 1) hit
      have hbw2 := Lib.below_iterAt hbw (k := w.heap.size) (Nat.le_refl _) ⟨#[34, 92, 8, 12, 10, 13, 9]⟩ (pos + 1)
      go_wp2
      go_roundw
      case rel => exact ⟨pos + 1, hit2, hbw2⟩
      case measure =>
        simp only [World.iterPos, hit2, hit]
        omega
    · have hnx : ∀ ty, (Instr.next (.pointer (some ⟨w.heap.size, 0, none⟩)) true ty).run Tryd.prog wr = _ := fun ty => Lib.run_next_end_at wr w.heap.size _ pos ty hit hp
      go_wp2
      go_ret
      exact ⟨rfl, hbw⟩

theorem indexRune_hi (r : Int) (w : World) (h0 : 128 ≤ r) (hv : Lib.validRune r = true) (hu : Utf8.valid r = true) :
    Calls Tryd.prog 32 #[.string ⟨#[34, 92, 8, 12, 10, 13, 9]⟩, .int .i32 r] w fun e w' => e = .returned (.int .i64 (-1)) ∧ Below w.heap.size w w' := by
  by_cases h1 : r = 65533
  · subst h1
    exact indexRune_err w
  · refine (indexRune_high r w h0 h1 hv hu).mono ?_
    rintro e w' ⟨rfl, n, rfl⟩
    exact ⟨rfl, below_drewN (Below.refl _ _) n⟩

set_option maxHeartbeats 4000000 in
set_option maxRecDepth 1000000 in
theorem writePart_hi (B b : Nat) (acc : List UInt8) (r : Int) (w : World) (hI : Lib.IsBuilderF 53 5 B b (Lib.byteCells acc) w) (h0 : 128 ≤ r) (hm : r ≤ 1114111) (hv : Lib.validRune r = true) (hu : Utf8.valid r = true) (hlen : acc.length + 6 ≤ 140737488355328) (hBw : B ≤ w.heap.size) :
    Calls Tryd.prog 61 #[.pointer (some ⟨b, 0, none⟩), .int .i32 r] w fun e w' => e = .returned (.tuple #[]) ∧ Lib.IsBuilderF 53 5 B b (Lib.byteCells (acc ++ partOf r)) w' ∧ Below B w w' ∧ Lib.OthersKept 5 (some b) w w' := by
  have hb1 : decide (r < 32) = false := by simp; omega
  have hb2 : (r == 127) = false := by simp; omega
  rw [partOf_plain r (by omega) (by omega) (by omega) (by omega)]
  go_enter Tryd.func61, Tryd.ntmps61
  go_wp2_with fail
  refine wp_scope_abs 0 ?_
  intro J hret hnor hgo
  clear hgo
  go_wp2_with fail
  refine (indexRune_hi _ _ h0 hv hu).mono ?_
  rintro e w1 ⟨rfl, hbel⟩
  have hI1 := isBuilder_below hI hbel
  go_wp2_with fail
  refine (Tryd.Builder_WriteRune_k B b _ r (by omega) (by omega) _ hI1 (by rw [Lib.byteCells_length]; omega) (Nat.le_trans hBw hbel.size)).mono ?_
  rintro e W1 ⟨rfl, k1, k2, k3⟩
  go_wp2_with fail
  refine hret.out _ _ _ ?_
  refine bodyPost_ret (results_none rfl _ _ _) rfl ?_
  exact ⟨rfl, by rw [Lib.byteCells_append, Lib.byteCells_encodeRune]; exact Or.inr k1, (hbel.mono hBw).trans k2, (othersKept_below hbel).trans k3⟩

theorem writePart_any (B b : Nat) (acc : List UInt8) (r : Int) (w : World) (hI : Lib.IsBuilderF 53 5 B b (Lib.byteCells acc) w) (h0 : 0 ≤ r) (hm : r ≤ 1114111) (hv : Lib.validRune r = true) (hu : Utf8.valid r = true) (hlen : acc.length + 6 ≤ 140737488355328) (hBw : B ≤ w.heap.size) :
    Calls Tryd.prog 61 #[.pointer (some ⟨b, 0, none⟩), .int .i32 r] w fun e w' => e = .returned (.tuple #[]) ∧ Lib.IsBuilderF 53 5 B b (Lib.byteCells (acc ++ partOf r)) w' ∧ Below B w w' ∧ Lib.OthersKept 5 (some b) w w' := by
  by_cases h1 : r < 128
  · exact writePart_ascii B b acc r w hI h0 h1 hlen hBw
  · exact writePart_hi B b acc r w hI (by omega) hm hv hu hlen hBw
end Go.Proofs.YtagjemdoefldaaaDoor
