/- The roots as a value; Root; Head. -/
import Derived.Test.YtcgaeloacmjokaaEMake
namespace Go.Proofs.Ytcgaeloacmjokaa
open Go.RowKit

theorem list16 (l : List Nat) (h : l.length = 16) : ∃ r0 r1 r2 r3 r4 r5 r6 r7 r8 r9 r10 r11 r12 r13 r14 r15, l = [r0, r1, r2, r3, r4, r5, r6, r7, r8, r9, r10, r11, r12, r13, r14, r15] := by
  match l, h with
  | [r0, r1, r2, r3, r4, r5, r6, r7, r8, r9, r10, r11, r12, r13, r14, r15], _ => exact ⟨r0, r1, r2, r3, r4, r5, r6, r7, r8, r9, r10, r11, r12, r13, r14, r15, rfl⟩

section
variable {own : Nat → Prop} {w : World} {i : HId} {s : HS} {wv : Value}
set_option maxHeartbeats 2000000 in
theorem held_any (h : HP own w i s wv) : Calls Try.prog 38 #[.pointer (some ⟨i.H, 0, none⟩)] w fun e w' => e = .returned (.agg (wcells s.rt)) ∧ RowKit.Below w.heap.size w w' := by
  have hlen : s.rt.length = 16 := by obtain ⟨ot, h⟩ := h; exact h.rlen
  have hlt := h.lt h.ownH
  obtain ⟨_, _, _, hc⟩ := h.cells
  obtain ⟨r0, r1, r2, r3, r4, r5, r6, r7, r8, r9, r10, r11, r12, r13, r14, r15, hrt⟩ := list16 s.rt hlen
  rw [hrt] at hc
  have c0 : w.cell? ⟨i.H, 2, none⟩ = some (.int .u64 (r0 : Int)) := hc 0 (by decide)
  have c1 : w.cell? ⟨i.H, 3, none⟩ = some (.int .u64 (r1 : Int)) := hc 1 (by decide)
  have c2 : w.cell? ⟨i.H, 4, none⟩ = some (.int .u64 (r2 : Int)) := hc 2 (by decide)
  have c3 : w.cell? ⟨i.H, 5, none⟩ = some (.int .u64 (r3 : Int)) := hc 3 (by decide)
  have c4 : w.cell? ⟨i.H, 6, none⟩ = some (.int .u64 (r4 : Int)) := hc 4 (by decide)
  have c5 : w.cell? ⟨i.H, 7, none⟩ = some (.int .u64 (r5 : Int)) := hc 5 (by decide)
  have c6 : w.cell? ⟨i.H, 8, none⟩ = some (.int .u64 (r6 : Int)) := hc 6 (by decide)
  have c7 : w.cell? ⟨i.H, 9, none⟩ = some (.int .u64 (r7 : Int)) := hc 7 (by decide)
  have c8 : w.cell? ⟨i.H, 10, none⟩ = some (.int .u64 (r8 : Int)) := hc 8 (by decide)
  have c9 : w.cell? ⟨i.H, 11, none⟩ = some (.int .u64 (r9 : Int)) := hc 9 (by decide)
  have c10 : w.cell? ⟨i.H, 12, none⟩ = some (.int .u64 (r10 : Int)) := hc 10 (by decide)
  have c11 : w.cell? ⟨i.H, 13, none⟩ = some (.int .u64 (r11 : Int)) := hc 11 (by decide)
  have c12 : w.cell? ⟨i.H, 14, none⟩ = some (.int .u64 (r12 : Int)) := hc 12 (by decide)
  have c13 : w.cell? ⟨i.H, 15, none⟩ = some (.int .u64 (r13 : Int)) := hc 13 (by decide)
  have c14 : w.cell? ⟨i.H, 16, none⟩ = some (.int .u64 (r14 : Int)) := hc 14 (by decide)
  have c15 : w.cell? ⟨i.H, 17, none⟩ = some (.int .u64 (r15 : Int)) := hc 15 (by decide)
  have HR : Hid (Value.agg (wcells s.rt) = .agg #[.int .u64 (r0 : Int), .int .u64 (r1 : Int), .int .u64 (r2 : Int), .int .u64 (r3 : Int), .int .u64 (r4 : Int), .int .u64 (r5 : Int), .int .u64 (r6 : Int), .int .u64 (r7 : Int), .int .u64 (r8 : Int), .int .u64 (r9 : Int), .int .u64 (r10 : Int), .int .u64 (r11 : Int), .int .u64 (r12 : Int), .int .u64 (r13 : Int), .int .u64 (r14 : Int), .int .u64 (r15 : Int)]) := by show _ = _; rw [hrt]; rfl
  obtain ⟨Wb, hWb⟩ : ∃ Wb, Wb = w.alloc (.cells #[.int .u64 0, .int .u64 0, .int .u64 0, .int .u64 0, .int .u64 0, .int .u64 0, .int .u64 0, .int .u64 0, .int .u64 0, .int .u64 0, .int .u64 0, .int .u64 0, .int .u64 0, .int .u64 0, .int .u64 0, .int .u64 0] 40) := ⟨_, rfl⟩
  obtain ⟨Hb, hHb⟩ : ∃ Hb, Hb = i.H := ⟨_, rfl⟩
  rw [← hHb] at c0 c1 c2 c3 c4 c5 c6 c7 c8 c9 c10 c11 c12 c13 c14 c15 hlt ⊢
  clear h hc hlen hrt hWb hHb
  go_enter Try.func38, Try.ntmps38
  go_wp2_with fail
  go_returns
  refine ⟨?_, (RowKit.Below.refl _ w).alloc (Nat.le_refl _) _⟩
  rw [HR.out]
end
end Go.Proofs.Ytcgaeloacmjokaa
