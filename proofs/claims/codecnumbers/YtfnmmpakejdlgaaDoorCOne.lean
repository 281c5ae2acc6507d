/- The reader of bytes: a byte read, or the end thrown. -/
import Derived.Test.YtfnmmpakejdlgaaDoorGV
import Derived.BigQuiet
import Derived.Deep.QuietTactic
import Derived.ScopeJumps
import Derived.WalkMore
import Derived.WalkSmall
namespace Go.Proofs.YtfnmmpakejdlgaaDoor
open Go.RowKit

theorem mkHid {p : Prop} (h : p) : Hid p := h

/-- Nothing that was there is changed but in one block. -/
structure OnlyAt (R : Nat) (w w' : World) : Prop where
  os : w'.os = w.os
  tape : w'.tape = w.tape
  output : w'.output = w.output
  size : w.heap.size ≤ w'.heap.size
  block : ∀ k, k < w.heap.size → k ≠ R → w'.heap[k]? = w.heap[k]?

theorem OnlyAt.refl (R : Nat) (w : World) : OnlyAt R w w := ⟨rfl, rfl, rfl, Nat.le_refl _, fun _ _ _ => rfl⟩
theorem OnlyAt.trans {R : Nat} {w w1 w2 : World} (h : OnlyAt R w w1) (g : OnlyAt R w1 w2) : OnlyAt R w w2 :=
  ⟨g.os.trans h.os, g.tape.trans h.tape, g.output.trans h.output, Nat.le_trans h.size g.size, fun k hk hn => (g.block k (Nat.lt_of_lt_of_le hk h.size) hn).trans (h.block k hk hn)⟩
theorem OnlyAt.below {R B : Nat} {w w' : World} (h : OnlyAt R w w') (hB : B ≤ R) (hw : B ≤ w.heap.size) : RowKit.Below B w w' :=
  ⟨h.os, h.tape, h.output, h.size, fun k hk => h.block k (by omega) (by omega)⟩
theorem OnlyAt.drewN {R : Nat} {w w' : World} (h : OnlyAt R w w') (q : Nat) : OnlyAt R w (w'.drewN q) := ⟨h.os, h.tape, h.output, h.size, h.block⟩
theorem OnlyAt.setCell {R : Nat} {w w' : World} (h : OnlyAt R w w') (o : Nat) (v : Value) : OnlyAt R w (w'.setCell ⟨R, o, none⟩ v) := by
  have hb := (RowKit.Below.refl 0 w').setCell (p := ⟨R, o, none⟩) (Nat.zero_le _) v
  exact ⟨hb.os.trans h.os, hb.tape.trans h.tape, hb.output.trans h.output, Nat.le_trans h.size hb.size, fun k hk hn => by rw [RowKit.Below.heap_setCell w' ⟨R, o, none⟩ v k hn]; exact h.block k hk hn⟩

/-- The reader's own block. -/
def Rd (w : World) (R : Nat) (a : Option Addr) (n c p : Nat) : Prop := w.heap[R]? = some (.cells #[.slice a n c, .int .i64 p] 74 (0, 0))
theorem Rd.cells {w : World} {R : Nat} {a : Option Addr} {n c p : Nat} (h : Rd w R a n c p) : w.cell? ⟨R, 0, none⟩ = some (.slice a n c) ∧ w.cell? ⟨R, 1, none⟩ = some (.int .i64 p) := by
  refine ⟨?_, ?_⟩ <;> (rw [cell_of_row w R _ _ _ _ h]; rfl)
theorem Rd.free {w : World} {R : Nat} {a : Option Addr} {n c p : Nat} (h : Rd w R a n c p) : w.frozen? ⟨R, 0, none⟩ = false ∧ w.frozen? ⟨R, 1, none⟩ = false := ⟨frozen_of_row w R _ _ _ h, frozen_of_row w R _ _ _ h⟩
theorem Rd.lt {w : World} {R : Nat} {a : Option Addr} {n c p : Nat} (h : Rd w R a n c p) : R < w.heap.size := (Array.getElem?_eq_some_iff.1 h).1
theorem Rd.put {w : World} {R : Nat} {a : Option Addr} {n c p : Nat} (h : Rd w R a n c p) (q : Nat) : Rd (w.setCell ⟨R, 1, none⟩ (.int .i64 q)) R a n c q := by
  unfold Rd
  rw [heap_setCell_same w R 1 _ _ _ h]
  rfl
theorem Rd.drewN {w : World} {R : Nat} {a : Option Addr} {n c p : Nat} (h : Rd w R a n c p) (q : Nat) : Rd (w.drewN q) R a n c p := h

/-- A row of bytes. -/
def Byts (w : World) (a : Option Addr) (l : List UInt8) : Prop := ∀ i (h : i < l.length), ∃ b o, a = some ⟨b, o, none⟩ ∧ w.cell? ⟨b, o + i, none⟩ = some (.int .u8 ((l[i]'h).toNat : Int))
theorem cell_lt' {w : World} {b o : Nat} {u : Value} (h : w.cell? ⟨b, o, none⟩ = some u) : b < w.heap.size := by
  unfold World.cell? at h
  cases e : w.heap[b]? with
  | none => simp [e] at h
  | some x => exact (Array.getElem?_eq_some_iff.1 e).1
theorem Byts.below {w w' : World} {a : Option Addr} {l : List UInt8} (h : Byts w a l) (hb : RowKit.Below w.heap.size w w') : Byts w' a l := by
  intro i hi
  obtain ⟨b, o, e, hc⟩ := h i hi
  exact ⟨b, o, e, by rw [hb.cell (p := ⟨b, o + i, none⟩) (cell_lt' hc)]; exact hc⟩
/-- The bytes lie in another block than the reader. -/
def Apart (R : Nat) (a : Option Addr) (l : List UInt8) : Prop := 0 < l.length → ∀ x, a = some x → x.block ≠ R
theorem Byts.apart {w : World} {R : Nat} {a : Option Addr} {l : List UInt8} (h : Byts w a l) (hR : w.heap.size ≤ R) : Apart R a l := by
  intro h0 x hx
  obtain ⟨b, o, e, hc⟩ := h 0 h0
  have := cell_lt' hc
  rw [hx] at e
  cases e
  show b ≠ R
  omega
theorem Byts.only {w w' : World} {R : Nat} {a : Option Addr} {l : List UInt8} (h : Byts w a l) (hb : OnlyAt R w w') (ha : Apart R a l) : Byts w' a l := by
  intro i hi
  obtain ⟨b, o, e, hc⟩ := h i hi
  refine ⟨b, o, e, ?_⟩
  have hn : b ≠ R := ha (by omega) _ e
  have := hb.block b (cell_lt' hc) hn
  unfold World.cell? at hc ⊢
  rw [this]
  exact hc

/-- What is thrown. -/
def thr (e : Int) : List PanicEntry := [{ v := .iface 23 (.int .i64 e), recovered := false }]

set_option maxHeartbeats 2000000 in
set_option maxRecDepth 1000000 in
theorem one_ok (R : Nat) (a : Option Addr) (c p : Nat) (l : List UInt8) (w : World) (hR : Rd w R a l.length c p) (hB : Byts w a l) (hp : p < l.length) (hl : l.length ≤ maxLen) :
    Calls Tryd.prog 59 #[.pointer (some ⟨R, 0, none⟩)] w fun e w' => e = .returned (.int .u8 ((l[p]'hp).toNat : Int)) ∧ Rd w' R a l.length c (p + 1) ∧ OnlyAt R w w' := by
  have hml : maxLen = 9223372036854775807 := rfl
  obtain ⟨b, o, rfl, hc⟩ := hB p hp
  obtain ⟨c0, c1⟩ := hR.cells
  obtain ⟨f0, f1⟩ := hR.free
  have HR := mkHid hR
  obtain ⟨x, hx⟩ : ∃ x : Int, x = ((l[p]'hp).toNat : Int) := ⟨_, rfl⟩
  rw [← hx] at hc ⊢
  obtain ⟨n, hn⟩ : ∃ n, n = l.length := ⟨_, rfl⟩
  rw [← hn] at hR c0 hp hl HR ⊢
  clear hx hn hB hR
  go_enter Tryd.func59, Tryd.ntmps59
  go_wp2_with fail
  go_quiet (fail)
  go_wp2_with fail
  go_quiet (fail)
  go_wp2_with fail
  refine bodyPost_ret (v := .int .u8 x) ?_ rfl ⟨rfl, ?_, ?_⟩
  · have hres : Tryd.f59.results = #[.tmp 2] := by kernel_rfl
    simp only [results, hres]
    go_simp
  · exact Rd.put (w := w.drewN _) (p := p) HR.out (p + 1)
  · exact ((OnlyAt.refl R w).drewN _).setCell 1 _

set_option maxHeartbeats 2000000 in
set_option maxRecDepth 1000000 in
theorem one_end (R : Nat) (a : Option Addr) (c p : Nat) (l : List UInt8) (w : World) (hR : Rd w R a l.length c p) (hp : p = l.length) (_hl : l.length ≤ maxLen) :
    Calls Tryd.prog 59 #[.pointer (some ⟨R, 0, none⟩)] w fun e w' => e = .panicked (thr 17) ∧ OnlyAt R w w' := by
  have hml : maxLen = 9223372036854775807 := rfl
  subst hp
  obtain ⟨c0, c1⟩ := hR.cells
  obtain ⟨n, hn⟩ : ∃ n, n = l.length := ⟨_, rfl⟩
  rw [← hn] at c0 c1
  clear hn hR
  go_enter Tryd.func59, Tryd.ntmps59
  go_wp2_with fail
  go_quiet (fail)
  go_wp2_with fail
  exact ⟨rfl, rfl, (OnlyAt.refl R w).drewN _⟩
end Go.Proofs.YtfnmmpakejdlgaaDoor
