/- The statements' own helpers. -/
import Derived.Test.YtfknheljheggkaaEPlain2
namespace Go.Proofs.Ytfknheljheggkaa
open Go.RowKit

theorem hFresh_any (n m : Nat) (w : World) (h1 : 1 ≤ n) (h2 : n ≤ 1048576) (g1 : 1 ≤ m) (g2 : m ≤ 1048576) : Calls Try.prog 10 #[.int .i64 n, .int .i64 m] w fun e w' => ∃ i own, e = .returned (.pointer (some ⟨i.H, 0, none⟩)) ∧ RowKit.Below w.heap.size w w' ∧ (∀ k, own k → w.heap.size ≤ k) ∧ PH own w' i n m [] rt0 .nilIface := by
  have HN := mkHid (hNew_heap n m w h1 h2 g1 g2)
  clear h1 h2 g1 g2
  go_enter Try.func10, Try.ntmps10
  go_wp2_with fail
  refine HN.out.mono ?_
  rintro e w1 ⟨i, own, rfl, hb, ho, hp⟩
  have HB := mkHid hb
  have HO := mkHid ho
  have HH := mkHid hp
  clear hb ho hp
  go_wp2_with fail
  go_ret
  exact ⟨i, own, rfl, HB.out, HO.out, HH.out⟩
section
variable {own : Nat → Prop} {w : World} {i : HId}
def aw1 : List Ob := [⟨1, 1, 0, false, [0, 0]⟩]
def aw2 : List Ob := [⟨1, 1, 0, false, [0, 0]⟩, ⟨2, 0, 1, false, [0]⟩]
def aw3 : List Ob := [⟨1, 1, 0, false, [4294967298, 0]⟩, ⟨2, 0, 1, false, [0]⟩]
theorem aw_make1 (h : PH own w i 100 10 [] rt0 .nilIface) : Calls Try.prog 11 #[.pointer (some ⟨i.H, 0, none⟩), .int .i64 1, .int .i64 1, .int .i64 2] w fun e w' => e = .returned (.tuple #[.int .u64 4294967297, .int .i64 0]) ∧ ∃ own', Mv own own' w w' ∧ PH own' w' i 100 10 aw1 rt0 .nilIface := ph_Make h 1 1 2 (by decide) (by decide) (by decide)
theorem aw_make2 (h : PH own w i 100 10 aw1 rt0 .nilIface) : Calls Try.prog 11 #[.pointer (some ⟨i.H, 0, none⟩), .int .i64 2, .int .i64 0, .int .i64 1] w fun e w' => e = .returned (.tuple #[.int .u64 4294967298, .int .i64 0]) ∧ ∃ own', Mv own own' w w' ∧ PH own' w' i 100 10 aw2 rt0 .nilIface := ph_Make h 2 0 1 (by decide) (by decide) (by decide)
theorem aw_ref (h : PH own w i 100 10 aw2 rt0 .nilIface) : Calls Try.prog 12 #[.pointer (some ⟨i.H, 0, none⟩), .int .u64 4294967297, .int .i64 0, .int .u64 4294967298] w fun e w' => e = .returned (.int .i64 0) ∧ Mv own own w w' ∧ PH own w' i 100 10 aw3 rt0 .nilIface := ph_SetRef h (k := 0) (j := 0) (y := 1) (by decide) (by decide) (by decide)
theorem aw_get (h : PH own w i 100 10 aw3 rt0 .nilIface) : Calls Try.prog 16 #[.pointer (some ⟨i.H, 0, none⟩), .int .u64 4294967297, .int .i64 0] w fun e w' => e = .returned (.tuple #[.int .u64 4294967298, .int .i64 0]) ∧ RowKit.Below w.heap.size w w' := ph_Ref h (k := 0) (j := 0) (by decide) (by decide)
end
theorem fresh_100 (w : World) : Calls Try.prog 10 #[.int .i64 100, .int .i64 10] w fun e w' => ∃ i own, e = .returned (.pointer (some ⟨i.H, 0, none⟩)) ∧ RowKit.Below w.heap.size w w' ∧ (∀ k, own k → w.heap.size ≤ k) ∧ PH own w' i 100 10 [] rt0 .nilIface := hFresh_any 100 10 w (by decide) (by decide) (by decide) (by decide)
theorem fresh_4096 (w : World) : Calls Try.prog 10 #[.int .i64 4096, .int .i64 256] w fun e w' => ∃ i own, e = .returned (.pointer (some ⟨i.H, 0, none⟩)) ∧ RowKit.Below w.heap.size w w' ∧ (∀ k, own k → w.heap.size ≤ k) ∧ PH own w' i 4096 256 [] rt0 .nilIface := hFresh_any 4096 256 w (by decide) (by decide) (by decide) (by decide)
set_option maxHeartbeats 1000000 in
theorem awake9 (w : World) : Calls Try.prog 9 #[] w fun e w' => e = .returned (.bool true) ∧ RowKit.Below w.heap.size w w' := by
  go_enter Try.func9, Try.ntmps9
  go_wp2_with fail
  refine (fresh_100 _).mono ?_
  rintro e w1 ⟨i, own, rfl, b1, ho, h1⟩
  have B1 := mkHid b1
  have HO := mkHid ho
  have H1 := mkHid h1
  clear b1 ho h1
  go_wp2_with fail
  refine (aw_make1 H1.out).mono ?_
  rintro e w2 ⟨rfl, own2, m2, h2⟩
  have M2 := mkHid m2
  have H2 := mkHid h2
  clear m2 h2
  go_wp2_with fail
  refine (aw_make2 H2.out).mono ?_
  rintro e w3 ⟨rfl, own3, m3, h3⟩
  have M3 := mkHid m3
  have H3 := mkHid h3
  clear m3 h3
  go_wp2_with fail
  refine (aw_ref H3.out).mono ?_
  rintro e w4 ⟨rfl, m4, h4⟩
  have M4 := mkHid m4
  have H4 := mkHid h4
  clear m4 h4
  go_wp2_with fail
  refine (aw_get H4.out).mono ?_
  rintro e w5 ⟨rfl, b5⟩
  have B5 := mkHid b5
  clear b5
  go_wp2_with fail
  go_ret
  have m := (M2.out.trans M3.out).trans M4.out
  have b1 := B1.out
  have hb := (m.below HO.out b1.size).1
  have hs := hb.size
  exact ⟨rfl, b1.trans (hb.trans (B5.out.mono (by have := b1.size; omega)))⟩
end Go.Proofs.Ytfknheljheggkaa
