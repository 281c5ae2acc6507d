/- The statements' own helpers. -/
import Derived.Test.YtcgaeloacmjokaaEPlain2
namespace Go.Proofs.Ytcgaeloacmjokaa
open Go.RowKit

theorem hFresh_any (n m : Nat) (w : World) (h1 : 1 ≤ n) (h2 : n ≤ 1048576) (g1 : 1 ≤ m) (g2 : m ≤ 1048576) : Calls Try.prog 23 #[.int .i64 n, .int .i64 m] w fun e w' => ∃ i own, e = .returned (.pointer (some ⟨i.H, 0, none⟩)) ∧ RowKit.Below w.heap.size w w' ∧ (∀ k, own k → w.heap.size ≤ k) ∧ PH own w' i n m [] rt0 .nilIface := by
  have HN := mkHid (hNew_heap n m w h1 h2 g1 g2)
  clear h1 h2 g1 g2
  go_enter Try.func23, Try.ntmps23
  go_wp2_with fail
  refine HN.out.mono ?_
  rintro e w1 ⟨i, own, rfl, hb, ho, hp⟩
  have HB := mkHid hb
  have HO := mkHid ho
  have HH := mkHid hp
  clear hb ho hp
  go_wp2_with fail
  go_ret
  exact ⟨i, own, rfl, HB.out, HO.out, HH.out⟩
section
variable {own : Nat → Prop} {w : World} {i : HId}
def aw1 : List Ob := [⟨1, 1, 0, false, [0, 0]⟩]
def aw2 : List Ob := [⟨1, 1, 0, false, [0, 0]⟩, ⟨2, 0, 1, false, [0]⟩]
def aw3 : List Ob := [⟨1, 1, 0, false, [4294967298, 0]⟩, ⟨2, 0, 1, false, [0]⟩]
theorem aw_make1 (h : PH own w i 100 10 [] rt0 .nilIface) : Calls Try.prog 24 #[.pointer (some ⟨i.H, 0, none⟩), .int .i64 1, .int .i64 1, .int .i64 2] w fun e w' => e = .returned (.tuple #[.int .u64 4294967297, .int .i64 0]) ∧ ∃ own', Mv own own' w w' ∧ PH own' w' i 100 10 aw1 rt0 .nilIface := ph_Make h 1 1 2 (by decide) (by decide) (by decide)
theorem aw_make2 (h : PH own w i 100 10 aw1 rt0 .nilIface) : Calls Try.prog 24 #[.pointer (some ⟨i.H, 0, none⟩), .int .i64 2, .int .i64 0, .int .i64 1] w fun e w' => e = .returned (.tuple #[.int .u64 4294967298, .int .i64 0]) ∧ ∃ own', Mv own own' w w' ∧ PH own' w' i 100 10 aw2 rt0 .nilIface := ph_Make h 2 0 1 (by decide) (by decide) (by decide)
theorem aw_ref (h : PH own w i 100 10 aw2 rt0 .nilIface) : Calls Try.prog 25 #[.pointer (some ⟨i.H, 0, none⟩), .int .u64 4294967297, .int .i64 0, .int .u64 4294967298] w fun e w' => e = .returned (.int .i64 0) ∧ Mv own own w w' ∧ PH own w' i 100 10 aw3 rt0 .nilIface := ph_SetRef h (k := 0) (j := 0) (y := 1) (by decide) (by decide) (by decide)
theorem aw_get (h : PH own w i 100 10 aw3 rt0 .nilIface) : Calls Try.prog 65 #[.pointer (some ⟨i.H, 0, none⟩), .int .u64 4294967297, .int .i64 0] w fun e w' => e = .returned (.tuple #[.int .u64 4294967298, .int .i64 0]) ∧ RowKit.Below w.heap.size w w' := ph_Ref h (k := 0) (j := 0) (by decide) (by decide)
end
theorem fresh_100 (w : World) : Calls Try.prog 23 #[.int .i64 100, .int .i64 10] w fun e w' => ∃ i own, e = .returned (.pointer (some ⟨i.H, 0, none⟩)) ∧ RowKit.Below w.heap.size w w' ∧ (∀ k, own k → w.heap.size ≤ k) ∧ PH own w' i 100 10 [] rt0 .nilIface := hFresh_any 100 10 w (by decide) (by decide) (by decide) (by decide)
theorem fresh_4096 (w : World) : Calls Try.prog 23 #[.int .i64 4096, .int .i64 256] w fun e w' => ∃ i own, e = .returned (.pointer (some ⟨i.H, 0, none⟩)) ∧ RowKit.Below w.heap.size w w' ∧ (∀ k, own k → w.heap.size ≤ k) ∧ PH own w' i 4096 256 [] rt0 .nilIface := hFresh_any 4096 256 w (by decide) (by decide) (by decide) (by decide)
end Go.Proofs.Ytcgaeloacmjokaa
