/- number: which of those that were met a handle's object is. -/
import Derived.Test.YtfknheljheggkaaEReach2
import Derived.Maps.OwnOps
namespace Go.Proofs.Ytfknheljheggkaa
open Go.RowKit Go.Maps

/-- The number of a handle's object among those that were met, or -1. -/
def numX (s : HS) (m : Mt) (x : Nat) : Int := match plc s x with | none => -1 | some q => (m.M.idxOf q : Int)
section
variable {own : Nat → Prop} {w0 w : World} {i : HId} {s : HS} {wv : Value} {Mb mp : Nat} {u : Value} {m : Mt} {B : Nat}
theorem number_no (h : HP own w i s wv) (hm : MetAt B w i.H Mb mp u m) (x : Nat) (hx : x < 18446744073709551616) (hl : look s.L x = none) : Calls Try.prog 49 #[.pointer (some ⟨Mb, 0, none⟩), .int .u64 x] w fun e w' => e = .returned (.int .i64 (-1)) ∧ RowKit.Below w.heap.size w w' := by
  have HO := mkHid (object_no h x hx hl)
  unfold headZ at HO
  obtain ⟨c0, _, _, _⟩ := hm.cells
  clear h hm hl
  go_enter Try.func49, Try.ntmps49
  go_wp2_with fail
  refine HO.out.mono ?_
  rintro e w1 ⟨rfl, b1⟩
  have B2 := mkHid (b1.alloc b1.size (.cells #[.int .i64 0, .int .i64 0, .int .i64 0, .bool false, .int .i64 0] 100))
  clear b1
  go_wp2_with fail
  go_ret
  exact ⟨rfl, B2.out⟩
set_option maxHeartbeats 1000000 in
theorem number_yes (h : HP own w i s wv) (hm : MetAt B w i.H Mb mp u m) {x q j : Nat} {o : Ob} (hh : Has s x q o) (hj : j < m.M.length) (hq : m.M.getD j 0 = q) : Calls Try.prog 49 #[.pointer (some ⟨Mb, 0, none⟩), .int .u64 x] w fun e w' => e = .returned (.int .i64 j) ∧ RowKit.Below w.heap.size w w' := by
  obtain ⟨t, r, z, mk, ow, ht, hr, hz', hrz, hzz, hmk, how, ho⟩ := object_let h hh
  have HO := mkHid ho
  obtain ⟨c0, _, _, _⟩ := hm.cells
  have HM := mkHid hm
  have hql : q < 9223372036854775808 := by have := (Has.ok h hh).2; omega
  have HQ := mkHid hq
  have HJ := mkHid hj
  clear h hm hh ho ht hr hz' hmk how hq hj
  go_enter Try.func49, Try.ntmps49
  go_wp2_with fail
  refine HO.out.mono ?_
  rintro e w1 ⟨rfl, b1⟩
  obtain ⟨W2, hW2⟩ : ∃ W2, W2 = w1.alloc (.cells #[.int .i64 (t : Int), .int .i64 (r : Int), .int .i64 (z : Int), .bool mk, .int .i64 (ow : Int)] 100) := ⟨_, rfl⟩
  have b2 : RowKit.Below w.heap.size w W2 := by rw [hW2]; exact b1.alloc b1.size _
  have m2 := HM.out.below b2
  obtain ⟨_, _, d2, _⟩ := m2.cells
  obtain ⟨D, hown, hI, hhas, hat⟩ := m2.num
  have hatj := hat j (.lit (.int .i64 0)) HJ.out
  rw [HQ.out] at hatj
  have HAT := mkHid hatj
  have B2 := mkHid b2
  have HOW := mkHid hown
  rw [hW2] at d2 B2 HOW
  clear b1 b2 m2 hW2 hhas hat hI hown hatj
  go_wp2_with (first | (at_lookup; refine wpList_lookup_own_int _ rfl _ _ 93 rfl 3 3 .i64 lawI Try.underlying93 Try.underlying3 (zeroI _) mp m.M.length D rfl HOW.out _ _ rfl (keyI hql) ?_; intro c hat2 hwc; have hcj : c = (j : Int) := (by (have h1 := HAT.out; rw [hat2] at h1; injection h1 with h1; injection h1)); subst hcj; clear hat2 hwc))
  go_ret
  exact ⟨rfl, B2.out⟩
theorem number_any (h : HP own w i s wv) (hS : Snd s) (hm : MetAt B w i.H Mb mp u m) (x : Nat) (hx : x < 18446744073709551616) (hq : ∀ q, plc s x = some q → q ∈ m.M) : Calls Try.prog 49 #[.pointer (some ⟨Mb, 0, none⟩), .int .u64 x] w fun e w' => e = .returned (.int .i64 (numX s m x)) ∧ RowKit.Below w.heap.size w w' := by
  unfold numX
  cases hp : plc s x with
  | none => exact number_no h hm x hx (plc_none hp)
  | some q =>
    obtain ⟨o, ho⟩ := plc_has hS hx hp
    have hmem := hq q hp
    have hlt : m.M.idxOf q < m.M.length := List.idxOf_lt_length_iff.2 hmem
    exact number_yes h hm ho hlt (by rw [List.getD_eq_getElem?_getD, List.getElem?_eq_getElem hlt]; exact List.getElem_idxOf hlt)
end
end Go.Proofs.Ytfknheljheggkaa
