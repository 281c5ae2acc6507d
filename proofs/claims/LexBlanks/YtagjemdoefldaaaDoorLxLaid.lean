/- The library's variables and its table out of what a row lays. -/
import Derived.Test.YtagjemdoefldaaaDoorLxAwake
import Derived.Test.YtagjemdoefldaaaDoorRows
import Derived.LaidMore
import Derived.LaidLaws
import Derived.Stop.LaidErr
import Derived.MakeChecks
namespace Go.Proofs.YtagjemdoefldaaaDoor
open Go.RowKit

theorem laid_iface {P : Program} {n nm : String} {d : DataW Unit} {r : List (String × DataW Unit)} {W : World} {g : Nat} {ti : TypeId} {ms : Array (String × TypeId)}
    (h : laidMet P ((n, .iface nm d) :: r) W) (hg : P.globalNamed n = some g) (ht : (P.globals[g]?).map (·.type) = some ti) (hi : P.underlying ti = some (.interface ms)) :
    g < W.heap.size ∧ ∃ ev, W.cell? ⟨g, 0, none⟩ = some ev ∧ (ev = .nilIface ∨ ∃ te pe, ev = .iface te pe) := by
  obtain ⟨ps, ⟨g0, t0, cs0, f0, p0, q0, hg0, ht0, hv0, hd0, _, e0⟩, _, hrows⟩ := h
  obtain rfl := Option.some.inj (hg.symm.trans hg0)
  obtain rfl := Option.some.inj (ht.symm.trans ht0)
  obtain ⟨f1, u, v, hcs, _, _⟩ := iface_of_trod hi hd0
  have hc := World.var?_cell hg0 hv0 0
  obtain ⟨l0⟩ := cs0
  simp only at hcs
  subst hcs
  have hc2 : W.cell? ⟨g, 0, none⟩ = some (.iface u v) := by simpa using hc
  refine ⟨?_, _, hc2, Or.inr ⟨u, v, rfl⟩⟩
  by_cases hb : g < W.heap.size
  · exact hb
  · simp [World.cell?, Array.getElem?_eq_none (Nat.le_of_not_lt hb)] at hc2

theorem pow10Is : (Rows.laid_internal_strconv_uint64pow10 : DataW Unit) = Lib.tabData .u64 Lib.pow10Tab := by kernel_rfl

theorem lexOk_laid {W : World} (h : laidMetH Tryd.prog Rows.lexKnownRow.laid W) : LexOk W := by
  rw [MakeChecks.laidMetH_plain _ _ _ (by kernel_rfl)] at h
  refine ⟨laid_iface h.tail.tail.tail.tail (by kernel_rfl) (by kernel_rfl) Tryd.underlying56, laid_iface h.tail.tail.tail (by kernel_rfl) (by kernel_rfl) Tryd.underlying56, ?_⟩
  have h3 := h.tail.tail
  rw [pow10Is] at h3
  exact Lib.tabIs_of_head (g := 1) (by kernel_rfl) (by kernel_rfl) Tryd.underlying108 Tryd.underlying70 (by kernel_rfl) (by kernel_rfl) h3

set_option maxHeartbeats 4000000 in
set_option maxRecDepth 1000000 in
theorem known14_any (w : World) (hw : LexOk w) :
    Calls Tryd.prog 3 #[] w fun e w' => e = .returned (.bool true) ∧ Below w.heap.size w w' := by
  have HLX := mkHid (lex_any ⟨#[97, 46, 49]⟩ w hw)
  have HAW := mkHid (fun W (hb : Below w.heap.size w W) => awake_any W (hw.mono hb))
  have HF1 := mkHid (fun W (hb : Below w.heap.size w W) => fails_any ⟨#[49, 97]⟩ W 1 14 lex_1a (hw.mono hb))
  have HF2 := mkHid (fun W (hb : Below w.heap.size w W) => fails_any ⟨#[48, 49]⟩ W 0 12 lex_01 (hw.mono hb))
  have HF3 := mkHid (fun W (hb : Below w.heap.size w W) => fails_any ⟨#[34, 97]⟩ W 0 14 lex_qa (hw.mono hb))
  have HF4 := mkHid (fun W (hb : Below w.heap.size w W) => fails_any ⟨#[97, 32, 63, 32, 98]⟩ W 2 14 lex_qm (hw.mono hb))
  clear hw
  go_enter Tryd.func3, Tryd.ntmps3
  go_wp2_with fail
  refine HLX.out.mono ?_
  clear HLX
  rintro e w1 ⟨⟨lv, rfl, hown⟩, b1⟩
  have el : lexR (⟨#[97, 46, 49]⟩ : ByteArray).data.toList = ([⟨1, [97], 0, 0⟩, ⟨4, [46], 0, 1⟩, ⟨2, [], 1, 2⟩, ⟨0, [], 0, 3⟩], 0, 0) := lex_a1
  rw [el] at hown ⊢
  obtain ⟨a, c, rfl, hT⟩ := own_trow hown
  have HT := mkHid hT
  clear el hown hT
  go_wp2_with fail
  refine (HAW.out _ b1).mono ?_
  rintro e w2 ⟨rfl, b2⟩
  have hb2 := b1.trans (b2.mono b1.size)
  go_wp2_with fail
  refine (HF1.out _ hb2).mono ?_
  rintro e w3 ⟨rfl, b3⟩
  have hb3 := hb2.trans (b3.mono hb2.size)
  go_wp2_with fail
  refine (HF2.out _ hb3).mono ?_
  rintro e w4 ⟨rfl, b4⟩
  have hb4 := hb3.trans (b4.mono hb3.size)
  go_wp2_with fail
  refine (HF3.out _ hb4).mono ?_
  rintro e w5 ⟨rfl, b5⟩
  have hb5 := hb4.trans (b5.mono hb4.size)
  go_wp2_with fail
  refine (HF4.out _ hb5).mono ?_
  rintro e w6 ⟨rfl, b6⟩
  have hb6 := hb5.trans (b6.mono hb5.size)
  have b16 : Below w1.heap.size w1 w6 := (((b2.trans (b3.mono b2.size)).trans (b4.mono (Nat.le_trans b2.size b3.size))).trans (b5.mono (Nat.le_trans (Nat.le_trans b2.size b3.size) b4.size))).trans (b6.mono (Nat.le_trans (Nat.le_trans (Nat.le_trans b2.size b3.size) b4.size) b5.size))
  obtain ⟨g, o, rfl, _, e0, e1, e2, e3⟩ := TRow.below HT.out b16 2 (by decide)
  go_wp2_with fail
  go_ret
  exact ⟨rfl, hb6⟩
end Go.Proofs.YtagjemdoefldaaaDoor
