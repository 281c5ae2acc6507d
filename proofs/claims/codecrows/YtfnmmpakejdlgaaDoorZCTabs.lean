/- The two tables of unicode/utf8 out of what a row lays. -/
import Derived.Test.YtfnmmpakejdlgaaDoorZCVal0
import Derived.Test.YtfnmmpakejdlgaaDoorRows
import Derived.Lib.LaidU8T
import Derived.MakeChecks
namespace Go.Proofs.YtfnmmpakejdlgaaDoor
open Go.RowKit

def tabRen : Go.Shelf.Ren := ⟨fun n => n, fun | 5 => 5 | 119 => 115 | 138 => 117 | 139 => 118 | n => n, fun | 3 => 0 | 4 => 1 | n => n⟩
theorem tabTypes : U8Types Tryd.prog tabRen := { t5 := Tryd.underlying5, t119 := Tryd.underlying115, t138 := Tryd.underlying117, t139 := Tryd.underlying118 }
theorem tabExtra : U8Extra Tryd.prog tabRen := { n3 := by kernel_rfl, n4 := by kernel_rfl, y3 := by kernel_rfl, y4 := by kernel_rfl, c5 := by kernel_rfl, c119 := by kernel_rfl, c138 := by kernel_rfl }
theorem firstIs : Rows.laid_unicode_utf8_first = Lib.firstData := by kernel_rfl
theorem acceptIs : (Rows.laid_unicode_utf8_acceptRanges : DataW Unit) = Lib.acceptData := by kernel_rfl

theorem tabs_laid {W : World} (h : laidMetH Tryd.prog [("unicode/utf8.acceptRanges", Rows.laid_unicode_utf8_acceptRanges), ("unicode/utf8.first", Rows.laid_unicode_utf8_first)] W) : Tabs W := by
  rw [MakeChecks.laidMetH_plain _ _ _ (by kernel_rfl)] at h
  have h3 := Lib.laidMet.reads h (n := "unicode/utf8.first") (d := Rows.laid_unicode_utf8_first) (by simp)
  have h4 := Lib.laidMet.reads h (n := "unicode/utf8.acceptRanges") (d := Rows.laid_unicode_utf8_acceptRanges) (by simp)
  rw [firstIs] at h3
  rw [acceptIs] at h4
  exact utf8Tabs_of_readsT tabTypes tabExtra h3 h4
end Go.Proofs.YtfnmmpakejdlgaaDoor
