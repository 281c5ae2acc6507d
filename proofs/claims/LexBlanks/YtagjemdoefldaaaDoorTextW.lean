/- Contract of utf.Text: of characters their bytes, of numbers among which one is no character the empty text and the error 11; nothing that was there is changed. -/
import Derived.Test.YtagjemdoefldaaaDoorPart2
namespace Go.Proofs.YtagjemdoefldaaaDoor
open Go.RowKit

def RowIs (k : IntKind) (w : World) (a : Option Addr) (zs : List Int) : Prop :=
  zs.length = 0 ∨ ∃ b off, a = some ⟨b, off, none⟩ ∧ b < w.heap.size ∧ ∀ i, i < zs.length → w.cell? ⟨b, off + i, none⟩ = some (.int k (zs.getD i 0))

theorem RowIs.mono {k : IntKind} {w w' : World} {a : Option Addr} {zs : List Int} {B : Nat} (h : RowIs k w a zs) (hb : Below B w w') (hB : w.heap.size ≤ B) : RowIs k w' a zs := by
  rcases h with h | ⟨b, off, ha, hlt, hc⟩
  · exact Or.inl h
  · exact Or.inr ⟨b, off, ha, Nat.lt_of_lt_of_le hlt hb.size, fun i hi => by rw [hb.cell (p := ⟨b, off + i, none⟩) (Nat.lt_of_lt_of_le hlt hB)]; exact hc i hi⟩

def okAll (zs : List Int) : Bool := zs.all Lib.validRune
def encAll (zs : List Int) : List UInt8 := zs.flatMap Lib.encodeRune
def tText (zs : List Int) : ByteArray := if okAll zs = true then ⟨(encAll zs).toArray⟩ else ⟨#[]⟩
def tErr (zs : List Int) : Int := if okAll zs = true then 0 else 11

theorem encAll_snoc (zs : List Int) (z : Int) : encAll (zs ++ [z]) = encAll zs ++ Lib.encodeRune z := by simp [encAll]

end Go.Proofs.YtagjemdoefldaaaDoor
