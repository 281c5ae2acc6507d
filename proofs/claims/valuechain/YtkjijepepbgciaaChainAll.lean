/- ValueChain: the walk, whatever the three values are; and its row. -/
import Derived.Test.YtkjijepepbgciaaChainX1
import Derived.Test.YtkjijepepbgciaaChainX2
import Derived.Test.YtkjijepepbgciaaChainX3
import Derived.Test.YtkjijepepbgciaaChainX4
import Derived.Test.YtkjijepepbgciaaChainX5
import Derived.Test.YtkjijepepbgciaaChainX6
import Derived.Test.YtkjijepepbgciaaChainX7
import Derived.Test.YtkjijepepbgciaaChainRow
namespace Go.Proofs.Ytkjijepepbgciaa
open Go.RowKit

theorem chain_all : ChainWalk := by
  intro a b c va vb vc w ha hb hc
  by_cases hv : 5000 ≤ a.nodes + b.nodes + c.nodes
  · exact chain_vast a b c va vb vc w ha hb hc hv
  by_cases ea : a.err = 0
  · by_cases eb : b.err = 0
    · by_cases ec : c.err = 0
      · have h3 := T3_cmp a b c ha.real hb.real hc.real
        have o1 := one3_cmp a b ha.real hb.real
        have o2 := one3_cmp b c hb.real hc.real
        have o3 := one3_cmp a c ha.real hc.real
        obtain ⟨x, hx⟩ : ∃ x, a.cmp b = x := ⟨_, rfl⟩
        obtain ⟨z, hz⟩ : ∃ x, b.cmp c = x := ⟨_, rfl⟩
        obtain ⟨y, hy⟩ : ∃ x, a.cmp c = x := ⟨_, rfl⟩
        rw [hx, hz, hy] at h3
        rw [hx] at o1
        rw [hz] at o2
        rw [hy] at o3
        unfold T3 at h3
        unfold one3 at o1 o2 o3
        by_cases x1 : x = 1
        · exact chain_x1 a b c va vb vc w ha hb hc hv ea eb ec x z y hx hz hy x1
        by_cases x0 : x = 0
        · by_cases z1 : z = 1
          · exact chain_x4 a b c va vb vc w ha hb hc hv ea eb ec x z y hx hz hy x0 z1
          by_cases z0 : z = 0
          · exact chain_x3 a b c va vb vc w ha hb hc hv ea eb ec x z y hx hz hy x0 z0 (by omega)
          · exact chain_x2 a b c va vb vc w ha hb hc hv ea eb ec x z y hx hz hy x0 (by omega) (by omega)
        by_cases z1 : z = 1
        · exact chain_x7 a b c va vb vc w ha hb hc hv ea eb ec x z y hx hz hy (by omega) z1
        by_cases z0 : z = 0
        · exact chain_x6 a b c va vb vc w ha hb hc hv ea eb ec x z y hx hz hy (by omega) z0 (by omega)
        · exact chain_x5 a b c va vb vc w ha hb hc hv ea eb ec x z y hx hz hy (by omega) (by omega) (by omega)
      · exact chain_err a b c va vb vc w ha hb hc hv (Or.inr (Or.inr ec))
    · exact chain_err a b c va vb vc w ha hb hc hv (Or.inr (Or.inl eb))
  · exact chain_err a b c va vb vc w ha hb hc hv (Or.inl ea)

/-- ValueChain, for any three values. -/
theorem chain_holds : Rows.ValueChainSaid := chain_row chain_all
end Go.Proofs.Ytkjijepepbgciaa
