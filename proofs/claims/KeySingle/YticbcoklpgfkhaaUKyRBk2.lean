/- The document's own back (tidemarkref5) at any bytes. (Written by tools/mkrback2.py.) -/
import Derived.Test.YticbcoklpgfkhaaUKyRBkF
import Derived.Test.YticbcoklpgfkhaaUKyRBkN
import Derived.Test.YticbcoklpgfkhaaUKyRBkI
import Derived.Test.YticbcoklpgfkhaaUKyRBkT
import Derived.Test.YticbcoklpgfkhaaUKyRBkL
import Derived.Test.YticbcoklpgfkhaaUKyRBkD
namespace Go.Proofs.Yticbcoklpgfkhaa
open Go.RowKit

theorem rback_out (a : Option Addr) (c p ab : Nat) (l : List UInt8) (w : World) (hB : Byts w a l) (hl : l.length ≤ 1000000000000) (h : 9 < ab ∨ l.length ≤ p ∨ (l.getD p 0).toNat < 10 ∨ 60 < (l.getD p 0).toNat ∨ ¬ (l.getD p 0).toNat % 10 = 0) :
    Calls Try.prog 41 #[.slice a l.length c, .int .i64 p, .int .i64 ab] w fun e w' => RBSay l p ab w e w' := by
  by_cases hp : p < l.length
  · obtain ⟨x, hx⟩ : ∃ x, l.getD p 0 = x := ⟨_, rfl⟩
    rw [hx] at h
    by_cases h1 : x.toNat < 10
    · exact rback_low a c p ab l w hB hl x hp hx h1
    by_cases h2 : 60 < x.toNat
    · exact rback_high a c p ab l w hB hl x hp hx h2
    by_cases h3 : x.toNat % 10 = 0
    · exact rback_deep a c p ab l w hB hl x hp hx h3 h1 h2 (by rcases h with h | h | h | h | h; exact h; omega; exact absurd h h1; exact absurd h h2; exact absurd h3 h)
    · exact rback_mod a c p ab l w hB hl x hp hx h3 h1 h2
  · exact rback_end a c p ab l w hB hl (by omega)
/-- The document's own back, of any bytes. -/
theorem rback_any (a : Option Addr) (c : Nat) (l : List UInt8) (hl : l.length ≤ 1000000000000) : ∀ (d ab p : Nat) (w : World), d + ab = 10 → Byts w a l → Calls Try.prog 41 #[.slice a l.length c, .int .i64 p, .int .i64 ab] w fun e w' => RBSay l p ab w e w' := by
  intro d
  induction d with
  | zero => exact fun ab p w hd hB => rback_out a c p ab l w hB hl (Or.inl (by omega))
  | succ d ih =>
    intro ab p w hd hB
    have hIH : ∀ (u : World) (q : Nat), RowKit.Below w.heap.size w u → q ≤ l.length → Calls Try.prog 41 #[.slice a l.length c, .int .i64 q, .int .i64 ((ab : Int) + 1)] u fun e w' => RBSay l q (ab + 1) u e w' := fun u q hu _ => by
      have h := ih (ab + 1) q u (by omega) (hB.below hu)
      rw [show ((ab + 1 : Nat) : Int) = (ab : Int) + 1 by omega] at h
      exact h
    by_cases hp : p < l.length
    · obtain ⟨x, hx⟩ : ∃ x, l.getD p 0 = x := ⟨_, rfl⟩
      by_cases h1 : x.toNat < 10
      · exact rback_out a c p ab l w hB hl (by rw [hx]; exact Or.inr (Or.inr (Or.inl h1)))
      by_cases h2 : 60 < x.toNat
      · exact rback_out a c p ab l w hB hl (by rw [hx]; exact Or.inr (Or.inr (Or.inr (Or.inl h2))))
      by_cases h3 : x.toNat % 10 = 0
      · have hab : ab ≤ 9 := by omega
        have hk : x.toNat = 10 ∨ x.toNat = 20 ∨ x.toNat = 30 ∨ x.toNat = 40 ∨ x.toNat = 50 ∨ x.toNat = 60 := by omega
        have e : ∀ y : UInt8, x.toNat = y.toNat → l.getD p 0 = y := fun y h => by rw [hx]; exact UInt8.toNat_inj.1 h
        rcases hk with h | h | h | h | h | h
        · exact rback_null a c p ab l w hB hl hp (e 10 h) hab
        · exact rback_bool a c p ab l w hB hl hp (e 20 h) hab
        · exact rback_int a c p ab l w hB hl hp (e 30 h) hab
        · exact rback_text a c p ab l w hB hl hp (e 40 h) hab
        · exact rback_list a c p ab l w hB hl hp (e 50 h) hab hIH
        · exact rback_doc a c p ab l w hB hl hp (e 60 h) hab hIH
      · exact rback_out a c p ab l w hB hl (by rw [hx]; exact Or.inr (Or.inr (Or.inr (Or.inr h3))))
    · exact rback_out a c p ab l w hB hl (Or.inr (Or.inl (by omega)))
end Go.Proofs.Yticbcoklpgfkhaa
