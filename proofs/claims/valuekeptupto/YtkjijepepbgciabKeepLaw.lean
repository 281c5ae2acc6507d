/- ValueKept of any fields, any value, any name: the walk with the contracts put in. -/
import Derived.Test.YtkjijepepbgciabKeptW
import Derived.Test.YtkjijepepbgciabSameM
import Derived.Test.YtkjijepepbgciabRMake
namespace Go.Proofs.Ytkjijepepbgciab
open Go.RowKit

theorem sum1k (g : GV) : sumN (fun _ => g) 1 = g.nodes := by simp [sumN]

theorem keepLaw_any (d : List Fl) (fa : Option Addr) (fc : Nat) (g : GV) (v : Value) (name : ByteArray) (w : World) (hr : FRow w fa d) (hd : ∀ x ∈ d, x.ok w) (hL : Lies w g v) (hM : massF d ≤ 1048576) (hlen : d.length ≤ 2000000) (hfa : fa = none → d.length = 0 ∧ fc = 0) :
    Calls Try.prog 4 #[.slice fa d.length fc, v, .string name] w fun e w' => e = .returned (.bool true) ∧ RowKit.Below w.heap.size w w' := by
  have HL := hL
  obtain ⟨k1, n1, s1, la1, ln1, lc1, fa1, fn1, fc1, rfl⟩ := hL.agg
  have hVA : ∀ u : World, RowKit.Below w.heap.size w u → Calls Try.prog 13 #[.slice (some ⟨u.heap.size, 0, none⟩) 1 1] (u.alloc (.cells #[.int .i64 k1, .int .i64 n1, .string s1, .slice la1 ln1 lc1, .slice fa1 fn1 fc1] 26)) fun e w' => e = .returned (.bool (decide (5000 ≤ g.nodes))) ∧ RowKit.Below (u.alloc (.cells #[.int .i64 k1, .int .i64 n1, .string s1, .slice la1 ln1 lc1, .slice fa1 fn1 fc1] 26)).heap.size (u.alloc (.cells #[.int .i64 k1, .int .i64 n1, .string s1, .slice la1 ln1 lc1, .slice fa1 fn1 fc1] 26)) w' := by
    intro u hu
    have h := Vast_any _ 1 1 _ _ (by decide) (vals1 (w := u) (t := 26) (HL.below hu) rfl)
    rw [sum1k] at h
    exact h
  have hVF : ∀ u : World, RowKit.Below w.heap.size w u → Calls Try.prog 14 #[.slice fa d.length fc] u fun e w' => e = .returned (.bool (decide (5000 ≤ nodesF d))) ∧ RowKit.Below u.heap.size u w' := by
    intro u hu
    have h := VastFields_any fa d.length fc (nmOf d) (gOf d) u (by omega) ((FRow.below hr hu).flds (fun x hx => (hd x hx).below hu))
    rw [sum_nodesF] at h
    exact h
  by_cases hA : 5000 ≤ g.nodes
  · rw [decide_eq_true hA] at hVA
    exact kept_vast1 fa fc d.length k1 n1 s1 la1 ln1 lc1 fa1 fn1 fc1 name w hVA
  · rw [decide_eq_false hA] at hVA
    by_cases hB : 5000 ≤ nodesF d
    · rw [decide_eq_true hB] at hVF
      exact kept_vast2 fa fc d.length k1 n1 s1 la1 ln1 lc1 fa1 fn1 fc1 name w hVA hVF
    · rw [decide_eq_false hB] at hVF
      have hMC : ∀ (u : World) (a : Option Addr) (c : Nat), RowKit.Below w.heap.size w u → FRow u a d → Calls Try.prog 15 #[.slice a d.length c] u fun e w' => ∃ v, e = .returned (.tuple #[v, .int .i64 (mkErr d)]) ∧ Lies w' (mkTree d) v ∧ Top u.heap.size w' v ∧ RowKit.Below u.heap.size u w' := by
        intro u a c hu hrow
        refine (Make_any d a c u hrow (fun x hx => (hd x hx).below hu) (by omega) (by omega)).mono ?_
        rintro e w' ⟨v, h1, h2, h3, h4⟩
        exact ⟨v, h1, h2.lies, h3, h4⟩
      have hRM : ∀ u : World, RowKit.Below w.heap.size w u → Calls Try.prog 16 #[.slice fa d.length fc] u fun e w' => ∃ v, e = .returned (.tuple #[v, .int .i64 (mkErr d)]) ∧ Lies w' (mkTree d) v ∧ RowKit.Below u.heap.size u w' :=
        fun u hu => rMake_any d fa fc u (FRow.below hr hu) (fun x hx => (hd x hx).below hu) hM hlen
      have hFD : ∀ u : World, RowKit.Below w.heap.size w u → Calls Try.prog 17 #[.agg #[.int .i64 k1, .int .i64 n1, .string s1, .slice la1 ln1 lc1, .slice fa1 fn1 fc1], .string name] u fun e w' => ∃ v, e = .returned (.tuple #[v, .bool (g.find name).isSome]) ∧ Lies w' (optSay (g.find name)) v ∧ Top u.heap.size w' v ∧ RowKit.Below u.heap.size u w' := by
        intro u hu
        refine (Find_any g name _ u (HL.below hu) (by omega)).mono ?_
        rintro e w' ⟨v, h1, h2, h3, h4⟩
        exact ⟨v, h1, h2.lies, h3, h4⟩
      have hRF : ∀ u : World, RowKit.Below w.heap.size w u → Calls Try.prog 18 #[.agg #[.int .i64 k1, .int .i64 n1, .string s1, .slice la1 ln1 lc1, .slice fa1 fn1 fc1], .string name] u fun e w' => ∃ v, e = .returned (.tuple #[v, .bool (g.find name).isSome]) ∧ Lies w' (optSay (g.find name)) v ∧ RowKit.Below u.heap.size u w' :=
        fun u hu => rFind_any g name _ u (HL.below hu)
      have hSM : ∀ (u : World) (va vb : Value) (T : GV), Lies u T va → Lies u T vb → Calls Try.prog 19 #[va, vb] u fun e w' => e = .returned (.bool true) ∧ RowKit.Below u.heap.size u w' := by
        intro u va vb T h1 h2
        have h := sameLawM T T va vb u h1 h2
        rw [same_refl h1] at h
        exact h
      cases fa with
      | none =>
        obtain ⟨h0, rfl⟩ := hfa rfl
        exact kept_none d d.length k1 n1 s1 la1 ln1 lc1 fa1 fn1 fc1 name w (mkErr d) (mkTree d) (optSay (g.find name)) (g.find name).isSome rfl hlen hr h0 (List.length_eq_zero_iff.1 h0) hVA hVF hMC hRM hFD hRF (fun x hx => (hd x hx).1) hSM
      | some ad => exact kept_some d ad fc d.length k1 n1 s1 la1 ln1 lc1 fa1 fn1 fc1 name w (mkErr d) (mkTree d) (optSay (g.find name)) (g.find name).isSome rfl hlen hr hVA hVF hMC hRM hFD hRF (fun x hx => (hd x hx).1) hSM
end Go.Proofs.Ytkjijepepbgciab
