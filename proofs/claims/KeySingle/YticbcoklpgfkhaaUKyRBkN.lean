/- The document's own back (tidemarkref5) at a Null, a Bool. (Written by tools/mkrback.py.) -/
import Derived.Test.YticbcoklpgfkhaaR3
namespace Go.Proofs.Yticbcoklpgfkhaa
open Go.RowKit
set_option maxHeartbeats 4000000 in
set_option maxRecDepth 1000000 in
theorem rback_null (a : Option Addr) (c p ab : Nat) (l : List UInt8) (w : World) (hB : Byts w a l) (hl : l.length ≤ 1000000000000) (hp : p < l.length) (hx : l.getD p 0 = 10) (hab : ab ≤ 9) :
    Calls Try.prog 41 #[.slice a l.length c, .int .i64 p, .int .i64 ab] w fun e w' => RBSay l p ab w e w' := by
  have hml : maxLen = 9223372036854775807 := rfl
  obtain ⟨Q, hQ⟩ : ∃ Q : Ending → World → Prop, Q = fun e w' => RBSay l p ab w e w' := ⟨_, rfl⟩
  have HQn : Hid (∀ w' (q kk nn : Int) (s : ByteArray) (la : Option Addr) (ln lc : Nat) (fa : Option Addr) (fn fc : Nat), RowKit.Below w.heap.size w w' → NoKey l p ab → Q (.returned (.tuple #[.agg #[.int .i64 kk, .int .i64 nn, .string s, .slice la ln lc, .slice fa fn fc], .int .i64 q, .bool false])) w') := by
    intro w' q kk nn s la ln lc fa fn fc h1 h2
    rw [hQ]
    exact ⟨h1, Or.inr ⟨h2, _, _, _, _, _, _, _, _, _, _, rfl⟩⟩
  have HQy : Hid (∀ w' (g : GV) (q : Nat) (kk nn : Int) (s : ByteArray) (la : Option Addr) (ln lc : Nat) (fa : Option Addr) (fn fc : Nat), RowKit.Below w.heap.size w w' → From w.heap.size w' g (.agg #[.int .i64 kk, .int .i64 nn, .string s, .slice la ln lc, .slice fa fn fc]) → p < q → q ≤ l.length → g.mass + p ≤ q → IsKey l p ab g q → Q (.returned (.tuple #[.agg #[.int .i64 kk, .int .i64 nn, .string s, .slice la ln lc, .slice fa fn fc], .int .i64 (q : Int), .bool true])) w') := by
    intro w' g q kk nn s la ln lc fa fn fc h1 h2 h3 h4 h5 h6
    rw [hQ]
    exact ⟨h1, Or.inl ⟨_, _, _, _, _, _, _, _, _, _, _, rfl, h2, h3, h4, h5, h6⟩⟩
  rw [← hQ]
  clear hQ
  obtain ⟨b, o, rfl⟩ := byts_somme hB (by omega)
  have hc0 := byts_at hB hp hx
  have hc0 : w.cell? ⟨b, o + p, none⟩ = some (.int .u8 10) := hc0
  have hdp := drop_one hp hx
  have hbl : b < w.heap.size := cell_lt' hc0
  have hbl1 : b < w.heap.size + 1 := by omega
  have hbl2 : b < w.heap.size + 1 + 1 := by omega
  have HB := mkHid hB
  obtain ⟨n, hn⟩ : ∃ n, n = l.length := ⟨_, rfl⟩
  have HN := mkHid hn
  rw [← hn] at hp hl ⊢
  have h1 : (p : Int) < (n : Int) := by omega
  have h1n : ¬ n ≤ p := by omega
  have k5 : ¬ ((9 : Int) < (ab : Int)) := by omega
  have HIK : Hid (IsKey l p ab gN (p + 1)) := iskey_null hdp
  clear hx hdp hB hn hab
  go_enter Try.func41, Try.ntmps41
  go_wp2_with fail
  refine bodyPost_ret (v := .tuple #[.agg #[.int .i64 1, .int .i64 0, .string ⟨#[]⟩, .slice none 0 0, .slice none 0 0], .int .i64 ((p + 1 : Nat) : Int), .bool true]) ?_ rfl ?_
  · have hres : Try.f41.results = #[.cell 6 25, .tmp 7, .tmp 8] := by kernel_rfl
    simp only [results, hres]
    go_simp
  · refine HQy.out _ _ _ _ _ _ _ _ _ _ _ _ ?_ (lies_N _) (by omega) (by rw [← HN.out]; omega) (by rw [mass_N.1]; omega) HIK.out
    repeat (first | with_reducible exact RowKit.Below.refl _ _ | refine RowKit.Below.setCell ?_ (by simp <;> omega) _ | apply RowKit.Below.drew | refine RowKit.Below.alloc ?_ (by simp; omega) _ | refine RowKit.Below.alloc ?_ (by simp) _ | refine RowKit.Below.alloc ?_ (Nat.le_refl _) _)
set_option maxHeartbeats 4000000 in
set_option maxRecDepth 1000000 in
theorem rback_bool (a : Option Addr) (c p ab : Nat) (l : List UInt8) (w : World) (hB : Byts w a l) (hl : l.length ≤ 1000000000000) (hp : p < l.length) (hx : l.getD p 0 = 20) (hab : ab ≤ 9) :
    Calls Try.prog 41 #[.slice a l.length c, .int .i64 p, .int .i64 ab] w fun e w' => RBSay l p ab w e w' := by
  have hml : maxLen = 9223372036854775807 := rfl
  obtain ⟨Q, hQ⟩ : ∃ Q : Ending → World → Prop, Q = fun e w' => RBSay l p ab w e w' := ⟨_, rfl⟩
  have HQn : Hid (∀ w' (q kk nn : Int) (s : ByteArray) (la : Option Addr) (ln lc : Nat) (fa : Option Addr) (fn fc : Nat), RowKit.Below w.heap.size w w' → NoKey l p ab → Q (.returned (.tuple #[.agg #[.int .i64 kk, .int .i64 nn, .string s, .slice la ln lc, .slice fa fn fc], .int .i64 q, .bool false])) w') := by
    intro w' q kk nn s la ln lc fa fn fc h1 h2
    rw [hQ]
    exact ⟨h1, Or.inr ⟨h2, _, _, _, _, _, _, _, _, _, _, rfl⟩⟩
  have HQy : Hid (∀ w' (g : GV) (q : Nat) (kk nn : Int) (s : ByteArray) (la : Option Addr) (ln lc : Nat) (fa : Option Addr) (fn fc : Nat), RowKit.Below w.heap.size w w' → From w.heap.size w' g (.agg #[.int .i64 kk, .int .i64 nn, .string s, .slice la ln lc, .slice fa fn fc]) → p < q → q ≤ l.length → g.mass + p ≤ q → IsKey l p ab g q → Q (.returned (.tuple #[.agg #[.int .i64 kk, .int .i64 nn, .string s, .slice la ln lc, .slice fa fn fc], .int .i64 (q : Int), .bool true])) w') := by
    intro w' g q kk nn s la ln lc fa fn fc h1 h2 h3 h4 h5 h6
    rw [hQ]
    exact ⟨h1, Or.inl ⟨_, _, _, _, _, _, _, _, _, _, _, rfl, h2, h3, h4, h5, h6⟩⟩
  rw [← hQ]
  clear hQ
  obtain ⟨b, o, rfl⟩ := byts_somme hB (by omega)
  have hc0 := byts_at hB hp hx
  have hc0 : w.cell? ⟨b, o + p, none⟩ = some (.int .u8 20) := hc0
  have hdp := drop_one hp hx
  have hbl : b < w.heap.size := cell_lt' hc0
  have hbl1 : b < w.heap.size + 1 := by omega
  have hbl2 : b < w.heap.size + 1 + 1 := by omega
  have HB := mkHid hB
  obtain ⟨n, hn⟩ : ∃ n, n = l.length := ⟨_, rfl⟩
  have HN := mkHid hn
  rw [← hn] at hp hl ⊢
  have h1 : (p : Int) < (n : Int) := by omega
  have h1n : ¬ n ≤ p := by omega
  have k5 : ¬ ((9 : Int) < (ab : Int)) := by omega
  obtain ⟨p1, hp1⟩ : ∃ p1, p1 = p + 1 := ⟨_, rfl⟩
  have hpi : (p : Int) + 1 = (p1 : Int) := by omega
  by_cases hend : p1 = n
  · have HNK : Hid (NoKey l p ab) := nokey_bool hdp (by omega)
    have h2 : ¬ ((p1 : Int) < (n : Int)) := by omega
    have h2n : n ≤ p1 := by omega
    clear hx hdp hB hn hab hp1
    go_enter Try.func41, Try.ntmps41
    go_wp2_with fail
    refine bodyPost_ret (v := .tuple #[.agg #[.int .i64 0, .int .i64 0, .string ⟨#[]⟩, .slice none 0 0, .slice none 0 0], .int .i64 0, .bool false]) ?_ rfl ?_
    · have hres : Try.f41.results = #[.cell 6 25, .tmp 7, .tmp 8] := by kernel_rfl
      simp only [results, hres]
      go_simp
    · refine HQn.out _ _ _ _ _ _ _ _ _ _ _ ?_ HNK.out
      repeat (first | with_reducible exact RowKit.Below.refl _ _ | refine RowKit.Below.setCell ?_ (by simp <;> omega) _ | apply RowKit.Below.drew | refine RowKit.Below.alloc ?_ (by simp; omega) _ | refine RowKit.Below.alloc ?_ (by simp) _ | refine RowKit.Below.alloc ?_ (Nat.le_refl _) _)
  · have hp1l : p1 < l.length := by omega
    obtain ⟨y, hy⟩ : ∃ y, l.getD p1 0 = y := ⟨_, rfl⟩
    have hc1 := byts_at HB.out hp1l hy
    have hdq := drop_one hp1l hy
    have HIK : Hid (IsKey l p ab (gB (y.toNat : Int)) (p1 + 1)) := by
      rw [hp1] at hdq ⊢
      exact iskey_bool hdp hdq
    have hy256 := y.toNat_lt
    obtain ⟨z, hz⟩ : ∃ z, z = y.toNat := ⟨_, rfl⟩
    rw [← hz] at hc1 HIK hy256
    have hz256 : z < 256 := hy256
    have h2 : (p1 : Int) < (n : Int) := by omega
    have h2n : ¬ n ≤ p1 := by omega
    have HP1 := mkHid hp1
    clear hx hdp hdq hB hn hab hp1 hy hz hy256 hend hp1l
    go_enter Try.func41, Try.ntmps41
    go_wp2_with fail
    refine bodyPost_ret (v := .tuple #[.agg #[.int .i64 2, .int .i64 (z : Int), .string ⟨#[]⟩, .slice none 0 0, .slice none 0 0], .int .i64 ((p1 + 1 : Nat) : Int), .bool true]) ?_ rfl ?_
    · have hres : Try.f41.results = #[.cell 6 25, .tmp 7, .tmp 8] := by kernel_rfl
      simp only [results, hres]
      go_simp
    · refine HQy.out _ _ _ _ _ _ _ _ _ _ _ _ ?_ (lies_B _ _ ⟨by omega, by omega⟩) (by have := HP1.out; omega) (by rw [← HN.out]; omega) (by rw [mass_N.2.1]; have := HP1.out; omega) HIK.out
      repeat (first | with_reducible exact RowKit.Below.refl _ _ | refine RowKit.Below.setCell ?_ (by simp <;> omega) _ | apply RowKit.Below.drew | refine RowKit.Below.alloc ?_ (by simp; omega) _ | refine RowKit.Below.alloc ?_ (by simp) _ | refine RowKit.Below.alloc ?_ (Nat.le_refl _) _)
end Go.Proofs.Yticbcoklpgfkhaa
