/- The document's own back (tidemarkref5) at what it refuses at once. (Written by tools/mkrback.py.) -/
import Derived.Test.YticbcoklpgfkhaaR3
namespace Go.Proofs.Yticbcoklpgfkhaa
open Go.RowKit
set_option maxHeartbeats 4000000 in
set_option maxRecDepth 1000000 in
theorem rback_end (a : Option Addr) (c p ab : Nat) (l : List UInt8) (w : World) (_hB : Byts w a l) (_hl : l.length ≤ 1000000000000) (hp : l.length ≤ p) :
    Calls Try.prog 41 #[.slice a l.length c, .int .i64 p, .int .i64 ab] w fun e w' => RBSay l p ab w e w' := by
  have hml : maxLen = 9223372036854775807 := rfl
  obtain ⟨Q, hQ⟩ : ∃ Q : Ending → World → Prop, Q = fun e w' => RBSay l p ab w e w' := ⟨_, rfl⟩
  have HQn : Hid (∀ w' (q kk nn : Int) (s : ByteArray) (la : Option Addr) (ln lc : Nat) (fa : Option Addr) (fn fc : Nat), RowKit.Below w.heap.size w w' → NoKey l p ab → Q (.returned (.tuple #[.agg #[.int .i64 kk, .int .i64 nn, .string s, .slice la ln lc, .slice fa fn fc], .int .i64 q, .bool false])) w') := by
    intro w' q kk nn s la ln lc fa fn fc h1 h2
    rw [hQ]
    exact ⟨h1, Or.inr ⟨h2, _, _, _, _, _, _, _, _, _, _, rfl⟩⟩
  have HQy : Hid (∀ w' (g : GV) (q : Nat) (kk nn : Int) (s : ByteArray) (la : Option Addr) (ln lc : Nat) (fa : Option Addr) (fn fc : Nat), RowKit.Below w.heap.size w w' → From w.heap.size w' g (.agg #[.int .i64 kk, .int .i64 nn, .string s, .slice la ln lc, .slice fa fn fc]) → p < q → q ≤ l.length → g.mass + p ≤ q → IsKey l p ab g q → Q (.returned (.tuple #[.agg #[.int .i64 kk, .int .i64 nn, .string s, .slice la ln lc, .slice fa fn fc], .int .i64 (q : Int), .bool true])) w') := by
    intro w' g q kk nn s la ln lc fa fn fc h1 h2 h3 h4 h5 h6
    rw [hQ]
    exact ⟨h1, Or.inl ⟨_, _, _, _, _, _, _, _, _, _, _, rfl, h2, h3, h4, h5, h6⟩⟩
  rw [← hQ]
  clear hQ
  have HNK : Hid (NoKey l p ab) := nokey_end hp
  obtain ⟨n, hn⟩ : ∃ n, n = l.length := ⟨_, rfl⟩
  rw [← hn] at hp ⊢
  have h1 : ¬ ((p : Int) < (n : Int)) := by omega
  clear hn
  go_enter Try.func41, Try.ntmps41
  go_wp2_with fail
  refine bodyPost_ret (v := .tuple #[.agg #[.int .i64 0, .int .i64 0, .string ⟨#[]⟩, .slice none 0 0, .slice none 0 0], .int .i64 0, .bool false]) ?_ rfl ?_
  · have hres : Try.f41.results = #[.cell 6 25, .tmp 7, .tmp 8] := by kernel_rfl
    simp only [results, hres]
    go_simp
  · refine HQn.out _ _ _ _ _ _ _ _ _ _ _ ?_ HNK.out
    repeat (first | with_reducible exact RowKit.Below.refl _ _ | refine RowKit.Below.setCell ?_ (by simp <;> omega) _ | apply RowKit.Below.drew | refine RowKit.Below.alloc ?_ (by simp; omega) _ | refine RowKit.Below.alloc ?_ (by simp) _ | refine RowKit.Below.alloc ?_ (Nat.le_refl _) _)
set_option maxHeartbeats 4000000 in
set_option maxRecDepth 1000000 in
theorem rback_low (a : Option Addr) (c p ab : Nat) (l : List UInt8) (w : World) (hB : Byts w a l) (hl : l.length ≤ 1000000000000) (x : UInt8) (hp : p < l.length) (hx : l.getD p 0 = x) (hk : x.toNat < 10) :
    Calls Try.prog 41 #[.slice a l.length c, .int .i64 p, .int .i64 ab] w fun e w' => RBSay l p ab w e w' := by
  have hml : maxLen = 9223372036854775807 := rfl
  obtain ⟨Q, hQ⟩ : ∃ Q : Ending → World → Prop, Q = fun e w' => RBSay l p ab w e w' := ⟨_, rfl⟩
  have HQn : Hid (∀ w' (q kk nn : Int) (s : ByteArray) (la : Option Addr) (ln lc : Nat) (fa : Option Addr) (fn fc : Nat), RowKit.Below w.heap.size w w' → NoKey l p ab → Q (.returned (.tuple #[.agg #[.int .i64 kk, .int .i64 nn, .string s, .slice la ln lc, .slice fa fn fc], .int .i64 q, .bool false])) w') := by
    intro w' q kk nn s la ln lc fa fn fc h1 h2
    rw [hQ]
    exact ⟨h1, Or.inr ⟨h2, _, _, _, _, _, _, _, _, _, _, rfl⟩⟩
  have HQy : Hid (∀ w' (g : GV) (q : Nat) (kk nn : Int) (s : ByteArray) (la : Option Addr) (ln lc : Nat) (fa : Option Addr) (fn fc : Nat), RowKit.Below w.heap.size w w' → From w.heap.size w' g (.agg #[.int .i64 kk, .int .i64 nn, .string s, .slice la ln lc, .slice fa fn fc]) → p < q → q ≤ l.length → g.mass + p ≤ q → IsKey l p ab g q → Q (.returned (.tuple #[.agg #[.int .i64 kk, .int .i64 nn, .string s, .slice la ln lc, .slice fa fn fc], .int .i64 (q : Int), .bool true])) w') := by
    intro w' g q kk nn s la ln lc fa fn fc h1 h2 h3 h4 h5 h6
    rw [hQ]
    exact ⟨h1, Or.inl ⟨_, _, _, _, _, _, _, _, _, _, _, rfl, h2, h3, h4, h5, h6⟩⟩
  rw [← hQ]
  clear hQ
  obtain ⟨b, o, rfl⟩ := byts_somme hB (by omega)
  have hc0 := byts_at hB hp hx
  have hdp := drop_one hp hx
  have hbl : b < w.heap.size := cell_lt' hc0
  have hbl1 : b < w.heap.size + 1 := by omega
  have hbl2 : b < w.heap.size + 1 + 1 := by omega
  have HB := mkHid hB
  obtain ⟨n, hn⟩ : ∃ n, n = l.length := ⟨_, rfl⟩
  have HN := mkHid hn
  rw [← hn] at hp hl ⊢
  have h1 : (p : Int) < (n : Int) := by omega
  have h1n : ¬ n ≤ p := by omega
  have HNK : Hid (NoKey l p ab) := nokey_of hdp ⟨by rintro rfl; simp at hk, by rintro rfl; simp at hk, by rintro rfl; simp at hk, by rintro rfl; simp at hk, by rintro rfl; simp at hk, by rintro rfl; simp at hk⟩
  obtain ⟨y, hy⟩ : ∃ y, y = x.toNat := ⟨_, rfl⟩
  have hy256 : y < 256 := by rw [hy]; exact x.toNat_lt
  rw [← hy] at hk hc0
  have k1 : (y : Int) < 10 := by omega
  clear hx hdp hB hn hy hk
  go_enter Try.func41, Try.ntmps41
  go_wp2_with fail
  refine bodyPost_ret (v := .tuple #[.agg #[.int .i64 0, .int .i64 0, .string ⟨#[]⟩, .slice none 0 0, .slice none 0 0], .int .i64 0, .bool false]) ?_ rfl ?_
  · have hres : Try.f41.results = #[.cell 6 25, .tmp 7, .tmp 8] := by kernel_rfl
    simp only [results, hres]
    go_simp
  · refine HQn.out _ _ _ _ _ _ _ _ _ _ _ ?_ HNK.out
    repeat (first | with_reducible exact RowKit.Below.refl _ _ | refine RowKit.Below.setCell ?_ (by simp <;> omega) _ | apply RowKit.Below.drew | refine RowKit.Below.alloc ?_ (by simp; omega) _ | refine RowKit.Below.alloc ?_ (by simp) _ | refine RowKit.Below.alloc ?_ (Nat.le_refl _) _)
set_option maxHeartbeats 4000000 in
set_option maxRecDepth 1000000 in
theorem rback_high (a : Option Addr) (c p ab : Nat) (l : List UInt8) (w : World) (hB : Byts w a l) (hl : l.length ≤ 1000000000000) (x : UInt8) (hp : p < l.length) (hx : l.getD p 0 = x) (hk : 60 < x.toNat) :
    Calls Try.prog 41 #[.slice a l.length c, .int .i64 p, .int .i64 ab] w fun e w' => RBSay l p ab w e w' := by
  have hml : maxLen = 9223372036854775807 := rfl
  obtain ⟨Q, hQ⟩ : ∃ Q : Ending → World → Prop, Q = fun e w' => RBSay l p ab w e w' := ⟨_, rfl⟩
  have HQn : Hid (∀ w' (q kk nn : Int) (s : ByteArray) (la : Option Addr) (ln lc : Nat) (fa : Option Addr) (fn fc : Nat), RowKit.Below w.heap.size w w' → NoKey l p ab → Q (.returned (.tuple #[.agg #[.int .i64 kk, .int .i64 nn, .string s, .slice la ln lc, .slice fa fn fc], .int .i64 q, .bool false])) w') := by
    intro w' q kk nn s la ln lc fa fn fc h1 h2
    rw [hQ]
    exact ⟨h1, Or.inr ⟨h2, _, _, _, _, _, _, _, _, _, _, rfl⟩⟩
  have HQy : Hid (∀ w' (g : GV) (q : Nat) (kk nn : Int) (s : ByteArray) (la : Option Addr) (ln lc : Nat) (fa : Option Addr) (fn fc : Nat), RowKit.Below w.heap.size w w' → From w.heap.size w' g (.agg #[.int .i64 kk, .int .i64 nn, .string s, .slice la ln lc, .slice fa fn fc]) → p < q → q ≤ l.length → g.mass + p ≤ q → IsKey l p ab g q → Q (.returned (.tuple #[.agg #[.int .i64 kk, .int .i64 nn, .string s, .slice la ln lc, .slice fa fn fc], .int .i64 (q : Int), .bool true])) w') := by
    intro w' g q kk nn s la ln lc fa fn fc h1 h2 h3 h4 h5 h6
    rw [hQ]
    exact ⟨h1, Or.inl ⟨_, _, _, _, _, _, _, _, _, _, _, rfl, h2, h3, h4, h5, h6⟩⟩
  rw [← hQ]
  clear hQ
  obtain ⟨b, o, rfl⟩ := byts_somme hB (by omega)
  have hc0 := byts_at hB hp hx
  have hdp := drop_one hp hx
  have hbl : b < w.heap.size := cell_lt' hc0
  have hbl1 : b < w.heap.size + 1 := by omega
  have hbl2 : b < w.heap.size + 1 + 1 := by omega
  have HB := mkHid hB
  obtain ⟨n, hn⟩ : ∃ n, n = l.length := ⟨_, rfl⟩
  have HN := mkHid hn
  rw [← hn] at hp hl ⊢
  have h1 : (p : Int) < (n : Int) := by omega
  have h1n : ¬ n ≤ p := by omega
  have HNK : Hid (NoKey l p ab) := nokey_of hdp ⟨by rintro rfl; simp at hk, by rintro rfl; simp at hk, by rintro rfl; simp at hk, by rintro rfl; simp at hk, by rintro rfl; simp at hk, by rintro rfl; simp at hk⟩
  obtain ⟨y, hy⟩ : ∃ y, y = x.toNat := ⟨_, rfl⟩
  have hy256 : y < 256 := by rw [hy]; exact x.toNat_lt
  rw [← hy] at hk hc0
  have k1 : ¬ ((y : Int) < 10) := by omega
  have k2 : (60 : Int) < (y : Int) := by omega
  clear hx hdp hB hn hy hk
  go_enter Try.func41, Try.ntmps41
  go_wp2_with fail
  refine bodyPost_ret (v := .tuple #[.agg #[.int .i64 0, .int .i64 0, .string ⟨#[]⟩, .slice none 0 0, .slice none 0 0], .int .i64 0, .bool false]) ?_ rfl ?_
  · have hres : Try.f41.results = #[.cell 6 25, .tmp 7, .tmp 8] := by kernel_rfl
    simp only [results, hres]
    go_simp
  · refine HQn.out _ _ _ _ _ _ _ _ _ _ _ ?_ HNK.out
    repeat (first | with_reducible exact RowKit.Below.refl _ _ | refine RowKit.Below.setCell ?_ (by simp <;> omega) _ | apply RowKit.Below.drew | refine RowKit.Below.alloc ?_ (by simp; omega) _ | refine RowKit.Below.alloc ?_ (by simp) _ | refine RowKit.Below.alloc ?_ (Nat.le_refl _) _)
set_option maxHeartbeats 4000000 in
set_option maxRecDepth 1000000 in
theorem rback_mod (a : Option Addr) (c p ab : Nat) (l : List UInt8) (w : World) (hB : Byts w a l) (hl : l.length ≤ 1000000000000) (x : UInt8) (hp : p < l.length) (hx : l.getD p 0 = x) (hk : ¬ x.toNat % 10 = 0) (hk1 : ¬ x.toNat < 10) (hk2 : ¬ 60 < x.toNat) :
    Calls Try.prog 41 #[.slice a l.length c, .int .i64 p, .int .i64 ab] w fun e w' => RBSay l p ab w e w' := by
  have hml : maxLen = 9223372036854775807 := rfl
  obtain ⟨Q, hQ⟩ : ∃ Q : Ending → World → Prop, Q = fun e w' => RBSay l p ab w e w' := ⟨_, rfl⟩
  have HQn : Hid (∀ w' (q kk nn : Int) (s : ByteArray) (la : Option Addr) (ln lc : Nat) (fa : Option Addr) (fn fc : Nat), RowKit.Below w.heap.size w w' → NoKey l p ab → Q (.returned (.tuple #[.agg #[.int .i64 kk, .int .i64 nn, .string s, .slice la ln lc, .slice fa fn fc], .int .i64 q, .bool false])) w') := by
    intro w' q kk nn s la ln lc fa fn fc h1 h2
    rw [hQ]
    exact ⟨h1, Or.inr ⟨h2, _, _, _, _, _, _, _, _, _, _, rfl⟩⟩
  have HQy : Hid (∀ w' (g : GV) (q : Nat) (kk nn : Int) (s : ByteArray) (la : Option Addr) (ln lc : Nat) (fa : Option Addr) (fn fc : Nat), RowKit.Below w.heap.size w w' → From w.heap.size w' g (.agg #[.int .i64 kk, .int .i64 nn, .string s, .slice la ln lc, .slice fa fn fc]) → p < q → q ≤ l.length → g.mass + p ≤ q → IsKey l p ab g q → Q (.returned (.tuple #[.agg #[.int .i64 kk, .int .i64 nn, .string s, .slice la ln lc, .slice fa fn fc], .int .i64 (q : Int), .bool true])) w') := by
    intro w' g q kk nn s la ln lc fa fn fc h1 h2 h3 h4 h5 h6
    rw [hQ]
    exact ⟨h1, Or.inl ⟨_, _, _, _, _, _, _, _, _, _, _, rfl, h2, h3, h4, h5, h6⟩⟩
  rw [← hQ]
  clear hQ
  obtain ⟨b, o, rfl⟩ := byts_somme hB (by omega)
  have hc0 := byts_at hB hp hx
  have hdp := drop_one hp hx
  have hbl : b < w.heap.size := cell_lt' hc0
  have hbl1 : b < w.heap.size + 1 := by omega
  have hbl2 : b < w.heap.size + 1 + 1 := by omega
  have HB := mkHid hB
  obtain ⟨n, hn⟩ : ∃ n, n = l.length := ⟨_, rfl⟩
  have HN := mkHid hn
  rw [← hn] at hp hl ⊢
  have h1 : (p : Int) < (n : Int) := by omega
  have h1n : ¬ n ≤ p := by omega
  have HNK : Hid (NoKey l p ab) := nokey_of hdp ⟨by rintro rfl; simp at hk, by rintro rfl; simp at hk, by rintro rfl; simp at hk, by rintro rfl; simp at hk, by rintro rfl; simp at hk, by rintro rfl; simp at hk⟩
  obtain ⟨y, hy⟩ : ∃ y, y = x.toNat := ⟨_, rfl⟩
  have hy256 : y < 256 := by rw [hy]; exact x.toNat_lt
  rw [← hy] at hk hc0 hk1 hk2
  have k1 : ¬ ((y : Int) < 10) := by omega
  have k2 : ¬ ((60 : Int) < (y : Int)) := by omega
  have k3 : ((y : Int).tmod 10 == 0) = false := by simp only [beq_eq_false_iff_ne, ne_eq]; rw [Int.tmod_eq_emod_of_nonneg (by omega)]; omega
  have k4 : ¬ (y % 10 = 0) := by omega
  clear hx hdp hB hn hy hk hk1 hk2
  go_enter Try.func41, Try.ntmps41
  go_wp2_with fail
  refine bodyPost_ret (v := .tuple #[.agg #[.int .i64 0, .int .i64 0, .string ⟨#[]⟩, .slice none 0 0, .slice none 0 0], .int .i64 0, .bool false]) ?_ rfl ?_
  · have hres : Try.f41.results = #[.cell 6 25, .tmp 7, .tmp 8] := by kernel_rfl
    simp only [results, hres]
    go_simp
  · refine HQn.out _ _ _ _ _ _ _ _ _ _ _ ?_ HNK.out
    repeat (first | with_reducible exact RowKit.Below.refl _ _ | refine RowKit.Below.setCell ?_ (by simp <;> omega) _ | apply RowKit.Below.drew | refine RowKit.Below.alloc ?_ (by simp; omega) _ | refine RowKit.Below.alloc ?_ (by simp) _ | refine RowKit.Below.alloc ?_ (Nat.le_refl _) _)
set_option maxHeartbeats 4000000 in
set_option maxRecDepth 1000000 in
theorem rback_deep (a : Option Addr) (c p ab : Nat) (l : List UInt8) (w : World) (hB : Byts w a l) (hl : l.length ≤ 1000000000000) (x : UInt8) (hp : p < l.length) (hx : l.getD p 0 = x) (hk : x.toNat % 10 = 0) (hk1 : ¬ x.toNat < 10) (hk2 : ¬ 60 < x.toNat) (hab : 9 < ab) :
    Calls Try.prog 41 #[.slice a l.length c, .int .i64 p, .int .i64 ab] w fun e w' => RBSay l p ab w e w' := by
  have hml : maxLen = 9223372036854775807 := rfl
  obtain ⟨Q, hQ⟩ : ∃ Q : Ending → World → Prop, Q = fun e w' => RBSay l p ab w e w' := ⟨_, rfl⟩
  have HQn : Hid (∀ w' (q kk nn : Int) (s : ByteArray) (la : Option Addr) (ln lc : Nat) (fa : Option Addr) (fn fc : Nat), RowKit.Below w.heap.size w w' → NoKey l p ab → Q (.returned (.tuple #[.agg #[.int .i64 kk, .int .i64 nn, .string s, .slice la ln lc, .slice fa fn fc], .int .i64 q, .bool false])) w') := by
    intro w' q kk nn s la ln lc fa fn fc h1 h2
    rw [hQ]
    exact ⟨h1, Or.inr ⟨h2, _, _, _, _, _, _, _, _, _, _, rfl⟩⟩
  have HQy : Hid (∀ w' (g : GV) (q : Nat) (kk nn : Int) (s : ByteArray) (la : Option Addr) (ln lc : Nat) (fa : Option Addr) (fn fc : Nat), RowKit.Below w.heap.size w w' → From w.heap.size w' g (.agg #[.int .i64 kk, .int .i64 nn, .string s, .slice la ln lc, .slice fa fn fc]) → p < q → q ≤ l.length → g.mass + p ≤ q → IsKey l p ab g q → Q (.returned (.tuple #[.agg #[.int .i64 kk, .int .i64 nn, .string s, .slice la ln lc, .slice fa fn fc], .int .i64 (q : Int), .bool true])) w') := by
    intro w' g q kk nn s la ln lc fa fn fc h1 h2 h3 h4 h5 h6
    rw [hQ]
    exact ⟨h1, Or.inl ⟨_, _, _, _, _, _, _, _, _, _, _, rfl, h2, h3, h4, h5, h6⟩⟩
  rw [← hQ]
  clear hQ
  obtain ⟨b, o, rfl⟩ := byts_somme hB (by omega)
  have hc0 := byts_at hB hp hx
  have hdp := drop_one hp hx
  have hbl : b < w.heap.size := cell_lt' hc0
  have hbl1 : b < w.heap.size + 1 := by omega
  have hbl2 : b < w.heap.size + 1 + 1 := by omega
  have HB := mkHid hB
  obtain ⟨n, hn⟩ : ∃ n, n = l.length := ⟨_, rfl⟩
  have HN := mkHid hn
  rw [← hn] at hp hl ⊢
  have h1 : (p : Int) < (n : Int) := by omega
  have h1n : ¬ n ≤ p := by omega
  have HNK : Hid (NoKey l p ab) := nokey_deep hab
  obtain ⟨y, hy⟩ : ∃ y, y = x.toNat := ⟨_, rfl⟩
  have hy256 : y < 256 := by rw [hy]; exact x.toNat_lt
  rw [← hy] at hk hc0 hk1 hk2
  have k1 : ¬ ((y : Int) < 10) := by omega
  have k2 : ¬ ((60 : Int) < (y : Int)) := by omega
  have k3 : y % 10 = 0 := hk
  have k4 : (y : Int) % 10 = 0 := by omega
  have k5 : (9 : Int) < (ab : Int) := by omega
  clear hx hdp hB hn hy hk hk1 hk2 hab
  go_enter Try.func41, Try.ntmps41
  go_wp2_with fail
  refine bodyPost_ret (v := .tuple #[.agg #[.int .i64 0, .int .i64 0, .string ⟨#[]⟩, .slice none 0 0, .slice none 0 0], .int .i64 0, .bool false]) ?_ rfl ?_
  · have hres : Try.f41.results = #[.cell 6 25, .tmp 7, .tmp 8] := by kernel_rfl
    simp only [results, hres]
    go_simp
  · refine HQn.out _ _ _ _ _ _ _ _ _ _ _ ?_ HNK.out
    repeat (first | with_reducible exact RowKit.Below.refl _ _ | refine RowKit.Below.setCell ?_ (by simp <;> omega) _ | apply RowKit.Below.drew | refine RowKit.Below.alloc ?_ (by simp; omega) _ | refine RowKit.Below.alloc ?_ (by simp) _ | refine RowKit.Below.alloc ?_ (Nat.le_refl _) _)
end Go.Proofs.Yticbcoklpgfkhaa
