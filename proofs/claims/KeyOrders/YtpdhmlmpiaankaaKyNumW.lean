/- The writer of keys: an Int's eight bytes; a Bool; a text. -/
import Derived.Test.YtpdhmlmpiaankaaKyPut
namespace Go.Proofs.Ytpdhmlmpiaankaa
open Go.RowKit

theorem byteOf_mod (n : Int) : ((byteOf n).toNat : Int) = n % 256 := by
  unfold byteOf
  have : (n % 256).toNat < 256 := by omega
  simp
  omega
theorem be8_at (m j : Nat) (hj : j < 8) : ∃ x : UInt8, (be8 m).take (j + 1) = (be8 m).take j ++ [x] ∧ (x.toNat : Int) = (m : Int) / 2 ^ (56 - 8 * j) % 256 := by
  have e : ∀ n : Nat, ((UInt8.ofNat (n % 256)).toNat : Int) = ((n % 256 : Nat) : Int) := fun n => by simp
  have h : j = 0 ∨ j = 1 ∨ j = 2 ∨ j = 3 ∨ j = 4 ∨ j = 5 ∨ j = 6 ∨ j = 7 := by omega
  rcases h with rfl | rfl | rfl | rfl | rfl | rfl | rfl | rfl <;> refine ⟨_, rfl, ?_⟩ <;> rw [e] <;> simp
set_option maxHeartbeats 1000000 in
set_option maxRecDepth 1000000 in
theorem wnumber_any (W B : Nat) (d : List UInt8) (v0 : Value) (k n : Int) (s : ByteArray) (la : Option Addr) (ln lc : Nat) (fa : Option Addr) (fn fc : Nat) (w : World) (h : Wr W B d v0 w) (hB : B ≤ w.heap.size) (hn : Int64 n) (hl : d.length + 8 ≤ 1000000000000) :
    Calls Try.prog 75 #[.pointer (some ⟨W, 0, none⟩), .agg #[.int .i64 k, .int .i64 n, .string s, .slice la ln lc, .slice fa fn fc]] w fun e w' => WSay W B v0 w (d ++ numK n) e w' := by
  have hml : maxLen = 9223372036854775807 := rfl
  have H := mkHid h
  obtain ⟨m, hm⟩ : ∃ m : Nat, m = (n + 9223372036854775808).toNat := ⟨_, rfl⟩
  have hm64 : m < 18446744073709551616 := by have := hn.1; have := hn.2; omega
  have HM : Hid (IntKind.u64.wrap (wrap64 (n + 9223372036854775808)) = (m : Int)) := by
    have h1 := hn.1
    have h2 := hn.2
    show IntKind.u64.wrap (wrap64 (n + 9223372036854775808)) = (m : Int)
    rw [IntKind.wrap_u64, hm]
    unfold wrap64
    omega
  have HNK : Hid (numK n = be8 m) := by rw [hm]; rfl
  rw [HNK.out]
  have hbx := (RowKit.Below.refl w.heap.size w).alloc (Nat.le_refl _) (.cells #[.int .i64 k, .int .i64 n, .string s, .slice la ln lc, .slice fa fn fc] 25)
  have H1 := mkHid (h.new hbx)
  have HG0 := mkHid ((GroW.refl W v0 w).new hbx)
  clear h hm hn hbx
  go_enter Try.func75, Try.ntmps75
  go_wp2_with fail
  rw [HM.out]
  go_loopw [5] (fun i wr => ∃ (j : Nat) (v : Value), i = .int .i64 (56 - 8 * (j : Int)) ∧ j ≤ 8 ∧ Wr W B (d ++ (be8 m).take j) v wr ∧ GroW W v0 w v wr) (fun i _ => (intOf i + 8).toNat)
  case atStart => exact ⟨0, v0, rfl, by omega, by simpa using H1.out, HG0.out⟩
  case round =>
    obtain ⟨j, v, rfl, hj, hw, hg⟩ := hrel
    by_cases hlt : j < 8
    · have hge : (0 : Int) ≤ 56 - 8 * (j : Int) := by omega
      obtain ⟨x, hx1, hx2⟩ := be8_at m j hlt
      have hsz := hg.size
      have HP := mkHid (put_one W B _ x v wr hw (by omega) (by simp; omega))
      rw [hx2] at HP
      have HG := mkHid hg
      have HX := mkHid hx1
      clear hw hg hx1 hx2
      go_wp2_with fail
      refine HP.out.mono ?_
      rintro e w1 ⟨rfl, v1, hw1, hg1⟩
      have HW1 := mkHid hw1
      have HG1 := mkHid (HG.out.trans hg1)
      clear hw1 hg1
      go_wp2_with fail
      go_roundw
      case rel =>
        refine ⟨j + 1, v1, by go_num, by omega, ?_, HG1.out⟩
        have h := HW1.out
        rw [HX.out, ← List.append_assoc]
        exact h
      case measure => simp [intOf]; omega
    · obtain rfl : j = 8 := by omega
      have HE : Hid (∃ v', Wr W B (d ++ be8 m) v' wr ∧ GroW W v0 w v' wr) := ⟨v, hw, hg⟩
      clear hw hg
      go_wp2_with fail
      refine bodyPost_end (v := .tuple #[]) ?_ rfl ⟨rfl, HE.out⟩
      have hres : Try.f75.results = #[] := by kernel_rfl
      simp [results]
set_option maxHeartbeats 1000000 in
set_option maxRecDepth 1000000 in
theorem wtruth_any (W B : Nat) (d : List UInt8) (v0 : Value) (k n : Int) (s : ByteArray) (la : Option Addr) (ln lc : Nat) (fa : Option Addr) (fn fc : Nat) (w : World) (h : Wr W B d v0 w) (hB : B ≤ w.heap.size) (hl : d.length + 1 ≤ 1000000000000) :
    Calls Try.prog 74 #[.pointer (some ⟨W, 0, none⟩), .agg #[.int .i64 k, .int .i64 n, .string s, .slice la ln lc, .slice fa fn fc]] w fun e w' => WSay W B v0 w (d ++ [byteOf n]) e w' := by
  have hml : maxLen = 9223372036854775807 := rfl
  have hbx := (RowKit.Below.refl w.heap.size w).alloc (Nat.le_refl _) (.cells #[.int .i64 k, .int .i64 n, .string s, .slice la ln lc, .slice fa fn fc] 25)
  have HP := mkHid (put_one W B d (byteOf n) v0 _ (h.new hbx) (by simp; omega) hl)
  have HG0 := mkHid ((GroW.refl W v0 w).new hbx)
  rw [byteOf_mod] at HP
  clear h hbx
  go_enter Try.func74, Try.ntmps74
  go_wp2_with fail
  refine (show Calls _ _ _ _ _ from by simpa using HP.out).mono ?_
  rintro e w1 ⟨rfl, v1, hw1, hg1⟩
  have HE : Hid (∃ v', Wr W B (d ++ [byteOf n]) v' w1 ∧ GroW W v0 w v' w1) := ⟨v1, hw1, HG0.out.trans hg1⟩
  clear hw1 hg1
  go_wp2_with fail
  refine bodyPost_end (v := .tuple #[]) ?_ rfl ⟨rfl, HE.out⟩
  have hres : Try.f74.results = #[] := by kernel_rfl
  simp [results]
set_option maxHeartbeats 1000000 in
set_option maxRecDepth 1000000 in
theorem wtext_any (W B : Nat) (d : List UInt8) (v0 : Value) (k n : Int) (s : ByteArray) (la : Option Addr) (ln lc : Nat) (fa : Option Addr) (fn fc : Nat) (w : World) (h : Wr W B d v0 w) (hB : B ≤ w.heap.size) (hl : d.length + (lettersK s.data.toList).length ≤ 1000000000000) :
    Calls Try.prog 76 #[.pointer (some ⟨W, 0, none⟩), .agg #[.int .i64 k, .int .i64 n, .string s, .slice la ln lc, .slice fa fn fc]] w fun e w' => WSay W B v0 w (d ++ lettersK s.data.toList) e w' := by
  have hml : maxLen = 9223372036854775807 := rfl
  have hbx := (RowKit.Below.refl w.heap.size w).alloc (Nat.le_refl _) (.cells #[.int .i64 k, .int .i64 n, .string s, .slice la ln lc, .slice fa fn fc] 25)
  have HP := mkHid (wletters_any W B d v0 s _ (h.new hbx) (by simp; omega) hl)
  have HG0 := mkHid ((GroW.refl W v0 w).new hbx)
  clear h hbx
  go_enter Try.func76, Try.ntmps76
  go_wp2_with fail
  refine HP.out.mono ?_
  rintro e w1 ⟨rfl, v1, hw1, hg1⟩
  have HE : Hid (∃ v', Wr W B (d ++ lettersK s.data.toList) v' w1 ∧ GroW W v0 w v' w1) := ⟨v1, hw1, HG0.out.trans hg1⟩
  clear hw1 hg1
  go_wp2_with fail
  refine bodyPost_end (v := .tuple #[]) ?_ rfl ⟨rfl, HE.out⟩
  have hres : Try.f76.results = #[] := by kernel_rfl
  simp [results]
set_option maxHeartbeats 1000000 in
set_option maxRecDepth 1000000 in
theorem wnothing_any (W B : Nat) (d : List UInt8) (v0 : Value) (k n : Int) (s : ByteArray) (la : Option Addr) (ln lc : Nat) (fa : Option Addr) (fn fc : Nat) (w : World) (h : Wr W B d v0 w) :
    Calls Try.prog 79 #[.pointer (some ⟨W, 0, none⟩), .agg #[.int .i64 k, .int .i64 n, .string s, .slice la ln lc, .slice fa fn fc]] w fun e w' => WSay W B v0 w d e w' := by
  have hbx := (RowKit.Below.refl w.heap.size w).alloc (Nat.le_refl _) (.cells #[.int .i64 k, .int .i64 n, .string s, .slice la ln lc, .slice fa fn fc] 25)
  have HE : Hid (∃ v', Wr W B d v' (w.alloc (.cells #[.int .i64 k, .int .i64 n, .string s, .slice la ln lc, .slice fa fn fc] 25)) ∧ GroW W v0 w v' (w.alloc (.cells #[.int .i64 k, .int .i64 n, .string s, .slice la ln lc, .slice fa fn fc] 25))) := ⟨v0, h.new hbx, (GroW.refl W v0 w).new hbx⟩
  clear h hbx
  go_enter Try.func79, Try.ntmps79
  go_wp2_with fail
  refine bodyPost_end (v := .tuple #[]) ?_ rfl ⟨rfl, HE.out⟩
  have hres : Try.f79.results = #[] := by kernel_rfl
  simp [results]
end Go.Proofs.Ytpdhmlmpiaankaa
