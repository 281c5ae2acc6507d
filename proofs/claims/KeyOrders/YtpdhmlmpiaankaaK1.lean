/- Some texts in one: each opens with its own remark. -/
import Derived.Test.YtpdhmlmpiaankaaKyAwake
import Derived.Test.YtpdhmlmpiaankaaCmp
import Derived.Deep.RegionHeld3
import Derived.Test.YtpdhmlmpiaankaaKyRead
import Derived.Test.YtpdhmlmpiaankaaShelf
import Derived.Lib.Bytealg
import Derived.Test.YtpdhmlmpiaankaaVF
/- The statements' own compare and begins: bytes in order. -/
namespace Go.Proofs.Ytpdhmlmpiaankaa
open Go.RowKit

def cmpB (a b : ByteArray) : Int := Lib.compareBytes a.data.toList b.data.toList
set_option maxHeartbeats 1000000 in
theorem rstrB_any (s t : ByteArray) (w : World) : Calls Try.prog 46 #[.string s, .string t] w fun e w' => e = .returned (.int .i64 (cmpB s t)) ∧ w' = w := by
  have h1 : Op.bytesLess s.toList t.toList = decide (cmpB s t < 0) := by
    rw [less_cmp, ByteArray.toList_eq, ByteArray.toList_eq]
    rfl
  have h2 : Op.bytesLess t.toList s.toList = decide (0 < cmpB s t) := by
    rw [less_cmp, ByteArray.toList_eq, ByteArray.toList_eq, cmp_anti]
    unfold cmpB
    congr 1
    apply propext
    omega
  have h3 : cmpB s t = -1 ∨ cmpB s t = 0 ∨ cmpB s t = 1 := cmp_range _ _
  rcases h3 with e | e | e
  · have HE : Hid (cmpB s t = -1) := e
    rw [e] at h1 h2
    simp at h1 h2
    clear e
    go_enter Try.func46, Try.ntmps46
    go_wp2_with fail
    go_ret
    exact ⟨by rw [HE.out]; rfl, rfl⟩
  · have HE : Hid (cmpB s t = 0) := e
    have he : (s.toList == t.toList) = true := by
      have := cmp_zero _ _ e
      rw [ByteArray.toList_eq, ByteArray.toList_eq, this]
      simp
    rw [e] at h1 h2
    simp at h1 h2
    clear e
    go_enter Try.func46, Try.ntmps46
    go_wp2_with fail
    go_ret
    exact ⟨by rw [HE.out]; rfl, rfl⟩
  · have HE : Hid (cmpB s t = 1) := e
    have he : (s.toList == t.toList) = false := by
      rw [beq_eq_false_iff_ne]
      intro h
      rw [ByteArray.toList_eq, ByteArray.toList_eq] at h
      unfold cmpB at e
      rw [h, cmp_self] at e
      omega
    rw [e] at h1 h2
    simp at h1 h2
    clear e
    go_enter Try.func46, Try.ntmps46
    go_wp2_with fail
    go_ret
    exact ⟨by rw [HE.out]; rfl, rfl⟩

set_option maxHeartbeats 1000000 in
set_option maxRecDepth 1000000 in
/-- compare of two rows of bytes. -/
theorem compare_any (v v' : Value) (l m : List UInt8) (w : World) (h : (convert 29 9 v).run Try.prog w = .ok (.string ⟨l.toArray⟩) w) (h' : (convert 29 9 v').run Try.prog w = .ok (.string ⟨m.toArray⟩) w) :
    Calls Try.prog 30 #[v, v'] w fun e w' => e = .returned (.int .i64 (Lib.compareBytes l m)) ∧ w' = w := by
  have HR : Hid (Calls Try.prog 46 #[.string ⟨l.toArray⟩, .string ⟨m.toArray⟩] w fun e w' => e = .returned (.int .i64 (Lib.compareBytes l m)) ∧ w' = w) := by
    have h1 := rstrB_any ⟨l.toArray⟩ ⟨m.toArray⟩ w
    show Calls _ _ _ _ _
    simpa [cmpB] using h1
  go_enter Try.func30, Try.ntmps30
  go_wp2_with fail
  refine HR.out.mono ?_
  rintro e w1 ⟨rfl, rfl⟩
  obtain ⟨x, hx⟩ : ∃ x, x = Lib.compareBytes l m := ⟨_, rfl⟩
  rw [← hx]
  go_wp2_with fail
  go_ret
  exact ⟨rfl, rfl⟩
end Go.Proofs.Ytpdhmlmpiaankaa

/- The statements' own begins, where it does not. -/
namespace Go.Proofs.Ytpdhmlmpiaankaa
open Go.RowKit

set_option maxHeartbeats 2000000 in
set_option maxRecDepth 1000000 in
theorem begins_no (a b : Option Addr) (N M ca cb : Nat) (l t : List UInt8) (w : World) (hNM : N ≤ M) (hM : M ≤ cb) (_hcb : cb ≤ maxLen) (hN : N ≤ 1048576) (hlt : l ≠ t)
    (q1 : ∀ u : World, u.heap = w.heap → (convert 29 9 (.slice b N cb)).run Try.prog u = .ok (.string ⟨t.toArray⟩) u) (q2 : ∀ u : World, u.heap = w.heap → (convert 29 9 (.slice a N ca)).run Try.prog u = .ok (.string ⟨l.toArray⟩) u) :
    Calls Try.prog 31 #[.slice b M cb, .slice a N ca] w fun e w' => e = .returned (.bool false) ∧ RowKit.Below w.heap.size w w' := by
  have hml : maxLen = 9223372036854775807 := rfl
  have hge : (N : Int) ≤ (M : Int) := by omega
  have hN0 : (0 : Int) ≤ (N : Int) := by omega
  have hNc : N ≤ cb := by omega
  have hNc2 : (N : Int) ≤ (cb : Int) := by omega
  obtain ⟨s1, hs1⟩ : ∃ s1 : ByteArray, s1 = ⟨t.toArray⟩ := ⟨_, rfl⟩
  obtain ⟨s2, hs2⟩ : ∃ s2 : ByteArray, s2 = ⟨l.toArray⟩ := ⟨_, rfl⟩
  have hne : (s1.toList == s2.toList) = false := by
    rw [beq_eq_false_iff_ne]
    intro e
    rw [ByteArray.toList_eq, ByteArray.toList_eq, hs1, hs2] at e
    exact hlt (by simpa using e.symm)
  rw [← hs1] at q1
  rw [← hs2] at q2
  have p1 := q1 w.drew rfl
  have p2 := q2 w.drew rfl
  have hS := And.intro p1 p2
  clear q1 q2 p1 p2 hs1 hs2 hlt
  go_enter Try.func31, Try.ntmps31
  go_wp2_with fail
  go_region_held3 (fun u => (convert 29 9 (.slice b N cb)).run Try.prog u = .ok (.string s1) u ∧ (convert 29 9 (.slice a N ca)).run Try.prog u = .ok (.string s2) u) (with_reducible exact hS) (fail)
  all_goals
    go_wp2_with fail
    go_ret
    exact ⟨rfl, (RowKit.Below.refl _ _).drew⟩

set_option maxHeartbeats 2000000 in
set_option maxRecDepth 1000000 in
theorem begins_less (a b : Option Addr) (N M ca cb : Nat) (w : World) (hNM : M < N) :
    Calls Try.prog 31 #[.slice b M cb, .slice a N ca] w fun e w' => e = .returned (.bool false) ∧ RowKit.Below w.heap.size w w' := by
  have hge : ¬ ((N : Int) ≤ (M : Int)) := by omega
  have hge2 : decide ((N : Int) ≤ (M : Int)) = false := by simp; omega
  go_enter Try.func31, Try.ntmps31
  go_wp2_with fail
  refine wp_region_held_drew (S := fun _ => True) (by kernel_rfl) trivial (fun hHeld => ?_)
  refine wpAnyH_take (i := 0) (oi := ⟨some 5, .move (.tmp 0), 29, "law.go:82", #[], none⟩) (v := .slice b M cb) rfl (by kernel_rfl) (by kernel_rfl) (by kernel_rfl) (fun _ _ _ h => h) (Or.inl ⟨by rfl, ?_⟩) hHeld ?_
  · intro wq hSq
    clear hSq hHeld
    go_simp
  (try simp only [Act.put, List.setIfInBounds_toArray, List.set_cons_zero, List.set_cons_succ])
  refine wpAnyH_take (i := 1) (oi := ⟨some 6, .call ⟨.builtin .len, #[.tmp 5], #[29]⟩, 3, "law.go:82", #[⟨0, .data⟩], none⟩) (v := .int .i64 (M : Int)) rfl (by kernel_rfl) (by kernel_rfl) (by kernel_rfl) (fun _ _ _ h => h) (Or.inl ⟨by rfl, ?_⟩) hHeld ?_
  · intro wq hSq
    clear hSq hHeld
    go_simp
  (try simp only [Act.put, List.setIfInBounds_toArray, List.set_cons_zero, List.set_cons_succ])
  refine wpAnyH_take (i := 2) (oi := ⟨some 7, .move (.tmp 1), 29, "law.go:82", #[], none⟩) (v := .slice a N ca) rfl (by kernel_rfl) (by kernel_rfl) (by kernel_rfl) (fun _ _ _ h => h) (Or.inl ⟨by rfl, ?_⟩) hHeld ?_
  · intro wq hSq
    clear hSq hHeld
    go_simp
  (try simp only [Act.put, List.setIfInBounds_toArray, List.set_cons_zero, List.set_cons_succ])
  refine wpAnyH_take (i := 3) (oi := ⟨some 8, .call ⟨.builtin .len, #[.tmp 7], #[29]⟩, 3, "law.go:82", #[⟨2, .data⟩], none⟩) (v := .int .i64 (N : Int)) rfl (by kernel_rfl) (by kernel_rfl) (by kernel_rfl) (fun _ _ _ h => h) (Or.inl ⟨by rfl, ?_⟩) hHeld ?_
  · intro wq hSq
    clear hSq hHeld
    go_simp
  (try simp only [Act.put, List.setIfInBounds_toArray, List.set_cons_zero, List.set_cons_succ])
  refine wpAnyH_take (i := 4) (oi := ⟨some 9, .binOp .geq 3 (.tmp 6) (.tmp 8) 3, 4, "law.go:82", #[⟨1, .data⟩, ⟨3, .data⟩], none⟩) (v := .bool false) rfl (by kernel_rfl) (by kernel_rfl) (by kernel_rfl) (fun _ _ _ h => h) (Or.inl ⟨by rfl, ?_⟩) hHeld ?_
  · intro wq hSq
    clear hSq hHeld
    go_simp
  (try simp only [Act.put, List.setIfInBounds_toArray, List.set_cons_zero, List.set_cons_succ])
  refine wpAnyH_take (i := 5) (oi := ⟨some 10, .move (.tmp 9), 4, "law.go:82", #[⟨4, .data⟩], none⟩) (v := .bool false) rfl (by kernel_rfl) (by kernel_rfl) (by kernel_rfl) (fun _ _ _ h => h) (Or.inl ⟨by rfl, ?_⟩) hHeld ?_
  · intro wq hSq
    clear hSq hHeld
    go_simp
  (try simp only [Act.put, List.setIfInBounds_toArray, List.set_cons_zero, List.set_cons_succ])
  refine wpAnyH_take (i := 6) (oi := ⟨some 11, .move (.tmp 0), 29, "law.go:82", #[⟨5, .guard⟩], some (5, true)⟩) (v := undef) rfl (by kernel_rfl) (by kernel_rfl) (by kernel_rfl) (fun _ _ _ h => h) (Or.inr ⟨by rfl, rfl⟩) hHeld ?_
  (try simp only [Act.put, List.setIfInBounds_toArray, List.set_cons_zero, List.set_cons_succ])
  refine wpAnyH_take (i := 7) (oi := ⟨some 12, .move (.tmp 1), 29, "law.go:82", #[⟨5, .guard⟩], some (5, true)⟩) (v := undef) rfl (by kernel_rfl) (by kernel_rfl) (by kernel_rfl) (fun _ _ _ h => h) (Or.inr ⟨by rfl, rfl⟩) hHeld ?_
  (try simp only [Act.put, List.setIfInBounds_toArray, List.set_cons_zero, List.set_cons_succ])
  refine wpAnyH_take (i := 8) (oi := ⟨some 13, .call ⟨.builtin .len, #[.tmp 12], #[29]⟩, 3, "law.go:82", #[⟨7, .data⟩, ⟨5, .guard⟩], some (5, true)⟩) (v := undef) rfl (by kernel_rfl) (by kernel_rfl) (by kernel_rfl) (fun _ _ _ h => h) (Or.inr ⟨by rfl, rfl⟩) hHeld ?_
  (try simp only [Act.put, List.setIfInBounds_toArray, List.set_cons_zero, List.set_cons_succ])
  refine wpAnyH_take (i := 9) (oi := ⟨some 14, .slice 29 (.tmp 11) none (some (.tmp 13)) none, 29, "law.go:82", #[⟨6, .data⟩, ⟨8, .data⟩, ⟨5, .guard⟩], some (5, true)⟩) (v := undef) rfl (by kernel_rfl) (by kernel_rfl) (by kernel_rfl) (fun _ _ _ h => h) (Or.inr ⟨by rfl, rfl⟩) hHeld ?_
  (try simp only [Act.put, List.setIfInBounds_toArray, List.set_cons_zero, List.set_cons_succ])
  refine wpAnyH_take (i := 10) (oi := ⟨some 15, .convert 29 9 (.tmp 14), 9, "law.go:82", #[⟨9, .data⟩, ⟨5, .guard⟩], some (5, true)⟩) (v := undef) rfl (by kernel_rfl) (by kernel_rfl) (by kernel_rfl) (fun _ _ _ h => h) (Or.inr ⟨by rfl, rfl⟩) hHeld ?_
  (try simp only [Act.put, List.setIfInBounds_toArray, List.set_cons_zero, List.set_cons_succ])
  refine wpAnyH_take (i := 11) (oi := ⟨some 16, .move (.tmp 1), 29, "law.go:82", #[⟨5, .guard⟩], some (5, true)⟩) (v := undef) rfl (by kernel_rfl) (by kernel_rfl) (by kernel_rfl) (fun _ _ _ h => h) (Or.inr ⟨by rfl, rfl⟩) hHeld ?_
  (try simp only [Act.put, List.setIfInBounds_toArray, List.set_cons_zero, List.set_cons_succ])
  refine wpAnyH_take (i := 12) (oi := ⟨some 17, .convert 29 9 (.tmp 16), 9, "law.go:82", #[⟨11, .data⟩, ⟨5, .guard⟩], some (5, true)⟩) (v := undef) rfl (by kernel_rfl) (by kernel_rfl) (by kernel_rfl) (fun _ _ _ h => h) (Or.inr ⟨by rfl, rfl⟩) hHeld ?_
  (try simp only [Act.put, List.setIfInBounds_toArray, List.set_cons_zero, List.set_cons_succ])
  refine wpAnyH_take (i := 13) (oi := ⟨some 18, .binOp .eql 9 (.tmp 15) (.tmp 17) 9, 4, "law.go:82", #[⟨10, .data⟩, ⟨12, .data⟩, ⟨5, .guard⟩], some (5, true)⟩) (v := undef) rfl (by kernel_rfl) (by kernel_rfl) (by kernel_rfl) (fun _ _ _ h => h) (Or.inr ⟨by rfl, rfl⟩) hHeld ?_
  (try simp only [Act.put, List.setIfInBounds_toArray, List.set_cons_zero, List.set_cons_succ])
  refine wpAnyH_take (i := 14) (oi := ⟨some 19, .pick (.tmp 10) (.tmp 18) (.const (.bool false)), 4, "law.go:82", #[⟨5, .data⟩, ⟨13, .data⟩], none⟩) (v := .bool false) rfl (by kernel_rfl) (by kernel_rfl) (by kernel_rfl) (fun _ _ _ h => h) (Or.inl ⟨by rfl, ?_⟩) hHeld ?_
  · intro wq hSq
    clear hSq hHeld
    go_simp
  (try simp only [Act.put, List.setIfInBounds_toArray, List.set_cons_zero, List.set_cons_succ])
  refine wpAnyH_take (i := 15) (oi := ⟨some 4, .assign (.tmp 19), 4, "law.go:82", #[⟨14, .data⟩, ⟨5, .chain⟩, ⟨0, .phase⟩, ⟨1, .phase⟩, ⟨2, .phase⟩, ⟨3, .phase⟩, ⟨4, .phase⟩, ⟨5, .phase⟩, ⟨6, .phase⟩, ⟨7, .phase⟩, ⟨8, .phase⟩, ⟨9, .phase⟩, ⟨10, .phase⟩, ⟨11, .phase⟩, ⟨12, .phase⟩, ⟨13, .phase⟩, ⟨14, .phase⟩], none⟩) (v := .bool false) rfl (by kernel_rfl) (by kernel_rfl) (by kernel_rfl) (fun _ _ _ h => h) (Or.inl ⟨by rfl, ?_⟩) hHeld ?_
  · intro wq hSq
    clear hSq hHeld
    go_simp
  (try simp only [Act.put, List.setIfInBounds_toArray, List.set_cons_zero, List.set_cons_succ])
  refine wpAnyH_done (by kernel_rfl) ?_ _
  clear hHeld
  go_wp2_with fail
  go_ret
  exact ⟨rfl, (RowKit.Below.refl _ _).drew⟩
end Go.Proofs.Ytpdhmlmpiaankaa

/- key.After: the least bytes above all that begin with these. -/
namespace Go.Proofs.Ytpdhmlmpiaankaa
open Go.RowKit

/-- The bytes up to the last one that is not 255. -/
def cutR : List UInt8 → List UInt8
  | [] => []
  | x :: t => if cutR t = [] ∧ x = 255 then [] else x :: cutR t
/-- How many of them. -/
theorem cut_split : ∀ l : List UInt8, ∃ k, l = cutR l ++ List.replicate k 255
  | [] => ⟨0, rfl⟩
  | x :: t => by
    obtain ⟨k, hk⟩ := cut_split t
    unfold cutR
    by_cases h : cutR t = [] ∧ x = 255
    · rw [if_pos h]
      refine ⟨k + 1, ?_⟩
      rw [h.1] at hk
      rw [h.2, hk]
      simp [List.replicate_succ]
    · rw [if_neg h]
      refine ⟨k, ?_⟩
      rw [List.cons_append, ← hk]
theorem cut_last : ∀ l : List UInt8, ∀ (h : cutR l ≠ []), (cutR l).getLast h ≠ 255
  | [], h => absurd rfl h
  | x :: t, h => by
    unfold cutR at h ⊢
    by_cases h1 : cutR t = [] ∧ x = 255
    · rw [if_pos h1] at h
      exact absurd rfl h
    · simp only [if_neg h1]
      by_cases h2 : cutR t = []
      · simp only [h2, List.getLast_singleton]
        intro e
        exact h1 ⟨h2, e⟩
      · rw [List.getLast_cons h2]
        exact cut_last t h2
/-- The last byte one more. -/
def riseR (l : List UInt8) : List UInt8 := match cutR l with | [] => [] | x :: t => (x :: t).dropLast ++ [(x :: t).getLast (by simp) + 1]
/-- What After tells. -/
def AfterSay (l : List UInt8) (w : World) (e : Ending) (w' : World) : Prop :=
  RowKit.Below w.heap.size w w' ∧ ((cutR l = [] ∧ e = .returned (.tuple #[.slice none 0 0, .bool false])) ∨ (cutR l ≠ [] ∧ ∃ v, e = .returned (.tuple #[v, .bool true]) ∧ w'.ownsRow w.heap.size 5 1 v (riseR l).length (Lib.byteCells (riseR l))))

theorem rise_cells {l : List UInt8} {i : Nat} {x : UInt8} (hM : (cutR l).length = i + 1) (hx : (cutR l)[i]? = some x) : (riseR l).length = i + 1 ∧ Lib.byteCells (riseR l) = (Lib.byteCells (cutR l)).set i (.int .u8 ((x + 1).toNat : Int)) := by
  unfold riseR
  cases hc : cutR l with
  | nil => rw [hc] at hM; simp at hM
  | cons y t =>
    rw [hc] at hM hx
    have hl : (y :: t).getLast (by simp) = x := by
      rw [List.getLast_eq_getElem]
      have : (y :: t)[(y :: t).length - 1]? = some x := by rw [hM]; exact hx
      rw [List.getElem?_eq_some_iff] at this
      exact this.2
    have e : (y :: t) = (y :: t).dropLast ++ [x] := by rw [← hl]; exact (List.dropLast_concat_getLast (by simp)).symm
    have ht : t.length = i := by simpa using hM
    have hd : (y :: t).dropLast.length = i := by simp [ht]
    simp only [hl]
    refine ⟨by simp [hd], ?_⟩
    conv => rhs; rw [e]
    unfold Lib.byteCells
    rw [List.map_append, List.map_append, List.set_append_right _ _ (by simp [ht])]
    simp [ht]

set_option maxHeartbeats 4000000 in
set_option maxRecDepth 1000000 in
theorem After_any (a : Option Addr) (c : Nat) (l : List UInt8) (w : World) (hB : Byts w a l) (hlc : l.length ≤ c) (_hcm : c ≤ maxLen) (hl : l.length ≤ 140737488355328) :
    Calls Try.prog 11 #[.slice a l.length c] w fun e w' => AfterSay l w e w' := by
  have hml : maxLen = 9223372036854775807 := rfl
  obtain ⟨k, hk⟩ := cut_split l
  have HB := mkHid hB
  have HK := mkHid hk
  obtain ⟨N, hN⟩ : ∃ N, N = l.length := ⟨_, rfl⟩
  have HN := mkHid hN
  obtain ⟨M, hM⟩ : ∃ M, M = (cutR l).length := ⟨_, rfl⟩
  have HM := mkHid hM
  have hNM : N = M + k := by rw [hN, hM]; conv => lhs; rw [hk]; simp
  rw [← hN] at hlc hl ⊢
  have hMN : M ≤ N := by omega
  have HNM := mkHid hNM
  clear hB hk hN hM hNM
  go_enter Try.func11, Try.ntmps11
  go_wp2_with fail
  go_loopw [4] (fun i wr => ∃ (j : Nat), i = .int .i64 j ∧ M ≤ j ∧ j ≤ N ∧ wr = w) (fun i _ => (intOf i).toNat)
  case atStart => exact ⟨N, rfl, by omega, Nat.le_refl _, rfl⟩
  case round =>
    obtain ⟨j, rfl, hj1, hj2, rfl⟩ := hrel
    by_cases h0 : j = 0
    · subst h0
      have HE : Hid (cutR l = []) := List.length_eq_zero_iff.1 (by rw [← HM.out]; omega)
      go_wp2_with fail
      go_ret2
      exact ⟨RowKit.Below.refl _ _, Or.inl ⟨HE.out, rfl⟩⟩
    · obtain ⟨i, rfl⟩ : ∃ i, j = i + 1 := ⟨j - 1, by omega⟩
      have hil : i < l.length := by rw [← HN.out]; omega
      obtain ⟨b, o, rfl, hc⟩ := HB.out i hil
      obtain ⟨x, hx⟩ : ∃ x, x = l[i] := ⟨_, rfl⟩
      rw [← hx] at hc
      obtain ⟨m, hm⟩ : ∃ m, m = x.toNat := ⟨_, rfl⟩
      have hm2 : m < 256 := by rw [hm]; exact x.toNat_lt
      rw [← hm] at hc
      by_cases hlt : M < i + 1
      · have hx5 : x = 255 := by
          have e : l[i]? = some x := by rw [hx]; exact List.getElem?_eq_getElem hil
          rw [HK.out, List.getElem?_append_right (by rw [← HM.out]; omega), List.getElem?_replicate] at e
          split at e
          · injection e with e; exact e.symm
          · exact absurd e (by simp)
        have hm5 : m = 255 := by rw [hm, hx5]; rfl
        clear h0 hx hm hil hx5
        subst hm5
        go_wp2_with fail
        go_roundw
        case rel => exact ⟨i, by go_num, by omega, by omega, trivial⟩
        case measure => simp [intOf]
      · obtain rfl : M = i + 1 := by omega
        have hcx : (cutR l)[i]? = some x := by
          have e : l[i]? = some x := by rw [hx]; exact List.getElem?_eq_getElem hil
          rw [HK.out, List.getElem?_append_left (by rw [← HM.out]; omega)] at e
          exact e
        have hne : cutR l ≠ [] := by
          intro e
          rw [e] at hcx
          simp at hcx
        have hx5 : x ≠ 255 := by
          have h := cut_last l hne
          rw [List.getLast_eq_getElem] at h
          have e : (cutR l)[(cutR l).length - 1]? = some x := by rw [← HM.out]; exact hcx
          rw [List.getElem?_eq_some_iff] at e
          rw [e.2] at h
          exact h
        have k5 : ((m : Int) == 255) = false := by
          simp only [beq_eq_false_iff_ne, ne_eq]
          intro e
          exact hx5 (UInt8.toNat_inj.1 (by show x.toNat = 255; omega))
        have hm254 : m < 255 := by
          simp only [beq_eq_false_iff_ne, ne_eq] at k5
          omega
        obtain ⟨hR1, hR2⟩ := rise_cells HM.out.symm hcx
        have hx1 : ((x + 1).toNat : Int) = (m : Int) + 1 := by
          rw [UInt8.toNat_add, ← hm]
          simp
          omega
        rw [hx1] at hR2
        have HCL : Hid (Calls Try.prog 33 #[.slice (some ⟨b, o, none⟩) (i + 1) c] wr fun e w' => ∃ v', e = .returned v' ∧ w'.ownsRow wr.heap.size 5 1 v' (i + 1) (Lib.byteCells (cutR l)) ∧ v' ≠ .slice none 0 0 ∧ RowKit.Below wr.heap.size wr w') := by
          have h := Try.bytes_Clone_at ⟨b, o, none⟩ (i + 1) c ((cutR l).map fun y => (y.toNat : Int)) wr (by rw [List.length_map]; exact HM.out.symm) (by omega) (by
            intro j hj
            have hjl : j < l.length := by rw [← HN.out]; omega
            obtain ⟨b', o', e', hc'⟩ := HB.out j hjl
            cases e'
            rw [show (⟨b, o, none⟩ : Addr).add j = ⟨b, o + j, none⟩ by simp [Addr.add], hc']
            have e : (cutR l)[j]? = some l[j] := by
              have e1 : l[j]? = some l[j] := List.getElem?_eq_getElem hjl
              conv at e1 => lhs; rw [HK.out]
              rw [List.getElem?_append_left (by rw [← HM.out]; omega)] at e1
              exact e1
            simp [List.getD, e])
          show Calls _ _ _ _ _
          simpa [Lib.byteCells, List.map_map, Function.comp_def] using h
        have HNE := mkHid hne
        have HR1 := mkHid hR1
        have HR2 := mkHid hR2
        have HCX : Hid ((Lib.byteCells (cutR l))[i]? = some (.int .u8 (m : Int))) := by
          show _ = _
          simp [Lib.byteCells, hcx, hm]
        clear h0 hx hil hcx hne hx5 hx1 hR1 hR2 hm hlt
        go_wp2_with fail
        refine HCL.out.mono ?_
        rintro e w2 ⟨v, rfl, ho, _, hb⟩
        obtain ⟨g, vc, rfl, hg, hgB⟩ := own_form ho
        have q0 : w2.cell? ⟨g, i, none⟩ = some (.int .u8 (m : Int)) := (ho.cellAt i (by omega)).trans HCX.out
        have f0 := ho.frozenAt (g := g) i
        have HO := mkHid ((ho.stored i (.int .u8 ((m : Int) + 1))).1)
        have HB2 := mkHid hb
        clear ho hb
        go_wp2_with fail
        go_ret2
        refine ⟨HB2.out.setCell (by omega) _, Or.inr ⟨HNE.out, _, rfl, ?_⟩⟩
        rw [HR1.out, HR2.out]
        exact HO.out
end Go.Proofs.Ytpdhmlmpiaankaa

/- Bytes in order: what After tells is above all that begin with the bytes, and nothing lies between. (No walk.) -/
namespace Go.Proofs.Ytpdhmlmpiaankaa
open Go.RowKit

theorem cb_prefix : ∀ (p u v : List UInt8), Lib.compareBytes (p ++ u) (p ++ v) = Lib.compareBytes u v
  | [], _, _ => rfl
  | c :: p, u, v => by
    rw [List.cons_append, List.cons_append, Lib.compareBytes, if_neg (UInt8.lt_irrefl c), if_neg (UInt8.lt_irrefl c)]
    exact cb_prefix p u v
theorem u8_next {y : UInt8} (h : y ≠ 255) : (y + 1).toNat = y.toNat + 1 := by
  have h1 := y.toNat_lt
  have h2 : y.toNat ≠ 255 := fun e => h (UInt8.toNat_inj.1 e)
  rw [UInt8.toNat_add]
  simp
  omega
theorem u8_up {y : UInt8} (h : y ≠ 255) : y < y + 1 := by
  rw [UInt8.lt_iff_toNat_lt, u8_next h]
  omega
/-- A row of bytes 255: less, or begun with it. -/
theorem cb_full : ∀ (k : Nat) (b : List UInt8), Lib.compareBytes b (List.replicate k 255) < 0 ∨ ∃ r, b = List.replicate k 255 ++ r
  | 0, b => Or.inr ⟨b, rfl⟩
  | k + 1, [] => Or.inl (by simp [List.replicate_succ, Lib.compareBytes])
  | k + 1, z :: b => by
    rw [List.replicate_succ]
    by_cases h : z = 255
    · subst h
      rcases cb_full k b with h1 | ⟨r, h1⟩
      · left
        rw [Lib.compareBytes, if_neg (UInt8.lt_irrefl _), if_neg (UInt8.lt_irrefl _)]
        exact h1
      · exact Or.inr ⟨r, by rw [h1]; rfl⟩
    · left
      have h2 : z < 255 := by
        rw [UInt8.lt_iff_toNat_lt]
        have h1 := z.toNat_lt
        have h3 : z.toNat ≠ 255 := fun e => h (UInt8.toNat_inj.1 e)
        show z.toNat < 255
        omega
      rw [Lib.compareBytes, if_pos h2]
      decide
theorem cb_nil (b : List UInt8) : 0 ≤ Lib.compareBytes b [] := by
  cases b <;> simp [Lib.compareBytes]
theorem cb_between : ∀ (p : List UInt8) (y : UInt8) (k : Nat) (b : List UInt8), y ≠ 255 → 0 ≤ Lib.compareBytes b (p ++ [y + 1]) ∨ Lib.compareBytes b (p ++ y :: List.replicate k 255) < 0 ∨ ∃ r, b = (p ++ y :: List.replicate k 255) ++ r
  | [], y, k, [], _ => Or.inr (Or.inl (by simp [Lib.compareBytes]))
  | [], y, k, z :: b, h => by
    by_cases h1 : z < y
    · right; left
      simp [Lib.compareBytes, h1]
    by_cases h2 : y < z
    · left
      have h3 : ¬ z < y + 1 := by
        rw [UInt8.lt_iff_toNat_lt, u8_next h]
        rw [UInt8.lt_iff_toNat_lt] at h2
        omega
      rw [List.nil_append, Lib.compareBytes, if_neg h3]
      split
      · decide
      · exact cb_nil b
    have e : z = y := by
      apply UInt8.toNat_inj.1
      rw [UInt8.lt_iff_toNat_lt] at h1 h2
      omega
    subst e
    rcases cb_full k b with h3 | ⟨r, h3⟩
    · right; left
      rw [List.nil_append, Lib.compareBytes, if_neg h1, if_neg h1]
      exact h3
    · right; right
      exact ⟨r, by rw [h3]; rfl⟩
  | c :: p, y, k, [], _ => Or.inr (Or.inl (by simp [Lib.compareBytes]))
  | c :: p, y, k, z :: b, h => by
    by_cases h1 : z < c
    · right; left
      simp [Lib.compareBytes, h1]
    by_cases h2 : c < z
    · left
      rw [List.cons_append, Lib.compareBytes, if_neg h1, if_pos h2]
      decide
    have e : z = c := by
      apply UInt8.toNat_inj.1
      rw [UInt8.lt_iff_toNat_lt] at h1 h2
      omega
    subst e
    rcases cb_between p y k b h with h3 | h3 | ⟨r, h3⟩
    · left
      rw [List.cons_append, Lib.compareBytes, if_neg h1, if_neg h1]
      exact h3
    · right; left
      rw [List.cons_append, Lib.compareBytes, if_neg h1, if_neg h1]
      exact h3
    · right; right
      exact ⟨r, by rw [h3]; rfl⟩
/-- The parts of bytes that After lets rise. -/
theorem rise_parts {a : List UInt8} (h : cutR a ≠ []) : ∃ p y k, y ≠ 255 ∧ a = p ++ y :: List.replicate k 255 ∧ riseR a = p ++ [y + 1] := by
  obtain ⟨k, hk⟩ := cut_split a
  have hl := cut_last a h
  have e := List.dropLast_concat_getLast h
  refine ⟨(cutR a).dropLast, (cutR a).getLast h, k, hl, ?_, ?_⟩
  · conv => lhs; rw [hk, ← e]
    simp
  · unfold riseR
    split
    · rename_i hc
      exact absurd hc h
    · rename_i x t hc
      have e2 : (cutR a).getLast h = (x :: t).getLast (by simp) := by simp only [hc]
      rw [e2, hc]
theorem rise_above {a : List UInt8} (h : cutR a ≠ []) (b : List UInt8) : Lib.compareBytes (a ++ b) (riseR a) = -1 ∧ (riseR a).length ≤ a.length ∧ (0 ≤ Lib.compareBytes b (riseR a) ∨ Lib.compareBytes b a < 0 ∨ ∃ r, b = a ++ r) := by
  obtain ⟨p, y, k, hy, e1, e2⟩ := rise_parts h
  rw [e2]
  refine ⟨?_, ?_, ?_⟩
  · rw [e1, List.append_assoc, cb_prefix, List.cons_append, Lib.compareBytes, if_pos (u8_up hy)]
  · rw [e1]
    simp
  · rw [e1]
    exact cb_between p y k b hy
theorem cut_none {a : List UInt8} (h : cutR a = []) : ∀ (i : Nat) (hi : i < a.length), a[i] = 255 := by
  obtain ⟨k, hk⟩ := cut_split a
  rw [h, List.nil_append] at hk
  intro i hi
  have e : a[i]? = some 255 := by
    rw [hk, List.getElem?_replicate]
    have : i < k := by rw [hk] at hi; simpa using hi
    rw [if_pos this]
  rw [List.getElem?_eq_some_iff] at e
  exact e.2
end Go.Proofs.Ytpdhmlmpiaankaa

/- Keys in order: texts and numbers. (No walk.) -/
namespace Go.Proofs.Ytpdhmlmpiaankaa
open Go.RowKit

/-- The first that is not 0. -/
def thenC (d c : Int) : Int := if d = 0 then c else d
theorem cb_lt {x y : UInt8} (h : x < y) (u v : List UInt8) : Lib.compareBytes (x :: u) (y :: v) = -1 := by rw [Lib.compareBytes, if_pos h]
theorem u8_asym {x y : UInt8} (h : x < y) : ¬ y < x := by
  rw [UInt8.lt_iff_toNat_lt] at h ⊢
  omega
theorem cb_gt {x y : UInt8} (h : y < x) (u v : List UInt8) : Lib.compareBytes (x :: u) (y :: v) = 1 := by rw [Lib.compareBytes, if_neg (u8_asym h), if_pos h]
theorem cb_eq (x : UInt8) (u v : List UInt8) : Lib.compareBytes (x :: u) (x :: v) = Lib.compareBytes u v := cb_prefix [x] u v
theorem u8_pos {x : UInt8} (h : x ≠ 0) : 0 < x := by
  rw [UInt8.lt_iff_toNat_lt]
  have : x.toNat ≠ 0 := fun e => h (UInt8.toNat_inj.1 e)
  show 0 < x.toNat
  omega
theorem u8_tri (x y : UInt8) : x < y ∨ y < x ∨ x = y := by
  rw [UInt8.lt_iff_toNat_lt, UInt8.lt_iff_toNat_lt]
  rcases Nat.lt_trichotomy x.toNat y.toNat with h | h | h
  · exact Or.inl h
  · exact Or.inr (Or.inr (UInt8.toNat_inj.1 h))
  · exact Or.inr (Or.inl h)
/-- Texts in keys go as the texts do. -/
theorem cb_letters : ∀ (s t r r' : List UInt8), Lib.compareBytes (lettersK s ++ r) (lettersK t ++ r') = thenC (Lib.compareBytes s t) (Lib.compareBytes r r')
  | [], [], r, r' => by
    show Lib.compareBytes ([0, 0] ++ r) ([0, 0] ++ r') = _
    rw [cb_prefix]
    rfl
  | [], y :: t, r, r' => by
    have e : Lib.compareBytes [] (y :: t) = -1 := rfl
    rw [e]
    show _ = -1
    unfold lettersK
    by_cases h : y = 0
    · rw [if_pos h]
      show Lib.compareBytes (0 :: (0 :: r)) (0 :: (255 :: (lettersK t ++ r'))) = -1
      rw [cb_eq, cb_lt (by decide)]
    · rw [if_neg h]
      exact cb_lt (u8_pos h) _ _
  | x :: s, [], r, r' => by
    have e : Lib.compareBytes (x :: s) [] = 1 := rfl
    rw [e]
    show _ = 1
    unfold lettersK
    by_cases h : x = 0
    · rw [if_pos h]
      show Lib.compareBytes (0 :: (255 :: (lettersK s ++ r))) (0 :: (0 :: r')) = 1
      rw [cb_eq, cb_gt (by decide)]
    · rw [if_neg h]
      exact cb_gt (u8_pos h) _ _
  | x :: s, y :: t, r, r' => by
    have ih := cb_letters s t r r'
    rcases u8_tri x y with h | h | rfl
    · rw [cb_lt h]
      show _ = -1
      have hy : y ≠ 0 := by
        intro e
        rw [e, UInt8.lt_iff_toNat_lt] at h
        exact absurd h (Nat.not_lt_zero _)
      rw [lettersK, lettersK, if_neg hy]
      by_cases hx : x = 0
      · rw [if_pos hx]
        exact cb_lt (u8_pos hy) _ _
      · rw [if_neg hx]
        exact cb_lt h _ _
    · rw [cb_gt h]
      show _ = 1
      have hx : x ≠ 0 := by
        intro e
        rw [e, UInt8.lt_iff_toNat_lt] at h
        exact absurd h (Nat.not_lt_zero _)
      rw [lettersK, lettersK, if_neg hx]
      by_cases hy : y = 0
      · rw [if_pos hy]
        exact cb_gt (u8_pos hx) _ _
      · rw [if_neg hy]
        exact cb_gt h _ _
    · rw [cb_eq, lettersK, lettersK]
      by_cases hx : x = 0
      · rw [if_pos hx, if_pos hx]
        show Lib.compareBytes (0 :: (255 :: (lettersK s ++ r))) (0 :: (255 :: (lettersK t ++ r'))) = _
        rw [cb_eq, cb_eq]
        exact ih
      · rw [if_neg hx, if_neg hx]
        show Lib.compareBytes (x :: (lettersK s ++ r)) (x :: (lettersK t ++ r')) = _
        rw [cb_eq]
        exact ih
theorem ofBe_cons (x : UInt8) (u : List UInt8) : ofBe (x :: u) = x.toNat * 256 ^ u.length + ofBe u := by
  have key : ∀ (u : List UInt8) (a : Nat), u.foldl (fun a x => a * 256 + x.toNat) a = a * 256 ^ u.length + u.foldl (fun a x => a * 256 + x.toNat) 0 := by
    intro u
    induction u with
    | nil => intro a; simp
    | cons y u ih =>
      intro a
      simp only [List.foldl_cons, List.length_cons]
      rw [ih (a * 256 + y.toNat), ih (0 * 256 + y.toNat), Nat.pow_succ, Nat.add_mul, Nat.mul_assoc, Nat.mul_comm 256 (256 ^ u.length), Nat.zero_mul, Nat.zero_add]
      omega
  unfold ofBe
  rw [List.foldl_cons, key u (0 * 256 + x.toNat), Nat.zero_mul, Nat.zero_add]
/-- Numbers of as many bytes, the highest first, go as the bytes do. -/
theorem cb_num : ∀ (u v r r' : List UInt8), u.length = v.length → Lib.compareBytes (u ++ r) (v ++ r') = thenC (Lib.compareInt (ofBe u : Int) (ofBe v : Int)) (Lib.compareBytes r r')
  | [], [], r, r', _ => by simp [ofBe, Lib.compareInt, thenC]
  | x :: u, y :: v, r, r', h => by
    have hl : u.length = v.length := by simpa using h
    have ih := cb_num u v r r' hl
    have h1 := ofBe_pow u.length u rfl
    have h2 := ofBe_pow v.length v rfl
    rw [hl] at h1
    rw [ofBe_cons, ofBe_cons, hl]
    have hp : 0 < 256 ^ v.length := Nat.pow_pos (by omega)
    rcases u8_tri x y with hx | hx | rfl
    · rw [List.cons_append, List.cons_append, cb_lt hx]
      rw [UInt8.lt_iff_toNat_lt] at hx
      have h3 : (x.toNat + 1) * 256 ^ v.length ≤ y.toNat * 256 ^ v.length := Nat.mul_le_mul_right _ hx
      rw [Nat.add_mul] at h3
      have h4 : Lib.compareInt ((x.toNat * 256 ^ v.length + ofBe u : Nat) : Int) ((y.toNat * 256 ^ v.length + ofBe v : Nat) : Int) = -1 := by
        unfold Lib.compareInt
        rw [if_pos (by omega)]
      rw [h4]
      rfl
    · rw [List.cons_append, List.cons_append, cb_gt hx]
      rw [UInt8.lt_iff_toNat_lt] at hx
      have h3 : (y.toNat + 1) * 256 ^ v.length ≤ x.toNat * 256 ^ v.length := Nat.mul_le_mul_right _ hx
      rw [Nat.add_mul] at h3
      have h4 : Lib.compareInt ((x.toNat * 256 ^ v.length + ofBe u : Nat) : Int) ((y.toNat * 256 ^ v.length + ofBe v : Nat) : Int) = 1 := by
        unfold Lib.compareInt
        rw [if_neg (by omega), if_pos (by omega)]
      rw [h4]
      rfl
    · rw [List.cons_append, List.cons_append, cb_eq, ih]
      congr 1
      unfold Lib.compareInt
      repeat' split
      all_goals omega
end Go.Proofs.Ytpdhmlmpiaankaa

/- The walks of slices.CompareFunc at rows of values, and at rows of fields, given what the function that is handed in tells. -/
namespace Go.Proofs.Ytpdhmlmpiaankaa
open Go.RowKit

/-- The first that differs tells; else the lengths. -/
def lex (c : Nat → Int) (n1 n2 : Nat) : Int :=
  match (List.range (min n1 n2)).find? (fun i => c i != 0) with
  | some i => c i
  | none => Lib.compareInt n1 n2

theorem lex_at {c : Nat → Int} {n1 n2 j : Nat} (h : ∀ i, i < j → c i = 0) (hj : c j ≠ 0) (h1 : j < n1) (h2 : j < n2) : lex c n1 n2 = c j := by
  unfold lex
  have hm : j < min n1 n2 := by omega
  have : (List.range (min n1 n2)).find? (fun i => c i != 0) = some j := by
    rw [List.find?_range_eq_some]
    refine ⟨by simp [hj], by simpa using hm, fun i hi => by simp [h i hi]⟩
  rw [this]

theorem lex_end {c : Nat → Int} {n1 n2 : Nat} (h : ∀ i, i < min n1 n2 → c i = 0) : lex c n1 n2 = Lib.compareInt n1 n2 := by
  unfold lex
  have : (List.range (min n1 n2)).find? (fun i => c i != 0) = none := by
    rw [List.find?_range_eq_none]
    intro i hi
    simp [h i hi]
  rw [this]

set_option maxHeartbeats 4000000 in
set_option maxRecDepth 1000000 in
theorem compareVals (la lb : Option Addr) (n1 c1 n2 c2 : Nat) (l l' : Nat → GV) (c : Nat → Int) (w : World) (m1 : n1 ≤ maxLen) (m2 : n2 ≤ maxLen) (hl : Vals w la n1 l) (hl' : Vals w lb n2 l')
    (hrec : ∀ i, i < n1 → i < n2 → ∀ (v v' : Value) (w' : World), Lies w' (l i) v → Lies w' (l' i) v' → Calls Try.prog 45 #[v, v'] w' fun e w'' => e = .returned (.int .i64 (c i)) ∧ Below w'.heap.size w' w'') :
    Calls Try.prog 59 #[.slice la n1 c1, .slice lb n2 c2, .func (.func 45) #[] #[]] w fun e w' => e = .returned (.int .i64 (lex c n1 n2)) ∧ Below w.heap.size w w' := by
  have hml : maxLen = 9223372036854775807 := rfl
  have HA : Hid (Vals w la n1 l) := hl
  have HB : Hid (Vals w lb n2 l') := hl'
  clear hl hl'
  go_enter Try.func59, Try.ntmps59
  go_wp2_with fail
  go_loopw [13] (fun i wr => ∃ (j : Nat), i = .int .i64 j ∧ j ≤ n1 ∧ j ≤ n2 ∧ Hid (∀ i, i < j → c i = 0) ∧ Below w.heap.size w wr) (fun i _ => n1 - (intOf i).toNat)
  case atStart =>
    exact ⟨0, rfl, by omega, by omega, fun i hi => absurd hi (Nat.not_lt_zero _), Below.refl _ _⟩
  case round =>
    obtain ⟨j, rfl, hj, hj2, HD, hbw⟩ := hrel
    have hbs := hbw.size
    by_cases hlt : j < n1
    · obtain ⟨b, o, v', rfl, hLj, hA⟩ := HA.out j hlt
      have HLj : Hid (Lies w (l j) v') := hLj
      obtain ⟨k', n', s', la', ln', lc', fa', fn', fc', rfl⟩ := hLj.agg
      obtain ⟨d0, d1, d2, d3, d4⟩ := hA.five
      have e0 := below_keeps hbw _ _ _ d0
      have e1 := below_keeps hbw _ _ _ d1
      have e2 := below_keeps hbw _ _ _ d2
      have e3 := below_keeps hbw _ _ _ d3
      have e4 := below_keeps hbw _ _ _ d4
      clear hLj hA d0 d1 d2 d3 d4
      have hbj := hbw.alloc hbs (.cells #[.int .i64 k', .int .i64 n', .string s', .slice la' ln' lc', .slice fa' fn' fc'] 25)
      by_cases hlt2 : j < n2
      · obtain ⟨b2, o2, v2, rfl, hLj2, hA2⟩ := HB.out j hlt2
        have HLj2 : Hid (Lies w (l' j) v2) := hLj2
        obtain ⟨k2, n2', s2, la2, ln2, lc2, fa2, fn2, fc2, rfl⟩ := hLj2.agg
        obtain ⟨d0, d1, d2, d3, d4⟩ := hA2.five
        have g0 := below_keeps hbj _ _ _ d0
        have g1 := below_keeps hbj _ _ _ d1
        have g2 := below_keeps hbj _ _ _ d2
        have g3 := below_keeps hbj _ _ _ d3
        have g4 := below_keeps hbj _ _ _ d4
        clear hLj2 hA2 d0 d1 d2 d3 d4
        go_wp2_with fail
        have hbk := hbj.alloc (by simp; omega) (.cells #[.int .i64 k2, .int .i64 n2', .string s2, .slice la2 ln2 lc2, .slice fa2 fn2 fc2] 25)
        refine (hrec j hlt hlt2 _ _ _ (HLj.out.below hbk) (HLj2.out.below hbk)).mono ?_
        rintro e w1 ⟨rfl, hb1⟩
        have hb2 : Below w.heap.size w w1 := hbk.trans (hb1.mono (by simp; omega))
        clear e0 e1 e2 e3 e4 g0 g1 g2 g3 g4 hb1 hbj hbk
        by_cases hC : c j = 0
        · have HC : Hid (c j = 0) := hC
          rw [hC]
          clear hC
          go_wp2_with fail
          go_roundw
          case rel =>
            refine ⟨j + 1, by go_num, by omega, by omega, fun i hi => ?_, hb2⟩
            rcases Nat.lt_succ_iff_lt_or_eq.1 hi with h | rfl
            · exact HD.out i h
            · exact HC.out
          case measure => simp [intOf]; omega
        · have HE : Hid (lex c n1 n2 = c j) := lex_at HD.out hC hlt hlt2
          generalize c j = C at hC HE
          go_wp2_with fail
          go_ret
          exact ⟨by rw [HE.out]; rfl, hb2⟩
      · have HE : Hid (lex c n1 n2 = 1) := by
          show _ = _
          rw [lex_end (fun i hi => HD.out i (by omega))]
          unfold Lib.compareInt
          rw [if_neg (by omega), if_pos (by omega)]
        go_wp2_with fail
        go_ret
        exact ⟨by rw [HE.out]; rfl, hbj⟩
    · by_cases hlt2 : n1 < n2
      · have HE : Hid (lex c n1 n2 = -1) := by
          show _ = _
          rw [lex_end (fun i hi => HD.out i (by omega))]
          unfold Lib.compareInt
          rw [if_pos (by omega)]
        go_wp2_with fail
        go_ret
        exact ⟨by rw [HE.out]; rfl, hbw⟩
      · have HE : Hid (lex c n1 n2 = 0) := by
          show _ = _
          rw [lex_end (fun i hi => HD.out i (by omega))]
          unfold Lib.compareInt
          rw [if_neg (by omega), if_neg (by omega)]
        go_wp2_with fail
        go_ret
        exact ⟨by rw [HE.out]; rfl, hbw⟩
end Go.Proofs.Ytpdhmlmpiaankaa

/- The walk of slices.CompareFunc at rows of fields, given what the function that is handed in tells. -/
namespace Go.Proofs.Ytpdhmlmpiaankaa
open Go.RowKit

set_option maxHeartbeats 4000000 in
set_option maxRecDepth 1000000 in
theorem compareFlds (la lb : Option Addr) (n1 c1 n2 c2 : Nat) (nm nm' : Nat → ByteArray) (l l' : Nat → GV) (c : Nat → Int) (w : World) (m1 : n1 ≤ maxLen) (m2 : n2 ≤ maxLen) (hl : Flds w la n1 nm l) (hl' : Flds w lb n2 nm' l')
    (hrec : ∀ i, i < n1 → i < n2 → ∀ (v v' : Value) (w' : World), Lies w' (l i) v → Lies w' (l' i) v' → Calls Try.prog 61 #[.agg (#[.string (nm i)] ++ v.cells), .agg (#[.string (nm' i)] ++ v'.cells)] w' fun e w'' => e = .returned (.int .i64 (c i)) ∧ Below w'.heap.size w' w'') :
    Calls Try.prog 60 #[.slice la n1 c1, .slice lb n2 c2, .func (.func 61) #[] #[]] w fun e w' => e = .returned (.int .i64 (lex c n1 n2)) ∧ Below w.heap.size w w' := by
  have hml : maxLen = 9223372036854775807 := rfl
  have HA : Hid (Flds w la n1 nm l) := hl
  have HB : Hid (Flds w lb n2 nm' l') := hl'
  clear hl hl'
  go_enter Try.func60, Try.ntmps60
  go_wp2_with fail
  go_loopw [13] (fun i wr => ∃ (j : Nat), i = .int .i64 j ∧ j ≤ n1 ∧ j ≤ n2 ∧ Hid (∀ i, i < j → c i = 0) ∧ Below w.heap.size w wr) (fun i _ => n1 - (intOf i).toNat)
  case atStart =>
    exact ⟨0, rfl, by omega, by omega, fun i hi => absurd hi (Nat.not_lt_zero _), Below.refl _ _⟩
  case round =>
    obtain ⟨j, rfl, hj, hj2, HD, hbw⟩ := hrel
    have hbs := hbw.size
    by_cases hlt : j < n1
    · obtain ⟨b, o, v', rfl, hn1, dn, hLj, hA⟩ := HA.out j hlt
      have en := below_keeps hbw _ _ _ dn
      have HLj : Hid (Lies w (l j) v') := hLj
      obtain ⟨k', n', s', la', ln', lc', fa', fn', fc', rfl⟩ := hLj.agg
      obtain ⟨d0, d1, d2, d3, d4⟩ := hA.five
      have e0 := below_keeps hbw _ _ _ d0
      have e1 := below_keeps hbw _ _ _ d1
      have e2 := below_keeps hbw _ _ _ d2
      have e3 := below_keeps hbw _ _ _ d3
      have e4 := below_keeps hbw _ _ _ d4
      clear dn hLj hA d0 d1 d2 d3 d4
      have hbj := hbw.alloc hbs (.cells #[.string (nm j), .int .i64 k', .int .i64 n', .string s', .slice la' ln' lc', .slice fa' fn' fc'] 64)
      by_cases hlt2 : j < n2
      · obtain ⟨b2, o2, v2, rfl, hn2, dn, hLj2, hA2⟩ := HB.out j hlt2
        have gn := below_keeps hbj _ _ _ dn
        have HLj2 : Hid (Lies w (l' j) v2) := hLj2
        obtain ⟨k2, n2', s2, la2, ln2, lc2, fa2, fn2, fc2, rfl⟩ := hLj2.agg
        obtain ⟨d0, d1, d2, d3, d4⟩ := hA2.five
        have g0 := below_keeps hbj _ _ _ d0
        have g1 := below_keeps hbj _ _ _ d1
        have g2 := below_keeps hbj _ _ _ d2
        have g3 := below_keeps hbj _ _ _ d3
        have g4 := below_keeps hbj _ _ _ d4
        clear dn hLj2 hA2 d0 d1 d2 d3 d4
        go_wp2_with fail
        have hbk := hbj.alloc (by simp; omega) (.cells #[.string (nm' j), .int .i64 k2, .int .i64 n2', .string s2, .slice la2 ln2 lc2, .slice fa2 fn2 fc2] 64)
        refine (hrec j hlt hlt2 _ _ _ (HLj.out.below hbk) (HLj2.out.below hbk)).mono ?_
        rintro e w1 ⟨rfl, hb1⟩
        have hb2 : Below w.heap.size w w1 := hbk.trans (hb1.mono (by simp; omega))
        clear en gn e0 e1 e2 e3 e4 g0 g1 g2 g3 g4 hb1 hbj hbk
        by_cases hC : c j = 0
        · have HC : Hid (c j = 0) := hC
          rw [hC]
          clear hC
          go_wp2_with fail
          go_roundw
          case rel =>
            refine ⟨j + 1, by go_num, by omega, by omega, fun i hi => ?_, hb2⟩
            rcases Nat.lt_succ_iff_lt_or_eq.1 hi with h | rfl
            · exact HD.out i h
            · exact HC.out
          case measure => simp [intOf]; omega
        · have HE : Hid (lex c n1 n2 = c j) := lex_at HD.out hC hlt hlt2
          generalize c j = C at hC HE
          go_wp2_with fail
          go_ret
          exact ⟨by rw [HE.out]; rfl, hb2⟩
      · have HE : Hid (lex c n1 n2 = 1) := by
          show _ = _
          rw [lex_end (fun i hi => HD.out i (by omega))]
          unfold Lib.compareInt
          rw [if_neg (by omega), if_pos (by omega)]
        go_wp2_with fail
        go_ret
        exact ⟨by rw [HE.out]; rfl, hbj⟩
    · by_cases hlt2 : n1 < n2
      · have HE : Hid (lex c n1 n2 = -1) := by
          show _ = _
          rw [lex_end (fun i hi => HD.out i (by omega))]
          unfold Lib.compareInt
          rw [if_pos (by omega)]
        go_wp2_with fail
        go_ret
        exact ⟨by rw [HE.out]; rfl, hbw⟩
      · have HE : Hid (lex c n1 n2 = 0) := by
          show _ = _
          rw [lex_end (fun i hi => HD.out i (by omega))]
          unfold Lib.compareInt
          rw [if_neg (by omega), if_neg (by omega)]
        go_wp2_with fail
        go_ret
        exact ⟨by rw [HE.out]; rfl, hbw⟩
end Go.Proofs.Ytpdhmlmpiaankaa

/- The walks of value.order and value.Compare: of any two values the order, as the chapter tells it. -/
namespace Go.Proofs.Ytpdhmlmpiaankaa
open Go.RowKit

def cmpS (a b : ByteArray) : Int := Lib.compareBytes a.data.toList b.data.toList

def orElse (d c : Int) : Int := if d = 0 then c else d

/-- The order. -/
def GV.cmp : GV → GV → Int
  | .nil, _ => 0
  | _, .nil => 0
  | .mk k n s ln l fn nm f, .mk k' n' s' ln' l' fn' nm' f' =>
    if Lib.compareInt k k' ≠ 0 then Lib.compareInt k k'
    else if k = 2 ∨ k = 3 then Lib.compareInt n n'
    else if k = 4 then cmpS s s'
    else if k = 5 then lex (fun i => (l i).cmp (l' i)) ln ln'
    else if k = 6 then lex (fun i => orElse (cmpS (nm i) (nm' i)) ((f i).cmp (f' i))) fn fn'
    else 0

set_option maxHeartbeats 1000000 in
theorem compare64_any (x y : Int) (w : World) : Calls Try.prog 57 #[.int .i64 x, .int .i64 y] w fun e w' => e = .returned (.int .i64 (Lib.compareInt x y)) ∧ w' = w := by
  by_cases h1 : x < y
  · have HE : Hid (Lib.compareInt x y = -1) := by show _ = _; unfold Lib.compareInt; rw [if_pos h1]
    go_enter Try.func57, Try.ntmps57
    go_wp2
    go_ret
    exact ⟨by rw [HE.out]; rfl, rfl⟩
  · by_cases h2 : y < x
    · have HE : Hid (Lib.compareInt x y = 1) := by show _ = _; unfold Lib.compareInt; rw [if_neg h1, if_pos h2]
      go_enter Try.func57, Try.ntmps57
      go_wp2
      go_ret
      exact ⟨by rw [HE.out]; rfl, rfl⟩
    · have HE : Hid (Lib.compareInt x y = 0) := by show _ = _; unfold Lib.compareInt; rw [if_neg h1, if_neg h2]
      have hxy : x = y := by omega
      subst hxy
      go_enter Try.func57, Try.ntmps57
      go_wp2
      go_ret
      exact ⟨by rw [HE.out]; rfl, rfl⟩

theorem compareInt_zero {x y : Int} (h : Lib.compareInt x y = 0) : x = y := by
  unfold Lib.compareInt at h
  split at h
  · cases h
  · split at h
    · cases h
    · omega
theorem compareInt_self (x : Int) : Lib.compareInt x x = 0 := by
  unfold Lib.compareInt
  rw [if_neg (by omega), if_neg (by omega)]

set_option maxHeartbeats 4000000 in
set_option maxRecDepth 1000000 in
theorem orderF_any (x y : ByteArray) (ga gb : GV) (c : Int) (v v' : Value) (w : World) (ha : Lies w ga v) (hb : Lies w gb v')
    (hrec : ∀ (v v' : Value) (w' : World), Lies w' ga v → Lies w' gb v' → Calls Try.prog 45 #[v, v'] w' fun e w'' => e = .returned (.int .i64 c) ∧ Below w'.heap.size w' w'') :
    Calls Try.prog 61 #[.agg (#[.string x] ++ v.cells), .agg (#[.string y] ++ v'.cells)] w fun e w' => e = .returned (.int .i64 (orElse (cmpS x y) c)) ∧ Below w.heap.size w w' := by
  have HA : Hid (Lies w ga v) := ha
  have HB : Hid (Lies w gb v') := hb
  obtain ⟨k1, n1, s1, la1, ln1, lc1, fa1, fn1, fc1, rfl⟩ := ha.agg
  obtain ⟨k2, n2, s2, la2, ln2, lc2, fa2, fn2, fc2, rfl⟩ := hb.agg
  clear ha hb
  simp only [Value.cells]
  have hbx := ((Below.refl w.heap.size w).alloc (Nat.le_refl _) (.cells #[.string x, .int .i64 k1, .int .i64 n1, .string s1, .slice la1 ln1 lc1, .slice fa1 fn1 fc1] 64)).alloc (by simp) (.cells #[.string y, .int .i64 k2, .int .i64 n2, .string s2, .slice la2 ln2 lc2, .slice fa2 fn2 fc2] 64)
  have HBX : Hid (Below w.heap.size w _) := hbx
  clear hbx
  go_enter Try.func61, Try.ntmps61
  go_wp2_with fail
  refine (Try.strings_Compare x y _).mono ?_
  rintro e w1 ⟨rfl, rfl⟩
  rw [show Lib.compareBytes x.data.toList y.data.toList = cmpS x y from rfl]
  by_cases hd : cmpS x y = 0
  · have HE : Hid (orElse (cmpS x y) c = c) := by show _ = _; simp [orElse, hd]
    rw [hd]
    clear hd
    go_wp2_with fail
    refine (hrec _ _ _ (HA.out.below HBX.out) (HB.out.below HBX.out)).mono ?_
    rintro e w1 ⟨rfl, hb1⟩
    have hb2 : Below w.heap.size w w1 := HBX.out.trans (hb1.mono (by simp; omega))
    go_wp2_with fail
    go_ret
    exact ⟨by rw [HE.out]; rfl, hb2⟩
  · obtain ⟨d, hdd⟩ : ∃ d, d = cmpS x y := ⟨_, rfl⟩
    have HE : Hid (orElse (cmpS x y) c = d) := by show _ = _; simp [orElse, hd, hdd]
    rw [← hdd] at hd ⊢
    clear hdd
    go_wp2_with fail
    go_ret
    exact ⟨by rw [HE.out]; rfl, HBX.out⟩

set_option maxHeartbeats 4000000 in
set_option maxRecDepth 1000000 in
theorem order_any : ∀ (ga gb : GV) (v v' : Value) (w : World), Lies w ga v → Lies w gb v' →
    Calls Try.prog 45 #[v, v'] w fun e w' => e = .returned (.int .i64 (ga.cmp gb)) ∧ Below w.heap.size w w' := by
  intro ga
  induction ga with
  | nil => intro gb v v' w hL; exact False.elim hL
  | mk k n s ln l fn nm f ihl ihf =>
    intro gb v v' w ha hb
    cases gb with
    | nil => exact False.elim hb
    | mk k' n' s' ln' l' fn' nm' f' =>
      obtain ⟨la, lc, fa, fc, rfl, hk, hn, hs, h4, h5, h6, h7, hl, hf⟩ := ha
      obtain ⟨la', lc', fa', fc', rfl, hk', hn', hs', h4', h5', h6', h7', hl', hf'⟩ := hb
      have hml : maxLen = 9223372036854775807 := rfl
      have HL : Hid (Vals w la ln l) := hl
      have HL' : Hid (Vals w la' ln' l') := hl'
      have HF : Hid (Flds w fa fn nm f) := hf
      have HF' : Hid (Flds w fa' fn' nm' f') := hf'
      clear hl hl' hf hf'
      have hbx := ((Below.refl w.heap.size w).alloc (Nat.le_refl _) (.cells #[.int .i64 k, .int .i64 n, .string s, .slice la ln lc, .slice fa fn fc] 25)).alloc (by simp) (.cells #[.int .i64 k', .int .i64 n', .string s', .slice la' ln' lc', .slice fa' fn' fc'] 25)
      have HBX : Hid (Below w.heap.size w _) := hbx
      clear hbx
      by_cases hkk : k = k'
      · subst hkk
        have hcase : (k = 2 ∨ k = 3) ∨ k = 4 ∨ k = 5 ∨ k = 6 ∨ (k ≠ 2 ∧ k ≠ 3 ∧ k ≠ 4 ∧ k ≠ 5 ∧ k ≠ 6) := by omega
        rcases hcase with h23 | rfl | rfl | rfl | ⟨k2, k3, k4, k5, k6⟩
        · have HE : Hid ((GV.mk k n s ln l fn nm f).cmp (.mk k n' s' ln' l' fn' nm' f') = Lib.compareInt n n') := by
            show _ = _
            simp [GV.cmp, compareInt_self, h23]
          clear ihl ihf
          rcases h23 with rfl | rfl
          all_goals
            go_enter Try.func45, Try.ntmps45
            go_wp2_with fail
            refine (Try.cmp_Compare_int _ _ _).mono ?_
            rintro e w1 ⟨rfl, rfl⟩
            rw [compareInt_self]
            go_wp2_with fail
            refine (compare64_any n n' _).mono ?_
            rintro e w1 ⟨rfl, rfl⟩
            go_wp2_with fail
            go_ret
            exact ⟨by rw [HE.out]; rfl, HBX.out⟩
        · have HE : Hid ((GV.mk 4 n s ln l fn nm f).cmp (.mk 4 n' s' ln' l' fn' nm' f') = cmpS s s') := by
            show _ = _
            simp [GV.cmp, compareInt_self]
          clear ihl ihf
          go_enter Try.func45, Try.ntmps45
          go_wp2_with fail
          refine (Try.cmp_Compare_int _ _ _).mono ?_
          rintro e w1 ⟨rfl, rfl⟩
          rw [compareInt_self]
          go_wp2_with fail
          refine (Try.strings_Compare s s' _).mono ?_
          rintro e w1 ⟨rfl, rfl⟩
          go_wp2_with fail
          go_ret
          exact ⟨by rw [HE.out]; rfl, HBX.out⟩
        · have HE : Hid ((GV.mk 5 n s ln l fn nm f).cmp (.mk 5 n' s' ln' l' fn' nm' f') = lex (fun i => (l i).cmp (l' i)) ln ln') := by
            show _ = _
            simp [GV.cmp, compareInt_self]
          go_enter Try.func45, Try.ntmps45
          go_wp2_with fail
          refine (Try.cmp_Compare_int _ _ _).mono ?_
          rintro e w1 ⟨rfl, rfl⟩
          rw [compareInt_self]
          go_wp2_with fail
          refine (compareVals la la' ln lc ln' lc' l l' (fun i => (l i).cmp (l' i)) _ (by omega) (by omega) ?_ ?_ ?_).mono ?_
          · intro i hi
            obtain ⟨b, o, v', e, h1, h2⟩ := HL.out i hi
            exact ⟨b, o, v', e, h1.below HBX.out, h2.mono h1 (below_keeps HBX.out)⟩
          · intro i hi
            obtain ⟨b, o, v', e, h1, h2⟩ := HL'.out i hi
            exact ⟨b, o, v', e, h1.below HBX.out, h2.mono h1 (below_keeps HBX.out)⟩
          · intro i _ _ v v' w' h1 h2
            exact ihl i (l' i) v v' w' h1 h2
          rintro e w1 ⟨rfl, hb1⟩
          have hb2 : Below w.heap.size w w1 := HBX.out.trans (hb1.mono (by simp; omega))
          go_wp2_with fail
          go_ret
          exact ⟨by rw [HE.out]; rfl, hb2⟩
        · have HE : Hid ((GV.mk 6 n s ln l fn nm f).cmp (.mk 6 n' s' ln' l' fn' nm' f') = lex (fun i => orElse (cmpS (nm i) (nm' i)) ((f i).cmp (f' i))) fn fn') := by
            show _ = _
            simp [GV.cmp, compareInt_self]
          go_enter Try.func45, Try.ntmps45
          go_wp2_with fail
          refine (Try.cmp_Compare_int _ _ _).mono ?_
          rintro e w1 ⟨rfl, rfl⟩
          rw [compareInt_self]
          go_wp2_with fail
          refine (compareFlds fa fa' fn fc fn' fc' nm nm' f f' (fun i => orElse (cmpS (nm i) (nm' i)) ((f i).cmp (f' i))) _ (by omega) (by omega) ?_ ?_ ?_).mono ?_
          · intro i hi
            obtain ⟨b, o, v', e, h0, h3, h1, h2⟩ := HF.out i hi
            exact ⟨b, o, v', e, h0, below_keeps HBX.out _ _ _ h3, h1.below HBX.out, h2.mono h1 (below_keeps HBX.out)⟩
          · intro i hi
            obtain ⟨b, o, v', e, h0, h3, h1, h2⟩ := HF'.out i hi
            exact ⟨b, o, v', e, h0, below_keeps HBX.out _ _ _ h3, h1.below HBX.out, h2.mono h1 (below_keeps HBX.out)⟩
          · intro i _ _ v v' w' h1 h2
            exact orderF_any (nm i) (nm' i) (f i) (f' i) _ v v' w' h1 h2 (fun v v' w' h1 h2 => ihf i (f' i) v v' w' h1 h2)
          rintro e w1 ⟨rfl, hb1⟩
          have hb2 : Below w.heap.size w w1 := HBX.out.trans (hb1.mono (by simp; omega))
          go_wp2_with fail
          go_ret
          exact ⟨by rw [HE.out]; rfl, hb2⟩
        · have HE : Hid ((GV.mk k n s ln l fn nm f).cmp (.mk k n' s' ln' l' fn' nm' f') = 0) := by
            show _ = _
            simp [GV.cmp, compareInt_self, *]
          clear ihl ihf
          go_enter Try.func45, Try.ntmps45
          go_wp2_with fail
          refine (Try.cmp_Compare_int _ _ _).mono ?_
          rintro e w1 ⟨rfl, rfl⟩
          rw [compareInt_self]
          go_wp2_with fail
          go_ret
          exact ⟨by rw [HE.out]; rfl, HBX.out⟩
      · have hne : Lib.compareInt k k' ≠ 0 := fun h => hkk (compareInt_zero h)
        have HE : Hid ((GV.mk k n s ln l fn nm f).cmp (.mk k' n' s' ln' l' fn' nm' f') = Lib.compareInt k k') := by
          show _ = _
          simp [GV.cmp, hne]
        clear ihl ihf
        go_enter Try.func45, Try.ntmps45
        go_wp2_with fail
        refine (Try.cmp_Compare_int _ _ _).mono ?_
        rintro e w1 ⟨rfl, rfl⟩
        generalize Lib.compareInt k k' = C at hne HE
        go_wp2_with fail
        go_ret
        exact ⟨by rw [HE.out]; rfl, HBX.out⟩

/-- What Compare tells of two values. -/
def cmpErr (a b : GV) : Int := if a.err ≠ 0 then a.err else b.err
def cmpVal (a b : GV) : Int := if cmpErr a b = 0 then a.cmp b else 0

set_option maxHeartbeats 4000000 in
set_option maxRecDepth 1000000 in
theorem Compare_any (ga gb : GV) (v v' : Value) (w : World) (ha : Lies w ga v) (hb : Lies w gb v') (na : ga.nodes ≤ 16384) (nb : gb.nodes ≤ 16384) :
    Calls Try.prog 29 #[v, v'] w fun e w' => e = .returned (.tuple #[.int .i64 (cmpVal ga gb), .int .i64 (cmpErr ga gb)]) ∧ Below w.heap.size w w' := by
  have HA : Hid (Lies w ga v) := ha
  have HB : Hid (Lies w gb v') := hb
  obtain ⟨k1, n1, s1, la1, ln1, lc1, fa1, fn1, fc1, rfl⟩ := ha.agg
  obtain ⟨k2, n2, s2, la2, ln2, lc2, fa2, fn2, fc2, rfl⟩ := hb.agg
  clear ha hb
  generalize hw0 : (w.alloc (.cells #[.int .i64 k1, .int .i64 n1, .string s1, .slice la1 ln1 lc1, .slice fa1 fn1 fc1] 25)).alloc (.cells #[.int .i64 k2, .int .i64 n2, .string s2, .slice la2 ln2 lc2, .slice fa2 fn2 fc2] 25) = w0
  have B0 : Below w.heap.size w w0 := by rw [← hw0]; exact ((Below.refl w.heap.size w).alloc (Nat.le_refl _) _).alloc (by simp) _
  have S0 : w0.heap.size = w.heap.size + 2 := by rw [← hw0]; simp
  have a0 : w0.cell? ⟨w.heap.size, 0, none⟩ = some (.int .i64 k1) := by rw [← hw0]; simp
  have a1 : w0.cell? ⟨w.heap.size, 1, none⟩ = some (.int .i64 n1) := by rw [← hw0]; simp
  have a2 : w0.cell? ⟨w.heap.size, 2, none⟩ = some (.string s1) := by rw [← hw0]; simp
  have a3 : w0.cell? ⟨w.heap.size, 3, none⟩ = some (.slice la1 ln1 lc1) := by rw [← hw0]; simp
  have a4 : w0.cell? ⟨w.heap.size, 4, none⟩ = some (.slice fa1 fn1 fc1) := by rw [← hw0]; simp
  have b0 : w0.cell? ⟨w.heap.size + 1, 0, none⟩ = some (.int .i64 k2) := by rw [← hw0]; simp
  have b1 : w0.cell? ⟨w.heap.size + 1, 1, none⟩ = some (.int .i64 n2) := by rw [← hw0]; simp
  have b2 : w0.cell? ⟨w.heap.size + 1, 2, none⟩ = some (.string s2) := by rw [← hw0]; simp
  have b3 : w0.cell? ⟨w.heap.size + 1, 3, none⟩ = some (.slice la2 ln2 lc2) := by rw [← hw0]; simp
  have b4 : w0.cell? ⟨w.heap.size + 1, 4, none⟩ = some (.slice fa2 fn2 fc2) := by rw [← hw0]; simp
  have HW0 : Hid (_ = w0) := hw0
  clear hw0
  go_enter Try.func29, Try.ntmps29
  go_wp2_with fail
  rw [HW0.out]
  refine (Good_any ga _ w0 (HA.out.below B0) na).mono ?_
  rintro e w1 ⟨rfl, hb1⟩
  have B1 : Below w.heap.size w w1 := B0.trans (hb1.mono B0.size)
  have X1 : Below w0.heap.size w0 w1 := hb1
  have c0 := below_keeps X1 _ _ _ a0
  have c1 := below_keeps X1 _ _ _ a1
  have c2 := below_keeps X1 _ _ _ a2
  have c3 := below_keeps X1 _ _ _ a3
  have c4 := below_keeps X1 _ _ _ a4
  have d0 := below_keeps X1 _ _ _ b0
  have d1 := below_keeps X1 _ _ _ b1
  have d2 := below_keeps X1 _ _ _ b2
  have d3 := below_keeps X1 _ _ _ b3
  have d4 := below_keeps X1 _ _ _ b4
  clear hb1 HW0
  by_cases hE : ga.err = 0
  · have HE : Hid (cmpErr ga gb = gb.err) := by show _ = _; simp [cmpErr, hE]
    rw [hE]
    clear hE
    go_wp2_with fail
    refine (Good_any gb _ w1 (HB.out.below B1) nb).mono ?_
    rintro e w2 ⟨rfl, hb2⟩
    have B2 : Below w.heap.size w w2 := B1.trans (hb2.mono B1.size)
    have X2 : Below w0.heap.size w0 w2 := X1.trans (hb2.mono X1.size)
    clear c0 c1 c2 c3 c4 d0 d1 d2 d3 d4 X1
    have c0 := below_keeps X2 _ _ _ a0
    have c1 := below_keeps X2 _ _ _ a1
    have c2 := below_keeps X2 _ _ _ a2
    have c3 := below_keeps X2 _ _ _ a3
    have c4 := below_keeps X2 _ _ _ a4
    have d0 := below_keeps X2 _ _ _ b0
    have d1 := below_keeps X2 _ _ _ b1
    have d2 := below_keeps X2 _ _ _ b2
    have d3 := below_keeps X2 _ _ _ b3
    have d4 := below_keeps X2 _ _ _ b4
    clear hb2 a0 a1 a2 a3 a4 b0 b1 b2 b3 b4
    by_cases hF : gb.err = 0
    · have HF : Hid (cmpErr ga gb = 0 ∧ cmpVal ga gb = ga.cmp gb) := by
        have h1 : cmpErr ga gb = 0 := HE.out.trans hF
        exact ⟨h1, by simp [cmpVal, h1]⟩
      rw [hF]
      clear hF
      go_wp2_with fail
      refine (order_any ga gb _ _ w2 (HA.out.below B2) (HB.out.below B2)).mono ?_
      rintro e w3 ⟨rfl, hb3⟩
      have B3 : Below w.heap.size w w3 := B2.trans (hb3.mono B2.size)
      go_wp2_with fail
      go_ret2
      exact ⟨by rw [HF.out.1, HF.out.2]; rfl, B3⟩
    · have HF : Hid (cmpErr ga gb = gb.err ∧ cmpVal ga gb = 0) := by
        have h1 : cmpErr ga gb ≠ 0 := by rw [HE.out]; exact hF
        exact ⟨HE.out, by simp [cmpVal, h1]⟩
      generalize gb.err = E at hF HF
      clear HE
      go_wp2_with fail
      go_ret2
      exact ⟨by rw [HF.out.1, HF.out.2]; rfl, B2⟩
  · have HF : Hid (cmpErr ga gb = ga.err ∧ cmpVal ga gb = 0) := by
      have h1 : cmpErr ga gb = ga.err := by simp [cmpErr, hE]
      exact ⟨h1, by simp [cmpVal, h1, hE]⟩
    generalize ga.err = E at hE HF
    go_wp2_with fail
    go_ret2
    exact ⟨by rw [HF.out.1, HF.out.2]; rfl, B1⟩
end Go.Proofs.Ytpdhmlmpiaankaa

/- Plain facts on the order of values: the other way round; over a third one. -/
namespace Go.Proofs.Ytpdhmlmpiaankaa
open Go.RowKit

/-- Over a third one. -/
def T3 (x z y : Int) : Prop := (x ≤ 0 → z ≤ 0 → y ≤ 0) ∧ (x < 0 → z ≤ 0 → y < 0) ∧ (x ≤ 0 → z < 0 → y < 0) ∧ (x = 0 → z = 0 → y = 0)

theorem T3_int (a b c : Int) : T3 (Lib.compareInt a b) (Lib.compareInt b c) (Lib.compareInt a c) := by
  unfold Lib.compareInt
  refine ⟨?_, ?_, ?_, ?_⟩ <;> (intro h1 h2; repeat' split) <;> first | omega | (simp_all; omega)
theorem anti_int (a b : Int) : Lib.compareInt b a = - Lib.compareInt a b := by
  unfold Lib.compareInt
  repeat' split
  all_goals omega

theorem T3_str (a b c : ByteArray) : T3 (cmpS a b) (cmpS b c) (cmpS a c) := by
  have le : ∀ l m k : List UInt8, Lib.compareBytes l m ≤ 0 → Lib.compareBytes m k ≤ 0 → Lib.compareBytes l k = 0 → Lib.compareBytes l m = 0 ∧ Lib.compareBytes m k = 0 := by
    intro l m k h1 h2 h3
    have e := cmp_zero l k h3
    subst e
    have a1 := cmp_anti l m
    omega
  unfold cmpS
  have t := cmp_trans a.data.toList b.data.toList c.data.toList
  have l := le a.data.toList b.data.toList c.data.toList
  refine ⟨t, fun h1 h2 => ?_, fun h1 h2 => ?_, fun h1 h2 => ?_⟩
  · have h3 := t (by omega) h2
    rcases Int.lt_or_eq_of_le h3 with h | h
    · exact h
    · have := l (by omega) h2 h; omega
  · have h3 := t h1 (by omega)
    rcases Int.lt_or_eq_of_le h3 with h | h
    · exact h
    · have := l h1 (by omega) h; omega
  · have e1 := cmp_zero _ _ h1
    rw [e1]
    exact h2
theorem anti_str (a b : ByteArray) : cmpS b a = - cmpS a b := cmp_anti _ _

theorem T3_or {x1 z1 y1 x2 z2 y2 : Int} (h1 : T3 x1 z1 y1) (h2 : x1 = 0 → z1 = 0 → T3 x2 z2 y2) : T3 (orElse x1 x2) (orElse z1 z2) (orElse y1 y2) := by
  obtain ⟨a1, a2, a3, a4⟩ := h1
  by_cases hx : x1 = 0
  · by_cases hz : z1 = 0
    · have hy := a4 hx hz
      simp only [orElse, hx, hz, hy, if_true]
      exact h2 hx hz
    · simp only [orElse, hx, hz, if_true, if_false]
      refine ⟨fun _ h => ?_, fun _ h => ?_, fun _ h => ?_, fun _ h => absurd h hz⟩
      all_goals
        have := a3 (by omega) (by omega)
        rw [if_neg (by omega)]
        omega
  · simp only [orElse, hx, if_false]
    refine ⟨fun h1 h2 => ?_, fun h1 h2 => ?_, fun h1 h2 => ?_, fun h => absurd h hx⟩
    all_goals
      have hz : z1 ≤ 0 := by
        by_cases hz : z1 = 0
        · omega
        · rw [if_neg hz] at h2; omega
      have := a2 (by omega) hz
      rw [if_neg (by omega)]
      omega

/-- The first that differs, or none. -/
theorem lex_cases (c : Nat → Int) (n1 n2 : Nat) : (∃ i, i < n1 ∧ i < n2 ∧ (∀ j, j < i → c j = 0) ∧ c i ≠ 0 ∧ lex c n1 n2 = c i) ∨ ((∀ j, j < min n1 n2 → c j = 0) ∧ lex c n1 n2 = Lib.compareInt n1 n2) := by
  by_cases h : ∀ j, j < min n1 n2 → c j = 0
  · exact Or.inr ⟨h, lex_end h⟩
  · left
    have h' : ∃ j, j < min n1 n2 ∧ c j ≠ 0 := by
      refine Classical.byContradiction fun hn => h fun j hj => Classical.byContradiction fun hc => hn ⟨j, hj, hc⟩
    have hex : ∃ j, (j < min n1 n2 ∧ c j ≠ 0) ∧ ∀ i, i < j → ¬ (i < min n1 n2 ∧ c i ≠ 0) := by
      obtain ⟨j, hj⟩ := h'
      induction j using Nat.strongRecOn with
      | ind j ih =>
        by_cases hk : ∃ i, i < j ∧ i < min n1 n2 ∧ c i ≠ 0
        · obtain ⟨i, hi, hi2⟩ := hk
          exact ih i hi hi2
        · exact ⟨j, hj, fun i hi hc => hk ⟨i, hi, hc⟩⟩
    obtain ⟨j, ⟨hj, hc⟩, hmin⟩ := hex
    have hz : ∀ i, i < j → c i = 0 := fun i hi => Classical.byContradiction fun h0 => hmin i hi ⟨by omega, h0⟩
    exact ⟨j, by omega, by omega, hz, hc, lex_at hz hc (by omega) (by omega)⟩

theorem lex_anti {c c' : Nat → Int} {n1 n2 : Nat} (h : ∀ i, i < n1 → i < n2 → c' i = - c i) : lex c' n2 n1 = - lex c n1 n2 := by
  rcases lex_cases c n1 n2 with ⟨i, h1, h2, hz, hc, e⟩ | ⟨hz, e⟩
  · rw [e, lex_at (c := c') (j := i) (fun j hj => by rw [h j (by omega) (by omega), hz j hj]; rfl) (by rw [h i h1 h2]; omega) h2 h1, h i h1 h2]
  · rw [e, lex_end (c := c') (fun j hj => by rw [h j (by omega) (by omega), hz j (by omega)]; rfl), anti_int]

theorem compareInt_nat (a b : Nat) : (Lib.compareInt a b ≤ 0 ↔ a ≤ b) ∧ (Lib.compareInt a b < 0 ↔ a < b) ∧ (Lib.compareInt a b = 0 ↔ a = b) := by
  unfold Lib.compareInt
  refine ⟨?_, ?_, ?_⟩ <;> (repeat' split) <;> omega

theorem T3_lex {ca cb cc : Nat → Int} {n1 n2 n3 : Nat} (h : ∀ i, i < n1 → i < n2 → i < n3 → T3 (ca i) (cb i) (cc i)) : T3 (lex ca n1 n2) (lex cb n2 n3) (lex cc n1 n3) := by
  have key : lex ca n1 n2 ≤ 0 → lex cb n2 n3 ≤ 0 → lex cc n1 n3 ≤ 0 ∧ (lex ca n1 n2 < 0 ∨ lex cb n2 n3 < 0 → lex cc n1 n3 < 0) ∧ (lex ca n1 n2 = 0 → lex cb n2 n3 = 0 → lex cc n1 n3 = 0) := by
    intro hX hZ
    rcases lex_cases ca n1 n2 with ⟨p, p1, p2, pz, pc, pe⟩ | ⟨pz, pe⟩ <;> rcases lex_cases cb n2 n3 with ⟨q, q1, q2, qz, qc, qe⟩ | ⟨qz, qe⟩
    · rw [pe] at hX ⊢
      rw [qe] at hZ ⊢
      have hm : lex cc n1 n3 < 0 := by
        rcases Nat.lt_trichotomy p q with h1 | h1 | h1
        · have t := h p p1 p2 (by omega)
          have := t.2.1 (by omega) (by rw [qz p h1]; omega)
          rw [lex_at (c := cc) (j := p) (fun j hj => (h j (by omega) (by omega) (by omega)).2.2.2 (pz j hj) (qz j (by omega))) (by omega) p1 (by omega)]
          exact this
        · subst h1
          have t := h p p1 p2 q2
          have := t.2.1 (by omega) hZ
          rw [lex_at (c := cc) (j := p) (fun j hj => (h j (by omega) (by omega) (by omega)).2.2.2 (pz j hj) (qz j hj)) (by omega) p1 q2]
          exact this
        · have t := h q (by omega) q1 q2
          have := t.2.2.1 (by rw [pz q h1]; omega) (by omega)
          rw [lex_at (c := cc) (j := q) (fun j hj => (h j (by omega) (by omega) (by omega)).2.2.2 (pz j (by omega)) (qz j hj)) (by omega) (by omega) q2]
          exact this
      exact ⟨by omega, fun _ => hm, fun h0 => absurd h0 pc⟩
    · rw [pe] at hX ⊢
      rw [qe] at hZ ⊢
      have h23 := (compareInt_nat n2 n3).1.1 hZ
      have hm : lex cc n1 n3 < 0 := by
        have t := h p p1 p2 (by omega)
        have := t.2.1 (by omega) (by rw [qz p (by omega)]; omega)
        rw [lex_at (c := cc) (j := p) (fun j hj => (h j (by omega) (by omega) (by omega)).2.2.2 (pz j hj) (qz j (by omega))) (by omega) p1 (by omega)]
        exact this
      exact ⟨by omega, fun _ => hm, fun h0 => absurd h0 pc⟩
    · rw [pe] at hX ⊢
      rw [qe] at hZ ⊢
      have h12 := (compareInt_nat n1 n2).1.1 hX
      have hm : lex cc n1 n3 < 0 := by
        by_cases hq : q < n1
        · have t := h q hq q1 q2
          have := t.2.2.1 (by rw [pz q (by omega)]; omega) (by omega)
          rw [lex_at (c := cc) (j := q) (fun j hj => (h j (by omega) (by omega) (by omega)).2.2.2 (pz j (by omega)) (qz j hj)) (by omega) hq q2]
          exact this
        · rw [lex_end (c := cc) (fun j hj => (h j (by omega) (by omega) (by omega)).2.2.2 (pz j (by omega)) (qz j (by omega)))]
          exact (compareInt_nat n1 n3).2.1.2 (by omega)
      exact ⟨by omega, fun _ => hm, fun _ h0 => absurd h0 qc⟩
    · rw [pe] at hX ⊢
      rw [qe] at hZ ⊢
      have h12 := (compareInt_nat n1 n2).1.1 hX
      have h23 := (compareInt_nat n2 n3).1.1 hZ
      rw [lex_end (c := cc) (fun j hj => (h j (by omega) (by omega) (by omega)).2.2.2 (pz j (by omega)) (qz j (by omega)))]
      refine ⟨(compareInt_nat n1 n3).1.2 (by omega), fun hh => (compareInt_nat n1 n3).2.1.2 ?_, fun h0 h1 => (compareInt_nat n1 n3).2.2.2 ?_⟩
      · rcases hh with hh | hh
        · have := (compareInt_nat n1 n2).2.1.1 hh; omega
        · have := (compareInt_nat n2 n3).2.1.1 hh; omega
      · have := (compareInt_nat n1 n2).2.2.1 h0
        have := (compareInt_nat n2 n3).2.2.1 h1
        omega
  refine ⟨fun h1 h2 => (key h1 h2).1, fun h1 h2 => (key (by omega) h2).2.1 (Or.inl h1), fun h1 h2 => (key h1 (by omega)).2.1 (Or.inr h2), fun h1 h2 => (key (by omega) (by omega)).2.2 h1 h2⟩
end Go.Proofs.Ytpdhmlmpiaankaa

/- Keys are ordered as their values. (No walk.) -/
namespace Go.Proofs.Ytpdhmlmpiaankaa
open Go.RowKit

theorem thenC_assoc (a b c : Int) : thenC (thenC a b) c = thenC a (thenC b c) := by
  unfold thenC
  by_cases h : a = 0
  · simp [h]
  · simp [h]
theorem thenC_zero (c : Int) : thenC 0 c = c := rfl
theorem thenC_ne {a : Int} (h : a ≠ 0) (c : Int) : thenC a c = a := by unfold thenC; rw [if_neg h]
theorem or_then (a b : Int) : orElse a b = thenC a b := rfl
/-- The order of rows, from a place on. -/
def lexR (c : Nat → Int) : Nat → Nat → Nat → Int
  | _, 0, 0 => 0
  | _, 0, _ + 1 => -1
  | _, _ + 1, 0 => 1
  | j, a + 1, b + 1 => thenC (c j) (lexR c (j + 1) a b)
theorem lexR_at (c : Nat → Int) : ∀ (i j d1 d2 : Nat), i < d1 → i < d2 → (∀ t, t < i → c (j + t) = 0) → c (j + i) ≠ 0 → lexR c j d1 d2 = c (j + i)
  | _, _, 0, _, h, _, _, _ => absurd h (Nat.not_lt_zero _)
  | _, _, _ + 1, 0, _, h, _, _ => absurd h (Nat.not_lt_zero _)
  | 0, j, a + 1, b + 1, _, _, _, hc => thenC_ne hc _
  | i + 1, j, a + 1, b + 1, h1, h2, hz, hc => by
    have h0 : c j = 0 := hz 0 (by omega)
    rw [lexR, h0, thenC_zero, lexR_at c i (j + 1) a b (by omega) (by omega) (fun t ht => by have := hz (t + 1) (by omega); rwa [show j + 1 + t = j + (t + 1) by omega]) (by rwa [show j + 1 + i = j + (i + 1) by omega]), show j + 1 + i = j + (i + 1) by omega]
theorem lexR_end (c : Nat → Int) : ∀ (j d1 d2 : Nat), (∀ t, t < min d1 d2 → c (j + t) = 0) → lexR c j d1 d2 = Lib.compareInt (d1 : Int) (d2 : Int)
  | _, 0, 0, _ => rfl
  | _, 0, b + 1, _ => by
    unfold lexR Lib.compareInt
    rw [if_pos (by omega)]
  | _, a + 1, 0, _ => by
    unfold lexR Lib.compareInt
    rw [if_neg (by omega), if_pos (by omega)]
  | j, a + 1, b + 1, h => by
    have h0 : c j = 0 := h 0 (by omega)
    rw [lexR, h0, thenC_zero, lexR_end c (j + 1) a b (fun t ht => by have := h (t + 1) (by omega); rwa [show j + 1 + t = j + (t + 1) by omega])]
    unfold Lib.compareInt
    repeat' split
    all_goals omega
theorem lexR_lex (c : Nat → Int) (n1 n2 : Nat) : lexR c 0 n1 n2 = lex c n1 n2 := by
  rcases lex_cases c n1 n2 with ⟨i, h1, h2, hz, hc, e⟩ | ⟨hz, e⟩
  · rw [e, lexR_at c i 0 n1 n2 h1 h2 (fun t ht => by rw [Nat.zero_add]; exact hz t ht) (by rw [Nat.zero_add]; exact hc), Nat.zero_add]
  · rw [e, lexR_end c 0 n1 n2 (fun t ht => by rw [Nat.zero_add]; exact hz t ht)]
/-- Parts one behind the other, each with a byte 1 ahead, and a byte 0 at the end. -/
theorem cb_parts (P Q : Nat → List UInt8) (c : Nat → Int) (n1 n2 : Nat) (h : ∀ i, i < n1 → i < n2 → ∀ r r', Lib.compareBytes (P i ++ r) (Q i ++ r') = thenC (c i) (Lib.compareBytes r r')) (r r' : List UInt8) :
    ∀ (d1 d2 j : Nat), j + d1 = n1 → j + d2 = n2 → Lib.compareBytes ((List.range' j d1).flatMap (fun i => 1 :: P i) ++ 0 :: r) ((List.range' j d2).flatMap (fun i => 1 :: Q i) ++ 0 :: r') = thenC (lexR c j d1 d2) (Lib.compareBytes r r')
  | 0, 0, _, _, _ => by
    show Lib.compareBytes (0 :: r) (0 :: r') = _
    rw [cb_eq]
    rfl
  | 0, b + 1, j, _, _ => by
    rw [List.range'_succ, List.flatMap_cons]
    show Lib.compareBytes (0 :: r) (1 :: _) = -1
    exact cb_lt (by decide) _ _
  | a + 1, 0, j, _, _ => by
    rw [List.range'_succ, List.flatMap_cons]
    show Lib.compareBytes (1 :: _) (0 :: r') = 1
    exact cb_gt (by decide) _ _
  | a + 1, b + 1, j, h1, h2 => by
    rw [List.range'_succ, List.range'_succ, List.flatMap_cons, List.flatMap_cons, List.cons_append, List.cons_append, List.cons_append, List.cons_append, cb_eq, List.append_assoc, List.append_assoc, h j (by omega) (by omega), cb_parts P Q c n1 n2 h r r' a b (j + 1) (by omega) (by omega), lexR, thenC_assoc]
theorem byteK_lt {k k' : Int} (h : 1 ≤ k ∧ k ≤ 6) (h' : 1 ≤ k' ∧ k' ≤ 6) (hlt : k < k') : byteOf (10 * k) < byteOf (10 * k') := by
  rw [UInt8.lt_iff_toNat_lt, byteK ⟨by omega, by omega⟩, byteK ⟨by omega, by omega⟩]
  omega
theorem kind_range {k n s ln l fn nm f} (h : (GV.mk k n s ln l fn nm f).formed = true) : 1 ≤ k ∧ k ≤ 6 := by
  rcases kind_of h with rfl | rfl | rfl | rfl | rfl | rfl <;> omega

/-- Keys are ordered as their values. -/
theorem key_cmp : ∀ a b : GV, a.every GV.formed = true → b.every GV.formed = true → a.every GV.nOk = true → b.every GV.nOk = true → ∀ r r', Lib.compareBytes (a.key ++ r) (b.key ++ r') = thenC (a.cmp b) (Lib.compareBytes r r') := by
  intro a
  induction a with
  | nil => intro b h; simp [GV.every, GV.formed] at h
  | mk k n s ln l fn nm f ihl ihf =>
    intro b ha hb na nb r r'
    cases b with
    | nil => simp [GV.every, GV.formed] at hb
    | mk k' n' s' ln' l' fn' nm' f' =>
      have ka := kind_range (every_top ha)
      have kb := kind_range (every_top hb)
      by_cases hk : k = k'
      · subst hk
        have hc0 : ¬ (Lib.compareInt k k ≠ 0) := by simp [Lib.compareInt]
        rw [GV.cmp, if_neg hc0]
        rcases kind_of (every_top ha) with rfl | rfl | rfl | rfl | rfl | rfl
        · simp only [GV.key]
          rw [if_neg (by omega), if_neg (by omega), if_neg (by omega), if_neg (by omega), if_neg (by omega), if_neg (by omega), if_neg (by omega), if_neg (by omega), if_neg (by omega)]
          rw [List.cons_append, List.cons_append, cb_eq]
          rfl
        · have e1 : (GV.mk 2 n s ln l fn nm f).key = byteOf (10 * 2) :: [byteOf n] := by simp [GV.key]
          have e2 : (GV.mk 2 n' s' ln' l' fn' nm' f').key = byteOf (10 * 2) :: [byteOf n'] := by simp [GV.key]
          have fa := every_top ha
          have fb := every_top hb
          simp [GV.formed] at fa fb
          rw [e1, e2, if_pos (by omega)]
          show Lib.compareBytes (byteOf (10 * 2) :: (byteOf n :: r)) (byteOf (10 * 2) :: (byteOf n' :: r')) = _
          rw [cb_eq]
          rcases fa.1.1.1 with rfl | rfl <;> rcases fb.1.1.1 with rfl | rfl
          · rw [cb_eq]; rfl
          · show Lib.compareBytes (byteOf 0 :: r) (byteOf 1 :: r') = _
            rw [cb_lt (by decide)]; rfl
          · show Lib.compareBytes (byteOf 1 :: r) (byteOf 0 :: r') = _
            rw [cb_gt (by decide)]; rfl
          · rw [cb_eq]; rfl
        · have e1 : (GV.mk 3 n s ln l fn nm f).key = byteOf (10 * 3) :: numK n := by simp [GV.key]
          have e2 : (GV.mk 3 n' s' ln' l' fn' nm' f').key = byteOf (10 * 3) :: numK n' := by simp [GV.key]
          have ia : Int64 n := by have := every_top na; simp [GV.nOk] at this; exact this
          have ib : Int64 n' := by have := every_top nb; simp [GV.nOk] at this; exact this
          have q1 := numK_back ia
          have q2 := numK_back ib
          rw [e1, e2, if_pos (by omega), List.cons_append, List.cons_append, cb_eq, cb_num (numK n) (numK n') r r' (by rw [numK_len, numK_len])]
          congr 1
          unfold Lib.compareInt
          repeat' split
          all_goals omega
        · have e1 : (GV.mk 4 n s ln l fn nm f).key = byteOf (10 * 4) :: lettersK s.data.toList := by simp [GV.key]
          have e2 : (GV.mk 4 n' s' ln' l' fn' nm' f').key = byteOf (10 * 4) :: lettersK s'.data.toList := by simp [GV.key]
          rw [e1, e2, if_neg (by omega), if_pos rfl, List.cons_append, List.cons_append, cb_eq, cb_letters]
          rfl
        · have e1 : (GV.mk 5 n s ln l fn nm f).key ++ r = byteOf (10 * 5) :: ((List.range' 0 ln).flatMap (fun i => 1 :: (l i).key) ++ 0 :: r) := by simp [GV.key, List.range_eq_range']
          have e2 : (GV.mk 5 n' s' ln' l' fn' nm' f').key ++ r' = byteOf (10 * 5) :: ((List.range' 0 ln').flatMap (fun i => 1 :: (l' i).key) ++ 0 :: r') := by simp [GV.key, List.range_eq_range']
          rw [e1, e2, if_neg (by omega), if_neg (by omega), if_pos rfl, cb_eq, cb_parts (fun i => (l i).key) (fun i => (l' i).key) (fun i => (l i).cmp (l' i)) ln ln' (fun i h1 h2 r r' => ihl i (l' i) (every_l ha i h1) (every_l hb i h2) (every_l na i h1) (every_l nb i h2) r r') r r' ln ln' 0 (by omega) (by omega), lexR_lex]
        · have e1 : (GV.mk 6 n s ln l fn nm f).key ++ r = byteOf (10 * 6) :: ((List.range' 0 fn).flatMap (fun i => 1 :: (lettersK (nm i).data.toList ++ (f i).key)) ++ 0 :: r) := by simp [GV.key, List.range_eq_range']
          have e2 : (GV.mk 6 n' s' ln' l' fn' nm' f').key ++ r' = byteOf (10 * 6) :: ((List.range' 0 fn').flatMap (fun i => 1 :: (lettersK (nm' i).data.toList ++ (f' i).key)) ++ 0 :: r') := by simp [GV.key, List.range_eq_range']
          rw [e1, e2, if_neg (by omega), if_neg (by omega), if_neg (by omega), if_pos rfl, cb_eq, cb_parts (fun i => lettersK (nm i).data.toList ++ (f i).key) (fun i => lettersK (nm' i).data.toList ++ (f' i).key) (fun i => orElse (cmpS (nm i) (nm' i)) ((f i).cmp (f' i))) fn fn' (fun i h1 h2 r r' => by
            rw [List.append_assoc, List.append_assoc, cb_letters, ihf i (f' i) (every_f ha i h1) (every_f hb i h2) (every_f na i h1) (every_f nb i h2) r r', or_then, thenC_assoc]
            rfl) r r' fn fn' 0 (by omega) (by omega), lexR_lex]
      · have e1 : ∃ t, (GV.mk k n s ln l fn nm f).key = byteOf (10 * k) :: t := ⟨_, rfl⟩
        have e2 : ∃ t, (GV.mk k' n' s' ln' l' fn' nm' f').key = byteOf (10 * k') :: t := ⟨_, rfl⟩
        obtain ⟨t, e1⟩ := e1
        obtain ⟨t', e2⟩ := e2
        rw [e1, e2, List.cons_append, List.cons_append, GV.cmp]
        rcases Int.lt_or_gt_of_ne hk with h | h
        · have hc : Lib.compareInt k k' = -1 := by unfold Lib.compareInt; rw [if_pos h]
          rw [cb_lt (byteK_lt ka kb h), hc, if_pos (by decide)]
          rfl
        · have hc : Lib.compareInt k k' = 1 := by unfold Lib.compareInt; rw [if_neg (by omega), if_pos h]
          rw [cb_gt (byteK_lt kb ka h), hc, if_pos (by decide)]
          rfl
/-- The keys of two good values, byte by byte. -/
theorem keys_order {a b : GV} (ha : a.err = 0) (hb : b.err = 0) (na : a.every GV.nOk = true) (nb : b.every GV.nOk = true) : Lib.compareBytes a.key b.key = a.cmp b := by
  have h := key_cmp a b (err_zeroM ha).1 (err_zeroM hb).1 na nb [] []
  rw [List.append_nil, List.append_nil] at h
  rw [h]
  unfold thenC
  split
  · rename_i h0
    rw [h0]
    rfl
  · rfl
end Go.Proofs.Ytpdhmlmpiaankaa
