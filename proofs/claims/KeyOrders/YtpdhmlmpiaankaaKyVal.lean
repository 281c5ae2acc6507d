/- The writer of keys: a value, of whatever kind. -/
import Derived.Test.YtpdhmlmpiaankaaKyNumW
namespace Go.Proofs.Ytpdhmlmpiaankaa
open Go.RowKit

/-- What the writer does with a value. -/
def KeyAny (g : GV) : Prop := ∀ (W B : Nat) (d : List UInt8) (v0 v : Value) (w : World), Wr W B d v0 w → B ≤ w.heap.size → Und B w g v → d.length + g.key.length ≤ 1000000000000 →
  Calls Try.prog 44 #[.pointer (some ⟨W, 0, none⟩), v] w fun e w' => WSay W B v0 w (d ++ g.key) e w'
/-- What writes that which stands behind the byte of a Kind. -/
def restF (k : Int) : Nat := if k = 2 then 74 else if k = 3 then 75 else if k = 4 then 76 else if k = 5 then 77 else if k = 6 then 78 else 79

set_option maxHeartbeats 1000000 in
set_option maxRecDepth 1000000 in
theorem wrest_any (W : Nat) (k : Int) (w : World) : Calls Try.prog 55 #[.pointer (some ⟨W, 0, none⟩), .int .i64 k] w fun e w' => e = .returned (.func (.func (restF k)) #[.pointer (some ⟨W, 0, none⟩)] #[]) ∧ w' = w := by
  unfold restF
  by_cases h2 : k = 2
  · subst h2
    go_enter Try.func55, Try.ntmps55
    go_wp2_with fail
    go_ret
    exact ⟨rfl, rfl⟩
  have k2 : (k == 2) = false := by simpa using h2
  by_cases h3 : k = 3
  · subst h3
    go_enter Try.func55, Try.ntmps55
    go_wp2_with fail
    go_ret
    exact ⟨rfl, rfl⟩
  have k3 : (k == 3) = false := by simpa using h3
  by_cases h4 : k = 4
  · subst h4
    go_enter Try.func55, Try.ntmps55
    go_wp2_with fail
    go_ret
    exact ⟨rfl, rfl⟩
  have k4 : (k == 4) = false := by simpa using h4
  by_cases h5 : k = 5
  · subst h5
    go_enter Try.func55, Try.ntmps55
    go_wp2_with fail
    go_ret
    exact ⟨rfl, rfl⟩
  have k5 : (k == 5) = false := by simpa using h5
  by_cases h6 : k = 6
  · subst h6
    go_enter Try.func55, Try.ntmps55
    go_wp2_with fail
    go_ret
    exact ⟨rfl, rfl⟩
  have k6 : (k == 6) = false := by simpa using h6
  rw [if_neg h2, if_neg h3, if_neg h4, if_neg h5, if_neg h6]
  clear h2 h3 h4 h5 h6
  go_enter Try.func55, Try.ntmps55
  go_wp2_with fail
  go_ret
  exact ⟨rfl, rfl⟩

theorem run_code {f : FuncId} {fn : Func} (args : Array Value) (w : World) (h1 : Try.prog.funcs[f]? = some fn) (h2 : (fn.name == "runtime.NumGoroutine") = false) (h3 : fn.body.isNone = false) : (callFunc f args).run Try.prog w = .ok (.enter f args) w := by
  have h2' : ¬ fn.name = "runtime.NumGoroutine" := by simpa using h2
  have h3' : ¬ fn.body = none := by
    intro e
    rw [e] at h3
    exact absurd h3 (by decide)
  unfold callFunc
  simp [h1, h2', h3']
theorem run_rest (k : Int) (args : Array Value) (w : World) : (callFunc (restF k) args).run Try.prog w = .ok (.enter (restF k) args) w := by
  unfold restF
  split
  · exact run_code args w Try.func74 (by kernel_rfl) (by kernel_rfl)
  split
  · exact run_code args w Try.func75 (by kernel_rfl) (by kernel_rfl)
  split
  · exact run_code args w Try.func76 (by kernel_rfl) (by kernel_rfl)
  split
  · exact run_code args w Try.func77 (by kernel_rfl) (by kernel_rfl)
  split
  · exact run_code args w Try.func78 (by kernel_rfl) (by kernel_rfl)
  · exact run_code args w Try.func79 (by kernel_rfl) (by kernel_rfl)

set_option maxHeartbeats 2000000 in
set_option maxRecDepth 1000000 in
/-- The head, and what is behind it by what is known of that. -/
theorem wvalue_any (W B : Nat) (d t : List UInt8) (v0 : Value) (k n : Int) (s : ByteArray) (la : Option Addr) (ln lc : Nat) (fa : Option Addr) (fn fc : Nat) (w : World) (h : Wr W B d v0 w) (hB : B ≤ w.heap.size) (hl : d.length + 1 ≤ 1000000000000)
    (hrest : ∀ (v1 : Value) (w1 : World), Wr W B (d ++ [byteOf (10 * k)]) v1 w1 → GroW W v0 w v1 w1 → Calls Try.prog (restF k) #[.pointer (some ⟨W, 0, none⟩), .agg #[.int .i64 k, .int .i64 n, .string s, .slice la ln lc, .slice fa fn fc]] w1 fun e w' => WSay W B v1 w1 ((d ++ [byteOf (10 * k)]) ++ t) e w') (hk : 0 ≤ k ∧ k ≤ 1000) :
    Calls Try.prog 44 #[.pointer (some ⟨W, 0, none⟩), .agg #[.int .i64 k, .int .i64 n, .string s, .slice la ln lc, .slice fa fn fc]] w fun e w' => WSay W B v0 w (d ++ byteOf (10 * k) :: t) e w' := by
  have hml : maxLen = 9223372036854775807 := rfl
  have hbx := (RowKit.Below.refl w.heap.size w).alloc (Nat.le_refl _) (.cells #[.int .i64 k, .int .i64 n, .string s, .slice la ln lc, .slice fa fn fc] 25)
  have h1 := h.new hbx
  have HP := mkHid (put_one W B d (byteOf (10 * k)) v0 _ h1 (by simp; omega) hl)
  rw [byteOf_mod] at HP
  have HG0 := mkHid ((GroW.refl W v0 w).new hbx)
  have HBK : Hid (∀ (v1 : Value) (w1 : World), GroW W v0 (w.alloc (.cells #[.int .i64 k, .int .i64 n, .string s, .slice la ln lc, .slice fa fn fc] 25)) v1 w1 → Blk5 w1 w.heap.size (.int .i64 k) (.int .i64 n) (.string s) (.slice la ln lc) (.slice fa fn fc)) := by
    intro v1 w1 hg
    unfold Blk5
    have hne := h.old (k := w.heap.size) (Nat.le_refl _)
    rw [hg.keep (by simp) hne.1 hne.2]
    exact Blk5.new w _ _ _ _ _
  have HR := mkHid hrest
  have HD : Hid (d ++ byteOf (10 * k) :: t = (d ++ [byteOf (10 * k)]) ++ t) := by show _ = _; simp
  rw [HD.out]
  obtain ⟨D, hD⟩ : ∃ D, D = d ++ [byteOf (10 * k)] := ⟨_, rfl⟩
  rw [← hD] at HR HP
  rw [← hD]
  clear h h1 hbx hrest hD HD
  go_enter Try.func44, Try.ntmps44
  go_wp2_with fail
  refine (show Calls _ _ _ _ _ from by simpa using HP.out).mono ?_
  rintro e w1 ⟨rfl, v1, hw1, hg1⟩
  obtain ⟨c0, c1, c2, c3, c4⟩ := (HBK.out v1 w1 hg1).cells
  have HC := mkHid (HR.out v1 w1 hw1 (HG0.out.trans hg1))
  have HG1 := mkHid (HG0.out.trans hg1)
  clear hw1 hg1
  go_wp2_with fail
  refine (wrest_any W k w1).mono ?_
  rintro e w2 ⟨rfl, rfl⟩
  go_wp2_with fail
  rw [run_rest, Oper.upon_enter]
  refine HC.out.mono ?_
  rintro e w2 ⟨rfl, v2, hw2, hg2⟩
  have HE : Hid (∃ v', Wr W B (D ++ t) v' w2 ∧ GroW W v0 w v' w2) := ⟨v2, hw2, HG1.out.trans hg2⟩
  clear hw2 hg2
  go_wp2_with fail
  refine bodyPost_end (v := .tuple #[]) ?_ rfl ⟨rfl, HE.out⟩
  have hres : Try.f44.results = #[] := by kernel_rfl
  simp [results]
end Go.Proofs.Ytpdhmlmpiaankaa
