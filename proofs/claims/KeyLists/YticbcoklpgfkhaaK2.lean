/- Some texts in one: each opens with its own remark. -/
import Derived.Test.YticbcoklpgfkhaaKyPut
/- The writer of keys: an Int's eight bytes; a Bool; a text. -/
namespace Go.Proofs.Yticbcoklpgfkhaa
open Go.RowKit

theorem byteOf_mod (n : Int) : ((byteOf n).toNat : Int) = n % 256 := by
  unfold byteOf
  have : (n % 256).toNat < 256 := by omega
  simp
  omega
theorem be8_at (m j : Nat) (hj : j < 8) : ∃ x : UInt8, (be8 m).take (j + 1) = (be8 m).take j ++ [x] ∧ (x.toNat : Int) = (m : Int) / 2 ^ (56 - 8 * j) % 256 := by
  have e : ∀ n : Nat, ((UInt8.ofNat (n % 256)).toNat : Int) = ((n % 256 : Nat) : Int) := fun n => by simp
  have h : j = 0 ∨ j = 1 ∨ j = 2 ∨ j = 3 ∨ j = 4 ∨ j = 5 ∨ j = 6 ∨ j = 7 := by omega
  rcases h with rfl | rfl | rfl | rfl | rfl | rfl | rfl | rfl <;> refine ⟨_, rfl, ?_⟩ <;> rw [e] <;> simp
set_option maxHeartbeats 1000000 in
set_option maxRecDepth 1000000 in
theorem wnumber_any (W B : Nat) (d : List UInt8) (v0 : Value) (k n : Int) (s : ByteArray) (la : Option Addr) (ln lc : Nat) (fa : Option Addr) (fn fc : Nat) (w : World) (h : Wr W B d v0 w) (hB : B ≤ w.heap.size) (hn : Int64 n) (hl : d.length + 8 ≤ 1000000000000) :
    Calls Try.prog 75 #[.pointer (some ⟨W, 0, none⟩), .agg #[.int .i64 k, .int .i64 n, .string s, .slice la ln lc, .slice fa fn fc]] w fun e w' => WSay W B v0 w (d ++ numK n) e w' := by
  have hml : maxLen = 9223372036854775807 := rfl
  have H := mkHid h
  obtain ⟨m, hm⟩ : ∃ m : Nat, m = (n + 9223372036854775808).toNat := ⟨_, rfl⟩
  have hm64 : m < 18446744073709551616 := by have := hn.1; have := hn.2; omega
  have HM : Hid (IntKind.u64.wrap (wrap64 (n + 9223372036854775808)) = (m : Int)) := by
    have h1 := hn.1
    have h2 := hn.2
    show IntKind.u64.wrap (wrap64 (n + 9223372036854775808)) = (m : Int)
    rw [IntKind.wrap_u64, hm]
    unfold wrap64
    omega
  have HNK : Hid (numK n = be8 m) := by rw [hm]; rfl
  rw [HNK.out]
  have hbx := (RowKit.Below.refl w.heap.size w).alloc (Nat.le_refl _) (.cells #[.int .i64 k, .int .i64 n, .string s, .slice la ln lc, .slice fa fn fc] 25)
  have H1 := mkHid (h.new hbx)
  have HG0 := mkHid ((GroW.refl W v0 w).new hbx)
  clear h hm hn hbx
  go_enter Try.func75, Try.ntmps75
  go_wp2_with fail
  rw [HM.out]
  go_loopw [5] (fun i wr => ∃ (j : Nat) (v : Value), i = .int .i64 (56 - 8 * (j : Int)) ∧ j ≤ 8 ∧ Wr W B (d ++ (be8 m).take j) v wr ∧ GroW W v0 w v wr) (fun i _ => (intOf i + 8).toNat)
  case atStart => exact ⟨0, v0, rfl, by omega, by simpa using H1.out, HG0.out⟩
  case round =>
    obtain ⟨j, v, rfl, hj, hw, hg⟩ := hrel
    by_cases hlt : j < 8
    · have hge : (0 : Int) ≤ 56 - 8 * (j : Int) := by omega
      obtain ⟨x, hx1, hx2⟩ := be8_at m j hlt
      have hsz := hg.size
      have HP := mkHid (put_one W B _ x v wr hw (by omega) (by simp; omega))
      rw [hx2] at HP
      have HG := mkHid hg
      have HX := mkHid hx1
      clear hw hg hx1 hx2
      go_wp2_with fail
      refine HP.out.mono ?_
      rintro e w1 ⟨rfl, v1, hw1, hg1⟩
      have HW1 := mkHid hw1
      have HG1 := mkHid (HG.out.trans hg1)
      clear hw1 hg1
      go_wp2_with fail
      go_roundw
      case rel =>
        refine ⟨j + 1, v1, by go_num, by omega, ?_, HG1.out⟩
        have h := HW1.out
        rw [HX.out, ← List.append_assoc]
        exact h
      case measure => simp [intOf]; omega
    · obtain rfl : j = 8 := by omega
      have HE : Hid (∃ v', Wr W B (d ++ be8 m) v' wr ∧ GroW W v0 w v' wr) := ⟨v, hw, hg⟩
      clear hw hg
      go_wp2_with fail
      refine bodyPost_end (v := .tuple #[]) ?_ rfl ⟨rfl, HE.out⟩
      have hres : Try.f75.results = #[] := by kernel_rfl
      simp [results]
set_option maxHeartbeats 1000000 in
set_option maxRecDepth 1000000 in
theorem wtruth_any (W B : Nat) (d : List UInt8) (v0 : Value) (k n : Int) (s : ByteArray) (la : Option Addr) (ln lc : Nat) (fa : Option Addr) (fn fc : Nat) (w : World) (h : Wr W B d v0 w) (hB : B ≤ w.heap.size) (hl : d.length + 1 ≤ 1000000000000) :
    Calls Try.prog 74 #[.pointer (some ⟨W, 0, none⟩), .agg #[.int .i64 k, .int .i64 n, .string s, .slice la ln lc, .slice fa fn fc]] w fun e w' => WSay W B v0 w (d ++ [byteOf n]) e w' := by
  have hml : maxLen = 9223372036854775807 := rfl
  have hbx := (RowKit.Below.refl w.heap.size w).alloc (Nat.le_refl _) (.cells #[.int .i64 k, .int .i64 n, .string s, .slice la ln lc, .slice fa fn fc] 25)
  have HP := mkHid (put_one W B d (byteOf n) v0 _ (h.new hbx) (by simp; omega) hl)
  have HG0 := mkHid ((GroW.refl W v0 w).new hbx)
  rw [byteOf_mod] at HP
  clear h hbx
  go_enter Try.func74, Try.ntmps74
  go_wp2_with fail
  refine (show Calls _ _ _ _ _ from by simpa using HP.out).mono ?_
  rintro e w1 ⟨rfl, v1, hw1, hg1⟩
  have HE : Hid (∃ v', Wr W B (d ++ [byteOf n]) v' w1 ∧ GroW W v0 w v' w1) := ⟨v1, hw1, HG0.out.trans hg1⟩
  clear hw1 hg1
  go_wp2_with fail
  refine bodyPost_end (v := .tuple #[]) ?_ rfl ⟨rfl, HE.out⟩
  have hres : Try.f74.results = #[] := by kernel_rfl
  simp [results]
set_option maxHeartbeats 1000000 in
set_option maxRecDepth 1000000 in
theorem wtext_any (W B : Nat) (d : List UInt8) (v0 : Value) (k n : Int) (s : ByteArray) (la : Option Addr) (ln lc : Nat) (fa : Option Addr) (fn fc : Nat) (w : World) (h : Wr W B d v0 w) (hB : B ≤ w.heap.size) (hl : d.length + (lettersK s.data.toList).length ≤ 1000000000000) :
    Calls Try.prog 76 #[.pointer (some ⟨W, 0, none⟩), .agg #[.int .i64 k, .int .i64 n, .string s, .slice la ln lc, .slice fa fn fc]] w fun e w' => WSay W B v0 w (d ++ lettersK s.data.toList) e w' := by
  have hml : maxLen = 9223372036854775807 := rfl
  have hbx := (RowKit.Below.refl w.heap.size w).alloc (Nat.le_refl _) (.cells #[.int .i64 k, .int .i64 n, .string s, .slice la ln lc, .slice fa fn fc] 25)
  have HP := mkHid (wletters_any W B d v0 s _ (h.new hbx) (by simp; omega) hl)
  have HG0 := mkHid ((GroW.refl W v0 w).new hbx)
  clear h hbx
  go_enter Try.func76, Try.ntmps76
  go_wp2_with fail
  refine HP.out.mono ?_
  rintro e w1 ⟨rfl, v1, hw1, hg1⟩
  have HE : Hid (∃ v', Wr W B (d ++ lettersK s.data.toList) v' w1 ∧ GroW W v0 w v' w1) := ⟨v1, hw1, HG0.out.trans hg1⟩
  clear hw1 hg1
  go_wp2_with fail
  refine bodyPost_end (v := .tuple #[]) ?_ rfl ⟨rfl, HE.out⟩
  have hres : Try.f76.results = #[] := by kernel_rfl
  simp [results]
set_option maxHeartbeats 1000000 in
set_option maxRecDepth 1000000 in
theorem wnothing_any (W B : Nat) (d : List UInt8) (v0 : Value) (k n : Int) (s : ByteArray) (la : Option Addr) (ln lc : Nat) (fa : Option Addr) (fn fc : Nat) (w : World) (h : Wr W B d v0 w) :
    Calls Try.prog 79 #[.pointer (some ⟨W, 0, none⟩), .agg #[.int .i64 k, .int .i64 n, .string s, .slice la ln lc, .slice fa fn fc]] w fun e w' => WSay W B v0 w d e w' := by
  have hbx := (RowKit.Below.refl w.heap.size w).alloc (Nat.le_refl _) (.cells #[.int .i64 k, .int .i64 n, .string s, .slice la ln lc, .slice fa fn fc] 25)
  have HE : Hid (∃ v', Wr W B d v' (w.alloc (.cells #[.int .i64 k, .int .i64 n, .string s, .slice la ln lc, .slice fa fn fc] 25)) ∧ GroW W v0 w v' (w.alloc (.cells #[.int .i64 k, .int .i64 n, .string s, .slice la ln lc, .slice fa fn fc] 25))) := ⟨v0, h.new hbx, (GroW.refl W v0 w).new hbx⟩
  clear h hbx
  go_enter Try.func79, Try.ntmps79
  go_wp2_with fail
  refine bodyPost_end (v := .tuple #[]) ?_ rfl ⟨rfl, HE.out⟩
  have hres : Try.f79.results = #[] := by kernel_rfl
  simp [results]
end Go.Proofs.Yticbcoklpgfkhaa

/- The writer of keys: a value, of whatever kind. -/
namespace Go.Proofs.Yticbcoklpgfkhaa
open Go.RowKit

/-- What the writer does with a value. -/
def KeyAny (g : GV) : Prop := ∀ (W B : Nat) (d : List UInt8) (v0 v : Value) (w : World), Wr W B d v0 w → B ≤ w.heap.size → Und B w g v → d.length + g.key.length ≤ 1000000000000 →
  Calls Try.prog 44 #[.pointer (some ⟨W, 0, none⟩), v] w fun e w' => WSay W B v0 w (d ++ g.key) e w'
/-- What writes that which stands behind the byte of a Kind. -/
def restF (k : Int) : Nat := if k = 2 then 74 else if k = 3 then 75 else if k = 4 then 76 else if k = 5 then 77 else if k = 6 then 78 else 79

set_option maxHeartbeats 1000000 in
set_option maxRecDepth 1000000 in
theorem wrest_any (W : Nat) (k : Int) (w : World) : Calls Try.prog 55 #[.pointer (some ⟨W, 0, none⟩), .int .i64 k] w fun e w' => e = .returned (.func (.func (restF k)) #[.pointer (some ⟨W, 0, none⟩)] #[]) ∧ w' = w := by
  unfold restF
  by_cases h2 : k = 2
  · subst h2
    go_enter Try.func55, Try.ntmps55
    go_wp2_with fail
    go_ret
    exact ⟨rfl, rfl⟩
  have k2 : (k == 2) = false := by simpa using h2
  by_cases h3 : k = 3
  · subst h3
    go_enter Try.func55, Try.ntmps55
    go_wp2_with fail
    go_ret
    exact ⟨rfl, rfl⟩
  have k3 : (k == 3) = false := by simpa using h3
  by_cases h4 : k = 4
  · subst h4
    go_enter Try.func55, Try.ntmps55
    go_wp2_with fail
    go_ret
    exact ⟨rfl, rfl⟩
  have k4 : (k == 4) = false := by simpa using h4
  by_cases h5 : k = 5
  · subst h5
    go_enter Try.func55, Try.ntmps55
    go_wp2_with fail
    go_ret
    exact ⟨rfl, rfl⟩
  have k5 : (k == 5) = false := by simpa using h5
  by_cases h6 : k = 6
  · subst h6
    go_enter Try.func55, Try.ntmps55
    go_wp2_with fail
    go_ret
    exact ⟨rfl, rfl⟩
  have k6 : (k == 6) = false := by simpa using h6
  rw [if_neg h2, if_neg h3, if_neg h4, if_neg h5, if_neg h6]
  clear h2 h3 h4 h5 h6
  go_enter Try.func55, Try.ntmps55
  go_wp2_with fail
  go_ret
  exact ⟨rfl, rfl⟩

theorem run_code {f : FuncId} {fn : Func} (args : Array Value) (w : World) (h1 : Try.prog.funcs[f]? = some fn) (h2 : (fn.name == "runtime.NumGoroutine") = false) (h3 : fn.body.isNone = false) : (callFunc f args).run Try.prog w = .ok (.enter f args) w := by
  have h2' : ¬ fn.name = "runtime.NumGoroutine" := by simpa using h2
  have h3' : ¬ fn.body = none := by
    intro e
    rw [e] at h3
    exact absurd h3 (by decide)
  unfold callFunc
  simp [h1, h2', h3']
theorem run_rest (k : Int) (args : Array Value) (w : World) : (callFunc (restF k) args).run Try.prog w = .ok (.enter (restF k) args) w := by
  unfold restF
  split
  · exact run_code args w Try.func74 (by kernel_rfl) (by kernel_rfl)
  split
  · exact run_code args w Try.func75 (by kernel_rfl) (by kernel_rfl)
  split
  · exact run_code args w Try.func76 (by kernel_rfl) (by kernel_rfl)
  split
  · exact run_code args w Try.func77 (by kernel_rfl) (by kernel_rfl)
  split
  · exact run_code args w Try.func78 (by kernel_rfl) (by kernel_rfl)
  · exact run_code args w Try.func79 (by kernel_rfl) (by kernel_rfl)

set_option maxHeartbeats 2000000 in
set_option maxRecDepth 1000000 in
/-- The head, and what is behind it by what is known of that. -/
theorem wvalue_any (W B : Nat) (d t : List UInt8) (v0 : Value) (k n : Int) (s : ByteArray) (la : Option Addr) (ln lc : Nat) (fa : Option Addr) (fn fc : Nat) (w : World) (h : Wr W B d v0 w) (hB : B ≤ w.heap.size) (hl : d.length + 1 ≤ 1000000000000)
    (hrest : ∀ (v1 : Value) (w1 : World), Wr W B (d ++ [byteOf (10 * k)]) v1 w1 → GroW W v0 w v1 w1 → Calls Try.prog (restF k) #[.pointer (some ⟨W, 0, none⟩), .agg #[.int .i64 k, .int .i64 n, .string s, .slice la ln lc, .slice fa fn fc]] w1 fun e w' => WSay W B v1 w1 ((d ++ [byteOf (10 * k)]) ++ t) e w') (hk : 0 ≤ k ∧ k ≤ 1000) :
    Calls Try.prog 44 #[.pointer (some ⟨W, 0, none⟩), .agg #[.int .i64 k, .int .i64 n, .string s, .slice la ln lc, .slice fa fn fc]] w fun e w' => WSay W B v0 w (d ++ byteOf (10 * k) :: t) e w' := by
  have hml : maxLen = 9223372036854775807 := rfl
  have hbx := (RowKit.Below.refl w.heap.size w).alloc (Nat.le_refl _) (.cells #[.int .i64 k, .int .i64 n, .string s, .slice la ln lc, .slice fa fn fc] 25)
  have h1 := h.new hbx
  have HP := mkHid (put_one W B d (byteOf (10 * k)) v0 _ h1 (by simp; omega) hl)
  rw [byteOf_mod] at HP
  have HG0 := mkHid ((GroW.refl W v0 w).new hbx)
  have HBK : Hid (∀ (v1 : Value) (w1 : World), GroW W v0 (w.alloc (.cells #[.int .i64 k, .int .i64 n, .string s, .slice la ln lc, .slice fa fn fc] 25)) v1 w1 → Blk5 w1 w.heap.size (.int .i64 k) (.int .i64 n) (.string s) (.slice la ln lc) (.slice fa fn fc)) := by
    intro v1 w1 hg
    unfold Blk5
    have hne := h.old (k := w.heap.size) (Nat.le_refl _)
    rw [hg.keep (by simp) hne.1 hne.2]
    exact Blk5.new w _ _ _ _ _
  have HR := mkHid hrest
  have HD : Hid (d ++ byteOf (10 * k) :: t = (d ++ [byteOf (10 * k)]) ++ t) := by show _ = _; simp
  rw [HD.out]
  obtain ⟨D, hD⟩ : ∃ D, D = d ++ [byteOf (10 * k)] := ⟨_, rfl⟩
  rw [← hD] at HR HP
  rw [← hD]
  clear h h1 hbx hrest hD HD
  go_enter Try.func44, Try.ntmps44
  go_wp2_with fail
  refine (show Calls _ _ _ _ _ from by simpa using HP.out).mono ?_
  rintro e w1 ⟨rfl, v1, hw1, hg1⟩
  obtain ⟨c0, c1, c2, c3, c4⟩ := (HBK.out v1 w1 hg1).cells
  have HC := mkHid (HR.out v1 w1 hw1 (HG0.out.trans hg1))
  have HG1 := mkHid (HG0.out.trans hg1)
  clear hw1 hg1
  go_wp2_with fail
  refine (wrest_any W k w1).mono ?_
  rintro e w2 ⟨rfl, rfl⟩
  go_wp2_with fail
  rw [run_rest, Oper.upon_enter]
  refine HC.out.mono ?_
  rintro e w2 ⟨rfl, v2, hw2, hg2⟩
  have HE : Hid (∃ v', Wr W B (D ++ t) v' w2 ∧ GroW W v0 w v' w2) := ⟨v2, hw2, HG1.out.trans hg2⟩
  clear hw2 hg2
  go_wp2_with fail
  refine bodyPost_end (v := .tuple #[]) ?_ rfl ⟨rfl, HE.out⟩
  have hres : Try.f44.results = #[] := by kernel_rfl
  simp [results]
end Go.Proofs.Yticbcoklpgfkhaa

/- The writer of keys: Lists and Docs; any value. -/
namespace Go.Proofs.Yticbcoklpgfkhaa
open Go.RowKit

set_option maxHeartbeats 4000000 in
set_option maxRecDepth 1000000 in
theorem wlist_any (W B : Nat) (d : List UInt8) (v0 : Value) (k n : Int) (s : ByteArray) (la : Option Addr) (ln lc : Nat) (l : Nat → GV) (fa : Option Addr) (fn fc : Nat) (w : World) (h : Wr W B d v0 w) (hB : B ≤ w.heap.size) (h4 : ln ≤ lc) (h5 : lc ≤ maxLen)
    (hU : ∀ i, i < ln → ∃ b o v', la = some ⟨b, o, none⟩ ∧ Lies (undr B w) (l i) v' ∧ At5 (undr B w) b (o + i * 5) v') (ih : ∀ i, i < ln → KeyAny (l i)) (hl : d.length + ((List.range ln).flatMap (fun i => 1 :: (l i).key) ++ [0]).length ≤ 1000000000000) :
    Calls Try.prog 77 #[.pointer (some ⟨W, 0, none⟩), .agg #[.int .i64 k, .int .i64 n, .string s, .slice la ln lc, .slice fa fn fc]] w fun e w' => WSay W B v0 w (d ++ ((List.range ln).flatMap (fun i => 1 :: (l i).key) ++ [0])) e w' := by
  have hml : maxLen = 9223372036854775807 := rfl
  have hbx := (RowKit.Below.refl w.heap.size w).alloc (Nat.le_refl _) (.cells #[.int .i64 k, .int .i64 n, .string s, .slice la ln lc, .slice fa fn fc] 25)
  have H1 := mkHid (h.new hbx)
  have HG0 := mkHid ((GroW.refl W v0 w).new hbx)
  have HOW := mkHid h.own
  have HLW := h.low
  have HU := mkHid hU
  have HIH := mkHid ih
  have HFL : Hid (∀ j, j ≤ ln → d.length + ((List.range j).flatMap (fun i => 1 :: (l i).key)).length + 1 ≤ 1000000000000) := fun j hj => by
    have := flat_le (c := fun i => 1 :: (l i).key) hj
    simp only [List.length_append, List.length_cons, List.length_nil] at hl
    omega
  have HD : Hid (d ++ ((List.range ln).flatMap (fun i => 1 :: (l i).key) ++ [0]) = (d ++ (List.range ln).flatMap (fun i => 1 :: (l i).key)) ++ [0]) := by show _ = _; rw [List.append_assoc]
  rw [HD.out]
  clear h hbx hU ih hl
  go_enter Try.func77, Try.ntmps77
  go_wp2_with fail
  go_loopw [9] (fun i wr => ∃ (j : Nat) (v : Value), i = .int .i64 j ∧ j ≤ ln ∧ Wr W B (d ++ (List.range j).flatMap (fun i => 1 :: (l i).key)) v wr ∧ GroW W v0 w v wr) (fun i _ => ln - (intOf i).toNat)
  case atStart => exact ⟨0, v0, rfl, by omega, by simpa using H1.out, HG0.out⟩
  case round =>
    obtain ⟨j, v, rfl, hj, hw, hg⟩ := hrel
    have hsz := hg.size
    have hFj := HFL.out j hj
    by_cases hlt : j < ln
    · obtain ⟨b', o', v', rfl, hLj, hAj⟩ := HU.out j hlt
      have hag := hLj.agg
      obtain ⟨k', n', s', la', ln', lc', fa', fn', fc', rfl⟩ := hag
      have hbw : RowKit.Below B w wr := hg.below HOW.out hB HLW
      obtain ⟨q0, q1, q2, q3, q4⟩ := at5_und hAj hbw
      obtain ⟨O, hO⟩ : ∃ O : Obj, O = .cells #[.int .i64 k', .int .i64 n', .string s', .slice la' ln' lc', .slice fa' fn' fc'] 25 := ⟨_, rfl⟩
      have hbe := (RowKit.Below.refl wr.heap.size wr).alloc (Nat.le_refl _) O
      have hw' := hw.new hbe
      have HP := mkHid (put_one W B _ 1 v _ hw' (by simp; omega) (by simp; simp at hFj; omega))
      have HBK : Hid (∀ (v1 : Value) (w1 : World), GroW W v (wr.alloc O) v1 w1 → Blk5 w1 wr.heap.size (.int .i64 k') (.int .i64 n') (.string s') (.slice la' ln' lc') (.slice fa' fn' fc')) := by
        intro v1 w1 hg1
        unfold Blk5
        have hne := hw.old (k := wr.heap.size) (Nat.le_refl _)
        rw [hg1.keep (by simp) hne.1 hne.2, hO]
        exact Blk5.new wr _ _ _ _ _
      have HL : Hid (Und B w (l j) (.agg #[.int .i64 k', .int .i64 n', .string s', .slice la' ln' lc', .slice fa' fn' fc'])) := hLj
      have HG := mkHid (hg.new hbe)
      have hF2 := HFL.out (j + 1) (by omega)
      rw [flat_snoc] at hF2
      simp only [List.length_append, List.length_cons] at hF2
      have HBW := mkHid hbw
      have HO := mkHid hO
      clear hLj hAj hw hg hbw hw' hbe
      go_wp2_with fail
      rw [← HO.out]
      refine (show Calls _ _ _ _ _ from by simpa using HP.out).mono ?_
      rintro e w1 ⟨rfl, v1, hw1, hg1⟩
      obtain ⟨c0, c1, c2, c3, c4⟩ := (HBK.out v1 w1 hg1).cells
      have hs1 := hg1.size
      have hG1 := HG.out.trans hg1
      have HG1 := mkHid hG1
      have HCALL := mkHid (HIH.out j hlt W B _ v1 _ w1 hw1 (by simp at hs1; omega) (HL.out.keep (hG1.below HOW.out hB HLW)) (by simp only [List.length_append, List.length_cons, List.length_nil]; omega))
      clear hw1 hg1 hG1
      go_wp2_with fail
      refine HCALL.out.mono ?_
      rintro e w2 ⟨rfl, v2, hw2, hg2⟩
      have HW2 := mkHid hw2
      have HG2 := mkHid (HG1.out.trans hg2)
      clear hw2 hg2
      go_wp2_with fail
      go_roundw
      case rel =>
        refine ⟨j + 1, v2, by go_num, by omega, ?_, HG2.out⟩
        have h := HW2.out
        rw [flat_snoc]
        simpa [List.append_assoc] using h
      case measure => simp [intOf]; omega
    · obtain rfl : ln = j := by omega
      have HP := mkHid (put_one W B _ 0 v wr hw (by omega) (by simp; simp at hFj; omega))
      have HG := mkHid hg
      clear hw hg
      go_wp2_with fail
      refine HP.out.mono ?_
      rintro e w1 ⟨rfl, v1, hw1, hg1⟩
      have HE : Hid (∃ v', Wr W B (d ++ (List.range ln).flatMap (fun i => 1 :: (l i).key) ++ [0]) v' w1 ∧ GroW W v0 w v' w1) := ⟨v1, hw1, HG.out.trans hg1⟩
      clear hw1 hg1
      go_wp2_with fail
      refine bodyPost_end (v := .tuple #[]) ?_ rfl ⟨rfl, HE.out⟩
      have hres : Try.f77.results = #[] := by kernel_rfl
      simp [results]
/-- A block of six cells. -/
def Blk6 (w : World) (b : Nat) (xn x0 x1 x2 x3 x4 : Value) : Prop := w.heap[b]? = some (.cells #[xn, x0, x1, x2, x3, x4] 64 (0, 0))
theorem Blk6.cells {w : World} {b : Nat} {xn x0 x1 x2 x3 x4 : Value} (h : Blk6 w b xn x0 x1 x2 x3 x4) :
    w.cell? ⟨b, 0, none⟩ = some xn ∧ w.cell? ⟨b, 1, none⟩ = some x0 ∧ w.cell? ⟨b, 2, none⟩ = some x1 ∧ w.cell? ⟨b, 3, none⟩ = some x2 ∧ w.cell? ⟨b, 4, none⟩ = some x3 ∧ w.cell? ⟨b, 5, none⟩ = some x4 := by
  refine ⟨?_, ?_, ?_, ?_, ?_, ?_⟩ <;> (rw [cell_of_row w b _ _ _ _ h]; rfl)
theorem Blk6.lt {w : World} {b : Nat} {xn x0 x1 x2 x3 x4 : Value} (h : Blk6 w b xn x0 x1 x2 x3 x4) : b < w.heap.size := (Array.getElem?_eq_some_iff.1 h).1

set_option maxHeartbeats 4000000 in
set_option maxRecDepth 1000000 in
theorem wdoc_any (W B : Nat) (d : List UInt8) (v0 : Value) (k n : Int) (s : ByteArray) (la : Option Addr) (ln lc : Nat) (fa : Option Addr) (fn fc : Nat) (nm : Nat → ByteArray) (f : Nat → GV) (w : World) (h : Wr W B d v0 w) (hB : B ≤ w.heap.size) (h4 : fn ≤ fc) (h5 : fc ≤ maxLen)
    (hU : ∀ i, i < fn → ∃ b o v', fa = some ⟨b, o, none⟩ ∧ (nm i).size ≤ 140737488355328 ∧ (undr B w).cell? ⟨b, o + i * 6, none⟩ = some (.string (nm i)) ∧ Lies (undr B w) (f i) v' ∧ At5 (undr B w) b (o + i * 6 + 1) v') (ih : ∀ i, i < fn → KeyAny (f i)) (hnm : ∀ i, i < fn → (lettersK (nm i).data.toList).length + d.length + ((List.range i).flatMap (fun i => 1 :: (lettersK (nm i).data.toList ++ (f i).key))).length + 1 ≤ 1000000000000) (hl : d.length + ((List.range fn).flatMap (fun i => 1 :: (lettersK (nm i).data.toList ++ (f i).key)) ++ [0]).length ≤ 1000000000000) :
    Calls Try.prog 78 #[.pointer (some ⟨W, 0, none⟩), .agg #[.int .i64 k, .int .i64 n, .string s, .slice la ln lc, .slice fa fn fc]] w fun e w' => WSay W B v0 w (d ++ ((List.range fn).flatMap (fun i => 1 :: (lettersK (nm i).data.toList ++ (f i).key)) ++ [0])) e w' := by
  have hml : maxLen = 9223372036854775807 := rfl
  have hbx := (RowKit.Below.refl w.heap.size w).alloc (Nat.le_refl _) (.cells #[.int .i64 k, .int .i64 n, .string s, .slice la ln lc, .slice fa fn fc] 25)
  have H1 := mkHid (h.new hbx)
  have HG0 := mkHid ((GroW.refl W v0 w).new hbx)
  have HOW := mkHid h.own
  have HLW := h.low
  have HU := mkHid hU
  have HIH := mkHid ih
  have HFL : Hid (∀ j, j ≤ fn → d.length + ((List.range j).flatMap (fun i => 1 :: (lettersK (nm i).data.toList ++ (f i).key))).length + 1 ≤ 1000000000000) := fun j hj => by
    have := flat_le (c := fun i => 1 :: (lettersK (nm i).data.toList ++ (f i).key)) hj
    simp only [List.length_append, List.length_cons, List.length_nil] at hl
    omega
  have HD : Hid (d ++ ((List.range fn).flatMap (fun i => 1 :: (lettersK (nm i).data.toList ++ (f i).key)) ++ [0]) = (d ++ (List.range fn).flatMap (fun i => 1 :: (lettersK (nm i).data.toList ++ (f i).key))) ++ [0]) := by show _ = _; rw [List.append_assoc]
  rw [HD.out]
  have HNM := mkHid hnm
  clear h hbx hU ih hl hnm
  go_enter Try.func78, Try.ntmps78
  go_wp2_with fail
  go_loopw [9] (fun i wr => ∃ (j : Nat) (v : Value), i = .int .i64 j ∧ j ≤ fn ∧ Wr W B (d ++ (List.range j).flatMap (fun i => 1 :: (lettersK (nm i).data.toList ++ (f i).key))) v wr ∧ GroW W v0 w v wr) (fun i _ => fn - (intOf i).toNat)
  case atStart => exact ⟨0, v0, rfl, by omega, by simpa using H1.out, HG0.out⟩
  case round =>
    obtain ⟨j, v, rfl, hj, hw, hg⟩ := hrel
    have hsz := hg.size
    have hFj := HFL.out j hj
    by_cases hlt : j < fn
    · obtain ⟨b', o', v', rfl, hnj, hNj, hLj, hAj⟩ := HU.out j hlt
      have hag := hLj.agg
      obtain ⟨k', n', s', la', ln', lc', fa', fn', fc', rfl⟩ := hag
      have hbw : RowKit.Below B w wr := hg.below HOW.out hB HLW
      obtain ⟨q0, q1, q2, q3, q4⟩ := at5_und hAj hbw
      have qn : wr.cell? ⟨b', o' + j * 6, none⟩ = some (.string (nm j)) := by rw [hbw.cell (p := ⟨b', o' + j * 6, none⟩) (undr_cell.1 hNj).1]; exact (undr_cell.1 hNj).2
      obtain ⟨O, hO⟩ : ∃ O : Obj, O = .cells #[.string (nm j), .int .i64 k', .int .i64 n', .string s', .slice la' ln' lc', .slice fa' fn' fc'] 64 := ⟨_, rfl⟩
      have hbe := (RowKit.Below.refl wr.heap.size wr).alloc (Nat.le_refl _) O
      have hw' := hw.new hbe
      have HP := mkHid (put_one W B _ 1 v _ hw' (by simp; omega) (by simp; simp at hFj; omega))
      have HBK : Hid (∀ (v1 : Value) (w1 : World), GroW W v (wr.alloc O) v1 w1 → Blk6 w1 wr.heap.size (.string (nm j)) (.int .i64 k') (.int .i64 n') (.string s') (.slice la' ln' lc') (.slice fa' fn' fc')) := by
        intro v1 w1 hg1
        unfold Blk6
        have hne := hw.old (k := wr.heap.size) (Nat.le_refl _)
        rw [hg1.keep (by simp) hne.1 hne.2, hO]
        exact heap_alloc_new wr _
      have HL : Hid (Und B w (f j) (.agg #[.int .i64 k', .int .i64 n', .string s', .slice la' ln' lc', .slice fa' fn' fc'])) := hLj
      have HG := mkHid (hg.new hbe)
      have hF2 := HFL.out (j + 1) (by omega)
      rw [flat_snoc] at hF2
      simp only [List.length_append, List.length_cons] at hF2
      have hlk := lettersK_eq (nm j).data.toList
      have HBW := mkHid hbw
      have HO := mkHid hO
      have HWR := mkHid hw
      have HSZ : Hid ((lettersK (nm j).data.toList).length + d.length + ((List.range j).flatMap (fun i => 1 :: (lettersK (nm i).data.toList ++ (f i).key))).length + 1 ≤ 1000000000000) := HNM.out j hlt
      clear hLj hAj hNj hw hg hbw hw' hbe hlk
      go_wp2_with fail
      rw [← HO.out]
      refine (show Calls _ _ _ _ _ from by simpa using HP.out).mono ?_
      rintro e w1 ⟨rfl, v1, hw1, hg1⟩
      have hb6 := HBK.out v1 w1 hg1
      obtain ⟨cn, c0, c1, c2, c3, c4⟩ := hb6.cells
      have hs1 := hg1.size
      have hG1 := HG.out.trans hg1
      have HG1 := mkHid hG1
      have HPL := mkHid (wletters_any W B _ v1 (nm j) w1 hw1 (by simp at hs1; omega) (by simp only [List.length_append, List.length_cons, List.length_nil]; have := HSZ.out; omega))
      have HB6 : Hid (∀ (v2 : Value) (w2 : World), GroW W v1 w1 v2 w2 → Blk6 w2 wr.heap.size (.string (nm j)) (.int .i64 k') (.int .i64 n') (.string s') (.slice la' ln' lc') (.slice fa' fn' fc')) := by
        intro v2 w2 hg2
        unfold Blk6
        have hne := HWR.out.old (k := wr.heap.size) (Nat.le_refl _)
        have hne2 : some wr.heap.size ≠ v1.ownBlock := by
          rcases hg1.lies with e | ⟨x, e, hx⟩
          · rw [e]; exact hne.2
          · rw [e]
            intro e2
            cases e2
            simp at hx
            omega
        rw [hg2.keep hb6.lt hne.1 hne2]
        exact hb6
      clear hw1 hg1 hG1 hb6
      go_wp2_with fail
      refine HPL.out.mono ?_
      rintro e w2 ⟨rfl, v2, hw2, hg2⟩
      obtain ⟨cn, c0, c1, c2, c3, c4⟩ := (HB6.out v2 w2 hg2).cells
      have hs2 := hg2.size
      have hG2 := HG1.out.trans hg2
      have HG2 := mkHid hG2
      have HCALL := mkHid (HIH.out j hlt W B _ v2 _ w2 hw2 (by simp at hs1; omega) (HL.out.keep (hG2.below HOW.out hB HLW)) (by simp only [List.length_append, List.length_cons, List.length_nil]; omega))
      clear hw2 hg2 hG2
      go_wp2_with fail
      refine HCALL.out.mono ?_
      rintro e w3 ⟨rfl, v3, hw3, hg3⟩
      have HW3 := mkHid hw3
      have HG3 := mkHid (HG2.out.trans hg3)
      clear hw3 hg3
      go_wp2_with fail
      go_roundw
      case rel =>
        refine ⟨j + 1, v3, by go_num, by omega, ?_, HG3.out⟩
        have h := HW3.out
        rw [flat_snoc]
        simpa [List.append_assoc] using h
      case measure => simp [intOf]; omega
    · obtain rfl : fn = j := by omega
      have HP := mkHid (put_one W B _ 0 v wr hw (by omega) (by simp; simp at hFj; omega))
      have HG := mkHid hg
      clear hw hg
      go_wp2_with fail
      refine HP.out.mono ?_
      rintro e w1 ⟨rfl, v1, hw1, hg1⟩
      have HE : Hid (∃ v', Wr W B (d ++ (List.range fn).flatMap (fun i => 1 :: (lettersK (nm i).data.toList ++ (f i).key)) ++ [0]) v' w1 ∧ GroW W v0 w v' w1) := ⟨v1, hw1, HG.out.trans hg1⟩
      clear hw1 hg1
      go_wp2_with fail
      refine bodyPost_end (v := .tuple #[]) ?_ rfl ⟨rfl, HE.out⟩
      have hres : Try.f78.results = #[] := by kernel_rfl
      simp [results]

theorem key_len5 {n : Int} {s : ByteArray} {ln : Nat} {l : Nat → GV} {fn : Nat} {nm : Nat → ByteArray} {f : Nat → GV} : (GV.mk 5 n s ln l fn nm f).key = byteOf (10 * 5) :: ((List.range ln).flatMap (fun i => 1 :: (l i).key) ++ [0]) := by simp [GV.key]
theorem key_len6 {n : Int} {s : ByteArray} {ln : Nat} {l : Nat → GV} {fn : Nat} {nm : Nat → ByteArray} {f : Nat → GV} : (GV.mk 6 n s ln l fn nm f).key = byteOf (10 * 6) :: ((List.range fn).flatMap (fun i => 1 :: (lettersK (nm i).data.toList ++ (f i).key)) ++ [0]) := by simp [GV.key]
/-- The key of any value of a form is written. -/
theorem key_any : ∀ g : GV, g.every GV.formed = true → KeyAny g := by
  intro g
  induction g with
  | nil => intro h; simp [GV.every, GV.formed] at h
  | mk k n s ln l fn nm f ihl ihf =>
    intro hf W B d v0 v w hW hB hU hE
    obtain ⟨la, lc, fa, fc, rfl, hk, hn, hs, h4, h5, h6, h7, hl, hff⟩ := hU
    have hft := every_top hf
    have hkb : 0 ≤ k ∧ k ≤ 1000 := by rcases kind_of hft with rfl | rfl | rfl | rfl | rfl | rfl <;> omega
    have hkey : ∃ t, (GV.mk k n s ln l fn nm f).key = byteOf (10 * k) :: t ∧ ∀ (v1 : Value) (w1 : World), Wr W B (d ++ [byteOf (10 * k)]) v1 w1 → GroW W v0 w v1 w1 → Calls Try.prog (restF k) #[.pointer (some ⟨W, 0, none⟩), .agg #[.int .i64 k, .int .i64 n, .string s, .slice la ln lc, .slice fa fn fc]] w1 fun e w' => WSay W B v1 w1 ((d ++ [byteOf (10 * k)]) ++ t) e w' := by
      rcases kind_of hft with rfl | rfl | rfl | rfl | rfl | rfl
      · refine ⟨[], by simp [GV.key], fun v1 w1 hw1 hg1 => ?_⟩
        have h := wnothing_any W B _ v1 1 n s la ln lc fa fn fc w1 hw1
        simpa [restF] using h
      · refine ⟨[byteOf n], by simp [GV.key], fun v1 w1 hw1 hg1 => ?_⟩
        have e : (GV.mk 2 n s ln l fn nm f).key.length = 2 := by simp [GV.key]
        have hs1 := hg1.size
        have h := wtruth_any W B _ v1 2 n s la ln lc fa fn fc w1 hw1 (by omega) (by simp; omega)
        simpa [restF] using h
      · refine ⟨numK n, by simp [GV.key], fun v1 w1 hw1 hg1 => ?_⟩
        have e : (GV.mk 3 n s ln l fn nm f).key.length = 9 := by simp [GV.key, numK_len]
        have hs1 := hg1.size
        have h := wnumber_any W B _ v1 3 n s la ln lc fa fn fc w1 hw1 (by omega) hn (by simp; omega)
        simpa [restF] using h
      · refine ⟨lettersK s.data.toList, by simp [GV.key], fun v1 w1 hw1 hg1 => ?_⟩
        have e : (GV.mk 4 n s ln l fn nm f).key.length = (lettersK s.data.toList).length + 1 := by simp [GV.key]
        have hs1 := hg1.size
        have h := wtext_any W B _ v1 4 n s la ln lc fa fn fc w1 hw1 (by omega) (by simp only [List.length_append, List.length_cons, List.length_nil]; omega)
        simpa [restF] using h
      · refine ⟨_, key_len5, fun v1 w1 hw1 hg1 => ?_⟩
        have e : (GV.mk 5 n s ln l fn nm f).key.length = ((List.range ln).flatMap (fun i => 1 :: (l i).key) ++ [0]).length + 1 := by rw [key_len5, List.length_cons]
        have hs1 := hg1.size
        have hbw := hg1.below hW.own hB hW.low
        refine wlist_any W B _ v1 5 n s la ln lc l fa fn fc w1 hw1 (by omega) h4 h5 (fun i hi => ?_) (fun i hi => ihl i (every_l hf i hi)) (by rw [List.length_append]; simp only [List.length_cons, List.length_nil]; omega)
        obtain ⟨b, o, v', e1, e2, e3⟩ := hl i hi
        exact ⟨b, o, v', e1, Und.keep e2 hbw, e3.mono e2 (fun b o u hc => undr_cell.2 ⟨(undr_cell.1 hc).1, by rw [hbw.cell (p := ⟨b, o, none⟩) (undr_cell.1 hc).1]; exact (undr_cell.1 hc).2⟩)⟩
      · refine ⟨_, key_len6, fun v1 w1 hw1 hg1 => ?_⟩
        have e : (GV.mk 6 n s ln l fn nm f).key.length = ((List.range fn).flatMap (fun i => 1 :: (lettersK (nm i).data.toList ++ (f i).key)) ++ [0]).length + 1 := by rw [key_len6, List.length_cons]
        have hs1 := hg1.size
        have hbw := hg1.below hW.own hB hW.low
        refine wdoc_any W B _ v1 6 n s la ln lc fa fn fc nm f w1 hw1 (by omega) h6 h7 (fun i hi => ?_) (fun i hi => ihf i (every_f hf i hi)) (fun i hi => ?_) (by rw [List.length_append]; simp only [List.length_cons, List.length_nil]; omega)
        · obtain ⟨b, o, v', e1, e2, e3, e4, e5⟩ := hff i hi
          exact ⟨b, o, v', e1, e2, undr_cell.2 ⟨(undr_cell.1 e3).1, by rw [hbw.cell (p := ⟨b, o + i * 6, none⟩) (undr_cell.1 e3).1]; exact (undr_cell.1 e3).2⟩, Und.keep e4 hbw, e5.mono e4 (fun b o u hc => undr_cell.2 ⟨(undr_cell.1 hc).1, by rw [hbw.cell (p := ⟨b, o, none⟩) (undr_cell.1 hc).1]; exact (undr_cell.1 hc).2⟩)⟩
        · have h1 := flat_le (c := fun i => 1 :: (lettersK (nm i).data.toList ++ (f i).key)) (j := i + 1) (n := fn) (by omega)
          rw [flat_snoc] at h1
          simp only [List.length_append, List.length_cons, List.length_nil] at h1 e ⊢
          omega
    obtain ⟨t, ht, hrest⟩ := hkey
    rw [ht] at hE ⊢
    exact wvalue_any W B d t v0 k n s la ln lc fa fn fc w hW hB (by simp at hE; omega) hrest hkb
end Go.Proofs.Yticbcoklpgfkhaa
