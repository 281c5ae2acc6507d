/- Some texts in one: each opens with its own remark. -/
import Derived.Test.YticbcoklpgfkhaaZKyTree
import Derived.Test.YticbcoklpgfkhaaZKyJoin
import Derived.Test.YticbcoklpgfkhaaKySplit
import Derived.Test.YticbcoklpgfkhaaZKyAwake
import Derived.Test.YticbcoklpgfkhaaCmp
import Derived.Test.YticbcoklpgfkhaaKyMem
import Derived.Laws.AppendOwnNone
import Derived.Test.YticbcoklpgfkhaaK1
/- Joint keys: they go by the first values that differ, and tell their values. (No walk.) -/
namespace Go.Proofs.Yticbcoklpgfkhaa
open Go.RowKit

/-- The first of so many numbers that is not 0. -/
def firstC (c : Nat → Int) : Nat → Int
  | 0 => 0
  | j + 1 => thenC (firstC c j) (c j)
theorem thenC_right (a : Int) : thenC a 0 = a := by
  unfold thenC
  split
  · rename_i h; exact h.symm
  · rfl
theorem firstC_stay (c : Nat → Int) {i : Nat} (h : firstC c i ≠ 0) : ∀ {n : Nat}, i ≤ n → firstC c n = firstC c i
  | 0, hn => by obtain rfl : i = 0 := by omega
                rfl
  | n + 1, hn => by
    by_cases e : i = n + 1
    · rw [e]
    · rw [firstC, firstC_stay c h (n := n) (by omega), thenC_ne h]
theorem keysN_succ (l : Nat → GV) (j : Nat) : keysN l (j + 1) = keysN l j ++ (l j).key := by unfold keysN; rw [flat_snoc]
/-- Joint keys of as many values go by the first that differ. -/
theorem joint_cmp (a b : Nat → GV) : ∀ (n : Nat), (∀ i, i < n → (a i).err = 0 ∧ (b i).err = 0 ∧ (a i).every GV.nOk = true ∧ (b i).every GV.nOk = true) → ∀ r r', Lib.compareBytes (keysN a n ++ r) (keysN b n ++ r') = thenC (firstC (fun i => (a i).cmp (b i)) n) (Lib.compareBytes r r')
  | 0, _, r, r' => rfl
  | n + 1, h, r, r' => by
    obtain ⟨h1, h2, h3, h4⟩ := h n (by omega)
    rw [keysN_succ, keysN_succ, List.append_assoc, List.append_assoc, joint_cmp a b n (fun i hi => h i (by omega)), key_cmp (a n) (b n) (err_zeroM h1).1 (err_zeroM h2).1 h3 h4, firstC, thenC_assoc]
/-- Values of one joint key are the same. -/
theorem joint_same (l : Nat → GV) : ∀ (fs : List Fl) (i n : Nat), fs.length = n → (∀ f ∈ fs, f.g.err = 0 ∧ f.g.every GV.nOk = true) → (∀ j, j < n → (l (i + j)).err = 0 ∧ (l (i + j)).every GV.nOk = true) → keysF fs = (List.range' i n).flatMap (fun j => (l j).key) → ∀ j (hj : j < fs.length), ((fs[j]'hj).g).same (l (i + j)) = true
  | [], _, _, _, _, _, _, j, hj => absurd hj (Nat.not_lt_zero _)
  | f :: fs, i, n, hn, hf, hl, hk, j, hj => by
    obtain ⟨m, rfl⟩ : ∃ m, n = m + 1 := ⟨n - 1, by simp at hn; omega⟩
    obtain ⟨e1, e2⟩ := hf f (by simp)
    obtain ⟨e3, e4⟩ := hl 0 (by omega)
    rw [Nat.add_zero] at e3 e4
    have hk2 : f.g.key ++ keysF fs = (l i).key ++ (List.range' (i + 1) m).flatMap (fun j => (l j).key) := by
      rw [List.range'_succ, List.flatMap_cons] at hk
      exact hk
    obtain ⟨q1, q2, _⟩ := begins_same (l := f.g.key ++ keysF fs) (rest := keysF fs) (rest' := (List.range' (i + 1) m).flatMap (fun j => (l j).key)) ⟨e1, rfl⟩ ⟨e3, hk2⟩ e2 e4
    cases j with
    | zero => exact key_same e1 e3 e2 e4 q2
    | succ j =>
      have h := joint_same l fs (i + 1) m (by simpa using hn) (fun x hx => hf x (by simp [hx])) (fun j hj => by have := hl (j + 1) (by omega); rwa [show i + 1 + j = i + (j + 1) by omega]) q1 j (by simpa using hj)
      rw [show i + 1 + j = i + (j + 1) by omega] at h
      exact h
theorem err_formJ {g : GV} (h : g.err ≠ 0) : ∃ j : Nat, g.err = Int.ofNat (j + 1) := by
  unfold GV.err at h ⊢
  split
  · exact ⟨3, rfl⟩
  · split
    · exact ⟨10, rfl⟩
    · split
      · exact ⟨14, rfl⟩
      · split
        · exact ⟨2, rfl⟩
        · split
          · exact ⟨1, rfl⟩
          · rename_i h1 h2 h3 h4 h5
            simp [h1, h2, h3, h4, h5] at h
end Go.Proofs.Yticbcoklpgfkhaa

/- The statements' own compare and begins: bytes in order. -/
namespace Go.Proofs.Yticbcoklpgfkhaa
open Go.RowKit

def cmpB (a b : ByteArray) : Int := Lib.compareBytes a.data.toList b.data.toList
set_option maxHeartbeats 1000000 in
theorem rstrB_any (s t : ByteArray) (w : World) : Calls Try.prog 46 #[.string s, .string t] w fun e w' => e = .returned (.int .i64 (cmpB s t)) ∧ w' = w := by
  have h1 : Op.bytesLess s.toList t.toList = decide (cmpB s t < 0) := by
    rw [less_cmp, ByteArray.toList_eq, ByteArray.toList_eq]
    rfl
  have h2 : Op.bytesLess t.toList s.toList = decide (0 < cmpB s t) := by
    rw [less_cmp, ByteArray.toList_eq, ByteArray.toList_eq, cmp_anti]
    unfold cmpB
    congr 1
    apply propext
    omega
  have h3 : cmpB s t = -1 ∨ cmpB s t = 0 ∨ cmpB s t = 1 := cmp_range _ _
  rcases h3 with e | e | e
  · have HE : Hid (cmpB s t = -1) := e
    rw [e] at h1 h2
    simp at h1 h2
    clear e
    go_enter Try.func46, Try.ntmps46
    go_wp2_with fail
    go_ret
    exact ⟨by rw [HE.out]; rfl, rfl⟩
  · have HE : Hid (cmpB s t = 0) := e
    have he : (s.toList == t.toList) = true := by
      have := cmp_zero _ _ e
      rw [ByteArray.toList_eq, ByteArray.toList_eq, this]
      simp
    rw [e] at h1 h2
    simp at h1 h2
    clear e
    go_enter Try.func46, Try.ntmps46
    go_wp2_with fail
    go_ret
    exact ⟨by rw [HE.out]; rfl, rfl⟩
  · have HE : Hid (cmpB s t = 1) := e
    have he : (s.toList == t.toList) = false := by
      rw [beq_eq_false_iff_ne]
      intro h
      rw [ByteArray.toList_eq, ByteArray.toList_eq] at h
      unfold cmpB at e
      rw [h, cmp_self] at e
      omega
    rw [e] at h1 h2
    simp at h1 h2
    clear e
    go_enter Try.func46, Try.ntmps46
    go_wp2_with fail
    go_ret
    exact ⟨by rw [HE.out]; rfl, rfl⟩

set_option maxHeartbeats 1000000 in
set_option maxRecDepth 1000000 in
/-- compare of two rows of bytes. -/
theorem compare_any (v v' : Value) (l m : List UInt8) (w : World) (h : (convert 29 9 v).run Try.prog w = .ok (.string ⟨l.toArray⟩) w) (h' : (convert 29 9 v').run Try.prog w = .ok (.string ⟨m.toArray⟩) w) :
    Calls Try.prog 30 #[v, v'] w fun e w' => e = .returned (.int .i64 (Lib.compareBytes l m)) ∧ w' = w := by
  have HR : Hid (Calls Try.prog 46 #[.string ⟨l.toArray⟩, .string ⟨m.toArray⟩] w fun e w' => e = .returned (.int .i64 (Lib.compareBytes l m)) ∧ w' = w) := by
    have h1 := rstrB_any ⟨l.toArray⟩ ⟨m.toArray⟩ w
    show Calls _ _ _ _ _
    simpa [cmpB] using h1
  go_enter Try.func30, Try.ntmps30
  go_wp2_with fail
  refine HR.out.mono ?_
  rintro e w1 ⟨rfl, rfl⟩
  obtain ⟨x, hx⟩ : ∃ x, x = Lib.compareBytes l m := ⟨_, rfl⟩
  rw [← hx]
  go_wp2_with fail
  go_ret
  exact ⟨rfl, rfl⟩
end Go.Proofs.Yticbcoklpgfkhaa

/- Rows of bytes: a new one, one of one's own, one put behind another. -/
namespace Go.Proofs.Yticbcoklpgfkhaa
open Go.RowKit

/-- append of a row of bytes, nil or not, to a row of one's own. -/
theorem wpList_bytes {ops : Array Oper} {rest : List Oper} {o : Oper} {ac : Act} {w : World} {Q : Exit → Act → World → Prop} (hgd : o.guard = none) (s x : Operand) (ho : o.op = .call { callee := .builtin .append, args := #[s, x], argTypes := #[29, 29] })
    (B : Nat) (v : Value) (d : List UInt8) (hs : ac.eval s = v) (hown : w.ownsRow B 5 1 v d.length (Lib.byteCells d)) (hB : B ≤ w.heap.size) (a : Option Addr) (l : List UInt8) (n c : Nat) (hnl : n = l.length) (hx : ac.eval x = .slice a n c) (hb : Byts w a l) (hn : a = none → l = [] ∧ c = 0) (hl : d.length + l.length ≤ 140737488355328)
    (h : ∀ v' w', w'.ownsRow B 5 1 v' (d ++ l).length (Lib.byteCells (d ++ l)) → w.grownBy w' v.ownBlock → wpList Try.prog ops Q rest (ac.put o.dst v') w') : wpList Try.prog ops Q (o :: rest) ac w := by
  have hml : maxLen = 9223372036854775807 := rfl
  obtain ⟨i0, hi, hz0, hz1, hz2⟩ := info_parts infoU8
  subst hnl
  cases a with
  | none =>
    obtain ⟨rfl, rfl⟩ := hn rfl
    refine wpList_append_own_none hgd s x 29 ho B 5 i0 1 Try.underlying29 hi v d.length (Lib.byteCells d) hs hown hx ?_
    exact h v w (by simpa using hown) ⟨rfl, rfl, rfl, Nat.le_refl _, fun _ _ _ => rfl⟩
  | some ad =>
    refine wpList_append_own_at _ hgd s x 29 ho B 5 i0 (.int .u8 0) 1 1 Try.underlying29 hi hz0 hz1 hz2 rfl (by decide) v d.length (Lib.byteCells d) hs hown ad l.length c (Lib.byteCells l) hx (by simp [Lib.byteCells]) ?_ ?_ (by omega) (by omega) hB ?_
    · intro j u hj
      have hjl : j < l.length := by
        have := (List.getElem?_eq_some_iff.1 hj).1
        simpa [Lib.byteCells] using this
      obtain ⟨b, o2, e, hc⟩ := hb j hjl
      cases e
      rw [show (⟨b, o2, none⟩ : Addr).add j = ⟨b, o2 + j, none⟩ by simp [Addr.add], hc]
      simpa [Lib.byteCells, hjl] using hj
    · intro u hu
      simp [Lib.byteCells] at hu
      obtain ⟨y, _, rfl⟩ := hu
      rfl
    · intro v' w' o' g' _ _
      refine h v' w' ?_ g'
      rw [Lib.byteCells_append, List.length_append]
      exact o'
/-- As above; the row behind it under a letter. -/
theorem wpList_bytesL {ops : Array Oper} {rest : List Oper} {o : Oper} {ac : Act} {w : World} {Q : Exit → Act → World → Prop} (hgd : o.guard = none) (s x : Operand) (ho : o.op = .call { callee := .builtin .append, args := #[s, x], argTypes := #[29, 29] })
    (B : Nat) (v : Value) (d : List UInt8) (hs : ac.eval s = v) (hown : w.ownsRow B 5 1 v d.length (Lib.byteCells d)) (hB : B ≤ w.heap.size) (a : Option Addr) (l : List UInt8) (n c : Nat) (hnl : n = l.length) (hx : ac.eval x = .slice a n c) (hb : Byts w a l) (hn : a = none → l = [] ∧ c = 0) (dd : List UInt8) (hdd : d ++ l = dd) (hl : dd.length ≤ 140737488355328)
    (h : ∀ v' w', w'.ownsRow B 5 1 v' dd.length (Lib.byteCells dd) → w.grownBy w' v.ownBlock → wpList Try.prog ops Q rest (ac.put o.dst v') w') : wpList Try.prog ops Q (o :: rest) ac w := by
  subst hdd
  exact wpList_bytes hgd s x ho B v d hs hown hB a l n c hnl hx hb hn (by rw [List.length_append] at hl; exact hl) h
theorem byts_new (u : World) (bs : List UInt8) (cs : Array Value) (hcs : cs = (Lib.byteCells bs).toArray) : Byts (u.alloc (.cells cs 5)) (some ⟨u.heap.size, 0, none⟩) bs := by
  intro i hi
  refine ⟨u.heap.size, 0, rfl, ?_⟩
  rw [cell_of_row _ u.heap.size _ cs 5 (0, 0) (heap_alloc_new u _), hcs]
  simp [Lib.byteCells, hi]
/-- A row of bytes of one's own is a row of bytes. -/
theorem own_bytsL {w : World} {B n : Nat} {v : Value} {d : List UInt8} (h : w.ownsRow B 5 1 v n (Lib.byteCells d)) (hn : d.length = n) : ∃ a c, v = .slice a n c ∧ Byts w a d ∧ n ≤ c ∧ c ≤ maxLen := by
  obtain ⟨a, c, rfl, h1, h2⟩ := own_nil h
  refine ⟨a, c, rfl, ?_, h1, h2⟩
  intro i hi
  obtain ⟨g, c', e, _, _⟩ : ∃ g c', (Value.slice a n c) = .slice (some ⟨g, 0, none⟩) n c' ∧ g < w.heap.size ∧ B ≤ g := by
    obtain ⟨m, rfl⟩ : ∃ m, n = m + 1 := ⟨n - 1, by omega⟩
    exact own_form h
  cases e
  refine ⟨g, 0, rfl, ?_⟩
  rw [Nat.zero_add, h.cellAt i (by omega)]
  simp [Lib.byteCells, hi]
end Go.Proofs.Yticbcoklpgfkhaa

/- Chapter 5's examples. -/
namespace Go.Proofs.Yticbcoklpgfkhaa
open Go.RowKit

def gLst (n : Nat) (l : Nat → GV) : GV := .mk 0 0 ⟨#[]⟩ n l 0 (fun _ => ⟨#[]⟩) (fun _ => .nil)
theorem lies_lst {w : World} {a : Option Addr} {n c : Nat} {l : Nat → GV} (h : Vals w a n l) (h1 : n ≤ c) (h2 : c ≤ maxLen) : Lies w (gLst n l) (.agg #[.int .i64 0, .int .i64 0, .string ⟨#[]⟩, .slice a n c, .slice none 0 0]) :=
  ⟨a, c, none, 0, rfl, small64 (by omega), small64 (by omega), by decide, h1, h2, by omega, by unfold maxLen; omega, h, fun i hi => absurd hi (Nat.not_lt_zero _)⟩
theorem same_lst {n : Nat} {l l' : Nat → GV} (h : ∀ i, i < n → (l i).same (l' i) = true) : (gLst n l).same (gLst n l') = true := by
  simp [gLst, GV.same]
  exact h

set_option maxHeartbeats 1000000 in
set_option maxRecDepth 1000000 in
theorem list_any (a a' : Option Addr) (n c c' : Nat) (l l' : Nat → GV) (w : World) (h : Vals w a n l) (h' : Vals w a' n l') (h1 : n ≤ c) (h2 : c ≤ maxLen) (h3 : n ≤ c') (h4 : c' ≤ maxLen) (hs : ∀ i, i < n → (l i).same (l' i) = true) :
    Calls Try.prog 18 #[.slice a n c, .slice a' n c'] w fun e w' => e = .returned (.bool true) ∧ RowKit.Below w.heap.size w w' := by
  have HC : Hid (Calls Try.prog 25 #[.agg #[.int .i64 0, .int .i64 0, .string ⟨#[]⟩, .slice a n c, .slice none 0 0], .agg #[.int .i64 0, .int .i64 0, .string ⟨#[]⟩, .slice a' n c', .slice none 0 0]] w fun e w' => e = .returned (.bool true) ∧ RowKit.Below w.heap.size w w') := by
    have h := Same_any _ _ _ _ w (lies_lst h h1 h2) (lies_lst h' h3 h4)
    rw [same_lst hs] at h
    exact h
  clear h h'
  go_enter Try.func18, Try.ntmps18
  go_wp2_with fail
  refine HC.out.mono ?_
  rintro e w1 ⟨rfl, b1⟩
  have B1 := mkHid b1
  clear b1
  go_wp2_with fail
  go_ret
  exact ⟨rfl, B1.out⟩


/-- 'is' of bytes in a new block. -/
theorem is_new (g : GV) (v : Value) (bs : List UInt8) (cs : Array Value) (u : World) (hcs : cs = (Lib.byteCells bs).toArray) (hL : Lies u g v) (hN : g.nodes ≤ 16384) (he : g.err = 0) (hk : g.key = bs) :
    Calls Try.prog 13 #[v, .slice (some ⟨u.heap.size, 0, none⟩) bs.length bs.length] (u.alloc (.cells cs 5)) fun e w' => e = .returned (.bool true) ∧ RowKit.Below u.heap.size u w' := by
  have hb := (RowKit.Below.refl u.heap.size u).alloc (Nat.le_refl _) (.cells cs 5)
  have hB : Byts (u.alloc (.cells cs 5)) (some ⟨u.heap.size, 0, none⟩) g.key := by
    intro i hi
    refine ⟨u.heap.size, 0, rfl, ?_⟩
    rw [cell_of_row _ u.heap.size _ cs 5 (0, 0) (heap_alloc_new u _), hcs]
    rw [hk] at hi
    simp [Lib.byteCells, hk, hi]
  have h := is_yes g v (some ⟨u.heap.size, 0, none⟩) bs.length (u.alloc (.cells cs 5)) (hL.below hb) hN he hB
  rw [hk] at h
  refine h.mono ?_
  rintro e w' ⟨rfl, b⟩
  exact ⟨rfl, hb.trans (b.mono hb.size)⟩
theorem gN_key : gN.key = [10] ∧ gN.err = 0 ∧ gN.every GV.nOk = true := by decide +kernel
theorem two_no (g : GV) (h1 : g.err = 0) (h2 : g.every GV.nOk = true) : ([10, 10] : List UInt8) ≠ g.key := by
  intro e
  obtain ⟨k1, k2, k3⟩ := gN_key
  obtain ⟨h, _⟩ := begins_same (l := [10, 10]) (g := g) (g' := gN) (rest := []) (rest' := [10]) ⟨h1, by simpa using e⟩ ⟨k2, by rw [k1]; rfl⟩ h2 k3
  exact absurd h (by simp)
/-- Back of 10, 10: refused. -/
theorem back_two (u : World) : Calls Try.prog 9 #[.slice (some ⟨u.heap.size, 0, none⟩) 2 2] (u.alloc (.cells #[.int .u8 10, .int .u8 10] 5)) fun e w' => e = .returned (.tuple #[.agg #[.int .i64 0, .int .i64 0, .string ⟨#[]⟩, .slice none 0 0, .slice none 0 0], .int .i64 4]) ∧ RowKit.Below u.heap.size u w' := by
  have hb := (RowKit.Below.refl u.heap.size u).alloc (Nat.le_refl _) (.cells #[.int .u8 10, .int .u8 10] 5)
  refine (Back_any (some ⟨u.heap.size, 0, none⟩) 2 [10, 10] _ (byts_new u [10, 10] _ rfl) (by simp) (by unfold maxLen; omega) (by simp)).mono ?_
  rintro e w' ⟨b, ⟨f, h1, h2, _, h4⟩ | ⟨_, rfl⟩⟩
  · exact absurd h2 (two_no f.g h1 (nOk_lies h4.lies))
  · exact ⟨rfl, hb.trans (b.mono hb.size)⟩
/-- Split of 10, 10 into two: Null, Null. -/
theorem split_two (u : World) : Calls Try.prog 10 #[.slice (some ⟨u.heap.size, 0, none⟩) 2 2, .int .i64 2] (u.alloc (.cells #[.int .u8 10, .int .u8 10] 5)) fun e w' => (∃ a c l, e = .returned (.tuple #[.slice a 2 c, .int .i64 0]) ∧ 2 ≤ c ∧ c ≤ maxLen ∧ Vals w' a 2 l ∧ ∀ i, i < 2 → (l i).same gN = true) ∧ RowKit.Below u.heap.size u w' := by
  have hb := (RowKit.Below.refl u.heap.size u).alloc (Nat.le_refl _) (.cells #[.int .u8 10, .int .u8 10] 5)
  obtain ⟨k1, k2, k3⟩ := gN_key
  refine (Split_any (some ⟨u.heap.size, 0, none⟩) 2 [10, 10] 2 _ (byts_new u [10, 10] _ rfl) (by simp) (by unfold maxLen; omega) (by omega) (by simp)).mono ?_
  rintro e w' ⟨b, ⟨v, fs, h1, h2, h3, rfl⟩ | ⟨h, _⟩⟩
  · refine ⟨?_, hb.trans (b.mono hb.size)⟩
    match fs, h1 with
    | [f, f'], _ =>
      have hf := h3.trees f (by simp)
      have hf' := h3.trees f' (by simp)
      have hkk : ([10, 10] : List UInt8) = f.g.key ++ f'.g.key := by rw [h2]; simp [keysF]
      obtain ⟨e1, e2, _⟩ := begins_same (l := [10, 10]) (g := f.g) (g' := gN) (rest := f'.g.key) (rest' := [10]) ⟨hf.2, hkk⟩ ⟨k2, by rw [k1]; rfl⟩ (nOk_lies hf.1.lies) k3
      have s1 := key_same hf.2 k2 (nOk_lies hf.1.lies) k3 e2
      have s2 := key_same hf'.2 k2 (nOk_lies hf'.1.lies) k3 (by rw [e1, k1])
      obtain ⟨a, c, rfl, q1, q2, hV⟩ := vals_own (l := fun i => if i = 0 then f.g else f'.g) h3.own (by simp) (fun i hi => by
        have hi2 : i < 2 := by simpa using hi
        obtain rfl | rfl : i = 0 ∨ i = 1 := by omega
        · exact hf.1.lies
        · exact hf'.1.lies)
      refine ⟨a, c, _, rfl, q1, q2, hV, fun i hi => ?_⟩
      obtain rfl | rfl : i = 0 ∨ i = 1 := by omega
      · exact s1
      · exact s2
  · refine absurd ⟨rfl, ?_, ?_⟩ (h [gN, gN])
    · intro g hg
      simp at hg
      rw [hg]
      exact ⟨k2, k3⟩
    · simp [k1]
theorem after_yes (u : World) : Calls Try.prog 11 #[.slice (some ⟨u.heap.size, 0, none⟩) 2 2] (u.alloc (.cells #[.int .u8 1, .int .u8 255] 5)) fun e w' => (∃ v, e = .returned (.tuple #[v, .bool true]) ∧ w'.ownsRow u.heap.size 5 1 v 1 (Lib.byteCells [2])) ∧ RowKit.Below u.heap.size u w' := by
  have hb := (RowKit.Below.refl u.heap.size u).alloc (Nat.le_refl _) (.cells #[.int .u8 1, .int .u8 255] 5)
  refine (After_any (some ⟨u.heap.size, 0, none⟩) 2 [1, 255] _ (byts_new u [1, 255] _ rfl) (by simp) (by unfold maxLen; omega) (by simp)).mono ?_
  rintro e w' ⟨b, ⟨h, _⟩ | ⟨_, v, rfl, ho⟩⟩
  · exact absurd h (by decide)
  · refine ⟨⟨v, rfl, ?_⟩, hb.trans (b.mono hb.size)⟩
    have e : riseR [1, 255] = [2] := by decide
    rw [e] at ho
    exact own_more ho hb.size
theorem after_no (u : World) : Calls Try.prog 11 #[.slice (some ⟨u.heap.size, 0, none⟩) 1 1] (u.alloc (.cells #[.int .u8 255] 5)) fun e w' => e = .returned (.tuple #[.slice none 0 0, .bool false]) ∧ RowKit.Below u.heap.size u w' := by
  have hb := (RowKit.Below.refl u.heap.size u).alloc (Nat.le_refl _) (.cells #[.int .u8 255] 5)
  refine (After_any (some ⟨u.heap.size, 0, none⟩) 1 [255] _ (byts_new u [255] _ rfl) (by simp) (by unfold maxLen; omega) (by simp)).mono ?_
  rintro e w' ⟨b, ⟨_, rfl⟩ | ⟨h, _⟩⟩
  · exact ⟨rfl, hb.trans (b.mono hb.size)⟩
  · exact absurd (by decide) h
end Go.Proofs.Yticbcoklpgfkhaa
