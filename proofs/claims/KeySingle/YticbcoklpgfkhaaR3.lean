/- Some texts in one: each opens with its own remark. -/
import Derived.Test.YticbcoklpgfkhaaKyMem
import Derived.Laws.AppendOwnNone
import Derived.Test.YticbcoklpgfkhaaKyPut
import Derived.Test.YticbcoklpgfkhaaR2
import Derived.Test.YticbcoklpgfkhaaKySame
import Derived.Test.YticbcoklpgfkhaaKyRead
import Derived.Test.YticbcoklpgfkhaaKyStk
import Derived.Test.YticbcoklpgfkhaaKyMath
import Derived.Test.YticbcoklpgfkhaaR1
/- Rows of bytes: a new one, one of one's own, one put behind another. -/
namespace Go.Proofs.Yticbcoklpgfkhaa
open Go.RowKit

/-- append of a row of bytes, nil or not, to a row of one's own. -/
theorem wpList_bytes {ops : Array Oper} {rest : List Oper} {o : Oper} {ac : Act} {w : World} {Q : Exit → Act → World → Prop} (hgd : o.guard = none) (s x : Operand) (ho : o.op = .call { callee := .builtin .append, args := #[s, x], argTypes := #[29, 29] })
    (B : Nat) (v : Value) (d : List UInt8) (hs : ac.eval s = v) (hown : w.ownsRow B 5 1 v d.length (Lib.byteCells d)) (hB : B ≤ w.heap.size) (a : Option Addr) (l : List UInt8) (n c : Nat) (hnl : n = l.length) (hx : ac.eval x = .slice a n c) (hb : Byts w a l) (hn : a = none → l = [] ∧ c = 0) (hl : d.length + l.length ≤ 140737488355328)
    (h : ∀ v' w', w'.ownsRow B 5 1 v' (d ++ l).length (Lib.byteCells (d ++ l)) → w.grownBy w' v.ownBlock → wpList Try.prog ops Q rest (ac.put o.dst v') w') : wpList Try.prog ops Q (o :: rest) ac w := by
  have hml : maxLen = 9223372036854775807 := rfl
  obtain ⟨i0, hi, hz0, hz1, hz2⟩ := info_parts infoU8
  subst hnl
  cases a with
  | none =>
    obtain ⟨rfl, rfl⟩ := hn rfl
    refine wpList_append_own_none hgd s x 29 ho B 5 i0 1 Try.underlying29 hi v d.length (Lib.byteCells d) hs hown hx ?_
    exact h v w (by simpa using hown) ⟨rfl, rfl, rfl, Nat.le_refl _, fun _ _ _ => rfl⟩
  | some ad =>
    refine wpList_append_own_at _ hgd s x 29 ho B 5 i0 (.int .u8 0) 1 1 Try.underlying29 hi hz0 hz1 hz2 rfl (by decide) v d.length (Lib.byteCells d) hs hown ad l.length c (Lib.byteCells l) hx (by simp [Lib.byteCells]) ?_ ?_ (by omega) (by omega) hB ?_
    · intro j u hj
      have hjl : j < l.length := by
        have := (List.getElem?_eq_some_iff.1 hj).1
        simpa [Lib.byteCells] using this
      obtain ⟨b, o2, e, hc⟩ := hb j hjl
      cases e
      rw [show (⟨b, o2, none⟩ : Addr).add j = ⟨b, o2 + j, none⟩ by simp [Addr.add], hc]
      simpa [Lib.byteCells, hjl] using hj
    · intro u hu
      simp [Lib.byteCells] at hu
      obtain ⟨y, _, rfl⟩ := hu
      rfl
    · intro v' w' o' g' _ _
      refine h v' w' ?_ g'
      rw [Lib.byteCells_append, List.length_append]
      exact o'
/-- As above; the row behind it under a letter. -/
theorem wpList_bytesL {ops : Array Oper} {rest : List Oper} {o : Oper} {ac : Act} {w : World} {Q : Exit → Act → World → Prop} (hgd : o.guard = none) (s x : Operand) (ho : o.op = .call { callee := .builtin .append, args := #[s, x], argTypes := #[29, 29] })
    (B : Nat) (v : Value) (d : List UInt8) (hs : ac.eval s = v) (hown : w.ownsRow B 5 1 v d.length (Lib.byteCells d)) (hB : B ≤ w.heap.size) (a : Option Addr) (l : List UInt8) (n c : Nat) (hnl : n = l.length) (hx : ac.eval x = .slice a n c) (hb : Byts w a l) (hn : a = none → l = [] ∧ c = 0) (dd : List UInt8) (hdd : d ++ l = dd) (hl : dd.length ≤ 140737488355328)
    (h : ∀ v' w', w'.ownsRow B 5 1 v' dd.length (Lib.byteCells dd) → w.grownBy w' v.ownBlock → wpList Try.prog ops Q rest (ac.put o.dst v') w') : wpList Try.prog ops Q (o :: rest) ac w := by
  subst hdd
  exact wpList_bytes hgd s x ho B v d hs hown hB a l n c hnl hx hb hn (by rw [List.length_append] at hl; exact hl) h
theorem byts_new (u : World) (bs : List UInt8) (cs : Array Value) (hcs : cs = (Lib.byteCells bs).toArray) : Byts (u.alloc (.cells cs 5)) (some ⟨u.heap.size, 0, none⟩) bs := by
  intro i hi
  refine ⟨u.heap.size, 0, rfl, ?_⟩
  rw [cell_of_row _ u.heap.size _ cs 5 (0, 0) (heap_alloc_new u _), hcs]
  simp [Lib.byteCells, hi]
/-- A row of bytes of one's own is a row of bytes. -/
theorem own_bytsL {w : World} {B n : Nat} {v : Value} {d : List UInt8} (h : w.ownsRow B 5 1 v n (Lib.byteCells d)) (hn : d.length = n) : ∃ a c, v = .slice a n c ∧ Byts w a d ∧ n ≤ c ∧ c ≤ maxLen := by
  obtain ⟨a, c, rfl, h1, h2⟩ := own_nil h
  refine ⟨a, c, rfl, ?_, h1, h2⟩
  intro i hi
  obtain ⟨g, c', e, _, _⟩ : ∃ g c', (Value.slice a n c) = .slice (some ⟨g, 0, none⟩) n c' ∧ g < w.heap.size ∧ B ≤ g := by
    obtain ⟨m, rfl⟩ : ∃ m, n = m + 1 := ⟨n - 1, by omega⟩
    exact own_form h
  cases e
  refine ⟨g, 0, rfl, ?_⟩
  rw [Nat.zero_add, h.cellAt i (by omega)]
  simp [Lib.byteCells, hi]
end Go.Proofs.Yticbcoklpgfkhaa

/- The document's own text (tidemarkref5): a text, or a name, in a key. -/
namespace Go.Proofs.Yticbcoklpgfkhaa
open Go.RowKit

theorem lettersP_take (s : ByteArray) (j : Nat) : (lettersP (s.data.toList.take j)).length ≤ 2 * s.size := by
  have h1 := lettersP_len (s.data.toList.take j)
  have h2 : (s.data.toList.take j).length ≤ s.size := by simp; omega
  omega

set_option maxHeartbeats 2000000 in
set_option maxRecDepth 1000000 in
theorem rtext5_any (s : ByteArray) (w : World) (hs : s.size ≤ 1000000000000) :
    Calls Try.prog 42 #[.string s] w fun e w' => BytesSay w (lettersK s.data.toList) e w' := by
  have hml : maxLen = 9223372036854775807 := rfl
  have HL : Hid (∀ j, (lettersP (s.data.toList.take j)).length ≤ 2 * s.size) := fun j => lettersP_take s j
  go_enter Try.func42, Try.ntmps42
  go_wp2_with fail
  go_loopw [3, 4] (fun v i wr => ∃ (j : Nat) (d : List UInt8), i = .int .i64 j ∧ j ≤ s.size ∧ lettersP (s.data.toList.take j) = d ∧ wr.ownsRow w.heap.size 5 1 v d.length (Lib.byteCells d) ∧ RowKit.Below w.heap.size w wr) (fun _ i _ => s.size - (intOf i).toNat)
  case atStart => exact ⟨0, [], rfl, by omega, rfl, ⟨rfl, Or.inl ⟨rfl, rfl⟩⟩, RowKit.Below.refl _ _⟩
  case round =>
    obtain ⟨j, d, rfl, hj, hd, hown, hb⟩ := hrel
    have hbs := hb.size
    have hdl : d.length ≤ 2 * s.size := by rw [← hd]; exact HL.out j
    have HD := mkHid hd
    have HO0 := mkHid hown
    have HB := mkHid hb
    have HB1 : ∀ k, Value.ownBlock u3 = some k → w.heap.size ≤ k := fun k hk => (hown.lt k hk).1
    have HLT := mkHid HB1
    clear hd HB1
    by_cases hlt : j < s.size
    · have HT : Hid (s.data.toList.take (j + 1) = s.data.toList.take j ++ [s[j]]) := take_succ_byte s j hlt
      have HO := mkHid (hown.alloc (.cells #[.int .u8 (s[j].toNat : Int)] 5))
      have HY := mkHid (byts_new wr [s[j]] #[.int .u8 (s[j].toNat : Int)] rfl)
      have HBA := mkHid (hb.alloc hbs (.cells #[.int .u8 (s[j].toNat : Int)] 5))
      obtain ⟨d1, hd1⟩ : ∃ d1, d1 = d ++ [s[j]] := ⟨_, rfl⟩
      have HD1 := mkHid hd1
      have hl1 : d1.length ≤ 2 * s.size + 1 := by rw [hd1]; simp; omega
      clear hown hb hd1
      go_wp2_with (at_builtin; refine wpList_bytesL rfl _ _ rfl w.heap.size _ d rfl HO.out ?e2 (some ⟨wr.heap.size, 0, none⟩) [s[j]] 1 1 rfl rfl HY.out (fun h => by cases h) d1 HD1.out.symm ?e5 ?_)
      case e2 => simp; omega
      case e5 => omega
      intro v1 w1 o1 g1
      have hs1 := g1.size
      simp at hs1
      have b1 := HBA.out.grown g1 (by simp; omega) (fun k hk => HLT.out k hk)
      clear g1
      by_cases hx : s[j] = 0
      · have kx : ((s[j].toNat : Int) == 0) = true := by rw [hx]; rfl
        have HX := mkHid hx
        have HO2 := mkHid (o1.alloc (.cells #[.int .u8 255] 5))
        have HY2 := mkHid (byts_new w1 [255] #[.int .u8 255] rfl)
        have hb1s := b1.size
        have HBA2 := mkHid (b1.alloc hb1s (.cells #[.int .u8 255] 5))
        have HLT1 : Hid (∀ k, Value.ownBlock v1 = some k → w.heap.size ≤ k) := fun k hk => (o1.lt k hk).1
        obtain ⟨d2, hd2⟩ : ∃ d2, d2 = d1 ++ [255] := ⟨_, rfl⟩
        have HD2 := mkHid hd2
        have hl2 : d2.length ≤ d1.length + 1 := by rw [hd2]; simp
        clear hx o1 b1 hd2
        go_wp2_with (at_builtin; refine wpList_bytesL rfl _ _ rfl w.heap.size _ d1 rfl HO2.out ?e2 (some ⟨w1.heap.size, 0, none⟩) [255] 1 1 rfl rfl HY2.out (fun h => by cases h) d2 HD2.out.symm ?e5 ?_)
        case e2 => simp; omega
        case e5 => omega
        intro v2 w2 o2 g2
        have HO3 := mkHid o2
        have HB3 := mkHid (HBA2.out.grown g2 (by simp; omega) (fun k hk => HLT1.out k hk))
        clear o2 g2
        go_wp2_with fail
        go_roundw
        case rel =>
          refine ⟨j + 1, d2, by go_num, by omega, ?_, HO3.out, HB3.out⟩
          rw [HT.out, lettersP_snoc, if_pos HX.out, HD.out, HD2.out, HD1.out, HX.out]
          simp
        case measure => simp [intOf]; omega
      · have kx : ((s[j].toNat : Int) == 0) = false := by
          simp only [beq_eq_false_iff_ne, ne_eq]
          intro e
          exact hx (UInt8.toNat_inj.1 (by show s[j].toNat = 0; omega))
        have HX := mkHid hx
        have HO3 := mkHid o1
        have HB3 := mkHid b1
        clear hx o1 b1
        go_wp2_with fail
        go_roundw
        case rel =>
          refine ⟨j + 1, d1, by go_num, by omega, ?_, HO3.out, HB3.out⟩
          rw [HT.out, lettersP_snoc, if_neg HX.out, HD.out, HD1.out]
        case measure => simp [intOf]; omega
    · obtain rfl : j = s.size := by omega
      have HO := mkHid (hown.alloc (.cells #[.int .u8 0, .int .u8 0] 5))
      have HY := mkHid (byts_new wr [0, 0] #[.int .u8 0, .int .u8 0] rfl)
      have HBA := mkHid (hb.alloc hbs (.cells #[.int .u8 0, .int .u8 0] 5))
      obtain ⟨d1, hd1⟩ : ∃ d1, d1 = d ++ [0, 0] := ⟨_, rfl⟩
      have HD1 := mkHid hd1
      have hl2 : d1.length ≤ d.length + 2 := by rw [hd1]; simp
      clear hown hb hd1
      go_wp2_with (at_builtin; refine wpList_bytesL rfl _ _ rfl w.heap.size _ d rfl HO.out ?e2 (some ⟨wr.heap.size, 0, none⟩) [0, 0] 2 2 rfl rfl HY.out (fun h => by cases h) d1 HD1.out.symm ?e5 ?_)
      case e2 => simp; omega
      case e5 => omega
      intro v1 w1 o1 g1
      have HO3 := mkHid o1
      have HB3 := mkHid (HBA.out.grown g1 (by simp; omega) (fun k hk => HLT.out k hk))
      clear o1 g1
      go_wp2_with fail
      go_ret
      refine ⟨_, rfl, ?_, HB3.out⟩
      have h := HO3.out
      have e0 : lettersP s.data.toList = d := by rw [← HD.out, List.take_of_length_le (by simp)]
      rw [lettersK_eq, e0, ← HD1.out]
      exact h
end Go.Proofs.Yticbcoklpgfkhaa

/- The writer of keys: an Int's eight bytes; a Bool; a text. -/
namespace Go.Proofs.Yticbcoklpgfkhaa
open Go.RowKit

theorem byteOf_mod (n : Int) : ((byteOf n).toNat : Int) = n % 256 := by
  unfold byteOf
  have : (n % 256).toNat < 256 := by omega
  simp
  omega
theorem be8_at (m j : Nat) (hj : j < 8) : ∃ x : UInt8, (be8 m).take (j + 1) = (be8 m).take j ++ [x] ∧ (x.toNat : Int) = (m : Int) / 2 ^ (56 - 8 * j) % 256 := by
  have e : ∀ n : Nat, ((UInt8.ofNat (n % 256)).toNat : Int) = ((n % 256 : Nat) : Int) := fun n => by simp
  have h : j = 0 ∨ j = 1 ∨ j = 2 ∨ j = 3 ∨ j = 4 ∨ j = 5 ∨ j = 6 ∨ j = 7 := by omega
  rcases h with rfl | rfl | rfl | rfl | rfl | rfl | rfl | rfl <;> refine ⟨_, rfl, ?_⟩ <;> rw [e] <;> simp
set_option maxHeartbeats 1000000 in
set_option maxRecDepth 1000000 in
theorem wnumber_any (W B : Nat) (d : List UInt8) (v0 : Value) (k n : Int) (s : ByteArray) (la : Option Addr) (ln lc : Nat) (fa : Option Addr) (fn fc : Nat) (w : World) (h : Wr W B d v0 w) (hB : B ≤ w.heap.size) (hn : Int64 n) (hl : d.length + 8 ≤ 1000000000000) :
    Calls Try.prog 75 #[.pointer (some ⟨W, 0, none⟩), .agg #[.int .i64 k, .int .i64 n, .string s, .slice la ln lc, .slice fa fn fc]] w fun e w' => WSay W B v0 w (d ++ numK n) e w' := by
  have hml : maxLen = 9223372036854775807 := rfl
  have H := mkHid h
  obtain ⟨m, hm⟩ : ∃ m : Nat, m = (n + 9223372036854775808).toNat := ⟨_, rfl⟩
  have hm64 : m < 18446744073709551616 := by have := hn.1; have := hn.2; omega
  have HM : Hid (IntKind.u64.wrap (wrap64 (n + 9223372036854775808)) = (m : Int)) := by
    have h1 := hn.1
    have h2 := hn.2
    show IntKind.u64.wrap (wrap64 (n + 9223372036854775808)) = (m : Int)
    rw [IntKind.wrap_u64, hm]
    unfold wrap64
    omega
  have HNK : Hid (numK n = be8 m) := by rw [hm]; rfl
  rw [HNK.out]
  have hbx := (RowKit.Below.refl w.heap.size w).alloc (Nat.le_refl _) (.cells #[.int .i64 k, .int .i64 n, .string s, .slice la ln lc, .slice fa fn fc] 25)
  have H1 := mkHid (h.new hbx)
  have HG0 := mkHid ((GroW.refl W v0 w).new hbx)
  clear h hm hn hbx
  go_enter Try.func75, Try.ntmps75
  go_wp2_with fail
  rw [HM.out]
  go_loopw [5] (fun i wr => ∃ (j : Nat) (v : Value), i = .int .i64 (56 - 8 * (j : Int)) ∧ j ≤ 8 ∧ Wr W B (d ++ (be8 m).take j) v wr ∧ GroW W v0 w v wr) (fun i _ => (intOf i + 8).toNat)
  case atStart => exact ⟨0, v0, rfl, by omega, by simpa using H1.out, HG0.out⟩
  case round =>
    obtain ⟨j, v, rfl, hj, hw, hg⟩ := hrel
    by_cases hlt : j < 8
    · have hge : (0 : Int) ≤ 56 - 8 * (j : Int) := by omega
      obtain ⟨x, hx1, hx2⟩ := be8_at m j hlt
      have hsz := hg.size
      have HP := mkHid (put_one W B _ x v wr hw (by omega) (by simp; omega))
      rw [hx2] at HP
      have HG := mkHid hg
      have HX := mkHid hx1
      clear hw hg hx1 hx2
      go_wp2_with fail
      refine HP.out.mono ?_
      rintro e w1 ⟨rfl, v1, hw1, hg1⟩
      have HW1 := mkHid hw1
      have HG1 := mkHid (HG.out.trans hg1)
      clear hw1 hg1
      go_wp2_with fail
      go_roundw
      case rel =>
        refine ⟨j + 1, v1, by go_num, by omega, ?_, HG1.out⟩
        have h := HW1.out
        rw [HX.out, ← List.append_assoc]
        exact h
      case measure => simp [intOf]; omega
    · obtain rfl : j = 8 := by omega
      have HE : Hid (∃ v', Wr W B (d ++ be8 m) v' wr ∧ GroW W v0 w v' wr) := ⟨v, hw, hg⟩
      clear hw hg
      go_wp2_with fail
      refine bodyPost_end (v := .tuple #[]) ?_ rfl ⟨rfl, HE.out⟩
      have hres : Try.f75.results = #[] := by kernel_rfl
      simp [results]
set_option maxHeartbeats 1000000 in
set_option maxRecDepth 1000000 in
theorem wtruth_any (W B : Nat) (d : List UInt8) (v0 : Value) (k n : Int) (s : ByteArray) (la : Option Addr) (ln lc : Nat) (fa : Option Addr) (fn fc : Nat) (w : World) (h : Wr W B d v0 w) (hB : B ≤ w.heap.size) (hl : d.length + 1 ≤ 1000000000000) :
    Calls Try.prog 74 #[.pointer (some ⟨W, 0, none⟩), .agg #[.int .i64 k, .int .i64 n, .string s, .slice la ln lc, .slice fa fn fc]] w fun e w' => WSay W B v0 w (d ++ [byteOf n]) e w' := by
  have hml : maxLen = 9223372036854775807 := rfl
  have hbx := (RowKit.Below.refl w.heap.size w).alloc (Nat.le_refl _) (.cells #[.int .i64 k, .int .i64 n, .string s, .slice la ln lc, .slice fa fn fc] 25)
  have HP := mkHid (put_one W B d (byteOf n) v0 _ (h.new hbx) (by simp; omega) hl)
  have HG0 := mkHid ((GroW.refl W v0 w).new hbx)
  rw [byteOf_mod] at HP
  clear h hbx
  go_enter Try.func74, Try.ntmps74
  go_wp2_with fail
  refine (show Calls _ _ _ _ _ from by simpa using HP.out).mono ?_
  rintro e w1 ⟨rfl, v1, hw1, hg1⟩
  have HE : Hid (∃ v', Wr W B (d ++ [byteOf n]) v' w1 ∧ GroW W v0 w v' w1) := ⟨v1, hw1, HG0.out.trans hg1⟩
  clear hw1 hg1
  go_wp2_with fail
  refine bodyPost_end (v := .tuple #[]) ?_ rfl ⟨rfl, HE.out⟩
  have hres : Try.f74.results = #[] := by kernel_rfl
  simp [results]
set_option maxHeartbeats 1000000 in
set_option maxRecDepth 1000000 in
theorem wtext_any (W B : Nat) (d : List UInt8) (v0 : Value) (k n : Int) (s : ByteArray) (la : Option Addr) (ln lc : Nat) (fa : Option Addr) (fn fc : Nat) (w : World) (h : Wr W B d v0 w) (hB : B ≤ w.heap.size) (hl : d.length + (lettersK s.data.toList).length ≤ 1000000000000) :
    Calls Try.prog 76 #[.pointer (some ⟨W, 0, none⟩), .agg #[.int .i64 k, .int .i64 n, .string s, .slice la ln lc, .slice fa fn fc]] w fun e w' => WSay W B v0 w (d ++ lettersK s.data.toList) e w' := by
  have hml : maxLen = 9223372036854775807 := rfl
  have hbx := (RowKit.Below.refl w.heap.size w).alloc (Nat.le_refl _) (.cells #[.int .i64 k, .int .i64 n, .string s, .slice la ln lc, .slice fa fn fc] 25)
  have HP := mkHid (wletters_any W B d v0 s _ (h.new hbx) (by simp; omega) hl)
  have HG0 := mkHid ((GroW.refl W v0 w).new hbx)
  clear h hbx
  go_enter Try.func76, Try.ntmps76
  go_wp2_with fail
  refine HP.out.mono ?_
  rintro e w1 ⟨rfl, v1, hw1, hg1⟩
  have HE : Hid (∃ v', Wr W B (d ++ lettersK s.data.toList) v' w1 ∧ GroW W v0 w v' w1) := ⟨v1, hw1, HG0.out.trans hg1⟩
  clear hw1 hg1
  go_wp2_with fail
  refine bodyPost_end (v := .tuple #[]) ?_ rfl ⟨rfl, HE.out⟩
  have hres : Try.f76.results = #[] := by kernel_rfl
  simp [results]
set_option maxHeartbeats 1000000 in
set_option maxRecDepth 1000000 in
theorem wnothing_any (W B : Nat) (d : List UInt8) (v0 : Value) (k n : Int) (s : ByteArray) (la : Option Addr) (ln lc : Nat) (fa : Option Addr) (fn fc : Nat) (w : World) (h : Wr W B d v0 w) :
    Calls Try.prog 79 #[.pointer (some ⟨W, 0, none⟩), .agg #[.int .i64 k, .int .i64 n, .string s, .slice la ln lc, .slice fa fn fc]] w fun e w' => WSay W B v0 w d e w' := by
  have hbx := (RowKit.Below.refl w.heap.size w).alloc (Nat.le_refl _) (.cells #[.int .i64 k, .int .i64 n, .string s, .slice la ln lc, .slice fa fn fc] 25)
  have HE : Hid (∃ v', Wr W B d v' (w.alloc (.cells #[.int .i64 k, .int .i64 n, .string s, .slice la ln lc, .slice fa fn fc] 25)) ∧ GroW W v0 w v' (w.alloc (.cells #[.int .i64 k, .int .i64 n, .string s, .slice la ln lc, .slice fa fn fc] 25))) := ⟨v0, h.new hbx, (GroW.refl W v0 w).new hbx⟩
  clear h hbx
  go_enter Try.func79, Try.ntmps79
  go_wp2_with fail
  refine bodyPost_end (v := .tuple #[]) ?_ rfl ⟨rfl, HE.out⟩
  have hres : Try.f79.results = #[] := by kernel_rfl
  simp [results]
end Go.Proofs.Yticbcoklpgfkhaa

/- The walk of the document's own Of (tidemarkref5): the key of any formed value. (Written by tools/mkrof.py.) -/
namespace Go.Proofs.Yticbcoklpgfkhaa
open Go.RowKit

theorem xor_top {a : Nat} (h : a < 18446744073709551616) : a ^^^ 9223372036854775808 = (a + 9223372036854775808) % 18446744073709551616 := by
  have e1 : (a ^^^ 2 ^ 63) % 2 ^ 63 = a % 2 ^ 63 := by rw [Nat.xor_mod_two_pow]; simp
  have e2 : (a ^^^ 2 ^ 63) / 2 ^ 63 = a / 2 ^ 63 ^^^ 1 := by rw [Nat.xor_div_two_pow]
  have e3 : a / 2 ^ 63 = 0 ∨ a / 2 ^ 63 = 1 := by omega
  have e4 : (9223372036854775808 : Nat) = 2 ^ 63 := rfl
  rw [e4]
  obtain ⟨y, hy⟩ : ∃ y, y = a ^^^ 2 ^ 63 := ⟨_, rfl⟩
  rw [← hy] at e1 e2 ⊢
  rcases e3 with e | e
  · rw [e] at e2
    have e2 : y / 2 ^ 63 = 1 := e2
    omega
  · rw [e] at e2
    have e2 : y / 2 ^ 63 = 0 := e2
    omega
theorem top_key {n : Int} (h : Int64 n) : bits BinOp.xor IntKind.u64 (IntKind.u64.wrap n) 9223372036854775808 = (((n + 9223372036854775808).toNat : Nat) : Int) := by
  have h1 := h.1
  have h2 := h.2
  obtain ⟨a, ha⟩ : ∃ a : Nat, IntKind.u64.wrap n = (a : Int) ∧ a < 18446744073709551616 := ⟨(IntKind.u64.wrap n).toNat, by rw [IntKind.wrap_u64]; omega, by rw [IntKind.wrap_u64]; omega⟩
  rw [ha.1, show (9223372036854775808 : Int) = ((9223372036854775808 : Nat) : Int) from rfl, bits_xor_u64_nat a _ (by omega) (by omega), xor_top ha.2]
  have := ha.1
  rw [IntKind.wrap_u64] at this
  omega
theorem key_k1 {n s ln l fn nm f} : (GV.mk 1 n s ln l fn nm f).key = [10] := by simp [GV.key]; decide
theorem key_k2 {n s ln l fn nm f} : (GV.mk 2 n s ln l fn nm f).key = [20, byteOf n] := by simp [GV.key]; decide
theorem key_k3 {n s ln l fn nm f} : (GV.mk 3 n s ln l fn nm f).key = 30 :: numK n := by simp [GV.key]; decide
theorem key_k4 {n s ln l fn nm f} : (GV.mk 4 n s ln l fn nm f).key = 40 :: lettersK s.data.toList := by simp [GV.key]; decide
theorem key_k5 {n s ln l fn nm f} : (GV.mk 5 n s ln l fn nm f).key = 50 :: ((List.range ln).flatMap (fun i => 1 :: (l i).key) ++ [0]) := by simp [GV.key]; decide
theorem key_k6 {n s ln l fn nm f} : (GV.mk 6 n s ln l fn nm f).key = 60 :: ((List.range fn).flatMap (fun i => 1 :: (lettersK (nm i).data.toList ++ (f i).key)) ++ [0]) := by simp [GV.key]; decide
set_option maxHeartbeats 4000000 in
set_option maxRecDepth 1000000 in
theorem rof_k1 (n : Int) (s : ByteArray) (ln : Nat) (l : Nat → GV) (fn : Nat) (nm : Nat → ByteArray) (f : Nat → GV) (la fa : Option Addr) (lc fc : Nat) (w : World) : Calls Try.prog 23 #[.agg #[.int .i64 1, .int .i64 n, .string s, .slice la ln lc, .slice fa fn fc]] w fun e w' => BytesSay w (GV.mk 1 n s ln l fn nm f).key e w' := by
  obtain ⟨i0, hi, hz0, hz1, hz2⟩ := info_parts infoU8
  have hml : maxLen = 9223372036854775807 := rfl
  have hbx : RowKit.Below w.heap.size w (w.alloc (.cells #[.int .i64 1, .int .i64 n, .string s, .slice la ln lc, .slice fa fn fc] 25)) := (RowKit.Below.refl w.heap.size w).alloc (Nat.le_refl _) _
  have HB1 : Hid (RowKit.Below (w.heap.size + 1) (w.alloc (.cells #[.int .i64 1, .int .i64 n, .string s, .slice la ln lc, .slice fa fn fc] 25)) ((w.alloc (.cells #[.int .i64 1, .int .i64 n, .string s, .slice la ln lc, .slice fa fn fc] 25)).alloc (.cells #[.int .u8 10] 5))) := (RowKit.Below.refl _ _).alloc (by simp) _
  have HO1 : Hid (((w.alloc (.cells #[.int .i64 1, .int .i64 n, .string s, .slice la ln lc, .slice fa fn fc] 25)).alloc (.cells #[.int .u8 10] 5)).ownsRow (w.heap.size + 1) 5 1 (.slice (some ⟨w.heap.size + 1, 0, none⟩) 1 1) ([10] : List UInt8).length (Lib.byteCells [10])) := by
    have := World.ownsRow_lit (base := w.heap.size + 1) (e := 5) (size := 1) (w.alloc (.cells #[.int .i64 1, .int .i64 n, .string s, .slice la ln lc, .slice fa fn fc] 25)) #[.int .u8 10] 1 (by simp) (by decide) rfl
    show World.ownsRow _ _ _ _ _ _ _
    simpa [Lib.byteCells] using this
  rw [key_k1]
  go_enter Try.func23, Try.ntmps23
  go_wp2_with fail
  go_ret
  exact ⟨_, rfl, own_base HO1.out (by omega), hbx.trans (HB1.out.mono (by omega))⟩
set_option maxHeartbeats 4000000 in
set_option maxRecDepth 1000000 in
theorem rof_k2_0 (s : ByteArray) (ln : Nat) (l : Nat → GV) (fn : Nat) (nm : Nat → ByteArray) (f : Nat → GV) (la fa : Option Addr) (lc fc : Nat) (w : World) : Calls Try.prog 23 #[.agg #[.int .i64 2, .int .i64 0, .string s, .slice la ln lc, .slice fa fn fc]] w fun e w' => BytesSay w (GV.mk 2 0 s ln l fn nm f).key e w' := by
  obtain ⟨i0, hi, hz0, hz1, hz2⟩ := info_parts infoU8
  have hml : maxLen = 9223372036854775807 := rfl
  have hbx : RowKit.Below w.heap.size w (w.alloc (.cells #[.int .i64 2, .int .i64 0, .string s, .slice la ln lc, .slice fa fn fc] 25)) := (RowKit.Below.refl w.heap.size w).alloc (Nat.le_refl _) _
  have HB1 : Hid (RowKit.Below (w.heap.size + 1) (w.alloc (.cells #[.int .i64 2, .int .i64 0, .string s, .slice la ln lc, .slice fa fn fc] 25)) ((w.alloc (.cells #[.int .i64 2, .int .i64 0, .string s, .slice la ln lc, .slice fa fn fc] 25)).alloc (.cells #[.int .u8 20] 5))) := (RowKit.Below.refl _ _).alloc (by simp) _
  have HO1 : Hid (((w.alloc (.cells #[.int .i64 2, .int .i64 0, .string s, .slice la ln lc, .slice fa fn fc] 25)).alloc (.cells #[.int .u8 20] 5)).ownsRow (w.heap.size + 1) 5 1 (.slice (some ⟨w.heap.size + 1, 0, none⟩) 1 1) ([20] : List UInt8).length (Lib.byteCells [20])) := by
    have := World.ownsRow_lit (base := w.heap.size + 1) (e := 5) (size := 1) (w.alloc (.cells #[.int .i64 2, .int .i64 0, .string s, .slice la ln lc, .slice fa fn fc] 25)) #[.int .u8 20] 1 (by simp) (by decide) rfl
    show World.ownsRow _ _ _ _ _ _ _
    simpa [Lib.byteCells] using this
  have HO2 := mkHid (HO1.out.alloc (.cells #[.int .u8 0] 5))
  have HY := mkHid (byts_new ((w.alloc (.cells #[.int .i64 2, .int .i64 0, .string s, .slice la ln lc, .slice fa fn fc] 25)).alloc (.cells #[.int .u8 20] 5)) [0] #[.int .u8 0] rfl)
  obtain ⟨D1, hD1⟩ : ∃ D1 : List UInt8, D1 = [20, 0] := ⟨_, rfl⟩
  have hl1 : D1.length ≤ 2 := by rw [hD1]; simp
  have HD1 : Hid (([20] : List UInt8) ++ [0] = D1) := by rw [hD1]; exact rfl
  rw [key_k2, show ([20, byteOf 0] : List UInt8) = D1 from by rw [hD1]; decide]
  clear hD1
  go_enter Try.func23, Try.ntmps23
  go_wp2_with (at_builtin; refine wpList_bytesL rfl _ _ rfl (w.heap.size + 1) _ [20] rfl HO2.out ?e2 (some ⟨w.heap.size + 1 + 1, 0, none⟩) [0] 1 1 rfl rfl (by simpa using HY.out) (fun h => by cases h) D1 HD1.out ?e5 ?_)
  case e2 => first | omega | (simp <;> omega)
  case e5 => omega
  intro v1 w1 o1 g1
  have HO3 := mkHid o1
  have HB3 := mkHid ((HB1.out.alloc (by simp) (.cells #[.int .u8 0] 5)).grown g1 (by simp) (fun k hk => by simp [Value.ownBlock] at hk; omega))
  clear o1 g1
  go_wp2_with fail
  go_ret
  exact ⟨_, rfl, own_base HO3.out (by omega), hbx.trans (HB3.out.mono (by omega))⟩
set_option maxHeartbeats 4000000 in
set_option maxRecDepth 1000000 in
theorem rof_k2_1 (s : ByteArray) (ln : Nat) (l : Nat → GV) (fn : Nat) (nm : Nat → ByteArray) (f : Nat → GV) (la fa : Option Addr) (lc fc : Nat) (w : World) : Calls Try.prog 23 #[.agg #[.int .i64 2, .int .i64 1, .string s, .slice la ln lc, .slice fa fn fc]] w fun e w' => BytesSay w (GV.mk 2 1 s ln l fn nm f).key e w' := by
  obtain ⟨i0, hi, hz0, hz1, hz2⟩ := info_parts infoU8
  have hml : maxLen = 9223372036854775807 := rfl
  have hbx : RowKit.Below w.heap.size w (w.alloc (.cells #[.int .i64 2, .int .i64 1, .string s, .slice la ln lc, .slice fa fn fc] 25)) := (RowKit.Below.refl w.heap.size w).alloc (Nat.le_refl _) _
  have HB1 : Hid (RowKit.Below (w.heap.size + 1) (w.alloc (.cells #[.int .i64 2, .int .i64 1, .string s, .slice la ln lc, .slice fa fn fc] 25)) ((w.alloc (.cells #[.int .i64 2, .int .i64 1, .string s, .slice la ln lc, .slice fa fn fc] 25)).alloc (.cells #[.int .u8 20] 5))) := (RowKit.Below.refl _ _).alloc (by simp) _
  have HO1 : Hid (((w.alloc (.cells #[.int .i64 2, .int .i64 1, .string s, .slice la ln lc, .slice fa fn fc] 25)).alloc (.cells #[.int .u8 20] 5)).ownsRow (w.heap.size + 1) 5 1 (.slice (some ⟨w.heap.size + 1, 0, none⟩) 1 1) ([20] : List UInt8).length (Lib.byteCells [20])) := by
    have := World.ownsRow_lit (base := w.heap.size + 1) (e := 5) (size := 1) (w.alloc (.cells #[.int .i64 2, .int .i64 1, .string s, .slice la ln lc, .slice fa fn fc] 25)) #[.int .u8 20] 1 (by simp) (by decide) rfl
    show World.ownsRow _ _ _ _ _ _ _
    simpa [Lib.byteCells] using this
  have HO2 := mkHid (HO1.out.alloc (.cells #[.int .u8 1] 5))
  have HY := mkHid (byts_new ((w.alloc (.cells #[.int .i64 2, .int .i64 1, .string s, .slice la ln lc, .slice fa fn fc] 25)).alloc (.cells #[.int .u8 20] 5)) [1] #[.int .u8 1] rfl)
  obtain ⟨D1, hD1⟩ : ∃ D1 : List UInt8, D1 = [20, 1] := ⟨_, rfl⟩
  have hl1 : D1.length ≤ 2 := by rw [hD1]; simp
  have HD1 : Hid (([20] : List UInt8) ++ [1] = D1) := by rw [hD1]; exact rfl
  rw [key_k2, show ([20, byteOf 1] : List UInt8) = D1 from by rw [hD1]; decide]
  clear hD1
  go_enter Try.func23, Try.ntmps23
  go_wp2_with (at_builtin; refine wpList_bytesL rfl _ _ rfl (w.heap.size + 1) _ [20] rfl HO2.out ?e2 (some ⟨w.heap.size + 1 + 1, 0, none⟩) [1] 1 1 rfl rfl (by simpa using HY.out) (fun h => by cases h) D1 HD1.out ?e5 ?_)
  case e2 => first | omega | (simp <;> omega)
  case e5 => omega
  intro v1 w1 o1 g1
  have HO3 := mkHid o1
  have HB3 := mkHid ((HB1.out.alloc (by simp) (.cells #[.int .u8 1] 5)).grown g1 (by simp) (fun k hk => by simp [Value.ownBlock] at hk; omega))
  clear o1 g1
  go_wp2_with fail
  go_ret
  exact ⟨_, rfl, own_base HO3.out (by omega), hbx.trans (HB3.out.mono (by omega))⟩
set_option maxHeartbeats 4000000 in
set_option maxRecDepth 1000000 in
theorem rof_k3 (n : Int) (s : ByteArray) (ln : Nat) (l : Nat → GV) (fn : Nat) (nm : Nat → ByteArray) (f : Nat → GV) (la fa : Option Addr) (lc fc : Nat) (w : World) (hn : Int64 n) : Calls Try.prog 23 #[.agg #[.int .i64 3, .int .i64 n, .string s, .slice la ln lc, .slice fa fn fc]] w fun e w' => BytesSay w (GV.mk 3 n s ln l fn nm f).key e w' := by
  obtain ⟨i0, hi, hz0, hz1, hz2⟩ := info_parts infoU8
  have hml : maxLen = 9223372036854775807 := rfl
  have hbx : RowKit.Below w.heap.size w (w.alloc (.cells #[.int .i64 3, .int .i64 n, .string s, .slice la ln lc, .slice fa fn fc] 25)) := (RowKit.Below.refl w.heap.size w).alloc (Nat.le_refl _) _
  have HB1 : Hid (RowKit.Below (w.heap.size + 1) (w.alloc (.cells #[.int .i64 3, .int .i64 n, .string s, .slice la ln lc, .slice fa fn fc] 25)) ((w.alloc (.cells #[.int .i64 3, .int .i64 n, .string s, .slice la ln lc, .slice fa fn fc] 25)).alloc (.cells #[.int .u8 30] 5))) := (RowKit.Below.refl _ _).alloc (by simp) _
  have HO1 : Hid (((w.alloc (.cells #[.int .i64 3, .int .i64 n, .string s, .slice la ln lc, .slice fa fn fc] 25)).alloc (.cells #[.int .u8 30] 5)).ownsRow (w.heap.size + 1) 5 1 (.slice (some ⟨w.heap.size + 1, 0, none⟩) 1 1) ([30] : List UInt8).length (Lib.byteCells [30])) := by
    have := World.ownsRow_lit (base := w.heap.size + 1) (e := 5) (size := 1) (w.alloc (.cells #[.int .i64 3, .int .i64 n, .string s, .slice la ln lc, .slice fa fn fc] 25)) #[.int .u8 30] 1 (by simp) (by decide) rfl
    show World.ownsRow _ _ _ _ _ _ _
    simpa [Lib.byteCells] using this
  obtain ⟨m, hm⟩ : ∃ m : Nat, m = (n + 9223372036854775808).toNat := ⟨_, rfl⟩
  have hm64 : m < 18446744073709551616 := by have := hn.1; have := hn.2; omega
  have HM : Hid (bits BinOp.xor IntKind.u64 (IntKind.u64.wrap n) 9223372036854775808 = (m : Int)) := by rw [hm]; exact top_key hn
  have HNK : Hid (numK n = be8 m) := by rw [hm]; rfl
  rw [key_k3, HNK.out]
  clear hm
  go_enter Try.func23, Try.ntmps23
  go_wp2_with fail
  rw [HM.out]
  go_loopw [3, 5] (fun v i wr => ∃ (j : Nat) (d : List UInt8), i = .int .i64 (7 - (j : Int)) ∧ j ≤ 8 ∧ 30 :: (be8 m).take j = d ∧ wr.ownsRow (w.heap.size + 1) 5 1 v d.length (Lib.byteCells d) ∧ RowKit.Below (w.heap.size + 1) (w.alloc (.cells #[.int .i64 3, .int .i64 n, .string s, .slice la ln lc, .slice fa fn fc] 25)) wr) (fun _ i _ => (intOf i + 1).toNat)
  case atStart => exact ⟨0, [30], rfl, by omega, rfl, HO1.out, HB1.out⟩
  case round =>
    obtain ⟨j, d, rfl, hj, hd, hown, hb⟩ := hrel
    have hbs := hb.size
    simp at hbs
    have hdl : d.length ≤ 9 := by rw [← hd]; simp; omega
    have HLT : Hid (∀ k, Value.ownBlock u3 = some k → w.heap.size + 1 ≤ k) := fun k hk => (hown.lt k hk).1
    by_cases hlt : j < 8
    · have hge : (0 : Int) ≤ 7 - (j : Int) := by omega
      obtain ⟨x, hx1, hx2⟩ := be8_at m j hlt
      have he8 : (8 * (7 - (j : Int))).toNat = 56 - 8 * j := by omega
      have hu8 : IntKind.u64.wrap (8 * (7 - (j : Int))) = 8 * (7 - (j : Int)) := by rw [IntKind.wrap_u64]; omega
      have HO := mkHid (hown.alloc (.cells #[.int .u8 (x.toNat : Int)] 5))
      have HY := mkHid (byts_new wr [x] #[.int .u8 (x.toNat : Int)] rfl)
      have HBA := mkHid (hb.alloc (by omega) (.cells #[.int .u8 (x.toNat : Int)] 5))
      rw [hx2] at HO HY HBA
      have HX := mkHid hx1
      have HD := mkHid hd
      obtain ⟨d1, hd1⟩ : ∃ d1, d1 = d ++ [x] := ⟨_, rfl⟩
      have HD1 := mkHid hd1
      have hl1 : d1.length ≤ d.length + 1 := by rw [hd1]; simp
      clear hown hb hx1 hd hd1
      go_wp2_with (at_builtin; refine wpList_bytesL rfl _ _ rfl (w.heap.size + 1) _ d rfl HO.out ?e2 (some ⟨wr.heap.size, 0, none⟩) [x] 1 1 rfl rfl HY.out (fun h => by cases h) d1 HD1.out.symm ?e5 ?_)
      case e2 => first | omega | (simp; omega)
      case e5 => omega
      intro v1 w1 o1 g1
      have HO3 := mkHid o1
      have HB3 := mkHid (HBA.out.grown g1 (by simp; omega) (fun k hk => HLT.out k hk))
      clear o1 g1
      go_wp2_with fail
      go_roundw
      case rel =>
        refine ⟨j + 1, d1, by go_num, by omega, ?_, HO3.out, HB3.out⟩
        rw [HX.out, HD1.out, ← HD.out]
        rfl
      case measure => simp [intOf]; omega
    · obtain rfl : j = 8 := by omega
      have HO := mkHid hown
      have HBW := mkHid hb
      have HD : Hid (d = 30 :: be8 m) := hd.symm
      clear hown hb hd
      go_wp2_with fail
      go_ret
      refine ⟨_, rfl, ?_, hbx.trans (HBW.out.mono (by omega))⟩
      have h := own_base HO.out (base := w.heap.size) (by omega)
      rw [HD.out] at h
      exact h
set_option maxHeartbeats 4000000 in
set_option maxRecDepth 1000000 in
theorem rof_k4 (n : Int) (s : ByteArray) (ln : Nat) (l : Nat → GV) (fn : Nat) (nm : Nat → ByteArray) (f : Nat → GV) (la fa : Option Addr) (lc fc : Nat) (w : World) (hs : s.size ≤ 1000000000000) : Calls Try.prog 23 #[.agg #[.int .i64 4, .int .i64 n, .string s, .slice la ln lc, .slice fa fn fc]] w fun e w' => BytesSay w (GV.mk 4 n s ln l fn nm f).key e w' := by
  obtain ⟨i0, hi, hz0, hz1, hz2⟩ := info_parts infoU8
  have hml : maxLen = 9223372036854775807 := rfl
  have hbx : RowKit.Below w.heap.size w (w.alloc (.cells #[.int .i64 4, .int .i64 n, .string s, .slice la ln lc, .slice fa fn fc] 25)) := (RowKit.Below.refl w.heap.size w).alloc (Nat.le_refl _) _
  have HB1 : Hid (RowKit.Below (w.heap.size + 1) (w.alloc (.cells #[.int .i64 4, .int .i64 n, .string s, .slice la ln lc, .slice fa fn fc] 25)) ((w.alloc (.cells #[.int .i64 4, .int .i64 n, .string s, .slice la ln lc, .slice fa fn fc] 25)).alloc (.cells #[.int .u8 40] 5))) := (RowKit.Below.refl _ _).alloc (by simp) _
  have HO1 : Hid (((w.alloc (.cells #[.int .i64 4, .int .i64 n, .string s, .slice la ln lc, .slice fa fn fc] 25)).alloc (.cells #[.int .u8 40] 5)).ownsRow (w.heap.size + 1) 5 1 (.slice (some ⟨w.heap.size + 1, 0, none⟩) 1 1) ([40] : List UInt8).length (Lib.byteCells [40])) := by
    have := World.ownsRow_lit (base := w.heap.size + 1) (e := 5) (size := 1) (w.alloc (.cells #[.int .i64 4, .int .i64 n, .string s, .slice la ln lc, .slice fa fn fc] 25)) #[.int .u8 40] 1 (by simp) (by decide) rfl
    show World.ownsRow _ _ _ _ _ _ _
    simpa [Lib.byteCells] using this
  have hks := lettersK_len s.data.toList
  have hps := lettersK_ge s.data.toList
  have hsd : s.data.toList.length = s.size := by simp
  obtain ⟨K, hK⟩ : ∃ K, K = lettersK s.data.toList := ⟨_, rfl⟩
  have HTX : Hid (∀ u, Calls Try.prog 42 #[.string s] u fun e w' => BytesSay u K e w') := fun u => by rw [hK]; exact rtext5_any s u hs
  obtain ⟨D1, hD1⟩ : ∃ D1 : List UInt8, D1 = 40 :: K := ⟨_, rfl⟩
  have hl1 : D1.length ≤ K.length + 1 := by rw [hD1]; simp
  have HD1 : Hid (([40] : List UInt8) ++ K = D1) := by rw [hD1]; exact rfl
  rw [key_k4, ← hK, ← hD1]
  rw [← hK] at hks hps
  clear hK hD1
  go_enter Try.func23, Try.ntmps23
  go_wp2_with fail
  refine (HTX.out _).mono ?_
  rintro e w2 ⟨v2, rfl, hv2, hb2⟩
  obtain ⟨g2, c2, rfl, hy2⟩ := own_bytsL hv2 rfl
  have hb2s := hb2.size
  simp at hb2s
  have HOW := mkHid (own_below HO1.out hb2)
  have HB2 := mkHid (HB1.out.trans (hb2.mono (by simp)))
  have HY := mkHid hy2.1
  obtain ⟨N, hN⟩ : ∃ N, N = K.length := ⟨_, rfl⟩
  have HNN := mkHid hN
  have hg2 : g2 ≠ none := by
    rintro rfl
    obtain ⟨b, o, e, _⟩ := hy2.1 0 (by omega)
    cases e
  rw [← hN]
  rw [← hN] at hks hps hl1
  clear hv2 hb2 hy2 hN
  go_wp2_with (at_builtin; refine wpList_bytesL rfl _ _ rfl (w.heap.size + 1) _ [40] rfl HOW.out ?e2 g2 K N c2 HNN.out rfl HY.out (fun h => absurd h hg2) D1 HD1.out ?e5 ?_)
  case e2 => omega
  case e5 => omega
  intro v1 w1 o1 g1
  have HO3 := mkHid o1
  have HB3 := mkHid (HB2.out.grown g1 (by omega) (fun k hk => by simp [Value.ownBlock] at hk; omega))
  clear o1 g1
  go_wp2_with fail
  go_ret
  exact ⟨_, rfl, own_base HO3.out (by omega), hbx.trans (HB3.out.mono (by omega))⟩
end Go.Proofs.Yticbcoklpgfkhaa

/- The document's own Of (tidemarkref5) of Lists, Docs and any formed value. (Written by tools/mkrof2.py.) -/
namespace Go.Proofs.Yticbcoklpgfkhaa
open Go.RowKit

theorem step_bytes {ops : Array Oper} {o : Oper} {a : Act} {w : World} {K : Act → World → Prop} {Q : Exit → Act → World → Prop} {X : Prop}
    (hg : o.guard = none) (s x : Operand) (hop : o.op = Op.call { callee := Callee.builtin Builtin.append, args := #[s, x], argTypes := #[29, 29] })
    (B : Nat) (v : Value) (d : List UInt8) (hs : a.eval s = v) (hown : w.ownsRow B 5 1 v d.length (Lib.byteCells d)) (hB : B ≤ w.heap.size) (ad : Addr) (l : List UInt8) (n c : Nat) (hnl : n = l.length) (hx : a.eval x = .slice (some ad) n c) (hb : Byts w (some ad) l) (dd : List UInt8) (hdd : d ++ l = dd) (hl : dd.length ≤ 140737488355328)
    (hK : ∀ v' w', w'.ownsRow B 5 1 v' dd.length (Lib.byteCells dd) → w.grownBy w' v.ownBlock → K (a.put o.dst v') w') :
    if Region.wanted o (yielded ops a.tmps) = true then Oper.wp Try.prog o a w K Q else X := by
  have hml : maxLen = 9223372036854775807 := rfl
  obtain ⟨i0, hi, hz0, hz1, hz2⟩ := info_parts infoU8
  subst hnl hdd
  rw [List.length_append] at hl
  refine step_append_own hg s x 29 hop B 5 i0 (.int .u8 0) 1 1 Try.underlying29 hi hz0 hz1 hz2 rfl (by decide) v d.length (Lib.byteCells d) hs hown ad l.length c (Lib.byteCells l) hx (byteLen _) ?_ (byteOne _) (by omega) (by omega) hB ?_
  · intro j u hj
    have hjl : j < l.length := by
      have := (List.getElem?_eq_some_iff.1 hj).1
      simpa [Lib.byteCells] using this
    obtain ⟨b, o2, e, hc⟩ := hb j hjl
    cases e
    rw [show (⟨b, o2, none⟩ : Addr).add j = ⟨b, o2 + j, none⟩ by simp [Addr.add], hc]
    simpa [Lib.byteCells, hjl] using hj
  · intro v' w' o' g'
    refine hK v' w' ?_ g'
    rw [Lib.byteCells_append, List.length_append]
    exact o'
theorem Byts.stay {w w' : World} {a : Option Addr} {l : List UInt8} (h : Byts w a l) (_hl : ∀ x, a = some x → x.block < w.heap.size) (hk : ∀ x, a = some x → w'.heap[x.block]? = w.heap[x.block]?) : Byts w' a l := by
  intro i hi
  obtain ⟨b, o, e, hc⟩ := h i hi
  have := hk _ e
  exact ⟨b, o, e, by rw [World.cell?_of_block (a := ⟨b, o + i, none⟩) (w := w) (by show w'.heap[b]? = _; exact this), hc]⟩
theorem byts_addr {w : World} {a : Option Addr} {l : List UInt8} (h : Byts w a l) (hp : 0 < l.length) : ∃ x, a = some x := by
  obtain ⟨b, o, e, _⟩ := h 0 hp
  exact ⟨_, e⟩
theorem key_posL {w : World} {g : GV} {v : Value} (h : Lies w g v) : 0 < g.key.length := by
  cases g with
  | nil => exact False.elim h
  | mk k n s ln l fn nm f => simp [GV.key]
set_option maxHeartbeats 8000000 in
set_option maxRecDepth 1000000 in
theorem rof_k5 (n : Int) (s : ByteArray) (ln : Nat) (l : Nat → GV) (fn : Nat) (nm : Nat → ByteArray) (f : Nat → GV) (la fa : Option Addr) (lc fc : Nat) (w : World) (h4 : ln ≤ lc) (h5 : lc ≤ maxLen) (hV : Vals w la ln l) (hB : (GV.mk 5 n s ln l fn nm f).key.length ≤ 1000000000)
    (hI : ∀ i, i < ln → ∀ v w, Lies w (l i) v → Calls Try.prog 23 #[v] w fun e w' => BytesSay w (l i).key e w') : Calls Try.prog 23 #[.agg #[.int .i64 5, .int .i64 n, .string s, .slice la ln lc, .slice fa fn fc]] w fun e w' => BytesSay w (GV.mk 5 n s ln l fn nm f).key e w' := by
  obtain ⟨i0, hi, hz0, hz1, hz2⟩ := info_parts infoU8
  have hml : maxLen = 9223372036854775807 := rfl
  have hbx : RowKit.Below w.heap.size w (w.alloc (.cells #[.int .i64 5, .int .i64 n, .string s, .slice la ln lc, .slice fa fn fc] 25)) := (RowKit.Below.refl w.heap.size w).alloc (Nat.le_refl _) _
  have HB1 : Hid (RowKit.Below (w.heap.size + 1) (w.alloc (.cells #[.int .i64 5, .int .i64 n, .string s, .slice la ln lc, .slice fa fn fc] 25)) ((w.alloc (.cells #[.int .i64 5, .int .i64 n, .string s, .slice la ln lc, .slice fa fn fc] 25)).alloc (.cells #[.int .u8 50] 5))) := (RowKit.Below.refl _ _).alloc (by simp) _
  have HO1 : Hid (((w.alloc (.cells #[.int .i64 5, .int .i64 n, .string s, .slice la ln lc, .slice fa fn fc] 25)).alloc (.cells #[.int .u8 50] 5)).ownsRow (w.heap.size + 1) 5 1 (.slice (some ⟨w.heap.size + 1, 0, none⟩) 1 1) ([50] : List UInt8).length (Lib.byteCells [50])) := by
    have := World.ownsRow_lit (base := w.heap.size + 1) (e := 5) (size := 1) (w.alloc (.cells #[.int .i64 5, .int .i64 n, .string s, .slice la ln lc, .slice fa fn fc] 25)) #[.int .u8 50] 1 (by simp) (by decide) rfl
    show World.ownsRow _ _ _ _ _ _ _
    simpa [Lib.byteCells] using this
  have HVL : Hid (Vals w la ln l) := hV
  have HI := mkHid hI
  rw [key_k5] at hB ⊢
  have HEL : Hid (∀ j, j ≤ ln → (50 :: (List.range j).flatMap (fun i => 1 :: (l i).key)).length + 1 ≤ 1000000000) := by
    intro j hj
    have := flat_len (c := fun i => 1 :: (l i).key) hj
    simp only [List.length_cons, List.length_append, List.length_nil] at hB ⊢
    omega
  clear hV hI hB
  obtain ⟨WB, hWB⟩ : ∃ WB, WB = (w.alloc (.cells #[.int .i64 5, .int .i64 n, .string s, .slice la ln lc, .slice fa fn fc] 25)) := ⟨_, rfl⟩
  have hsWB : WB.heap.size = w.heap.size + 1 := by rw [hWB]; simp
  have HWB := mkHid hWB
  have HBX : Hid (RowKit.Below w.heap.size w WB) := by rw [hWB]; exact hbx
  have HB1' : Hid (RowKit.Below (w.heap.size + 1) WB (WB.alloc (.cells #[.int .u8 50] 5))) := by rw [hWB]; exact HB1.out
  have HQ4 : Hid (∀ u, RowKit.Below (w.heap.size + 1) WB u → u.cell? ⟨w.heap.size, 3, none⟩ = some (.slice la ln lc)) := fun u hu => by
    rw [hu.cell (p := ⟨w.heap.size, 3, none⟩) (by show w.heap.size < _; omega), hWB]
    simp
  rw [hWB] at HB1'
  clear hWB hbx
  go_enter Try.func23, Try.ntmps23
  go_wp2_with fail
  go_loopw [3, 6] (fun v i wr => ∃ (j : Nat) (E : List UInt8), i = .int .i64 j ∧ j ≤ ln ∧ 50 :: (List.range j).flatMap (fun i => 1 :: (l i).key) = E ∧ wr.ownsRow (w.heap.size + 1) 5 1 v E.length (Lib.byteCells E) ∧ RowKit.Below (w.heap.size + 1) WB wr) (fun _ i _ => ln - (intOf i).toNat)
  case atStart => exact ⟨0, [50], rfl, by omega, rfl, HO1.out, by rw [HWB.out]; exact HB1.out⟩
  case round =>
    obtain ⟨j, E, rfl, hj, hE, hown, hbw⟩ := hrel
    have hbs := hbw.size
    have q4 := HQ4.out wr hbw
    have hEl := HEL.out j hj
    rw [hE] at hEl
    have HLT : Hid (∀ k, Value.ownBlock u3 = some k → w.heap.size + 1 ≤ k) := fun k hk => (hown.lt k hk).1
    have HVLT : Hid (∀ k, Value.ownBlock u3 = some k → k < wr.heap.size) := fun k hk => (hown.lt k hk).2
    by_cases hlt : j < ln
    · obtain ⟨b, o, v', rfl, hLj, hA⟩ := HVL.out j hlt
      have HLj := mkHid hLj
      have hkp := key_posL hLj
      obtain ⟨k', n', s', la', ln', lc', fa', fn', fc', rfl⟩ := hLj.agg
      obtain ⟨c0, c1, c2, c3, c4⟩ := hA.five
      have HQV : Hid (∀ u, RowKit.Below (w.heap.size + 1) WB u → u.cell? ⟨b, o + j * 5, none⟩ = some (.int .i64 k') ∧ u.cell? ⟨b, o + j * 5 + 1, none⟩ = some (.int .i64 n') ∧ u.cell? ⟨b, o + j * 5 + 2, none⟩ = some (.string s') ∧ u.cell? ⟨b, o + j * 5 + 3, none⟩ = some (.slice la' ln' lc') ∧ u.cell? ⟨b, o + j * 5 + 4, none⟩ = some (.slice fa' fn' fc')) := by
        intro u hu
        have h0 : RowKit.Below w.heap.size w u := HBX.out.trans (hu.mono (by omega))
        exact ⟨below_keeps h0 _ _ _ c0, below_keeps h0 _ _ _ c1, below_keeps h0 _ _ _ c2, below_keeps h0 _ _ _ c3, below_keeps h0 _ _ _ c4⟩
      obtain ⟨F, hF⟩ : ∃ F, (l j).key = F := ⟨_, rfl⟩
      have HCI : Hid (∀ u, RowKit.Below (w.heap.size + 1) WB u → Calls Try.prog 23 #[.agg #[.int .i64 k', .int .i64 n', .string s', .slice la' ln' lc', .slice fa' fn' fc']] u fun e w' => BytesSay u F e w') := by
        intro u hu
        rw [← hF]
        exact HI.out j hlt _ _ (HLj.out.below (HBX.out.trans (hu.mono (by omega))))
      have HEQ : Hid (50 :: (List.range (j + 1)).flatMap (fun i => 1 :: (l i).key) = (E ++ [1]) ++ F) := by
        show _ = _
        rw [flat_snoc, ← hE, ← hF]
        simp
      have hEl2 := HEL.out (j + 1) hlt
      rw [HEQ.out] at hEl2
      simp only [List.length_append, List.length_cons, List.length_nil] at hEl2
      have hFp : 0 < F.length := by rw [← hF]; exact hkp
      obtain ⟨E1, hE1⟩ : ∃ E1, E1 = E ++ [1] := ⟨_, rfl⟩
      have HE1 : Hid (E ++ [1] = E1) := hE1.symm
      have hE1l : E1.length ≤ E.length + 1 := by rw [hE1]; simp
      obtain ⟨E2, hE2⟩ : ∃ E2, E2 = E1 ++ F := ⟨_, rfl⟩
      have HE2 : Hid (E1 ++ F = E2) := hE2.symm
      have hE2l : E2.length ≤ E1.length + F.length := by rw [hE2]; simp
      obtain ⟨FN, hFN⟩ : ∃ FN, FN = F.length := ⟨_, rfl⟩
      have HFN := mkHid hFN
      have hSu := hbw
      have hSd : RowKit.Below (w.heap.size + 1) WB wr.drew := hbw.drew
      have hownd := own_drew hown
      clear hE hE1 hE2 hLj hA c0 c1 c2 c3 c4 hF hFN  HEL HI HVL
      go_wp2_with fail
      refine wp_region_held_drew (S := fun u => RowKit.Below (w.heap.size + 1) WB u) (by kernel_rfl) hSd (fun hHeld => ?_)
      refine wpAnyH_take (i := 0) (oi := ⟨some 58, .move (.tmp 3), 29, "ref.go:36", #[], none⟩) (v := u3) rfl (by kernel_rfl) (by kernel_rfl) (by kernel_rfl) (fun _ _ _ h => h) (Or.inl ⟨by rfl, ?_⟩) hHeld ?_
      · intro wq hSq
        have s0 := hSq
        clear hSq hHeld
        go_simp
      (try simp only [Act.put, List.setIfInBounds_toArray, List.set_cons_zero, List.set_cons_succ])
      refine wpAnyH_take (i := 3) (oi := ⟨some 61, .fieldAddr 25 (.tmp 1) 3, 0, "ref.go:36", #[], none⟩) (v := .pointer (some ⟨w.heap.size, 3, none⟩)) rfl (by kernel_rfl) (by kernel_rfl) (by kernel_rfl) (fun _ _ _ h => h) (Or.inl ⟨by rfl, ?_⟩) hHeld ?_
      · intro wq hSq
        have s0 := hSq
        clear hSq hHeld
        go_simp
      (try simp only [Act.put, List.setIfInBounds_toArray, List.set_cons_zero, List.set_cons_succ])
      refine wpAnyH_take (i := 4) (oi := ⟨some 62, .load 22 (.tmp 61), 22, "ref.go:36", #[⟨3, .data⟩], none⟩) (v := .slice (some ⟨b, o, none⟩) ln lc) rfl (by kernel_rfl) (by kernel_rfl) (by kernel_rfl) (fun _ _ _ h => h) (Or.inl ⟨by rfl, ?_⟩) hHeld ?_
      · intro wq hSq
        have s0 := hSq
        clear hSq hHeld
        have q4 := HQ4.out wq s0
        go_simp
      (try simp only [Act.put, List.setIfInBounds_toArray, List.set_cons_zero, List.set_cons_succ])
      refine wpAnyH_take (i := 5) (oi := ⟨some 63, .move (.tmp 6), 3, "ref.go:36", #[], none⟩) (v := .int .i64 (j : Int)) rfl (by kernel_rfl) (by kernel_rfl) (by kernel_rfl) (fun _ _ _ h => h) (Or.inl ⟨by rfl, ?_⟩) hHeld ?_
      · intro wq hSq
        have s0 := hSq
        clear hSq hHeld
        go_simp
      (try simp only [Act.put, List.setIfInBounds_toArray, List.set_cons_zero, List.set_cons_succ])
      refine wpAnyH_take (i := 6) (oi := ⟨some 64, .indexAddr 22 (.tmp 62) (.tmp 63), 0, "ref.go:36", #[⟨4, .data⟩, ⟨5, .data⟩], none⟩) (v := .pointer (some ⟨b, o + j * 5, none⟩)) rfl (by kernel_rfl) (by kernel_rfl) (by kernel_rfl) (fun _ _ _ h => h) (Or.inl ⟨by rfl, ?_⟩) hHeld ?_
      · intro wq hSq
        have s0 := hSq
        clear hSq hHeld
        go_simp
      (try simp only [Act.put, List.setIfInBounds_toArray, List.set_cons_zero, List.set_cons_succ])
      refine wpAnyH_take (i := 7) (oi := ⟨some 65, .load 25 (.tmp 64), 25, "ref.go:36", #[⟨6, .data⟩], none⟩) (v := .agg #[.int .i64 k', .int .i64 n', .string s', .slice la' ln' lc', .slice fa' fn' fc']) rfl (by kernel_rfl) (by kernel_rfl) (by kernel_rfl) (fun _ _ _ h => h) (Or.inl ⟨by rfl, ?_⟩) hHeld ?_
      · intro wq hSq
        have s0 := hSq
        clear hSq hHeld
        have qv := HQV.out wq s0
        obtain ⟨e0, e1, e2, e3, e4⟩ := qv
        go_simp
      (try simp only [Act.put, List.setIfInBounds_toArray, List.set_cons_zero, List.set_cons_succ])
      refine wpAnyH_ready (rs := [1]) (by kernel_rfl) (by simp) ?_
      refine AllReadyH.cons (o := ⟨some 59, .buildSlice 29 1 #[(0, .const (.int .u8 1))], 29, "ref.go:36", #[], none⟩) rfl (fun Kr1 hKr1 => ?_) AllReadyH.nil
      obtain ⟨w1, hw1⟩ : ∃ w1, w1 = (World.alloc wr (.cells #[.int .u8 1] 5)).drew := ⟨_, rfl⟩
      have hS_w1 : RowKit.Below (w.heap.size + 1) WB w1 := by rw [hw1]; exact (hSu.alloc (by have := hSu.size; omega) _).drew
      obtain ⟨gs, hgse⟩ : ∃ gs, gs = (World.heap wr).size := ⟨_, rfl⟩
      have y1 : Byts w1 (some ⟨gs, 0, none⟩) [1] := by rw [hw1, hgse]; exact byts_new wr [1] #[.int .u8 1] rfl
      have o1 : World.ownsRow w1 (w.heap.size + 1) 5 1 u3 E.length (Lib.byteCells E) := by rw [hw1]; exact (World.ownsRow.alloc hown _)
      have hsz_w1 : wr.heap.size ≤ w1.heap.size := by rw [hw1]; simp
      have HNM := mkHid hw1
      have HGE := mkHid hgse
      have hS1 := hS_w1
      clear hHeld hw1 hgse
      go_simp
      rw [← HNM.out, ← HGE.out]
      refine hKr1.out _ _ ?_ (fun hHeld => ?_)
      · exact hS1
      clear hKr1 Kr1 hS1 HNM HGE
      (try simp only [Act.put, List.setIfInBounds_toArray, List.set_cons_zero, List.set_cons_succ])
      refine wpAnyH_ready (rs := [2]) (by kernel_rfl) (by simp) ?_
      refine AllReadyH.cons (o := ⟨some 60, .call ⟨.builtin .append, #[.tmp 58, .tmp 59], #[29, 29]⟩, 29, "ref.go:36", #[⟨0, .data⟩, ⟨1, .data⟩], none⟩) rfl (fun Kr2 hKr2 => ?_) AllReadyH.nil
      refine step_bytes rfl (.tmp 58) (.tmp 59) rfl (w.heap.size + 1) u3 E rfl o1 (by have := hS_w1.size; omega) ⟨gs, 0, none⟩ [1] 1 1 rfl rfl y1 E1 HE1.out (by omega) ?_
      intro v2 w2 o2 g2
      have hS_w2 : RowKit.Below (w.heap.size + 1) WB w2 := hS_w1.grown g2 (by have := hS_w1.size; omega) (fun k hk => HLT.out k hk)
      have hsz_w2 : wr.heap.size ≤ w2.heap.size := Nat.le_trans hsz_w1 g2.size
      have hS2 := hS_w2
      clear hHeld g2
      refine hKr2.out _ _ ?_ (fun hHeld => ?_)
      · exact hS2
      clear hKr2 Kr2 hS2
      (try simp only [Act.put, List.setIfInBounds_toArray, List.set_cons_zero, List.set_cons_succ])
      refine wpAnyH_ready (rs := [8]) (by kernel_rfl) (by simp) ?_
      refine AllReadyH.cons (o := ⟨some 66, .call ⟨.value (.func 23), #[.tmp 65], #[25]⟩, 29, "ref.go:36", #[⟨7, .data⟩, ⟨2, .chain⟩], none⟩) rfl (fun Kr8 hKr8 => ?_) AllReadyH.nil
      go_simp
      go_at_call 23
      refine (HCI.out _ hS_w2).mono ?_
      rintro e w8 ⟨v8, rfl, hv8, hb8⟩
      obtain ⟨ad8, c8, rfl, y8, _, _⟩ := own_bytsL hv8 rfl
      have bb8 : ∀ x, ad8 = some x → (World.heap w2).size ≤ x.block ∧ x.block < w8.heap.size := fun x hx => by have := own_blk hv8 (k := x.block) (by rw [hx]; rfl); exact ⟨this.2, this.1⟩
      have l8 : ∀ x, ad8 = some x → x.block < w8.heap.size := fun x hx => (bb8 x hx).2
      have hszu : wr.heap.size ≤ (World.heap w2).size := hsz_w2
      have b8 : ∀ x, ad8 = some x → wr.heap.size ≤ x.block := fun x hx => Nat.le_trans hszu (bb8 x hx).1
      have hS_w8 : RowKit.Below (w.heap.size + 1) WB w8 := hS_w2.trans (hb8.mono (by have := hSd.size; simp at this; omega))
      have o82 := own_below o2 hb8
      rw [← HFN.out]
      have hS8 := hS_w8
      clear hHeld hv8
      go_wp2_with fail
      refine hKr8.out _ _ ?_ (fun hHeld => ?_)
      · exact hS8
      clear hKr8 Kr8 hS8
      (try simp only [Act.put, List.setIfInBounds_toArray, List.set_cons_zero, List.set_cons_succ])
      refine wpAnyH_ready (rs := [9]) (by kernel_rfl) (by simp) ?_
      refine AllReadyH.cons (o := ⟨some 67, .call ⟨.builtin .append, #[.tmp 60, .tmp 66], #[29, 29]⟩, 29, "ref.go:36", #[⟨2, .data⟩, ⟨8, .data⟩, ⟨8, .chain⟩], none⟩) rfl (fun Kr9 hKr9 => ?_) AllReadyH.nil
      obtain ⟨x8, rfl⟩ : ∃ x, ad8 = some x := byts_addr y8 hFp
      refine step_bytes rfl (.tmp 60) (.tmp 66) rfl (w.heap.size + 1) v2 E1 rfl o82 (by have := hS_w8.size; omega) x8 F FN c8 HFN.out rfl y8 E2 HE2.out (by omega) ?_
      intro v9 w9 o9 g9
      have hS_w9 : RowKit.Below (w.heap.size + 1) WB w9 := hS_w8.grown g9 (by have := hS_w8.size; omega) (fun k hk => (o82.lt k hk).1)
      have hS9 := hS_w9
      clear hHeld g9
      refine hKr9.out _ _ ?_ (fun hHeld => ?_)
      · exact hS9
      clear hKr9 Kr9 hS9
      (try simp only [Act.put, List.setIfInBounds_toArray, List.set_cons_zero, List.set_cons_succ])
      refine wpAnyH_take (i := 10) (oi := ⟨some 3, .assign (.tmp 67), 29, "ref.go:36", #[⟨9, .data⟩, ⟨9, .chain⟩, ⟨0, .phase⟩, ⟨1, .phase⟩, ⟨2, .phase⟩, ⟨3, .phase⟩, ⟨4, .phase⟩, ⟨5, .phase⟩, ⟨6, .phase⟩, ⟨7, .phase⟩, ⟨8, .phase⟩, ⟨9, .phase⟩], none⟩) (v := v9) rfl (by kernel_rfl) (by kernel_rfl) (by kernel_rfl) (fun _ _ _ h => h) (Or.inl ⟨by rfl, ?_⟩) hHeld ?_
      · intro wq hSq
        have s0 := hSq
        clear hSq hHeld
        go_simp
      (try simp only [Act.put, List.setIfInBounds_toArray, List.set_cons_zero, List.set_cons_succ])
      refine wpAnyH_done (by kernel_rfl) ?_ _
      clear hHeld
      have HO9 := mkHid o9
      have HB9 := mkHid hS_w9
      clear o9 hS_w9
      go_wp2_with fail
      go_roundw
      case rel => exact ⟨j + 1, E2, by go_num, by omega, by rw [HEQ.out, HE1.out, HE2.out], HO9.out, HB9.out⟩
      case measure => simp [intOf]; omega
    · obtain rfl : j = ln := by omega
      have HO := mkHid (hown.alloc (.cells #[.int .u8 0] 5))
      have HY := mkHid (byts_new wr [0] #[.int .u8 0] rfl)
      have HBA := mkHid (hbw.alloc (by omega) (.cells #[.int .u8 0] 5))
      have HEE := mkHid hE
      obtain ⟨E1, hE1⟩ : ∃ E1, E1 = E ++ [0] := ⟨_, rfl⟩
      have HE1 := mkHid hE1
      have hE1l : E1.length ≤ E.length + 1 := by rw [hE1]; simp
      clear hown hE hbw hE1
      go_wp2_with (at_builtin; refine wpList_bytesL rfl _ _ rfl (w.heap.size + 1) _ E rfl HO.out ?e2 (some ⟨wr.heap.size, 0, none⟩) [0] 1 1 rfl rfl HY.out (fun h => by cases h) E1 HE1.out.symm ?e5 ?_)
      case e2 => first | omega | (simp; omega)
      case e5 => omega
      intro v1 w1 o1 g1
      have HO3 := mkHid o1
      have HB3 := mkHid (HBA.out.grown g1 (by simp; omega) (fun k hk => HLT.out k hk))
      clear o1 g1
      go_wp2_with fail
      go_ret
      refine ⟨_, rfl, ?_, HBX.out.trans (HB3.out.mono (by omega))⟩
      have h := own_base HO3.out (base := w.heap.size) (by omega)
      rw [← List.cons_append, HEE.out, ← HE1.out]
      exact h
set_option maxHeartbeats 8000000 in
set_option maxRecDepth 1000000 in
theorem rof_k6 (n : Int) (s : ByteArray) (ln : Nat) (l : Nat → GV) (fn : Nat) (nm : Nat → ByteArray) (f : Nat → GV) (la fa : Option Addr) (lc fc : Nat) (w : World) (h6 : fn ≤ fc) (h7 : fc ≤ maxLen) (hV : Flds w fa fn nm f) (hB : (GV.mk 6 n s ln l fn nm f).key.length ≤ 1000000000)
    (hI : ∀ i, i < fn → ∀ v w, Lies w (f i) v → Calls Try.prog 23 #[v] w fun e w' => BytesSay w (f i).key e w') : Calls Try.prog 23 #[.agg #[.int .i64 6, .int .i64 n, .string s, .slice la ln lc, .slice fa fn fc]] w fun e w' => BytesSay w (GV.mk 6 n s ln l fn nm f).key e w' := by
  obtain ⟨i0, hi, hz0, hz1, hz2⟩ := info_parts infoU8
  have hml : maxLen = 9223372036854775807 := rfl
  have hbx : RowKit.Below w.heap.size w (w.alloc (.cells #[.int .i64 6, .int .i64 n, .string s, .slice la ln lc, .slice fa fn fc] 25)) := (RowKit.Below.refl w.heap.size w).alloc (Nat.le_refl _) _
  have HB1 : Hid (RowKit.Below (w.heap.size + 1) (w.alloc (.cells #[.int .i64 6, .int .i64 n, .string s, .slice la ln lc, .slice fa fn fc] 25)) ((w.alloc (.cells #[.int .i64 6, .int .i64 n, .string s, .slice la ln lc, .slice fa fn fc] 25)).alloc (.cells #[.int .u8 60] 5))) := (RowKit.Below.refl _ _).alloc (by simp) _
  have HO1 : Hid (((w.alloc (.cells #[.int .i64 6, .int .i64 n, .string s, .slice la ln lc, .slice fa fn fc] 25)).alloc (.cells #[.int .u8 60] 5)).ownsRow (w.heap.size + 1) 5 1 (.slice (some ⟨w.heap.size + 1, 0, none⟩) 1 1) ([60] : List UInt8).length (Lib.byteCells [60])) := by
    have := World.ownsRow_lit (base := w.heap.size + 1) (e := 5) (size := 1) (w.alloc (.cells #[.int .i64 6, .int .i64 n, .string s, .slice la ln lc, .slice fa fn fc] 25)) #[.int .u8 60] 1 (by simp) (by decide) rfl
    show World.ownsRow _ _ _ _ _ _ _
    simpa [Lib.byteCells] using this
  have HVL : Hid (Flds w fa fn nm f) := hV
  have HI := mkHid hI
  rw [key_k6] at hB ⊢
  have HEL : Hid (∀ j, j ≤ fn → (60 :: (List.range j).flatMap (fun i => 1 :: (lettersK (nm i).data.toList ++ (f i).key))).length + 1 ≤ 1000000000) := by
    intro j hj
    have := flat_len (c := fun i => 1 :: (lettersK (nm i).data.toList ++ (f i).key)) hj
    simp only [List.length_cons, List.length_append, List.length_nil] at hB ⊢
    omega
  clear hV hI hB
  obtain ⟨WB, hWB⟩ : ∃ WB, WB = (w.alloc (.cells #[.int .i64 6, .int .i64 n, .string s, .slice la ln lc, .slice fa fn fc] 25)) := ⟨_, rfl⟩
  have hsWB : WB.heap.size = w.heap.size + 1 := by rw [hWB]; simp
  have HWB := mkHid hWB
  have HBX : Hid (RowKit.Below w.heap.size w WB) := by rw [hWB]; exact hbx
  have HB1' : Hid (RowKit.Below (w.heap.size + 1) WB (WB.alloc (.cells #[.int .u8 60] 5))) := by rw [hWB]; exact HB1.out
  have HQ4 : Hid (∀ u, RowKit.Below (w.heap.size + 1) WB u → u.cell? ⟨w.heap.size, 4, none⟩ = some (.slice fa fn fc)) := fun u hu => by
    rw [hu.cell (p := ⟨w.heap.size, 4, none⟩) (by show w.heap.size < _; omega), hWB]
    simp
  rw [hWB] at HB1'
  clear hWB hbx
  go_enter Try.func23, Try.ntmps23
  go_wp2_with fail
  go_loopw [3, 7] (fun v i wr => ∃ (j : Nat) (E : List UInt8), i = .int .i64 j ∧ j ≤ fn ∧ 60 :: (List.range j).flatMap (fun i => 1 :: (lettersK (nm i).data.toList ++ (f i).key)) = E ∧ wr.ownsRow (w.heap.size + 1) 5 1 v E.length (Lib.byteCells E) ∧ RowKit.Below (w.heap.size + 1) WB wr) (fun _ i _ => fn - (intOf i).toNat)
  case atStart => exact ⟨0, [60], rfl, by omega, rfl, HO1.out, by rw [HWB.out]; exact HB1.out⟩
  case round =>
    obtain ⟨j, E, rfl, hj, hE, hown, hbw⟩ := hrel
    have hbs := hbw.size
    have q4 := HQ4.out wr hbw
    have hEl := HEL.out j hj
    rw [hE] at hEl
    have HLT : Hid (∀ k, Value.ownBlock u3 = some k → w.heap.size + 1 ≤ k) := fun k hk => (hown.lt k hk).1
    have HVLT : Hid (∀ k, Value.ownBlock u3 = some k → k < wr.heap.size) := fun k hk => (hown.lt k hk).2
    by_cases hlt : j < fn
    · obtain ⟨b, o, v', rfl, hnm, cn, hLj, hA⟩ := HVL.out j hlt
      have HLj := mkHid hLj
      have hkp := key_posL hLj
      obtain ⟨k', n', s', la', ln', lc', fa', fn', fc', rfl⟩ := hLj.agg
      obtain ⟨c0, c1, c2, c3, c4⟩ := hA.five
      have HQV : Hid (∀ u, RowKit.Below (w.heap.size + 1) WB u → u.cell? ⟨b, o + j * 6, none⟩ = some (.string (nm j))) := by
        intro u hu
        exact below_keeps (HBX.out.trans (hu.mono (by omega))) _ _ _ cn
      have HQ5 : Hid (∀ u, RowKit.Below (w.heap.size + 1) WB u → u.cell? ⟨b, o + j * 6 + 1, none⟩ = some (.int .i64 k') ∧ u.cell? ⟨b, o + j * 6 + 1 + 1, none⟩ = some (.int .i64 n') ∧ u.cell? ⟨b, o + j * 6 + 1 + 2, none⟩ = some (.string s') ∧ u.cell? ⟨b, o + j * 6 + 1 + 3, none⟩ = some (.slice la' ln' lc') ∧ u.cell? ⟨b, o + j * 6 + 1 + 4, none⟩ = some (.slice fa' fn' fc')) := by
        intro u hu
        have h0 : RowKit.Below w.heap.size w u := HBX.out.trans (hu.mono (by omega))
        exact ⟨below_keeps h0 _ _ _ c0, below_keeps h0 _ _ _ c1, below_keeps h0 _ _ _ c2, below_keeps h0 _ _ _ c3, below_keeps h0 _ _ _ c4⟩
      obtain ⟨G, hG⟩ : ∃ G, (f j).key = G := ⟨_, rfl⟩
      obtain ⟨F, hF⟩ : ∃ F, lettersK (nm j).data.toList = F := ⟨_, rfl⟩
      have HEQ : Hid (60 :: (List.range (j + 1)).flatMap (fun i => 1 :: (lettersK (nm i).data.toList ++ (f i).key)) = ((E ++ [1]) ++ F) ++ G) := by
        show _ = _
        rw [flat_snoc, ← hE, ← hF, ← hG]
        simp
      have hEl2 := HEL.out (j + 1) hlt
      rw [HEQ.out] at hEl2
      simp only [List.length_append, List.length_cons, List.length_nil] at hEl2
      have hFp : 0 < F.length := by rw [← hF]; have := lettersK_ge (nm j).data.toList; omega
      have hns : (nm j).size ≤ 1000000000000 := by have := lettersK_ge (nm j).data.toList; rw [hF] at this; have h2 : (nm j).data.toList.length = (nm j).size := by simp
                                                   omega
      have HCI : Hid (∀ u, RowKit.Below (w.heap.size + 1) WB u → Calls Try.prog 42 #[.string (nm j)] u fun e w' => BytesSay u F e w') := by
        intro u hu
        rw [← hF]
        exact rtext5_any _ u hns
      have HC2 : Hid (∀ u, RowKit.Below (w.heap.size + 1) WB u → Calls Try.prog 23 #[.agg #[.int .i64 k', .int .i64 n', .string s', .slice la' ln' lc', .slice fa' fn' fc']] u fun e w' => BytesSay u G e w') := by
        intro u hu
        rw [← hG]
        exact HI.out j hlt _ _ (HLj.out.below (HBX.out.trans (hu.mono (by omega))))
      have hGp : 0 < G.length := by rw [← hG]; exact hkp
      obtain ⟨x, hx⟩ : ∃ x, x = nm j := ⟨_, rfl⟩
      rw [← hx] at HQV HCI
      obtain ⟨E1, hE1⟩ : ∃ E1, E1 = E ++ [1] := ⟨_, rfl⟩
      have HE1 : Hid (E ++ [1] = E1) := hE1.symm
      have hE1l : E1.length ≤ E.length + 1 := by rw [hE1]; simp
      obtain ⟨E2, hE2⟩ : ∃ E2, E2 = E1 ++ F := ⟨_, rfl⟩
      have HE2 : Hid (E1 ++ F = E2) := hE2.symm
      have hE2l : E2.length ≤ E1.length + F.length := by rw [hE2]; simp
      obtain ⟨FN, hFN⟩ : ∃ FN, FN = F.length := ⟨_, rfl⟩
      have HFN := mkHid hFN
      have hSu := hbw
      have hSd : RowKit.Below (w.heap.size + 1) WB wr.drew := hbw.drew
      have hownd := own_drew hown
      clear hE hE1 hE2 hLj hA c0 c1 c2 c3 c4 hF hFN cn hx hG hns HEL HI HVL
      go_wp2_with fail
      refine wp_region_held_drew (S := fun u => RowKit.Below (w.heap.size + 1) WB u) (by kernel_rfl) hSd (fun hHeld => ?_)
      refine wpAnyH_take (i := 0) (oi := ⟨some 80, .move (.tmp 3), 29, "ref.go:41", #[], none⟩) (v := u3) rfl (by kernel_rfl) (by kernel_rfl) (by kernel_rfl) (fun _ _ _ h => h) (Or.inl ⟨by rfl, ?_⟩) hHeld ?_
      · intro wq hSq
        have s0 := hSq
        clear hSq hHeld
        go_simp
      (try simp only [Act.put, List.setIfInBounds_toArray, List.set_cons_zero, List.set_cons_succ])
      refine wpAnyH_take (i := 3) (oi := ⟨some 83, .fieldAddr 25 (.tmp 1) 4, 0, "ref.go:41", #[], none⟩) (v := .pointer (some ⟨w.heap.size, 4, none⟩)) rfl (by kernel_rfl) (by kernel_rfl) (by kernel_rfl) (fun _ _ _ h => h) (Or.inl ⟨by rfl, ?_⟩) hHeld ?_
      · intro wq hSq
        have s0 := hSq
        clear hSq hHeld
        go_simp
      (try simp only [Act.put, List.setIfInBounds_toArray, List.set_cons_zero, List.set_cons_succ])
      refine wpAnyH_take (i := 4) (oi := ⟨some 84, .load 23 (.tmp 83), 23, "ref.go:41", #[⟨3, .data⟩], none⟩) (v := .slice (some ⟨b, o, none⟩) fn fc) rfl (by kernel_rfl) (by kernel_rfl) (by kernel_rfl) (fun _ _ _ h => h) (Or.inl ⟨by rfl, ?_⟩) hHeld ?_
      · intro wq hSq
        have s0 := hSq
        clear hSq hHeld
        have q4 := HQ4.out wq s0
        go_simp
      (try simp only [Act.put, List.setIfInBounds_toArray, List.set_cons_zero, List.set_cons_succ])
      refine wpAnyH_take (i := 5) (oi := ⟨some 85, .move (.tmp 7), 3, "ref.go:41", #[], none⟩) (v := .int .i64 (j : Int)) rfl (by kernel_rfl) (by kernel_rfl) (by kernel_rfl) (fun _ _ _ h => h) (Or.inl ⟨by rfl, ?_⟩) hHeld ?_
      · intro wq hSq
        have s0 := hSq
        clear hSq hHeld
        go_simp
      (try simp only [Act.put, List.setIfInBounds_toArray, List.set_cons_zero, List.set_cons_succ])
      refine wpAnyH_take (i := 6) (oi := ⟨some 86, .indexAddr 23 (.tmp 84) (.tmp 85), 0, "ref.go:41", #[⟨4, .data⟩, ⟨5, .data⟩], none⟩) (v := .pointer (some ⟨b, o + j * 6, none⟩)) rfl (by kernel_rfl) (by kernel_rfl) (by kernel_rfl) (fun _ _ _ h => h) (Or.inl ⟨by rfl, ?_⟩) hHeld ?_
      · intro wq hSq
        have s0 := hSq
        clear hSq hHeld
        go_simp
      (try simp only [Act.put, List.setIfInBounds_toArray, List.set_cons_zero, List.set_cons_succ])
      refine wpAnyH_take (i := 7) (oi := ⟨some 87, .fieldAddr 64 (.tmp 86) 0, 0, "ref.go:41", #[⟨6, .data⟩], none⟩) (v := .pointer (some ⟨b, o + j * 6, none⟩)) rfl (by kernel_rfl) (by kernel_rfl) (by kernel_rfl) (fun _ _ _ h => h) (Or.inl ⟨by rfl, ?_⟩) hHeld ?_
      · intro wq hSq
        have s0 := hSq
        clear hSq hHeld
        go_simp
      (try simp only [Act.put, List.setIfInBounds_toArray, List.set_cons_zero, List.set_cons_succ])
      refine wpAnyH_take (i := 8) (oi := ⟨some 88, .load 9 (.tmp 87), 9, "ref.go:41", #[⟨7, .data⟩], none⟩) (v := .string x) rfl (by kernel_rfl) (by kernel_rfl) (by kernel_rfl) (fun _ _ _ h => h) (Or.inl ⟨by rfl, ?_⟩) hHeld ?_
      · intro wq hSq
        have s0 := hSq
        clear hSq hHeld
        have qv := HQV.out wq s0
        go_simp
      (try simp only [Act.put, List.setIfInBounds_toArray, List.set_cons_zero, List.set_cons_succ])
      refine wpAnyH_ready (rs := [1]) (by kernel_rfl) (by simp) ?_
      refine AllReadyH.cons (o := ⟨some 81, .buildSlice 29 1 #[(0, .const (.int .u8 1))], 29, "ref.go:41", #[], none⟩) rfl (fun Kr1 hKr1 => ?_) AllReadyH.nil
      obtain ⟨w1, hw1⟩ : ∃ w1, w1 = (World.alloc wr (.cells #[.int .u8 1] 5)).drew := ⟨_, rfl⟩
      have hS_w1 : RowKit.Below (w.heap.size + 1) WB w1 := by rw [hw1]; exact (hSu.alloc (by have := hSu.size; omega) _).drew
      obtain ⟨gs, hgse⟩ : ∃ gs, gs = (World.heap wr).size := ⟨_, rfl⟩
      have y1 : Byts w1 (some ⟨gs, 0, none⟩) [1] := by rw [hw1, hgse]; exact byts_new wr [1] #[.int .u8 1] rfl
      have o1 : World.ownsRow w1 (w.heap.size + 1) 5 1 u3 E.length (Lib.byteCells E) := by rw [hw1]; exact (World.ownsRow.alloc hown _)
      have hsz_w1 : wr.heap.size ≤ w1.heap.size := by rw [hw1]; simp
      have HNM := mkHid hw1
      have HGE := mkHid hgse
      have hS1 := hS_w1
      clear hHeld hw1 hgse
      go_simp
      rw [← HNM.out, ← HGE.out]
      refine hKr1.out _ _ ?_ (fun hHeld => ?_)
      · exact hS1
      clear hKr1 Kr1 hS1 HNM HGE
      (try simp only [Act.put, List.setIfInBounds_toArray, List.set_cons_zero, List.set_cons_succ])
      refine wpAnyH_ready (rs := [2]) (by kernel_rfl) (by simp) ?_
      refine AllReadyH.cons (o := ⟨some 82, .call ⟨.builtin .append, #[.tmp 80, .tmp 81], #[29, 29]⟩, 29, "ref.go:41", #[⟨0, .data⟩, ⟨1, .data⟩], none⟩) rfl (fun Kr2 hKr2 => ?_) AllReadyH.nil
      refine step_bytes rfl (.tmp 80) (.tmp 81) rfl (w.heap.size + 1) u3 E rfl o1 (by have := hS_w1.size; omega) ⟨gs, 0, none⟩ [1] 1 1 rfl rfl y1 E1 HE1.out (by omega) ?_
      intro v2 w2 o2 g2
      have hS_w2 : RowKit.Below (w.heap.size + 1) WB w2 := hS_w1.grown g2 (by have := hS_w1.size; omega) (fun k hk => HLT.out k hk)
      have hsz_w2 : wr.heap.size ≤ w2.heap.size := Nat.le_trans hsz_w1 g2.size
      have hS2 := hS_w2
      clear hHeld g2
      refine hKr2.out _ _ ?_ (fun hHeld => ?_)
      · exact hS2
      clear hKr2 Kr2 hS2
      (try simp only [Act.put, List.setIfInBounds_toArray, List.set_cons_zero, List.set_cons_succ])
      refine wpAnyH_ready (rs := [9]) (by kernel_rfl) (by simp) ?_
      refine AllReadyH.cons (o := ⟨some 89, .call ⟨.value (.func 42), #[.tmp 88], #[9]⟩, 29, "ref.go:41", #[⟨8, .data⟩, ⟨2, .chain⟩], none⟩) rfl (fun Kr9 hKr9 => ?_) AllReadyH.nil
      go_simp
      go_at_call 42
      refine (HCI.out _ hS_w2).mono ?_
      rintro e w8 ⟨v8, rfl, hv8, hb8⟩
      obtain ⟨ad8, c8, rfl, y8, _, _⟩ := own_bytsL hv8 rfl
      have bb8 : ∀ x, ad8 = some x → (World.heap w2).size ≤ x.block ∧ x.block < w8.heap.size := fun x hx => by have := own_blk hv8 (k := x.block) (by rw [hx]; rfl); exact ⟨this.2, this.1⟩
      have l8 : ∀ x, ad8 = some x → x.block < w8.heap.size := fun x hx => (bb8 x hx).2
      have hszu : wr.heap.size ≤ (World.heap w2).size := hsz_w2
      have b8 : ∀ x, ad8 = some x → wr.heap.size ≤ x.block := fun x hx => Nat.le_trans hszu (bb8 x hx).1
      have hS_w8 : RowKit.Below (w.heap.size + 1) WB w8 := hS_w2.trans (hb8.mono (by have := hSd.size; simp at this; omega))
      have o82 := own_below o2 hb8
      rw [← HFN.out]
      have hS9 := hS_w8
      clear hHeld hv8
      go_wp2_with fail
      refine hKr9.out _ _ ?_ (fun hHeld => ?_)
      · exact hS9
      clear hKr9 Kr9 hS9
      (try simp only [Act.put, List.setIfInBounds_toArray, List.set_cons_zero, List.set_cons_succ])
      refine wpAnyH_ready (rs := [10]) (by kernel_rfl) (by simp) ?_
      refine AllReadyH.cons (o := ⟨some 90, .call ⟨.builtin .append, #[.tmp 82, .tmp 89], #[29, 29]⟩, 29, "ref.go:41", #[⟨2, .data⟩, ⟨9, .data⟩, ⟨9, .chain⟩], none⟩) rfl (fun Kr10 hKr10 => ?_) AllReadyH.nil
      obtain ⟨x8, rfl⟩ : ∃ x, ad8 = some x := byts_addr y8 hFp
      refine step_bytes rfl (.tmp 82) (.tmp 89) rfl (w.heap.size + 1) v2 E1 rfl o82 (by have := hS_w8.size; omega) x8 F FN c8 HFN.out rfl y8 E2 HE2.out (by omega) ?_
      intro v9 w9 o9 g9
      have hS_w9 : RowKit.Below (w.heap.size + 1) WB w9 := hS_w8.grown g9 (by have := hS_w8.size; omega) (fun k hk => (o82.lt k hk).1)
      have hS10 := hS_w9
      clear hHeld g9
      refine hKr10.out _ _ ?_ (fun hHeld => ?_)
      · exact hS10
      clear hKr10 Kr10 hS10
      (try simp only [Act.put, List.setIfInBounds_toArray, List.set_cons_zero, List.set_cons_succ])
      refine wpAnyH_take (i := 11) (oi := ⟨some 3, .assign (.tmp 90), 29, "ref.go:41", #[⟨10, .data⟩, ⟨10, .chain⟩, ⟨0, .phase⟩, ⟨1, .phase⟩, ⟨2, .phase⟩, ⟨3, .phase⟩, ⟨4, .phase⟩, ⟨5, .phase⟩, ⟨6, .phase⟩, ⟨7, .phase⟩, ⟨8, .phase⟩, ⟨9, .phase⟩, ⟨10, .phase⟩], none⟩) (v := v9) rfl (by kernel_rfl) (by kernel_rfl) (by kernel_rfl) (fun _ _ _ h => h) (Or.inl ⟨by rfl, ?_⟩) hHeld ?_
      · intro wq hSq
        have s0 := hSq
        clear hSq hHeld
        go_simp
      (try simp only [Act.put, List.setIfInBounds_toArray, List.set_cons_zero, List.set_cons_succ])
      refine wpAnyH_done (by kernel_rfl) ?_ _
      clear hHeld
      obtain ⟨E3, hE3⟩ : ∃ E3, E3 = E2 ++ G := ⟨_, rfl⟩
      have HE3 := mkHid hE3
      have hE3l : E3.length ≤ E2.length + G.length := by rw [hE3]; simp
      have q49 := HQ4.out _ hS_w9
      obtain ⟨e0, e1, e2, e3, e4⟩ := HQ5.out _ hS_w9
      have hs9 := hS_w9.size
      have HB9 := mkHid hS_w9
      have HLT9 : Hid (∀ k, Value.ownBlock v9 = some k → w.heap.size + 1 ≤ k) := fun k hk => (o9.lt k hk).1
      have hCC := mkHid (HC2.out _ hS_w9)
      clear hS_w9 hE3
      go_wp2_with fail
      refine hCC.out.mono ?_
      rintro e w10 ⟨v10, rfl, hv10, hb10⟩
      obtain ⟨ad10, c10, rfl, y10, _, _⟩ := own_bytsL hv10 rfl
      obtain ⟨x10, rfl⟩ := byts_addr y10 hGp
      obtain ⟨GN, hGN⟩ : ∃ GN, GN = G.length := ⟨_, rfl⟩
      have HGN := mkHid hGN
      rw [← hGN]
      rw [← hGN] at hE3l hEl2
      have hb10s := hb10.size
      have HO10 := mkHid (own_below o9 hb10)
      have HB10 := mkHid (HB9.out.trans (hb10.mono (by omega)))
      have HY10 := mkHid y10
      clear hv10 hb10 y10 o9 hGN e0 e1 e2 e3 e4 q49
      go_wp2_with (at_builtin; refine wpList_bytesL rfl _ _ rfl (w.heap.size + 1) _ E2 rfl HO10.out ?f2 (some x10) G GN c10 HGN.out rfl HY10.out (fun h => by cases h) E3 HE3.out.symm ?f5 ?_)
      case f2 => omega
      case f5 => omega
      intro v11 w11 o11 g11
      have HO11 := mkHid o11
      have HB11 := mkHid (HB10.out.grown g11 (by omega) (fun k hk => HLT9.out k hk))
      clear o11 g11
      go_wp2_with fail
      go_roundw
      case rel => exact ⟨j + 1, E3, by go_num, by omega, by rw [HEQ.out, HE1.out, HE2.out, HE3.out], HO11.out, HB11.out⟩
      case measure => simp [intOf]; omega
    · obtain rfl : j = fn := by omega
      have HO := mkHid (hown.alloc (.cells #[.int .u8 0] 5))
      have HY := mkHid (byts_new wr [0] #[.int .u8 0] rfl)
      have HBA := mkHid (hbw.alloc (by omega) (.cells #[.int .u8 0] 5))
      have HEE := mkHid hE
      obtain ⟨E1, hE1⟩ : ∃ E1, E1 = E ++ [0] := ⟨_, rfl⟩
      have HE1 := mkHid hE1
      have hE1l : E1.length ≤ E.length + 1 := by rw [hE1]; simp
      clear hown hE hbw hE1
      go_wp2_with (at_builtin; refine wpList_bytesL rfl _ _ rfl (w.heap.size + 1) _ E rfl HO.out ?e2 (some ⟨wr.heap.size, 0, none⟩) [0] 1 1 rfl rfl HY.out (fun h => by cases h) E1 HE1.out.symm ?e5 ?_)
      case e2 => first | omega | (simp; omega)
      case e5 => omega
      intro v1 w1 o1 g1
      have HO3 := mkHid o1
      have HB3 := mkHid (HBA.out.grown g1 (by simp; omega) (fun k hk => HLT.out k hk))
      clear o1 g1
      go_wp2_with fail
      go_ret
      refine ⟨_, rfl, ?_, HBX.out.trans (HB3.out.mono (by omega))⟩
      have h := own_base HO3.out (base := w.heap.size) (by omega)
      rw [← List.cons_append, HEE.out, ← HE1.out]
      exact h

/-- The document's own key of any formed value. -/
theorem rof_any : ∀ (g : GV) (v : Value) (w : World), Lies w g v → g.every GV.formed = true → g.key.length ≤ 1000000000 → Calls Try.prog 23 #[v] w fun e w' => BytesSay w g.key e w' := by
  intro g
  induction g with
  | nil => intro v w hL; exact False.elim hL
  | mk k n s ln l fn nm f ihl ihf =>
    intro v w hL hF hK
    obtain ⟨la, lc, fa, fc, rfl, hk, hn, hs, h4, h5, h6, h7, hl, hf⟩ := hL
    have hft := every_top hF
    rcases kind_of hft with rfl | rfl | rfl | rfl | rfl | rfl
    · exact rof_k1 n s ln l fn nm f la fa lc fc w
    · have : n = 0 ∨ n = 1 := by
        simp [GV.formed] at hft
        exact hft.1.1.1
      rcases this with rfl | rfl
      · exact rof_k2_0 s ln l fn nm f la fa lc fc w
      · exact rof_k2_1 s ln l fn nm f la fa lc fc w
    · exact rof_k3 n s ln l fn nm f la fa lc fc w hn
    · refine rof_k4 n s ln l fn nm f la fa lc fc w ?_
      rw [key_k4] at hK
      have := lettersK_ge s.data.toList
      have h2 : s.data.toList.length = s.size := by simp
      simp only [List.length_cons] at hK
      omega
    · refine rof_k5 n s ln l fn nm f la fa lc fc w h4 h5 hl hK (fun i hi v w hv => ihl i v w hv (every_l hF i hi) ?_)
      rw [key_k5] at hK
      have h1 := flat_len (c := fun i => 1 :: (l i).key) (show i + 1 ≤ ln by omega)
      rw [flat_snoc] at h1
      simp only [List.length_cons, List.length_append, List.length_nil] at h1 hK
      omega
    · refine rof_k6 n s ln l fn nm f la fa lc fc w h6 h7 hf hK (fun i hi v w hv => ihf i v w hv (every_f hF i hi) ?_)
      rw [key_k6] at hK
      have h1 := flat_len (c := fun i => 1 :: (lettersK (nm i).data.toList ++ (f i).key)) (show i + 1 ≤ fn by omega)
      rw [flat_snoc] at h1
      simp only [List.length_cons, List.length_append, List.length_nil] at h1 hK
      omega
end Go.Proofs.Yticbcoklpgfkhaa

/- The document's own untext (tidemarkref5): a text, or a name, out of a key. -/
namespace Go.Proofs.Yticbcoklpgfkhaa
open Go.RowKit

/-- What untext tells. -/
def RUnSay (l : List UInt8) (p : Nat) (w : World) (e : Ending) (w' : World) : Prop :=
  RowKit.Below w.heap.size w w' ∧ ((∃ s rest, lettersR (l.drop p) = some (s, rest) ∧ e = .returned (.tuple #[.string ⟨s.toArray⟩, .int .i64 ((l.length - rest.length : Nat) : Int), .bool true])) ∨ (lettersR (l.drop p) = none ∧ ∃ (s : ByteArray) (q : Int), e = .returned (.tuple #[.string s, .int .i64 q, .bool false])))
theorem drop_two {l : List UInt8} {q : Nat} (h : q + 1 < l.length) : ∃ x y, l.drop q = x :: y :: l.drop (q + 2) ∧ l.getD q 0 = x ∧ l.getD (q + 1) 0 = y := by
  have h1 : q < l.length := by omega
  refine ⟨l[q], l[q + 1], ?_, by simp [List.getD_eq_getElem?_getD, h1], by simp [List.getD_eq_getElem?_getD, h]⟩
  rw [List.drop_eq_getElem_cons h1, List.drop_eq_getElem_cons h]
theorem letters_short {l : List UInt8} {q : Nat} (h : ¬ q + 1 < l.length) : lettersR (l.drop q) = none := by
  have h1 : (l.drop q).length ≤ 1 := by rw [List.length_drop]; omega
  match l.drop q, h1 with
  | [], _ => rfl
  | [_], _ => rfl
theorem byts_at {w : World} {b o : Nat} {l : List UInt8} (h : Byts w (some ⟨b, o, none⟩) l) {i : Nat} (hi : i < l.length) {x : UInt8} (hx : l.getD i 0 = x) : w.cell? ⟨b, o + i, none⟩ = some (.int .u8 (x.toNat : Int)) := by
  obtain ⟨b', o', e, hc⟩ := h i hi
  cases e
  rw [hc, ← hx]
  simp [List.getD_eq_getElem?_getD, hi]

set_option maxHeartbeats 4000000 in
set_option maxRecDepth 1000000 in
theorem runtext_any (a : Option Addr) (c p : Nat) (l : List UInt8) (w : World) (hB : Byts w a l) (hl : l.length ≤ 1000000000000) (hp : p ≤ l.length) :
    Calls Try.prog 52 #[.slice a l.length c, .int .i64 p] w fun e w' => RUnSay l p w e w' := by
  have hml : maxLen = 9223372036854775807 := rfl
  obtain ⟨n, hn⟩ : ∃ n, n = l.length := ⟨_, rfl⟩
  have HB := mkHid hB
  have HN := mkHid hn
  rw [← hn] at hl hp ⊢
  clear hB hn
  go_enter Try.func52, Try.ntmps52
  go_wp2_with fail
  go_loopw [1, 7] (fun i v wr => ∃ (q : Nat) (d : List UInt8), i = .int .i64 q ∧ p ≤ q ∧ q ≤ n ∧ d.length ≤ q ∧ lettersR (l.drop p) = (lettersR (l.drop q)).map (fun r => (d ++ r.1, r.2)) ∧ wr.ownsRow w.heap.size 5 1 v d.length (Lib.byteCells d) ∧ RowKit.Below w.heap.size w wr) (fun i _ _ => n - (intOf i).toNat)
  case atStart => exact ⟨p, [], rfl, by omega, hp, by simp, by cases lettersR (l.drop p) <;> rfl, ⟨rfl, Or.inl ⟨rfl, rfl⟩⟩, RowKit.Below.refl _ _⟩
  case round =>
    obtain ⟨q, d, rfl, hpq, hqn, hdq, hlr, hown, hb⟩ := hrel
    have hbs := hb.size
    have HLT : Hid (∀ k, Value.ownBlock u7 = some k → w.heap.size ≤ k) := fun k hk => (hown.lt k hk).1
    by_cases hlt : q + 1 < n
    · have hlti : (q : Int) + 1 < (n : Int) := by omega
      obtain ⟨x, y, hxy, hgx, hgy⟩ := drop_two (l := l) (q := q) (by rw [← HN.out]; exact hlt)
      obtain ⟨b, o, rfl⟩ : ∃ b o, a = some ⟨b, o, none⟩ := by
        obtain ⟨b, o, e, _⟩ := HB.out 0 (by rw [← HN.out]; omega)
        exact ⟨b, o, e⟩
      have cx := byts_at (HB.out.below hb) (i := q) (by rw [← HN.out]; omega) hgx
      have cy := byts_at (HB.out.below hb) (i := q + 1) (by rw [← HN.out]; omega) hgy
      have HLR := mkHid hlr
      have HXY := mkHid hxy
      clear hlr hxy hgx hgy
      by_cases hx : x = 0
      · have kx : ((x.toNat : Int) == 0) = true := by rw [hx]; rfl
        by_cases hy : y = 255
        · have ky : ((y.toNat : Int) == 255) = true := by rw [hy]; rfl
          have HO := mkHid (hown.alloc (.cells #[.int .u8 0] 5))
          have HY := mkHid (byts_new wr [0] #[.int .u8 0] rfl)
          have HBA := mkHid (hb.alloc hbs (.cells #[.int .u8 0] 5))
          have HX := mkHid hx
          have HYY := mkHid hy
          obtain ⟨d1, hd1⟩ : ∃ d1, d1 = d ++ [0] := ⟨_, rfl⟩
          have HD1 := mkHid hd1
          have hl1 : d1.length ≤ d.length + 1 := by rw [hd1]; simp
          clear hown hb hx hy hd1
          go_wp2_with (at_builtin; refine wpList_bytesL rfl _ _ rfl w.heap.size _ d rfl HO.out ?e2 (some ⟨wr.heap.size, 0, none⟩) [0] 1 1 rfl rfl HY.out (fun h => by cases h) d1 HD1.out.symm ?e5 ?_)
          case e2 => first | omega | (simp; omega)
          case e5 => omega
          intro v1 w1 o1 g1
          have HO3 := mkHid o1
          have HB3 := mkHid (HBA.out.grown g1 (by simp; omega) (fun k hk => HLT.out k hk))
          clear o1 g1 cx cy
          go_wp2_with fail
          go_roundw
          case rel =>
            refine ⟨q + 2, d1, by go_num, by omega, by omega, by omega, ?_, HO3.out, HB3.out⟩
            rw [HD1.out, HLR.out, HXY.out, HX.out, HYY.out]
            rw [lettersR, if_pos rfl, if_neg (by decide), if_pos rfl]
            cases lettersR (l.drop (q + 2)) <;> simp
          case measure => simp [intOf]; omega
        · have ky : ((y.toNat : Int) == 255) = false := by
            simp only [beq_eq_false_iff_ne, ne_eq]
            intro e
            exact hy (UInt8.toNat_inj.1 (by show y.toNat = 255; omega))
          have hst := own_string (own_drew hown)
          have hS : (convert 29 9 u7).run Try.prog wr.drew = .ok (.string ⟨d.toArray⟩) wr.drew ∧ wr.drew.cell? ⟨b, o + (q + 1), none⟩ = some (.int .u8 (y.toNat : Int)) := ⟨hst, cy⟩
          have HBW : Hid (RowKit.Below w.heap.size w wr.drew) := hb.drew
          have hq2 : ((n - (l.drop (q + 2)).length : Nat) : Int) = (q : Int) + 2 := by rw [List.length_drop, ← HN.out]; omega
          have HQ2 := mkHid hq2
          have hq1i : IntKind.i64.wrap ((q : Int) + 1) = (q : Int) + 1 := by rw [IntKind.wrap_i64]; omega
          have hq0i : (0 : Int) ≤ (q : Int) + 1 := by omega
          have hq2i : IntKind.i64.wrap ((q : Int) + 2) = (q : Int) + 2 := by rw [IntKind.wrap_i64]; omega
          obtain ⟨bt, hbt⟩ : ∃ bt, bt = ((y.toNat : Int) == 0) := ⟨_, rfl⟩
          have hbtk : ((y.toNat : Int) == 0) = bt := hbt.symm
          have HR : Hid ((bt = true ∧ lettersR (l.drop p) = some (d, l.drop (q + 2))) ∨ (bt = false ∧ lettersR (l.drop p) = none)) := by
            show _ ∨ _
            by_cases hy0 : y = 0
            · left
              refine ⟨by rw [hbt, hy0]; rfl, ?_⟩
              rw [HLR.out, HXY.out, hx, hy0]
              simp [lettersR]
            · right
              refine ⟨?_, ?_⟩
              · rw [hbt]
                simp only [beq_eq_false_iff_ne, ne_eq]
                intro e
                exact hy0 (UInt8.toNat_inj.1 (by show y.toNat = 0; omega))
              · rw [HLR.out, HXY.out, hx, lettersR, if_pos rfl, if_neg hy0, if_neg hy]
                rfl
          clear hx hy hown hb hq2 hst hbt
          go_wp2_with fail
          go_region_held3 (fun u => (convert 29 9 u7).run Try.prog u = .ok (.string ⟨d.toArray⟩) u ∧ u.cell? ⟨b, o + (q + 1), none⟩ = some (.int .u8 (y.toNat : Int))) (with_reducible exact hS) (fail)
          all_goals
            go_wp2_with fail
            refine bodyPost_ret (v := .tuple #[.string ⟨d.toArray⟩, .int .i64 ((q : Int) + 2), .bool bt]) ?_ rfl ?_
            · have hres : Try.f52.results = #[.tmp 4, .tmp 5, .tmp 6] := by kernel_rfl
              simp only [results, hres]
              go_simp
            refine ⟨HBW.out, ?_⟩
            rcases HR.out with ⟨e, h⟩ | ⟨e, h⟩
            · left
              refine ⟨d, l.drop (q + 2), h, ?_⟩
              rw [e, ← HN.out, HQ2.out]
            · right
              exact ⟨h, _, _, by rw [e]⟩
      · have kx : ((x.toNat : Int) == 0) = false := by
          simp only [beq_eq_false_iff_ne, ne_eq]
          intro e
          exact hx (UInt8.toNat_inj.1 (by show x.toNat = 0; omega))
        have HO := mkHid (hown.alloc (.cells #[.int .u8 (x.toNat : Int)] 5))
        have HY := mkHid (byts_new wr [x] #[.int .u8 (x.toNat : Int)] rfl)
        have HBA := mkHid (hb.alloc hbs (.cells #[.int .u8 (x.toNat : Int)] 5))
        have HX := mkHid hx
        obtain ⟨d1, hd1⟩ : ∃ d1, d1 = d ++ [x] := ⟨_, rfl⟩
        have HD1 := mkHid hd1
        have hl1 : d1.length ≤ d.length + 1 := by rw [hd1]; simp
        clear hown hb hx hd1
        go_wp2_with (at_builtin; refine wpList_bytesL rfl _ _ rfl w.heap.size _ d rfl HO.out ?e2 (some ⟨wr.heap.size, 0, none⟩) [x] 1 1 rfl rfl HY.out (fun h => by cases h) d1 HD1.out.symm ?e5 ?_)
        case e2 => first | omega | (simp; omega)
        case e5 => omega
        intro v1 w1 o1 g1
        have HO3 := mkHid o1
        have HB3 := mkHid (HBA.out.grown g1 (by simp; omega) (fun k hk => HLT.out k hk))
        clear o1 g1 cx cy
        go_wp2_with fail
        go_roundw
        case rel =>
          refine ⟨q + 1, d1, by go_num, by omega, by omega, by omega, ?_, HO3.out, HB3.out⟩
          have e2 : l.drop (q + 1) = y :: l.drop (q + 2) := by
            have h := congrArg (List.drop 1) HXY.out
            rw [List.drop_drop] at h
            simpa using h
          rw [HD1.out, HLR.out, HXY.out, e2, lettersR, if_neg HX.out]
          cases lettersR (y :: l.drop (q + 2)) <;> simp
        case measure => simp [intOf]; omega
    · have hlti : ¬ (q : Int) + 1 < (n : Int) := by omega
      have HR : Hid (lettersR (l.drop p) = none) := by
        show _ = _
        rw [hlr, letters_short (by rw [← HN.out]; exact hlt)]
        rfl
      have HBW := mkHid hb
      clear hlr hown hb
      go_wp2_with fail
      go_ret3
      exact ⟨HBW.out, Or.inr ⟨HR.out, _, _, rfl⟩⟩
end Go.Proofs.Yticbcoklpgfkhaa

/- What the document's own back (tidemarkref5) goes by: values whose keys bytes begin with, part by part. (No walk.) -/
namespace Go.Proofs.Yticbcoklpgfkhaa
open Go.RowKit

/-- A value that may stand so deep. -/
def Fit (g : GV) (ab : Nat) : Prop := g.every GV.formed = true ∧ g.every GV.nOk = true ∧ g.depth + ab ≤ 9
theorem fit_good {g : GV} (h : g.err = 0) (hn : g.every GV.nOk = true) : Fit g 0 := ⟨(err_zeroM h).1, hn, by have := (err_zeroM h).2.2.2.1; omega⟩
theorem max_at {c : Nat → Nat} : ∀ (n : Nat) (i : Nat), i < n → c i ≤ (List.range n).foldl (fun m i => max m (c i)) 0
  | 0, i, h => absurd h (Nat.not_lt_zero _)
  | n + 1, i, h => by
    rw [List.range_succ, List.foldl_append]
    show c i ≤ max _ (c n)
    rcases Nat.lt_or_ge i n with h1 | h1
    · have := max_at (c := c) n i h1
      omega
    · obtain rfl : i = n := by omega
      omega
theorem fit_l {n s ln l fn nm f ab} (h : Fit (GV.mk 5 n s ln l fn nm f) ab) (i : Nat) (hi : i < ln) : Fit (l i) (ab + 1) := by
  obtain ⟨h1, h2, h3⟩ := h
  refine ⟨every_l h1 i hi, every_l h2 i hi, ?_⟩
  rw [GV.depth_l5] at h3
  have := max_at (c := fun i => (l i).depth) ln i hi
  omega
theorem fit_f {n s ln l fn nm f ab} (h : Fit (GV.mk 6 n s ln l fn nm f) ab) (i : Nat) (hi : i < fn) : Fit (f i) (ab + 1) := by
  obtain ⟨h1, h2, h3⟩ := h
  refine ⟨every_f h1 i hi, every_f h2 i hi, ?_⟩
  rw [GV.depth_l6] at h3
  have := max_at (c := fun i => (f i).depth) fn i hi
  omega
/-- The parts' bytes, from a place on. -/
def kidsK (doc : Bool) (nm : Nat → ByteArray) (f : Nat → GV) (j m : Nat) : List UInt8 := (List.range' j m).flatMap fun i => 1 :: ((if doc = true then lettersK (nm i).data.toList else []) ++ (f i).key)
theorem kidsK_succ (doc : Bool) (nm : Nat → ByteArray) (f : Nat → GV) (j m : Nat) : kidsK doc nm f j (m + 1) = 1 :: ((if doc = true then lettersK (nm j).data.toList else []) ++ ((f j).key ++ kidsK doc nm f (j + 1) m)) := by
  unfold kidsK
  rw [List.range'_succ, List.flatMap_cons]
  simp
/-- What a value is whose key begins so. -/
theorem fit_cases {g : GV} {ab : Nat} {x : UInt8} {t rest : List UInt8} (h : Fit g ab) (e : x :: t = g.key ++ rest) :
    (x = 10 ∧ gN.same g = true ∧ t = rest) ∨
    (x = 20 ∧ ∃ n, (n = 0 ∨ n = 1) ∧ (gB n).same g = true ∧ t = byteOf n :: rest) ∨
    (x = 30 ∧ ∃ n, Int64 n ∧ (gI n).same g = true ∧ t = numK n ++ rest) ∨
    (x = 40 ∧ ∃ s : ByteArray, (gT s).same g = true ∧ t = lettersK s.data.toList ++ rest) ∨
    (∃ doc : Bool, x = (if doc = true then 60 else 50) ∧ ∃ n nm f, t = kidsK doc nm f 0 n ++ 0 :: rest ∧ (∀ i, i < n → Fit (f i) (ab + 1)) ∧ ∀ ps : List (ByteArray × GV), ps.length = n → (∀ i, i < n → (doc = true → pnm ps i = nm i) ∧ (pg ps i).same (f i) = true) → (partsG doc ps).same g = true) := by
  cases g with
  | nil => have := h.1; simp [GV.every, GV.formed] at this
  | mk k n s ln l fn nm f =>
    have hft := every_top h.1
    have hnt := every_top h.2.1
    obtain ⟨k1, _, _, _, _, _⟩ := k10
    obtain ⟨_, k2, k3, k4, k5, k6⟩ := k10s
    rcases kind_of hft with rfl | rfl | rfl | rfl | rfl | rfl
    · left
      simp [GV.formed] at hft
      obtain ⟨⟨⟨e1, e2⟩, e3⟩, e4⟩ := hft
      have e5 := empty_eq (s := s) (by simpa using e2)
      subst e1 e3 e4 e5
      simp only [GV.key, k1, List.cons_append, List.cons.injEq] at e
      exact ⟨e.1, by simp [gN, GV.same], by simpa using e.2⟩
    · right; left
      simp [GV.formed] at hft
      obtain ⟨⟨⟨e1, e2⟩, e3⟩, e4⟩ := hft
      have e5 := empty_eq (s := s) (by simpa using e2)
      subst e3 e4 e5
      have hk : (GV.mk 2 n ⟨#[]⟩ 0 l 0 nm f).key = 20 :: [byteOf n] := by simp [GV.key, k2]
      rw [hk] at e
      injection e with e6 e7
      exact ⟨e6, n, e1, by simp [gB, GV.same], e7⟩
    · right; right; left
      simp [GV.formed] at hft
      obtain ⟨⟨e2, e3⟩, e4⟩ := hft
      have e5 := empty_eq (s := s) (by simpa using e2)
      subst e3 e4 e5
      have h64 : Int64 n := by
        simp [GV.nOk] at hnt
        exact hnt
      have hk : (GV.mk 3 n ⟨#[]⟩ 0 l 0 nm f).key = 30 :: numK n := by simp [GV.key, k3]
      rw [hk] at e
      injection e with e6 e7
      exact ⟨e6, n, h64, by simp [gI, GV.same], e7⟩
    · right; right; right; left
      simp [GV.formed] at hft
      obtain ⟨⟨e1, e3⟩, e4⟩ := hft
      subst e1 e3 e4
      have hk : (GV.mk 4 0 s 0 l 0 nm f).key = 40 :: lettersK s.data.toList := by simp [GV.key, k4]
      rw [hk] at e
      injection e with e6 e7
      exact ⟨e6, s, by simp [gT, GV.same], e7⟩
    · right; right; right; right
      refine ⟨false, ?_⟩
      have hfl := fun i hi => fit_l h i hi
      simp [GV.formed] at hft
      obtain ⟨⟨e1, e2⟩, e4⟩ := hft
      have e5 := empty_eq (s := s) (by simpa using e2)
      subst e1 e4 e5
      have hk : (GV.mk 5 0 ⟨#[]⟩ ln l 0 nm f).key ++ rest = 50 :: (kidsK false nm l 0 ln ++ 0 :: rest) := by simp [GV.key, k5, List.range_eq_range', kidsK]
      rw [hk] at e
      injection e with e6 e7
      refine ⟨e6, ln, nm, l, e7, hfl, fun ps h1 h2 => ?_⟩
      simp [partsG, GV.same, h1]
      exact fun i hi => (h2 i hi).2
    · right; right; right; right
      refine ⟨true, ?_⟩
      have hfl := fun i hi => fit_f h i hi
      simp [GV.formed] at hft
      obtain ⟨⟨⟨_, e1⟩, e2⟩, e4⟩ := hft
      have e5 := empty_eq (s := s) (by simpa using e2)
      subst e1 e4 e5
      have hk : (GV.mk 6 0 ⟨#[]⟩ 0 l fn nm f).key ++ rest = 60 :: (kidsK true nm f 0 fn ++ 0 :: rest) := by simp [GV.key, k6, List.range_eq_range', kidsK]
      rw [hk] at e
      injection e with e6 e7
      refine ⟨e6, fn, nm, f, e7, hfl, fun ps h1 h2 => ?_⟩
      simp [partsG, GV.same, h1]
      exact fun i hi => ⟨(h2 i hi).1 rfl, (h2 i hi).2⟩
/-- So far has a List or a Doc been read. -/
def RStL (doc : Bool) (l : List UInt8) (p ab : Nat) (ps : List (ByteArray × GV)) (q : Nat) : Prop :=
  ∀ g rest, Fit g ab → l.drop p = g.key ++ rest → ∃ n nm f, ps.length ≤ n ∧ (∀ i, i < ps.length → (doc = true → pnm ps i = nm i) ∧ (pg ps i).same (f i) = true) ∧ l.drop q = kidsK doc nm f ps.length (n - ps.length) ++ 0 :: rest ∧ (∀ i, i < n → Fit (f i) (ab + 1)) ∧ ∀ ps' : List (ByteArray × GV), ps'.length = n → (∀ i, i < n → (doc = true → pnm ps' i = nm i) ∧ (pg ps' i).same (f i) = true) → (partsG doc ps').same g = true
/-- No value's key stands there. -/
def NoKey (l : List UInt8) (p ab : Nat) : Prop := ∀ g rest, Fit g ab → l.drop p ≠ g.key ++ rest
/-- The value whose key stands there, and where it ends. -/
def IsKey (l : List UInt8) (p ab : Nat) (g' : GV) (q : Nat) : Prop := ∀ g rest, Fit g ab → l.drop p = g.key ++ rest → g'.same g = true ∧ l.drop q = rest
theorem lst_start {doc : Bool} {l : List UInt8} {p ab : Nat} (h : l.drop p = (if doc = true then 60 else 50) :: l.drop (p + 1)) : RStL doc l p ab [] (p + 1) := by
  intro g rest hf e
  rw [h] at e
  rcases fit_cases hf e with ⟨hx, _⟩ | ⟨hx, _⟩ | ⟨hx, _⟩ | ⟨hx, _⟩ | ⟨d, hx, n, nm, f, h1, h2, h3⟩
  · cases doc <;> exact absurd hx (by decide)
  · cases doc <;> exact absurd hx (by decide)
  · cases doc <;> exact absurd hx (by decide)
  · cases doc <;> exact absurd hx (by decide)
  · obtain rfl : doc = d := by cases doc <;> cases d <;> first | rfl | exact absurd hx (by decide)
    exact ⟨n, nm, f, Nat.zero_le _, fun i hi => absurd hi (Nat.not_lt_zero _), h1, h2, h3⟩
theorem lst_kid {doc : Bool} {l : List UInt8} {p ab : Nat} {ps : List (ByteArray × GV)} {q : Nat} (h : RStL doc l p ab ps q) (hq : l.drop q = 1 :: l.drop (q + 1)) {g : GV} {rest : List UInt8} (hf : Fit g ab) (e : l.drop p = g.key ++ rest) :
    ∃ n nm f, ps.length < n ∧ (∀ i, i < ps.length → (doc = true → pnm ps i = nm i) ∧ (pg ps i).same (f i) = true) ∧ l.drop (q + 1) = (if doc = true then lettersK (nm ps.length).data.toList else []) ++ ((f ps.length).key ++ (kidsK doc nm f (ps.length + 1) (n - (ps.length + 1)) ++ 0 :: rest)) ∧ (∀ i, i < n → Fit (f i) (ab + 1)) ∧ ∀ ps' : List (ByteArray × GV), ps'.length = n → (∀ i, i < n → (doc = true → pnm ps' i = nm i) ∧ (pg ps' i).same (f i) = true) → (partsG doc ps').same g = true := by
  obtain ⟨n, nm, f, h1, h2, h3, h4, h5⟩ := h g rest hf e
  have hlt : ps.length < n := by
    rcases Nat.lt_or_ge ps.length n with hh | hh
    · exact hh
    · rw [show n - ps.length = 0 by omega, hq] at h3
      simp [kidsK] at h3
  rw [show n - ps.length = (n - (ps.length + 1)) + 1 by omega, kidsK_succ, hq] at h3
  simp only [List.cons_append, List.append_assoc] at h3
  injection h3 with _ h3
  exact ⟨n, nm, f, hlt, h2, h3, h4, h5⟩
theorem lst_more {doc : Bool} {l : List UInt8} {p ab : Nat} {ps : List (ByteArray × GV)} {q q1 q2 : Nat} (h : RStL doc l p ab ps q) (hq : l.drop q = 1 :: l.drop (q + 1)) (nm0 : ByteArray) (hn : if doc = true then lettersR (l.drop (q + 1)) = some (nm0.data.toList, l.drop q1) else q1 = q + 1) {g' : GV} (hk : IsKey l q1 (ab + 1) g' q2) : RStL doc l p ab (ps ++ [(nm0, g')]) q2 := by
  intro g rest hf e
  obtain ⟨n, nm, f, h1, h2, h3, h4, h5⟩ := lst_kid h hq hf e
  have hnm : (doc = true → nm0 = nm ps.length) ∧ l.drop q1 = (f ps.length).key ++ (kidsK doc nm f (ps.length + 1) (n - (ps.length + 1)) ++ 0 :: rest) := by
    cases doc with
    | false =>
      simp at hn h3
      refine ⟨fun h => (by cases h), ?_⟩
      rw [hn]
      exact h3
    | true =>
      simp at hn h3
      rw [h3, letters_back] at hn
      injection hn with hn
      injection hn with a b
      refine ⟨fun _ => ?_, b.symm⟩
      have : nm0.data = (nm ps.length).data := Array.toList_inj.1 a.symm
      cases nm0
      cases hh : nm ps.length
      rw [hh] at this
      simp at this
      rw [this]
  obtain ⟨g1, g2⟩ := hk _ _ (h4 ps.length h1) hnm.2
  refine ⟨n, nm, f, by simp; omega, fun i hi => ?_, by simpa using g2, h4, h5⟩
  rw [pg_snoc, pnm_snoc]
  by_cases hlt : i < ps.length
  · rw [if_pos hlt, if_pos hlt]
    exact h2 i hlt
  · have e1 : i = ps.length := by simp at hi; omega
    rw [if_neg hlt, if_pos e1, if_neg hlt, if_pos e1, e1]
    exact ⟨hnm.1, g1⟩
theorem lst_none_kid {doc : Bool} {l : List UInt8} {p ab : Nat} {ps : List (ByteArray × GV)} {q q1 : Nat} (h : RStL doc l p ab ps q) (hq : l.drop q = 1 :: l.drop (q + 1)) (nm0 : ByteArray) (hn : if doc = true then lettersR (l.drop (q + 1)) = some (nm0.data.toList, l.drop q1) else q1 = q + 1) (hk : NoKey l q1 (ab + 1)) : NoKey l p ab := by
  intro g rest hf e
  obtain ⟨n, nm, f, h1, h2, h3, h4, h5⟩ := lst_kid h hq hf e
  refine hk _ (kidsK doc nm f (ps.length + 1) (n - (ps.length + 1)) ++ 0 :: rest) (h4 ps.length h1) ?_
  cases doc with
  | false =>
    simp at hn h3
    rw [hn]
    exact h3
  | true =>
    simp at hn h3
    rw [h3, letters_back] at hn
    injection hn with hn
    injection hn with a b
    exact b.symm
theorem lst_none_name {l : List UInt8} {p ab : Nat} {ps : List (ByteArray × GV)} {q : Nat} (h : RStL true l p ab ps q) (hq : l.drop q = 1 :: l.drop (q + 1)) (hn : lettersR (l.drop (q + 1)) = none) : NoKey l p ab := by
  intro g rest hf e
  obtain ⟨n, nm, f, h1, h2, h3, h4, h5⟩ := lst_kid h hq hf e
  simp at h3
  rw [h3, letters_back] at hn
  cases hn
theorem lst_end {doc : Bool} {l : List UInt8} {p ab : Nat} {ps : List (ByteArray × GV)} {q : Nat} (h : RStL doc l p ab ps q) (hq : l.drop q = 0 :: l.drop (q + 1)) : IsKey l p ab (partsG doc ps) (q + 1) := by
  intro g rest hf e
  obtain ⟨n, nm, f, h1, h2, h3, h4, h5⟩ := h g rest hf e
  have hm : n - ps.length = 0 := by
    rcases Nat.eq_zero_or_pos (n - ps.length) with hh | hh
    · exact hh
    · obtain ⟨m, hm⟩ : ∃ m, n - ps.length = m + 1 := ⟨n - ps.length - 1, by omega⟩
      rw [hm, kidsK_succ, hq] at h3
      simp at h3
  rw [hm, hq] at h3
  simp [kidsK] at h3
  have hn : ps.length = n := by omega
  exact ⟨h5 ps hn (fun i hi => h2 i (by omega)), h3⟩
theorem lst_none_end {doc : Bool} {l : List UInt8} {p ab : Nat} {ps : List (ByteArray × GV)} {q : Nat} (h : RStL doc l p ab ps q) (h0 : ∀ t, l.drop q ≠ 0 :: t) (h1 : ∀ t, l.drop q ≠ 1 :: t) : NoKey l p ab := by
  intro g rest hf e
  obtain ⟨n, nm, f, _, h2, h3, h4, h5⟩ := h g rest hf e
  rcases Nat.eq_zero_or_pos (n - ps.length) with hh | hh
  · rw [hh] at h3
    exact h0 _ (by simpa [kidsK] using h3)
  · obtain ⟨m, hm⟩ : ∃ m, n - ps.length = m + 1 := ⟨n - ps.length - 1, by omega⟩
    rw [hm, kidsK_succ] at h3
    exact h1 _ h3
end Go.Proofs.Yticbcoklpgfkhaa

/- The document's own back (tidemarkref5): where it refuses at once, and at Null, Bool, Int, Text. (Written by tools/mkrback.py.) -/
namespace Go.Proofs.Yticbcoklpgfkhaa
open Go.RowKit

/-- What back tells. -/
def RBSay (l : List UInt8) (p ab : Nat) (w : World) (e : Ending) (w' : World) : Prop :=
  RowKit.Below w.heap.size w w' ∧ ((∃ (g : GV) (q : Nat) (kk nn : Int) (s : ByteArray) (la : Option Addr) (ln lc : Nat) (fa : Option Addr) (fn fc : Nat), e = .returned (.tuple #[.agg #[.int .i64 kk, .int .i64 nn, .string s, .slice la ln lc, .slice fa fn fc], .int .i64 (q : Int), .bool true]) ∧ From w.heap.size w' g (.agg #[.int .i64 kk, .int .i64 nn, .string s, .slice la ln lc, .slice fa fn fc]) ∧ p < q ∧ q ≤ l.length ∧ g.mass + p ≤ q ∧ IsKey l p ab g q) ∨
    (NoKey l p ab ∧ ∃ (q kk nn : Int) (s : ByteArray) (la : Option Addr) (ln lc : Nat) (fa : Option Addr) (fn fc : Nat), e = .returned (.tuple #[.agg #[.int .i64 kk, .int .i64 nn, .string s, .slice la ln lc, .slice fa fn fc], .int .i64 q, .bool false])))
theorem drop_one {l : List UInt8} {p : Nat} {x : UInt8} (h : p < l.length) (hx : l.getD p 0 = x) : l.drop p = x :: l.drop (p + 1) := by
  rw [List.drop_eq_getElem_cons h]
  simp [List.getD_eq_getElem?_getD, h] at hx
  rw [hx]
theorem byts_somme {w : World} {a : Option Addr} {l : List UInt8} (h : Byts w a l) (hp : 0 < l.length) : ∃ b o, a = some ⟨b, o, none⟩ := by
  obtain ⟨b, o, e, _⟩ := h 0 hp
  exact ⟨b, o, e⟩
theorem nokey_of {l : List UInt8} {p ab : Nat} {x : UInt8} (h : l.drop p = x :: l.drop (p + 1)) (hx : x ≠ 10 ∧ x ≠ 20 ∧ x ≠ 30 ∧ x ≠ 40 ∧ x ≠ 50 ∧ x ≠ 60) : NoKey l p ab := by
  intro g rest hf e
  rw [h] at e
  obtain ⟨h1, h2, h3, h4, h5, h6⟩ := hx
  rcases fit_cases hf e with ⟨hx, _⟩ | ⟨hx, _⟩ | ⟨hx, _⟩ | ⟨hx, _⟩ | ⟨d, hx, _⟩
  · exact h1 hx
  · exact h2 hx
  · exact h3 hx
  · exact h4 hx
  · cases d
    · exact h5 hx
    · exact h6 hx
theorem nokey_end {l : List UInt8} {p ab : Nat} (h : l.length ≤ p) : NoKey l p ab := by
  intro g rest hf e
  rw [List.drop_eq_nil_of_le h] at e
  cases g with
  | nil => have := hf.1; simp [GV.every, GV.formed] at this
  | mk k n s ln l fn nm f => simp [GV.key] at e
theorem nokey_deep {l : List UInt8} {p ab : Nat} (h : 9 < ab) : NoKey l p ab := fun g rest hf _ => by have := hf.2.2; omega
theorem top_int {m : Nat} (h : m < 18446744073709551616) : wrap64 (bits BinOp.xor IntKind.u64 (m : Int) 9223372036854775808) = (m : Int) - 9223372036854775808 := by
  rw [show (9223372036854775808 : Int) = ((9223372036854775808 : Nat) : Int) from rfl, bits_xor_u64_nat m _ (by omega) (by omega), xor_top h]
  unfold wrap64
  omega
theorem mass_N : gN.mass = 1 ∧ (∀ n, (gB n).mass = 1) ∧ (∀ n, (gI n).mass = 1) ∧ ∀ s, (gT s).mass = 1 + s.size := by
  refine ⟨by simp [gN, GV.mass]; rfl, fun n => by simp [gB, GV.mass]; rfl, fun n => by simp [gI, GV.mass]; rfl, fun s => by simp [gT, GV.mass]⟩
theorem lies_anyB {w : World} {k n : Int} {s : ByteArray} (hk : Int64 k) (hn : Int64 n) (hs : s.size ≤ 140737488355328) : Lies w (.mk k n s 0 (fun _ => .nil) 0 (fun _ => ⟨#[]⟩) (fun _ => .nil)) (.agg #[.int .i64 k, .int .i64 n, .string s, .slice none 0 0, .slice none 0 0]) :=
  ⟨none, 0, none, 0, rfl, hk, hn, hs, Nat.le_refl _, by unfold maxLen; omega, Nat.le_refl _, by unfold maxLen; omega, fun i hi => absurd hi (Nat.not_lt_zero _), fun i hi => absurd hi (Nat.not_lt_zero _)⟩
theorem iskey_null {l : List UInt8} {p ab : Nat} (h : l.drop p = 10 :: l.drop (p + 1)) : IsKey l p ab gN (p + 1) := by
  intro g rest hf e
  rw [h] at e
  rcases fit_cases hf e with ⟨_, h1, h2⟩ | ⟨hx, _⟩ | ⟨hx, _⟩ | ⟨hx, _⟩ | ⟨d, hx, _⟩
  · exact ⟨h1, h2⟩
  · exact absurd hx (by decide)
  · exact absurd hx (by decide)
  · exact absurd hx (by decide)
  · cases d <;> exact absurd hx (by decide)
theorem fit_bool {l : List UInt8} {p ab : Nat} (h : l.drop p = 20 :: l.drop (p + 1)) {g : GV} {rest : List UInt8} (hf : Fit g ab) (e : l.drop p = g.key ++ rest) : ∃ n, (n = 0 ∨ n = 1) ∧ (gB n).same g = true ∧ l.drop (p + 1) = byteOf n :: rest := by
  rw [h] at e
  rcases fit_cases hf e with ⟨hx, _⟩ | ⟨_, h1⟩ | ⟨hx, _⟩ | ⟨hx, _⟩ | ⟨d, hx, _⟩
  · exact absurd hx (by decide)
  · exact h1
  · exact absurd hx (by decide)
  · exact absurd hx (by decide)
  · cases d <;> exact absurd hx (by decide)
theorem fit_int {l : List UInt8} {p ab : Nat} (h : l.drop p = 30 :: l.drop (p + 1)) {g : GV} {rest : List UInt8} (hf : Fit g ab) (e : l.drop p = g.key ++ rest) : ∃ n, Int64 n ∧ (gI n).same g = true ∧ l.drop (p + 1) = numK n ++ rest := by
  rw [h] at e
  rcases fit_cases hf e with ⟨hx, _⟩ | ⟨hx, _⟩ | ⟨_, h1⟩ | ⟨hx, _⟩ | ⟨d, hx, _⟩
  · exact absurd hx (by decide)
  · exact absurd hx (by decide)
  · exact h1
  · exact absurd hx (by decide)
  · cases d <;> exact absurd hx (by decide)
theorem fit_text {l : List UInt8} {p ab : Nat} (h : l.drop p = 40 :: l.drop (p + 1)) {g : GV} {rest : List UInt8} (hf : Fit g ab) (e : l.drop p = g.key ++ rest) : ∃ s : ByteArray, (gT s).same g = true ∧ l.drop (p + 1) = lettersK s.data.toList ++ rest := by
  rw [h] at e
  rcases fit_cases hf e with ⟨hx, _⟩ | ⟨hx, _⟩ | ⟨hx, _⟩ | ⟨_, h1⟩ | ⟨d, hx, _⟩
  · exact absurd hx (by decide)
  · exact absurd hx (by decide)
  · exact absurd hx (by decide)
  · exact h1
  · cases d <;> exact absurd hx (by decide)
theorem iskey_bool {l : List UInt8} {p ab : Nat} {y : UInt8} (h : l.drop p = 20 :: l.drop (p + 1)) (h2 : l.drop (p + 1) = y :: l.drop (p + 2)) : IsKey l p ab (gB (y.toNat : Int)) (p + 2) := by
  intro g rest hf e
  obtain ⟨n, h1, h3, h4⟩ := fit_bool h hf e
  rw [h2] at h4
  injection h4 with h5 h6
  have hb : (y.toNat : Int) = n := by rw [h5]; rcases h1 with rfl | rfl <;> decide
  rw [hb]
  exact ⟨h3, h6⟩
theorem nokey_bool {l : List UInt8} {p ab : Nat} (h : l.drop p = 20 :: l.drop (p + 1)) (h2 : l.length ≤ p + 1) : NoKey l p ab := by
  intro g rest hf e
  obtain ⟨n, h1, h3, h4⟩ := fit_bool h hf e
  rw [List.drop_eq_nil_of_le h2] at h4
  cases h4
theorem iskey_int {l : List UInt8} {p ab : Nat} (h : l.drop p = 30 :: l.drop (p + 1)) : IsKey l p ab (gI ((ofBe ((l.drop (p + 1)).take 8) : Int) - 9223372036854775808)) (p + 9) := by
  intro g rest hf e
  obtain ⟨n, h1, h3, h4⟩ := fit_int h hf e
  have ht : (numK n ++ rest).take 8 = numK n := by rw [← numK_len n]; exact List.take_left
  have hd : (numK n ++ rest).drop 8 = rest := by rw [← numK_len n]; exact List.drop_left
  rw [h4, ht, numK_back h1]
  refine ⟨h3, ?_⟩
  rw [show p + 9 = p + 1 + 8 by omega, ← List.drop_drop, h4, hd]
theorem nokey_int {l : List UInt8} {p ab : Nat} (h : l.drop p = 30 :: l.drop (p + 1)) (h2 : l.length < p + 9) : NoKey l p ab := by
  intro g rest hf e
  obtain ⟨n, h1, h3, h4⟩ := fit_int h hf e
  have := congrArg List.length h4
  rw [List.length_append, numK_len, List.length_drop] at this
  omega
theorem iskey_text {l : List UInt8} {p ab : Nat} {s rest0 : List UInt8} (h : l.drop p = 40 :: l.drop (p + 1)) (h2 : lettersR (l.drop (p + 1)) = some (s, rest0)) : IsKey l p ab (gT ⟨s.toArray⟩) (l.length - rest0.length) := by
  intro g rest hf e
  obtain ⟨t, h3, h4⟩ := fit_text h hf e
  have hl := letters_inv _ _ _ h2
  have hle := congrArg List.length hl
  rw [List.length_append, List.length_drop] at hle
  have hk := lettersK_ge s
  have hd : l.drop (l.length - rest0.length) = rest0 := by
    have e1 : l.length - rest0.length = (p + 1) + (lettersK s).length := by omega
    rw [e1, ← List.drop_drop, hl, List.drop_left]
  rw [h4, letters_back] at h2
  injection h2 with h2
  injection h2 with h5 h6
  rw [hd, ← h5]
  exact ⟨by simpa using h3, h6.symm⟩
theorem nokey_text {l : List UInt8} {p ab : Nat} (h : l.drop p = 40 :: l.drop (p + 1)) (h2 : lettersR (l.drop (p + 1)) = none) : NoKey l p ab := by
  intro g rest hf e
  obtain ⟨t, h3, h4⟩ := fit_text h hf e
  rw [h4, letters_back] at h2
  cases h2
theorem text_place {l : List UInt8} {p : Nat} {s rest : List UInt8} (hp : p ≤ l.length) (h : lettersR (l.drop p) = some (s, rest)) : l.length - rest.length ≤ l.length ∧ p + s.length + 2 ≤ l.length - rest.length ∧ l.drop (l.length - rest.length) = rest := by
  have hl := letters_inv _ _ _ h
  have hle := congrArg List.length hl
  rw [List.length_append, List.length_drop] at hle
  have hk := lettersK_ge s
  refine ⟨by omega, by omega, ?_⟩
  have e1 : l.length - rest.length = p + (lettersK s).length := by omega
  rw [e1, ← List.drop_drop, hl, List.drop_left]
end Go.Proofs.Yticbcoklpgfkhaa

/- Lists and Docs that grow part by part, in memory. -/
namespace Go.Proofs.Yticbcoklpgfkhaa
open Go.RowKit

theorem heap_other {w : World} {g o b : Nat} {u : Value} (h : b ≠ g) : (w.setCell ⟨g, o, none⟩ u).heap[b]? = w.heap[b]? := RowKit.Below.heap_setCell w ⟨g, o, none⟩ u b h
theorem off_from2 {p : Nat → Bool} {C : Nat} {w : World} {g : GV} {v : Value} (h : From C w g v) (hp : ∀ b, C ≤ b → p b = false) : Off p w g v :=
  Lies.mono (fun _ _ _ hc => hide_cell.2 ⟨hp _ (mask_cell.1 hc).1, (mask_cell.1 hc).2⟩) h
theorem mask_block {C : Nat} {w : World} {k : Nat} (h : C ≤ k) : (mask C w).heap[k]? = w.heap[k]? := by
  unfold mask
  simp only [Array.getElem?_mapIdx]
  cases w.heap[k]? with
  | none => rfl
  | some o => simp [show ¬ k < C by omega]
/-- One part more in a List that is read. -/
theorem part_step {B Y j : Nat} {w wr w5 w6 : World} {row v6 a0 a1 a2 a4 : Value} {ob : Obj} {fs : List Fl} {f : Fl} (hY : Y < B) (hwY : w.heap.size ≤ Y) (hy : Blk5 wr Y a0 a1 a2 row a4) (hBw : B ≤ wr.heap.size) (hO : RowKit.Below w.heap.size w wr) (hw : wr.ownsRow B 25 5 row j (valCells (fs.map Fl.val))) (ht : ∀ x ∈ fs, Off (hid B row []) wr x.g x.val)
    (o5 : RowKit.Below wr.heap.size wr w5) (f5 : From wr.heap.size w5 f.g f.val) (own6 : w6.ownsRow B 25 5 v6 (j + 1) (valCells (fs.map Fl.val) ++ f.val.cells.toList)) (g6 : (w5.alloc ob).grownBy w6 row.ownBlock) (at6 : v6.ownBlock = row.ownBlock ∨ v6.ownBlock = some (w5.alloc ob).heap.size) :
    (Blk5 w6 Y a0 a1 a2 row a4) ∧ Blk5 (w6.setCell ⟨Y, 3, none⟩ v6) Y a0 a1 a2 v6 a4 ∧ (w6.setCell ⟨Y, 3, none⟩ v6).ownsRow B 25 5 v6 (j + 1) (valCells ((fs ++ [f]).map Fl.val)) ∧ (∀ x ∈ fs ++ [f], Off (hid B v6 []) (w6.setCell ⟨Y, 3, none⟩ v6) x.g x.val) ∧
      (∀ k, k < Y → (w6.setCell ⟨Y, 3, none⟩ v6).heap[k]? = wr.heap[k]?) ∧ RowKit.Below w.heap.size w (w6.setCell ⟨Y, 3, none⟩ v6) := by
  have hs5 := o5.size
  have hr : ∀ k, row.ownBlock = some k → B ≤ k ∧ k < wr.heap.size := fun k e => ⟨(own_blk hw e).2, (own_blk hw e).1⟩
  have hal : ∀ k, k < w5.heap.size → (w5.alloc ob).heap[k]? = w5.heap[k]? := fun k hk => ((RowKit.Below.refl _ w5).alloc (Nat.le_refl _) ob).block k hk
  have hsa : (w5.alloc ob).heap.size = w5.heap.size + 1 := by simp
  have h6 : ∀ k, k < w5.heap.size → row.ownBlock ≠ some k → w6.heap[k]? = w5.heap[k]? := fun k hk hn => (g6.block k (by omega) (fun e => hn e.symm)).trans (hal k hk)
  have hnY : row.ownBlock ≠ some Y := fun e => by have := (hr Y e).1; omega
  have y6 : Blk5 w6 Y a0 a1 a2 row a4 := by
    unfold Blk5
    rw [h6 Y (by omega) hnY, o5.block Y (by omega)]
    exact hy
  have hv6 : ∀ k, v6.ownBlock = some k → B ≤ k := fun k e => (own_blk own6 e).2
  have hvY : v6.ownBlock ≠ some Y := fun e => by have := hv6 Y e; omega
  have hset : ∀ k, k ≠ Y → (w6.setCell ⟨Y, 3, none⟩ v6).heap[k]? = w6.heap[k]? := fun k hk => heap_other hk
  refine ⟨y6, y6.set3, ?_, ?_, ?_, ?_⟩
  · rw [List.map_append, show [f].map Fl.val = [f.val] from rfl, valCells_snoc]
    exact own_keep own6 fun k e => hset k (fun e2 => hvY (by rw [e, e2]))
  · intro x hx
    rcases List.mem_append.1 hx with hx | hx
    · refine (ht x hx).keep fun b hb hp => ?_
      obtain ⟨p1, p2, _⟩ := hid_false.1 hp
      refine ⟨hid_false.2 ⟨p1, ?_, fun y hy => absurd hy (by simp)⟩, ?_⟩
      · intro e
        rcases at6 with e6 | e6
        · exact p2 (e6 ▸ e)
        · rw [e6] at e
          simp at e
          omega
      · rw [hset b (by omega), h6 b (by omega) p2, o5.block b hb]
    · obtain rfl : x = f := by simpa using hx
      have h0 : Off (hid B row []) w5 x.g x.val := off_from2 f5 fun b hb => hid_false.2 ⟨by omega, fun e => by have := (hr b e).2; omega, fun y hy => absurd hy (by simp)⟩
      refine h0.keep fun b hb hp => ?_
      obtain ⟨p1, p2, _⟩ := hid_false.1 hp
      refine ⟨hid_false.2 ⟨p1, ?_, fun y hy => absurd hy (by simp)⟩, ?_⟩
      · intro e
        rcases at6 with e6 | e6
        · exact p2 (e6 ▸ e)
        · rw [e6] at e
          simp at e
          omega
      · rw [hset b (by omega), h6 b hb p2]
  · intro k hk
    rw [hset k (by omega), h6 k (by omega) (fun e => by have := (hr k e).1; omega), o5.block k (by omega)]
  · have h5 := hO.trans (o5.mono hO.size)
    have h5a := h5.alloc h5.size ob
    have h66 : RowKit.Below w.heap.size w w6 := h5a.grown g6 h5a.size (fun k e => by have := (hr k e).1; omega)
    exact h66.setCell hwY _

/-- The List that was read. -/
theorem part_end {B C j dc : Nat} {da : Option Addr} {wr w' : World} {fs : List Fl} (hC : C ≤ B) (hW : ∀ k, B ≤ k → w'.heap[k]? = wr.heap[k]?) (hl : fs.length = j) (hw : wr.ownsRow B 25 5 (.slice da j dc) j (valCells (fs.map Fl.val))) (ht : ∀ x ∈ fs, Off (hid B (.slice da j dc) []) wr x.g x.val) :
    From C w' (partsG false (fs.map fun f => (f.nm, f.g))) (.agg #[.int .i64 5, .int .i64 0, .string ⟨#[]⟩, .slice da j dc, .slice none 0 0]) := by
  have h1 : (mask C w').ownsRow B 25 5 (.slice da j dc) j (valCells (fs.map Fl.val)) := own_keep hw fun k e => by
    have := (own_blk hw e).2
    rw [mask_block (by omega)]
    exact hW k this
  obtain ⟨a, c, e1, e2, e3, e4⟩ := vals_own (l := pg (fs.map fun f => (f.nm, f.g))) h1 (by simp [hl]) (fun i hi => by
    have hi2 : i < fs.length := by simpa using hi
    have hL := (ht _ (List.getElem_mem hi2)).keep (p' := hid B (.slice da j dc) []) (w' := w') fun b _ hp => ⟨hp, hW b (hid_false.1 hp).1⟩
    have := Lies.mono (w' := mask C w') (fun b o u hc => mask_cell.2 ⟨by have := (hid_false.1 (hide_cell.1 hc).1).1; omega, (hide_cell.1 hc).2⟩) hL
    simpa [pg, hi2] using this)
  cases e1
  unfold From partsG
  simp only [Bool.false_eq_true, if_false, List.length_map, hl]
  exact ⟨da, dc, none, 0, rfl, ⟨by omega, by omega⟩, ⟨by omega, by omega⟩, by decide, e2, e3, by omega, by unfold maxLen; omega, e4, fun i hi => absurd hi (Nat.not_lt_zero _)⟩
/-- One field more in a Doc that is read. -/
theorem field_step {B Y j : Nat} {w wr w5 w6 : World} {row v6 a0 a1 a2 a3 : Value} {ob : Obj} {fs : List Fl} {f : Fl} (hY : Y < B) (hwY : w.heap.size ≤ Y) (hy : Blk5 wr Y a0 a1 a2 a3 row) (hBw : B ≤ wr.heap.size) (hO : RowKit.Below w.heap.size w wr) (hw : wr.ownsRow B 64 6 row j (fldCells fs)) (ht : ∀ x ∈ fs, Off (hid B row []) wr x.g x.val)
    (o5 : RowKit.Below wr.heap.size wr w5) (f5 : From wr.heap.size w5 f.g f.val) (own6 : w6.ownsRow B 64 6 v6 (j + 1) (fldCells fs ++ f.enc)) (g6 : (w5.alloc ob).grownBy w6 row.ownBlock) (at6 : v6.ownBlock = row.ownBlock ∨ v6.ownBlock = some (w5.alloc ob).heap.size) :
    (Blk5 w6 Y a0 a1 a2 a3 row) ∧ Blk5 (w6.setCell ⟨Y, 4, none⟩ v6) Y a0 a1 a2 a3 v6 ∧ (w6.setCell ⟨Y, 4, none⟩ v6).ownsRow B 64 6 v6 (j + 1) (fldCells (fs ++ [f])) ∧ (∀ x ∈ fs ++ [f], Off (hid B v6 []) (w6.setCell ⟨Y, 4, none⟩ v6) x.g x.val) ∧
      (∀ k, k < Y → (w6.setCell ⟨Y, 4, none⟩ v6).heap[k]? = wr.heap[k]?) ∧ RowKit.Below w.heap.size w (w6.setCell ⟨Y, 4, none⟩ v6) := by
  have hs5 := o5.size
  have hr : ∀ k, row.ownBlock = some k → B ≤ k ∧ k < wr.heap.size := fun k e => ⟨(own_blk hw e).2, (own_blk hw e).1⟩
  have hal : ∀ k, k < w5.heap.size → (w5.alloc ob).heap[k]? = w5.heap[k]? := fun k hk => ((RowKit.Below.refl _ w5).alloc (Nat.le_refl _) ob).block k hk
  have hsa : (w5.alloc ob).heap.size = w5.heap.size + 1 := by simp
  have h6 : ∀ k, k < w5.heap.size → row.ownBlock ≠ some k → w6.heap[k]? = w5.heap[k]? := fun k hk hn => (g6.block k (by omega) (fun e => hn e.symm)).trans (hal k hk)
  have hnY : row.ownBlock ≠ some Y := fun e => by have := (hr Y e).1; omega
  have y6 : Blk5 w6 Y a0 a1 a2 a3 row := by
    unfold Blk5
    rw [h6 Y (by omega) hnY, o5.block Y (by omega)]
    exact hy
  have hv6 : ∀ k, v6.ownBlock = some k → B ≤ k := fun k e => (own_blk own6 e).2
  have hvY : v6.ownBlock ≠ some Y := fun e => by have := hv6 Y e; omega
  have hset : ∀ k, k ≠ Y → (w6.setCell ⟨Y, 4, none⟩ v6).heap[k]? = w6.heap[k]? := fun k hk => heap_other hk
  refine ⟨y6, y6.set4, ?_, ?_, ?_, ?_⟩
  · rw [fldCells_snoc]
    exact own_keep own6 fun k e => hset k (fun e2 => hvY (by rw [e, e2]))
  · intro x hx
    rcases List.mem_append.1 hx with hx | hx
    · refine (ht x hx).keep fun b hb hp => ?_
      obtain ⟨p1, p2, _⟩ := hid_false.1 hp
      refine ⟨hid_false.2 ⟨p1, ?_, fun y hy => absurd hy (by simp)⟩, ?_⟩
      · intro e
        rcases at6 with e6 | e6
        · exact p2 (e6 ▸ e)
        · rw [e6] at e
          simp at e
          omega
      · rw [hset b (by omega), h6 b (by omega) p2, o5.block b hb]
    · obtain rfl : x = f := by simpa using hx
      have h0 : Off (hid B row []) w5 x.g x.val := off_from2 f5 fun b hb => hid_false.2 ⟨by omega, fun e => by have := (hr b e).2; omega, fun y hy => absurd hy (by simp)⟩
      refine h0.keep fun b hb hp => ?_
      obtain ⟨p1, p2, _⟩ := hid_false.1 hp
      refine ⟨hid_false.2 ⟨p1, ?_, fun y hy => absurd hy (by simp)⟩, ?_⟩
      · intro e
        rcases at6 with e6 | e6
        · exact p2 (e6 ▸ e)
        · rw [e6] at e
          simp at e
          omega
      · rw [hset b (by omega), h6 b hb p2]
  · intro k hk
    rw [hset k (by omega), h6 k (by omega) (fun e => by have := (hr k e).1; omega), o5.block k (by omega)]
  · have h5 := hO.trans (o5.mono hO.size)
    have h5a := h5.alloc h5.size ob
    have h66 : RowKit.Below w.heap.size w w6 := h5a.grown g6 h5a.size (fun k e => by have := (hr k e).1; omega)
    exact h66.setCell hwY _

/-- The Doc that was read. -/
theorem field_end {B C j dc : Nat} {da : Option Addr} {wr w' : World} {fs : List Fl} (hC : C ≤ B) (hW : ∀ k, B ≤ k → w'.heap[k]? = wr.heap[k]?) (hl : fs.length = j) (hw : wr.ownsRow B 64 6 (.slice da j dc) j (fldCells fs)) (ht : ∀ x ∈ fs, Off (hid B (.slice da j dc) []) wr x.g x.val) (hn : ∀ x ∈ fs, x.nm.size ≤ 140737488355328) :
    From C w' (partsG true (fs.map fun f => (f.nm, f.g))) (.agg #[.int .i64 6, .int .i64 0, .string ⟨#[]⟩, .slice none 0 0, .slice da j dc]) := by
  have h1 : (mask C w').ownsRow B 64 6 (.slice da j dc) j (fldCells fs) := own_keep hw fun k e => by
    have := (own_blk hw e).2
    rw [mask_block (by omega)]
    exact hW k this
  obtain ⟨a, c2, e1, e2, e3, hf⟩ := own_frow h1 hl
  cases e1
  have hfl := hf.flds (fun x hx => ⟨by
    have hL := (ht _ hx).keep (p' := hid B (.slice da j dc) []) (w' := w') fun b _ hp => ⟨hp, hW b (hid_false.1 hp).1⟩
    exact Lies.mono (w' := mask C w') (fun b o u hc => mask_cell.2 ⟨by have := (hid_false.1 (hide_cell.1 hc).1).1; omega, (hide_cell.1 hc).2⟩) hL, hn x hx⟩)
  rw [← pg_map, ← pnm_map] at hfl
  unfold From partsG
  simp only [if_true, List.length_map]
  rw [hl] at hfl ⊢
  exact ⟨none, 0, da, dc, rfl, ⟨by omega, by omega⟩, ⟨by omega, by omega⟩, by decide, Nat.zero_le _, by unfold maxLen; omega, e2, e3, fun i hi => absurd hi (Nat.not_lt_zero _), hfl⟩
theorem partsG_mass : ∀ (doc : Bool) (ps : List (ByteArray × GV)) (x : ByteArray × GV), (partsG doc (ps ++ [x])).mass = (partsG doc ps).mass + (if doc = true then x.1.size else 0) + x.2.mass := by
  intro doc ps x
  have h1 : ∀ i, i < ps.length → pg (ps ++ [x]) i = pg ps i := fun i hi => by rw [pg_snoc, if_pos hi]
  have h2 : ∀ i, i < ps.length → pnm (ps ++ [x]) i = pnm ps i := fun i hi => by rw [pnm_snoc, if_pos hi]
  have h3 : pg (ps ++ [x]) ps.length = x.2 := by rw [pg_snoc, if_neg (Nat.lt_irrefl _), if_pos rfl]
  have h4 : pnm (ps ++ [x]) ps.length = x.1 := by rw [pnm_snoc, if_neg (Nat.lt_irrefl _), if_pos rfl]
  have hl : (ps ++ [x]).length = ps.length + 1 := by simp
  cases doc with
  | false =>
    simp only [partsG, Bool.false_eq_true, if_false, GV.mass, hl]
    rw [List.range_succ, List.map_append, List.sum_append]
    have e : (List.range ps.length).map (fun i => (pg (ps ++ [x]) i).mass) = (List.range ps.length).map (fun i => (pg ps i).mass) := List.map_congr_left fun i hi => by rw [h1 i (by simpa using hi)]
    rw [e]
    simp [h3]
    omega
  | true =>
    simp only [partsG, if_true, GV.mass, hl]
    rw [List.range_succ, List.map_append, List.sum_append]
    have e : (List.range ps.length).map (fun i => (pnm (ps ++ [x]) i).size + (pg (ps ++ [x]) i).mass) = (List.range ps.length).map (fun i => (pnm ps i).size + (pg ps i).mass) := List.map_congr_left fun i hi => by rw [h1 i (by simpa using hi), h2 i (by simpa using hi)]
    rw [e]
    simp [h3, h4]
    omega
theorem partsG_mass0 (doc : Bool) : (partsG doc []).mass = 1 := by cases doc <;> simp [partsG, GV.mass] <;> rfl
end Go.Proofs.Yticbcoklpgfkhaa
