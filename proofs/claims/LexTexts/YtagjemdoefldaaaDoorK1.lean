/- Some texts in one: each opens with its own remark. -/
import Derived.Test.YtagjemdoefldaaaDoorShelf
import Derived.Test.YtagjemdoefldaaaDoorRows
import Derived.WalkKit
import Derived.WalkSpells
import Derived.WalkLawsBesides
import Derived.BigCall
import Derived.Deep.QuietTactic
import Derived.BigQuiet
import Derived.WalkMore
/- Contracts of utf.broken, utf.Valid and utf.Compare at this program's own numbers: each returns what the plain functions below say, for every text; nothing that was there is changed. -/
namespace Go.Proofs.YtagjemdoefldaaaDoor
open Go.RowKit

def brokenB (s : ByteArray) (p : Nat) (r : Int) : Bool := (r == 65533) && !(Lib.hasPrefix (List.take (s.size - p) (List.drop p s.data.toList)) [239, 191, 189])

theorem ret_bool {a b : Bool} (h : a = b) : Ending.returned (.bool a) = .returned (.bool b) := by rw [h]

theorem brokenB_yes (s : ByteArray) (p : Nat) : brokenB s p 65533 = !(Lib.hasPrefix (List.take (s.size - p) (List.drop p s.data.toList)) [239, 191, 189]) := by
  unfold brokenB; simp
theorem brokenB_no (s : ByteArray) (p : Nat) (r : Int) (h : r ≠ 65533) : brokenB s p r = false := by
  unfold brokenB; simp [h]

set_option maxHeartbeats 400000 in
theorem broken_any (s : ByteArray) (p : Nat) (r : Int) (w : World) (_hs : s.size ≤ maxLen) (hp : p ≤ s.size) :
    Calls Tryd.prog 60 #[.string s, .int .i64 p, .int .i32 r] w fun e w' => e = .returned (.bool (brokenB s p r)) ∧ w' = w := by
  by_cases hr : r = 65533
  · subst hr
    go_enter Tryd.func60, Tryd.ntmps60
    go_wp2_with fail
    refine (Tryd.strings_HasPrefix _ _ _).mono ?_
    rintro e w' ⟨rfl, rfl⟩
    go_wp2_with fail
    go_ret
    exact ⟨ret_bool (brokenB_yes s p).symm, rfl⟩
  · have hb : (r == 65533) = false := by simp [hr]
    go_enter Tryd.func60, Tryd.ntmps60
    go_wp2_with fail
    go_ret
    exact ⟨ret_bool (brokenB_no s p r hr).symm, rfl⟩

def validFrom (s : ByteArray) : Nat → Nat → Bool
  | 0, _ => true
  | fuel + 1, pos => if pos < s.size then (if brokenB s pos (Utf8.decode s pos).1 = true then false else validFrom s fuel (pos + (Utf8.decode s pos).2)) else true
def validB (s : ByteArray) : Bool := validFrom s s.size 0

theorem width_pos (s : ByteArray) (pos : Nat) (h : pos < s.size) : 1 ≤ (Utf8.decode s pos).2 := by
  by_cases ha : (s[pos]'h).toNat < 128
  · rw [decode_ascii s pos h ha]
    exact Nat.le_refl _
  · exact (decode_high s pos h (by omega)).2

theorem validFrom_end (s : ByteArray) (fuel pos : Nat) (h : ¬ pos < s.size) : validFrom s fuel pos = true := by
  cases fuel with
  | zero => rfl
  | succ f => simp [validFrom, h]

def cmpE (a b : ByteArray) : Int := if validB a = true ∧ validB b = true then 0 else 11
def cmpV (a b : ByteArray) : Int := if validB a = true ∧ validB b = true then Lib.compareBytes a.data.toList b.data.toList else 0

end Go.Proofs.YtagjemdoefldaaaDoor

/- A law on a function's scope in which the run jumps by goto, forward or back, at most n times: it is walked on at the label; no condition but that bound. -/
namespace Go.Proofs.YtagjemdoefldaaaDoor
open Go.RowKit

def jumpsTo (P : Program) (c : Code) (Q : Exit → Act → World → Prop) : Nat → Exit → Act → World → Prop
  | 0, .goto _, _, _ => False
  | n + 1, .goto l, a, w => ∃ rest, findLabel c l = some rest ∧ rest.wp P (jumpsTo P c Q n) a w
  | _, .normal, a, w => Q .normal a w
  | _, .exit id, a, w => Q (.exit id) a w
  | _, .ret, a, w => Q .ret a w
  | _, .panic ch, a, w => Q (.panic ch) a w
  | _, .outgrown, a, w => Q .outgrown a w

theorem wp_scope_fuel {P : Program} {Q : Exit → Act → World → Prop} {c : Code} (n : Nat) {a : Act} {w : World} (h : c.wp P (jumpsTo P c Q n) a w) : (Code.scope c).wp P Q a w := by
  intro b k cs
  have key : ∀ (n : Nat) (x : Code) (a : Act) (w : World), x.wp P (jumpsTo P c Q n) a w → ∃ e a' w', Q e a' w' ∧ Arrives P (lone (b.at a (.code x :: .inScope c :: k)) cs w) b k cs e a' w' := by
    intro n
    induction n with
    | zero =>
      intro x a w hx
      obtain ⟨e, a₁, w₁, hq, harr⟩ := hx b (.inScope c :: k) cs
      cases e with
      | normal => exact ⟨.normal, a₁, w₁, hq, Steps.trans harr (.one step_inScope)⟩
      | exit id => exact ⟨.exit id, a₁, w₁, hq, fun k' hk => harr k' (by simp [exitTo, hk])⟩
      | goto l => exact hq.elim
      | ret => exact ⟨_, a₁, w₁, hq, harr⟩
      | panic ch => exact ⟨_, a₁, w₁, hq, harr⟩
      | outgrown => exact ⟨_, a₁, w₁, hq, harr⟩
    | succ m ih =>
      intro x a w hx
      obtain ⟨e, a₁, w₁, hq, harr⟩ := hx b (.inScope c :: k) cs
      cases e with
      | normal => exact ⟨.normal, a₁, w₁, hq, Steps.trans harr (.one step_inScope)⟩
      | exit id => exact ⟨.exit id, a₁, w₁, hq, fun k' hk => harr k' (by simp [exitTo, hk])⟩
      | goto l =>
        obtain ⟨rest, hf, hr⟩ := hq
        obtain ⟨e₂, a₂, w₂, hq₂, harr₂⟩ := ih rest a₁ w₁ hr
        have hg : gotoIn l (.inScope c :: k) = some (.code rest :: .inScope c :: k) := by simp [gotoIn, hf]
        exact ⟨e₂, a₂, w₂, hq₂, .of_steps (harr _ hg) harr₂⟩
      | ret => exact ⟨_, a₁, w₁, hq, harr⟩
      | panic ch => exact ⟨_, a₁, w₁, hq, harr⟩
      | outgrown => exact ⟨_, a₁, w₁, hq, harr⟩
  obtain ⟨e, a₁, w₁, hq, harr⟩ := key n c a w h
  exact ⟨e, a₁, w₁, hq, .of_steps (.one step_scope) harr⟩

theorem wp_scope_abs {P : Program} {Q : Exit → Act → World → Prop} {c : Code} (n : Nat) {a : Act} {w : World}
    (h : ∀ J : Nat → Exit → Act → World → Prop, Hid (∀ m a w, Q .ret a w → J m .ret a w) → Hid (∀ m a w, Q .normal a w → J m .normal a w) → Hid (∀ m l rest a w, findLabel c l = some rest → rest.wp P (J m) a w → J (m + 1) (.goto l) a w) →
      c.wp P (J n) a w) : (Code.scope c).wp P Q a w := by
  refine wp_scope_fuel n (h (jumpsTo P c Q) ?_ ?_ ?_)
  · intro m a w hq
    cases m <;> exact hq
  · intro m a w hq
    cases m <;> exact hq
  · intro m l rest a w hf hr
    exact ⟨rest, hf, hr⟩

/-- The same with the labels behind a name, for a scope that is gone through again and again. -/
theorem wp_scope_named {P : Program} {Q : Exit → Act → World → Prop} {c : Code} (n : Nat) {a : Act} {w : World}
    (h : ∀ (J : Nat → Exit → Act → World → Prop) (L : Nat → Option Code), Hid (∀ l, L l = findLabel c l) → Hid (∀ m a w, Q .ret a w → J m .ret a w) → Hid (∀ m l rest a w, L l = some rest → rest.wp P (J m) a w → J (m + 1) (.goto l) a w) →
      c.wp P (J n) a w) : (Code.scope c).wp P Q a w := by
  refine wp_scope_fuel n (h (jumpsTo P c Q) (findLabel c) (fun _ => rfl) ?_ ?_)
  · intro m a w hq
    cases m <;> exact hq
  · intro m l rest a w hf hr
    exact ⟨rest, hf, hr⟩
end Go.Proofs.YtagjemdoefldaaaDoor

/- Contract of utf.writePart: it writes the part that stands for a character of at most 127 (a letter, a number or itself); nothing else that was there is changed. -/
namespace Go.Proofs.YtagjemdoefldaaaDoor
open Go.RowKit

def hexB (n : Nat) : UInt8 := [48, 49, 50, 51, 52, 53, 54, 55, 56, 57, 97, 98, 99, 100, 101, 102].getD n 0

def partOf (r : Int) : List UInt8 :=
  if r = 34 then [92, 34] else if r = 92 then [92, 92] else if r = 8 then [92, 98] else if r = 12 then [92, 102] else if r = 10 then [92, 110] else if r = 13 then [92, 114] else if r = 9 then [92, 116]
  else if r < 32 ∨ r = 127 then [92, 117, 48, 48, hexB (r.toNat / 16), hexB (r.toNat % 16)] else Lib.encodeRune r

theorem partOf_plain (r : Int) (h0 : 32 ≤ r) (h1 : r ≠ 127) (hq : r ≠ 34) (hq2 : r ≠ 92) : partOf r = Lib.encodeRune r := by
  unfold partOf
  rw [if_neg hq, if_neg hq2, if_neg (by omega), if_neg (by omega), if_neg (by omega), if_neg (by omega), if_neg (by omega), if_neg (by omega)]

set_option maxRecDepth 10000 in
theorem idx_none (r : Int) (h0 : 0 ≤ r) (h1 : r < 128) (a : r ≠ 34) (b : r ≠ 92) (c : r ≠ 8) (d : r ≠ 12) (e : r ≠ 10) (f : r ≠ 13) (g : r ≠ 9) : Lib.indexByte [34, 92, 8, 12, 10, 13, 9] (UInt8.ofNat r.toNat) = -1 := by
  have key : ∀ n : Nat, n < 128 → (n = 34 ∨ n = 92 ∨ n = 8 ∨ n = 12 ∨ n = 10 ∨ n = 13 ∨ n = 9) ∨ Lib.indexByte [34, 92, 8, 12, 10, 13, 9] (UInt8.ofNat n) = -1 := by decide
  exact (key r.toNat (by omega)).resolve_left (by omega)

set_option maxHeartbeats 4000000 in
set_option maxRecDepth 1000000 in
theorem writePart_plain (B b : Nat) (acc : List UInt8) (r : Int) (w : World) (hI : Lib.IsBuilderF 53 5 B b (Lib.byteCells acc) w) (h0 : 32 ≤ r) (h1 : r < 127) (hq : r ≠ 34) (hq2 : r ≠ 92) (hlen : acc.length + 6 ≤ 140737488355328) (hBw : B ≤ w.heap.size) :
    Calls Tryd.prog 61 #[.pointer (some ⟨b, 0, none⟩), .int .i32 r] w fun e w' => e = .returned (.tuple #[]) ∧ Lib.IsBuilderF 53 5 B b (Lib.byteCells (acc ++ partOf r)) w' ∧ Below B w w' ∧ Lib.OthersKept 5 (some b) w w' := by
  have hb1 : decide (r < 32) = false := by simp; omega
  have hb2 : (r == 127) = false := by simp; omega
  have hidx := idx_none r (by omega) (by omega) hq hq2 (by omega) (by omega) (by omega) (by omega) (by omega)
  rw [partOf_plain r h0 (by omega) hq hq2]
  go_enter Tryd.func61, Tryd.ntmps61
  go_wp2_with fail
  refine wp_scope_abs 0 ?_
  intro J hret hnor hgo
  go_wp2_with fail
  refine (Tryd.strings_IndexRune_ascii _ _ _ (by omega) (by omega)).mono ?_
  rintro e w' ⟨rfl, rfl⟩
  go_wp2_with fail
  refine (Tryd.Builder_WriteRune_k B b _ r (by omega) (by omega) _ hI (by rw [Lib.byteCells_length]; omega) hBw).mono ?_
  rintro e W1 ⟨rfl, k1, k2, k3⟩
  go_wp2_with fail
  refine hret.out _ _ _ ?_
  refine bodyPost_ret (results_none rfl _ _ _) rfl ?_
  exact ⟨rfl, by rw [Lib.byteCells_append, Lib.byteCells_encodeRune]; exact Or.inr k1, k2, k3⟩

set_option maxHeartbeats 4000000 in
set_option maxRecDepth 1000000 in
theorem writePart_letter1 (B b : Nat) (acc : List UInt8) (r : Int) (k : Nat) (w : World) (hI : Lib.IsBuilderF 53 5 B b (Lib.byteCells acc) w) (h0 : 0 ≤ r) (h1 : r < 128) (hk : k < 7)
    (hidx : Lib.indexByte [34, 92, 8, 12, 10, 13, 9] (UInt8.ofNat r.toNat) = (k : Int)) (hp : Hid (Lib.byteCells (partOf r) = [.int .u8 92, .int .u8 ((⟨#[34, 92, 98, 102, 110, 114, 116]⟩ : ByteArray)[k]'hk).toNat])) (hlen : acc.length + 6 ≤ 140737488355328) (hBw : B ≤ w.heap.size) :
    Calls Tryd.prog 61 #[.pointer (some ⟨b, 0, none⟩), .int .i32 r] w fun e w' => e = .returned (.tuple #[]) ∧ Lib.IsBuilderF 53 5 B b (Lib.byteCells (acc ++ partOf r)) w' ∧ Below B w w' ∧ Lib.OthersKept 5 (some b) w w' := by
  go_enter Tryd.func61, Tryd.ntmps61
  go_wp2_with fail
  refine wp_scope_abs 1 ?_
  intro J hret hnor hgo
  go_wp2_with fail
  refine (Tryd.strings_IndexRune_ascii _ _ _ (by omega) (by omega)).mono ?_
  rintro e w' ⟨rfl, rfl⟩
  go_wp2_with fail
  go_step3
  refine hgo.out 0 0 _ _ _ rfl ?_
  clear hgo
  go_wp2_with fail
  refine (Tryd.Builder_WriteByte_k B b _ _ _ hI (by rw [Lib.byteCells_length]; omega) hBw).mono ?_
  rintro e W1 ⟨rfl, k1, k2, k3⟩
  go_wp2_with fail
  refine (Tryd.Builder_WriteByte_k B b _ _ _ (Or.inr k1) (by simp [Lib.byteCells_length]; omega) (Nat.le_trans hBw k2.size)).mono ?_
  rintro e W2 ⟨rfl, m1, m2, m3⟩
  go_wp2_with fail
  refine hret.out _ _ _ ?_
  refine bodyPost_ret (results_none rfl _ _ _) rfl ?_
  refine ⟨rfl, ?_, k2.trans m2, k3.trans m3⟩
  rw [Lib.byteCells_append, hp.out]
  refine Or.inr ?_
  simpa using m1

theorem writePart_letter (B b : Nat) (acc : List UInt8) (r : Int) (w : World) (hI : Lib.IsBuilderF 53 5 B b (Lib.byteCells acc) w) (h : r = 34 ∨ r = 92 ∨ r = 8 ∨ r = 12 ∨ r = 10 ∨ r = 13 ∨ r = 9) (hlen : acc.length + 6 ≤ 140737488355328) (hBw : B ≤ w.heap.size) :
    Calls Tryd.prog 61 #[.pointer (some ⟨b, 0, none⟩), .int .i32 r] w fun e w' => e = .returned (.tuple #[]) ∧ Lib.IsBuilderF 53 5 B b (Lib.byteCells (acc ++ partOf r)) w' ∧ Below B w w' ∧ Lib.OthersKept 5 (some b) w w' := by
  rcases h with rfl | rfl | rfl | rfl | rfl | rfl | rfl
  · exact writePart_letter1 B b acc 34 0 w hI (by decide) (by decide) (by decide) (by decide) (show _ = _ from rfl) hlen hBw
  · exact writePart_letter1 B b acc 92 1 w hI (by decide) (by decide) (by decide) (by decide) (show _ = _ from rfl) hlen hBw
  · exact writePart_letter1 B b acc 8 2 w hI (by decide) (by decide) (by decide) (by decide) (show _ = _ from rfl) hlen hBw
  · exact writePart_letter1 B b acc 12 3 w hI (by decide) (by decide) (by decide) (by decide) (show _ = _ from rfl) hlen hBw
  · exact writePart_letter1 B b acc 10 4 w hI (by decide) (by decide) (by decide) (by decide) (show _ = _ from rfl) hlen hBw
  · exact writePart_letter1 B b acc 13 5 w hI (by decide) (by decide) (by decide) (by decide) (show _ = _ from rfl) hlen hBw
  · exact writePart_letter1 B b acc 9 6 w hI (by decide) (by decide) (by decide) (by decide) (show _ = _ from rfl) hlen hBw

set_option maxRecDepth 10000 in
theorem and15 (r : Int) (h0 : 0 ≤ r) (h1 : r < 128) : bits BinOp.and IntKind.i32 r 15 = r % 16 := by
  have key : ∀ n : Nat, n < 128 → bits BinOp.and IntKind.i32 (n : Int) 15 = (n : Int) % 16 := by decide
  have := key r.toNat (by omega)
  rwa [Int.toNat_of_nonneg h0] at this

theorem hex_lit (k : Nat) (h : k < 16) : (⟨#[48, 49, 50, 51, 52, 53, 54, 55, 56, 57, 97, 98, 99, 100, 101, 102]⟩ : ByteArray)[k]'h = hexB k := by
  have key : ∀ k : Nat, (h : k < 16) → (⟨#[48, 49, 50, 51, 52, 53, 54, 55, 56, 57, 97, 98, 99, 100, 101, 102]⟩ : ByteArray)[k]'h = hexB k := by decide
  exact key k h

theorem number_cells (acc : List UInt8) (r : Int) (h0 : 0 ≤ r) (h1 : r < 128) (ha : (r / 16).toNat < 16) (hb : (r % 16).toNat < 16) :
    Lib.byteCells (acc ++ [92, 117, 48, 48, hexB (r.toNat / 16), hexB (r.toNat % 16)]) = Lib.byteCells acc ++ Lib.strCells ⟨#[92, 117, 48, 48]⟩ ++ [Value.int .u8 ((⟨#[48, 49, 50, 51, 52, 53, 54, 55, 56, 57, 97, 98, 99, 100, 101, 102]⟩ : ByteArray)[(r / 16).toNat]'ha).toNat] ++ [Value.int .u8 ((⟨#[48, 49, 50, 51, 52, 53, 54, 55, 56, 57, 97, 98, 99, 100, 101, 102]⟩ : ByteArray)[(r % 16).toNat]'hb).toNat] := by
  rw [hex_lit, hex_lit, show (r / 16).toNat = r.toNat / 16 by omega, show (r % 16).toNat = r.toNat % 16 by omega]
  simp [Lib.byteCells, Lib.strCells]

set_option maxHeartbeats 4000000 in
set_option maxRecDepth 1000000 in
theorem writePart_number (B b : Nat) (acc : List UInt8) (r : Int) (w : World) (hI : Lib.IsBuilderF 53 5 B b (Lib.byteCells acc) w) (h0 : 0 ≤ r) (h1 : r < 32 ∨ r = 127) (c : r ≠ 8) (d : r ≠ 12) (e : r ≠ 10) (f : r ≠ 13) (g : r ≠ 9) (hlen : acc.length + 6 ≤ 140737488355328) (hBw : B ≤ w.heap.size) :
    Calls Tryd.prog 61 #[.pointer (some ⟨b, 0, none⟩), .int .i32 r] w fun e w' => e = .returned (.tuple #[]) ∧ Lib.IsBuilderF 53 5 B b (Lib.byteCells (acc ++ partOf r)) w' ∧ Below B w w' ∧ Lib.OthersKept 5 (some b) w w' := by
  have hidx := idx_none r (by omega) (by omega) (by omega) (by omega) c d e f g
  have hP : Hid (partOf r = [92, 117, 48, 48, hexB (r.toNat / 16), hexB (r.toNat % 16)]) := by
    show partOf r = _
    unfold partOf
    rw [if_neg (by omega), if_neg (by omega), if_neg (by omega), if_neg (by omega), if_neg (by omega), if_neg (by omega), if_neg (by omega), if_pos h1]
  have hlt : r < 128 := by omega
  have h15 := and15 r h0 hlt
  have hba : (r / 16).toNat < 16 := by omega
  have hbb : (r % 16).toNat < 16 := by omega
  have hC := number_cells acc r h0 hlt hba hbb
  have HC : Hid (_ = _) := hC
  clear hC
  by_cases hb : r < 32
  · have hb1 : decide (r < 32) = true := by simp; omega
    go_enter Tryd.func61, Tryd.ntmps61
    go_wp2_with fail
    refine wp_scope_abs 1 ?_
    intro J hret hnor hgo
    go_wp2_with fail
    refine (Tryd.strings_IndexRune_ascii _ _ _ (by omega) (by omega)).mono ?_
    rintro e w' ⟨rfl, rfl⟩
    go_wp2_with fail
    go_step3
    refine hgo.out 0 1 _ _ _ rfl ?_
    clear hgo
    go_wp2_with fail
    refine (Tryd.Builder_WriteString_k B b _ _ _ hI (by rw [Lib.byteCells_length]; show _ + 4 ≤ _; omega) hBw).mono ?_
    rintro e W1 ⟨rfl, k1, k2, k3⟩
    go_wp2_with fail
    refine (Tryd.Builder_WriteByte_k B b _ _ _ (Or.inr k1) (by simp [Lib.byteCells_length, Lib.strCells]; omega) (Nat.le_trans hBw k2.size)).mono ?_
    rintro e W2 ⟨rfl, m1, m2, m3⟩
    go_wp2_with fail
    refine (Tryd.Builder_WriteByte_k B b _ _ _ (Or.inr m1) (by simp [Lib.byteCells_length, Lib.strCells]; omega) (Nat.le_trans hBw (Nat.le_trans k2.size m2.size))).mono ?_
    rintro e W3 ⟨rfl, n1, n2, n3⟩
    go_wp2_with fail
    refine hnor.out _ _ _ ?_
    refine bodyPost_end (results_none rfl _ _ _) rfl ?_
    refine ⟨rfl, ?_, k2.trans (m2.trans n2), k3.trans (m3.trans n3)⟩
    rw [hP.out, HC.out]
    exact Or.inr n1
  · have hb1 : decide (r < 32) = false := by simp; omega
    have hb2 : (r == 127) = true := by simp; omega
    have h127 : 127 ≤ r := by omega
    go_enter Tryd.func61, Tryd.ntmps61
    go_wp2_with fail
    refine wp_scope_abs 1 ?_
    intro J hret hnor hgo
    go_wp2_with fail
    refine (Tryd.strings_IndexRune_ascii _ _ _ (by omega) (by omega)).mono ?_
    rintro e w' ⟨rfl, rfl⟩
    go_wp2_with fail
    go_step3
    refine hgo.out 0 1 _ _ _ rfl ?_
    clear hgo
    go_wp2_with fail
    refine (Tryd.Builder_WriteString_k B b _ _ _ hI (by rw [Lib.byteCells_length]; show _ + 4 ≤ _; omega) hBw).mono ?_
    rintro e W1 ⟨rfl, k1, k2, k3⟩
    go_wp2_with fail
    refine (Tryd.Builder_WriteByte_k B b _ _ _ (Or.inr k1) (by simp [Lib.byteCells_length, Lib.strCells]; omega) (Nat.le_trans hBw k2.size)).mono ?_
    rintro e W2 ⟨rfl, m1, m2, m3⟩
    go_wp2_with fail
    refine (Tryd.Builder_WriteByte_k B b _ _ _ (Or.inr m1) (by simp [Lib.byteCells_length, Lib.strCells]; omega) (Nat.le_trans hBw (Nat.le_trans k2.size m2.size))).mono ?_
    rintro e W3 ⟨rfl, n1, n2, n3⟩
    go_wp2_with fail
    refine hnor.out _ _ _ ?_
    refine bodyPost_end (results_none rfl _ _ _) rfl ?_
    refine ⟨rfl, ?_, k2.trans (m2.trans n2), k3.trans (m3.trans n3)⟩
    rw [hP.out, HC.out]
    exact Or.inr n1

theorem writePart_ascii (B b : Nat) (acc : List UInt8) (r : Int) (w : World) (hI : Lib.IsBuilderF 53 5 B b (Lib.byteCells acc) w) (h0 : 0 ≤ r) (h1 : r < 128) (hlen : acc.length + 6 ≤ 140737488355328) (hBw : B ≤ w.heap.size) :
    Calls Tryd.prog 61 #[.pointer (some ⟨b, 0, none⟩), .int .i32 r] w fun e w' => e = .returned (.tuple #[]) ∧ Lib.IsBuilderF 53 5 B b (Lib.byteCells (acc ++ partOf r)) w' ∧ Below B w w' ∧ Lib.OthersKept 5 (some b) w w' := by
  by_cases hL : r = 34 ∨ r = 92 ∨ r = 8 ∨ r = 12 ∨ r = 10 ∨ r = 13 ∨ r = 9
  · exact writePart_letter B b acc r w hI hL hlen hBw
  · by_cases hN : r < 32 ∨ r = 127
    · exact writePart_number B b acc r w hI h0 hN (by omega) (by omega) (by omega) (by omega) (by omega) hlen hBw
    · exact writePart_plain B b acc r w hI (by omega) (by omega) (by omega) (by omega) hlen hBw
end Go.Proofs.YtagjemdoefldaaaDoor

/- Contract of strings.IndexRune at the seven characters that utf writes with a letter, for every rune from 128 on that is a character: none of the seven. -/
namespace Go.Proofs.YtagjemdoefldaaaDoor
open Go.RowKit

theorem tail_none (c : UInt8) (h : 128 ≤ (c.toNat : Int)) (l : List UInt8) (hl : ∀ b ∈ l, b.toNat < 128) : Lib.indexByte l c = -1 := by
  induction l with
  | nil => rfl
  | cons b l ih =>
    have hb := hl b (by simp)
    have hbc : (b == c) = false := by
      rw [beq_eq_false_iff_ne]; intro e; subst e; omega
    have := ih (fun x hx => hl x (by simp [hx]))
    simp [Lib.indexByte, hbc, this]

set_option maxHeartbeats 4000000 in
set_option maxRecDepth 1000000 in
theorem indexRune_high1 (r : Int) (w : World) (h0 : 128 ≤ r) (h1 : r ≠ 65533) (hv : Lib.validRune r = true) (hk : (Utf8.encode r).size = 2) (hks : 1 < (Utf8.encode r).size) (el : 128 ≤ (((Utf8.encode r)[1]'hks).toNat : Int)) :
    Calls Tryd.prog 32 #[.string ⟨#[34, 92, 8, 12, 10, 13, 9]⟩, .int .i32 r] w fun e w' => e = .returned (.int .i64 (-1)) ∧ ∃ n, w' = w.drewN n := by
  have hb1 : (r == 65533) = false := by simp [h1]
  have hb2 : decide (r < 128) = false := by simp; omega
  have hb3 : decide (0 ≤ r) = true := by simp; omega
  have hne : ((((⟨#[34, 92, 8, 12, 10, 13, 9]⟩ : ByteArray)[1]'(by decide)).toNat : Int) != (((Utf8.encode r)[1]'hks).toNat : Int)) = true := by
    rw [bne_iff_ne]
    have : (((⟨#[34, 92, 8, 12, 10, 13, 9]⟩ : ByteArray)[1]'(by decide)).toNat : Int) < 128 := by decide
    omega
  have hix : Lib.indexByte [8, 12, 10, 13, 9] ((Utf8.encode r)[1]'hks) = -1 := tail_none _ el _ (by decide)
  have w2 : IntKind.i64.wrap 2 = 2 := by decide
  go_enter Tryd.func32, Tryd.ntmps32
  go_wp2_with (go_at_call 48; refine (Tryd.utf8_ValidRune _ _).mono ?_; rintro e w' ⟨rfl, rfl⟩)
  refine wp_scope_abs 0 ?_
  intro J hret hnor hgo
  clear hgo
  go_wp2
  go_loop [9] (fun i => i = .int .i64 1) (fun _ => 0)
  case atStart => rfl
  case round =>
    subst hrel
    go_wp2
    go_step3
    go_wp2
    go_quiet (fail)
    generalize hw1 : World.drewN _ nq = w1
    have Hw1 : Hid (World.drewN _ nq = w1) := hw1
    clear hw1
    go_wp2
    go_quiet ((go_at_call 47; exact Calls.quiet_of_same (Tryd.strings_IndexByte _ _ _)))
    go_wp2
    rw [Exit.noGoto_ret]
    refine hret.out _ _ _ ?_
    go_ret
    rw [← Hw1.out, World.drewN_drewN]
    exact ⟨rfl, _, rfl⟩

set_option maxHeartbeats 4000000 in
set_option maxRecDepth 1000000 in
theorem indexRune_high2 (r : Int) (w : World) (h0 : 128 ≤ r) (h1 : r ≠ 65533) (hv : Lib.validRune r = true) (hk : (Utf8.encode r).size = 3) (hks : 2 < (Utf8.encode r).size) (el : 128 ≤ (((Utf8.encode r)[2]'hks).toNat : Int)) :
    Calls Tryd.prog 32 #[.string ⟨#[34, 92, 8, 12, 10, 13, 9]⟩, .int .i32 r] w fun e w' => e = .returned (.int .i64 (-1)) ∧ ∃ n, w' = w.drewN n := by
  have hb1 : (r == 65533) = false := by simp [h1]
  have hb2 : decide (r < 128) = false := by simp; omega
  have hb3 : decide (0 ≤ r) = true := by simp; omega
  have hne : ((((⟨#[34, 92, 8, 12, 10, 13, 9]⟩ : ByteArray)[2]'(by decide)).toNat : Int) != (((Utf8.encode r)[2]'hks).toNat : Int)) = true := by
    rw [bne_iff_ne]
    have : (((⟨#[34, 92, 8, 12, 10, 13, 9]⟩ : ByteArray)[2]'(by decide)).toNat : Int) < 128 := by decide
    omega
  have hix : Lib.indexByte [12, 10, 13, 9] ((Utf8.encode r)[2]'hks) = -1 := tail_none _ el _ (by decide)
  have w2 : IntKind.i64.wrap 3 = 3 := by decide
  go_enter Tryd.func32, Tryd.ntmps32
  go_wp2_with (go_at_call 48; refine (Tryd.utf8_ValidRune _ _).mono ?_; rintro e w' ⟨rfl, rfl⟩)
  refine wp_scope_abs 0 ?_
  intro J hret hnor hgo
  clear hgo
  go_wp2
  go_loop [9] (fun i => i = .int .i64 2) (fun _ => 0)
  case atStart => rfl
  case round =>
    subst hrel
    go_wp2
    go_step3
    go_wp2
    go_quiet (fail)
    generalize hw1 : World.drewN _ nq = w1
    have Hw1 : Hid (World.drewN _ nq = w1) := hw1
    clear hw1
    go_wp2
    go_quiet ((go_at_call 47; exact Calls.quiet_of_same (Tryd.strings_IndexByte _ _ _)))
    go_wp2
    rw [Exit.noGoto_ret]
    refine hret.out _ _ _ ?_
    go_ret
    rw [← Hw1.out, World.drewN_drewN]
    exact ⟨rfl, _, rfl⟩

set_option maxHeartbeats 4000000 in
set_option maxRecDepth 1000000 in
theorem indexRune_high3 (r : Int) (w : World) (h0 : 128 ≤ r) (h1 : r ≠ 65533) (hv : Lib.validRune r = true) (hk : (Utf8.encode r).size = 4) (hks : 3 < (Utf8.encode r).size) (el : 128 ≤ (((Utf8.encode r)[3]'hks).toNat : Int)) :
    Calls Tryd.prog 32 #[.string ⟨#[34, 92, 8, 12, 10, 13, 9]⟩, .int .i32 r] w fun e w' => e = .returned (.int .i64 (-1)) ∧ ∃ n, w' = w.drewN n := by
  have hb1 : (r == 65533) = false := by simp [h1]
  have hb2 : decide (r < 128) = false := by simp; omega
  have hb3 : decide (0 ≤ r) = true := by simp; omega
  have hne : ((((⟨#[34, 92, 8, 12, 10, 13, 9]⟩ : ByteArray)[3]'(by decide)).toNat : Int) != (((Utf8.encode r)[3]'hks).toNat : Int)) = true := by
    rw [bne_iff_ne]
    have : (((⟨#[34, 92, 8, 12, 10, 13, 9]⟩ : ByteArray)[3]'(by decide)).toNat : Int) < 128 := by decide
    omega
  have hix : Lib.indexByte [10, 13, 9] ((Utf8.encode r)[3]'hks) = -1 := tail_none _ el _ (by decide)
  have w2 : IntKind.i64.wrap 4 = 4 := by decide
  go_enter Tryd.func32, Tryd.ntmps32
  go_wp2_with (go_at_call 48; refine (Tryd.utf8_ValidRune _ _).mono ?_; rintro e w' ⟨rfl, rfl⟩)
  refine wp_scope_abs 0 ?_
  intro J hret hnor hgo
  clear hgo
  go_wp2
  go_loop [9] (fun i => i = .int .i64 3) (fun _ => 0)
  case atStart => rfl
  case round =>
    subst hrel
    go_wp2
    go_step3
    go_wp2
    go_quiet (fail)
    generalize hw1 : World.drewN _ nq = w1
    have Hw1 : Hid (World.drewN _ nq = w1) := hw1
    clear hw1
    go_wp2
    go_quiet ((go_at_call 47; exact Calls.quiet_of_same (Tryd.strings_IndexByte _ _ _)))
    go_wp2
    rw [Exit.noGoto_ret]
    refine hret.out _ _ _ ?_
    go_ret
    rw [← Hw1.out, World.drewN_drewN]
    exact ⟨rfl, _, rfl⟩

theorem indexRune_high (r : Int) (w : World) (h0 : 128 ≤ r) (h1 : r ≠ 65533) (hv : Lib.validRune r = true) (hu : Utf8.valid r = true) :
    Calls Tryd.prog 32 #[.string ⟨#[34, 92, 8, 12, 10, 13, 9]⟩, .int .i32 r] w fun e w' => e = .returned (.int .i64 (-1)) ∧ ∃ n, w' = w.drewN n := by
  obtain ⟨e2, e4, elast⟩ := encode_facts r hu h0
  have el := elast (by omega)
  clear elast
  have hk : (Utf8.encode r).size = 2 ∨ (Utf8.encode r).size = 3 ∨ (Utf8.encode r).size = 4 := by omega
  rcases hk with hk | hk | hk
  · exact indexRune_high1 r w h0 h1 hv hk (by omega) (by simp only [hk] at el; exact Int.ofNat_le.2 el)
  · exact indexRune_high2 r w h0 h1 hv hk (by omega) (by simp only [hk] at el; exact Int.ofNat_le.2 el)
  · exact indexRune_high3 r w h0 h1 hv hk (by omega) (by simp only [hk] at el; exact Int.ofNat_le.2 el)
end Go.Proofs.YtagjemdoefldaaaDoor
