/- Bytes come back: a good value that was written is read as the same, whatever stands behind; what is read is written as it was read; no value's bytes are another one's beginning. -/
import Derived.Test.YtfnmmpakejdlgaaDoorK18
import Derived.Test.YtfnmmpakejdlgaaDoorK8
import Derived.Test.YtfnmmpakejdlgaaDoorCmp
import Derived.Test.YtfnmmpakejdlgaaDoorK4
import Derived.Test.YtfnmmpakejdlgaaDoorK19
import Derived.Test.YtfnmmpakejdlgaaDoorK19
namespace Go.Proofs.YtfnmmpakejdlgaaDoor
open Go.RowKit

theorem pow9 {k : Nat} (hk : k ≤ 9) : k = 0 ∨ k = 1 ∨ k = 2 ∨ k = 3 ∨ k = 4 ∨ k = 5 ∨ k = 6 ∨ k = 7 ∨ k = 8 ∨ k = 9 := by omega
theorem nOr_add {acc k : Nat} {c : UInt8} (hk : k ≤ 9) (h9 : k = 9 → c.toNat ≤ 1) (ha : acc < 2 ^ (7 * k)) : nOr acc c k = acc + (c.toNat % 128) * 2 ^ (7 * k) := by
  have hlt : (c.toNat % 128) * 2 ^ (7 * k) < 18446744073709551616 := by
    have h1 : c.toNat % 128 < 128 := Nat.mod_lt _ (by omega)
    rcases pow9 hk with rfl | rfl | rfl | rfl | rfl | rfl | rfl | rfl | rfl | rfl
    all_goals first
      | (simp only [Nat.reduceMul, Nat.reducePow]; omega)
      | (have := h9 rfl; simp only [Nat.reduceMul, Nat.reducePow]; omega)
  unfold nOr
  rw [Nat.shiftLeft_eq, Nat.mod_eq_of_lt hlt, Nat.or_comm, Nat.mul_comm, ← Nat.two_pow_add_eq_or_of_lt ha]
  omega
theorem pow_step (k : Nat) : 2 ^ (7 * (k + 1)) = 128 * 2 ^ (7 * k) := by
  rw [show 7 * (k + 1) = 7 + 7 * k by omega, Nat.pow_add]
/-- A varint is read as its number. -/
theorem numR_varint : ∀ (m k acc : Nat) (rest : List UInt8), k ≤ 9 → acc < 2 ^ (7 * k) → m * 2 ^ (7 * k) < 18446744073709551616 → (0 < k → 0 < m) → numR (varint m ++ rest) k acc = (acc + m * 2 ^ (7 * k), k + (varint m).length, 0) := by
  intro m
  induction m using Nat.strongRecOn with
  | ind m ih =>
    intro k acc rest hk ha hm h0
    have e9 : (2 : Nat) ^ (7 * 9) = 9223372036854775808 := by simp only [Nat.reduceMul, Nat.reducePow]
    by_cases h : 128 ≤ m
    · have hk9 : k ≠ 9 := by
        rintro rfl
        rw [e9] at hm
        omega
      have hc : (UInt8.ofNat (m % 128 + 128)).toNat = m % 128 + 128 := by
        simp
        omega
      rw [varint_more h, List.cons_append, numR, hc, if_neg (by omega), if_pos (by omega), nOr_add hk (fun e => absurd e hk9) ha, hc]
      have e1 : (m % 128 + 128) % 128 = m % 128 := by omega
      have hp := pow_step k
      have hm2 : m * 2 ^ (7 * k) = 128 * (m / 128 * 2 ^ (7 * k)) + m % 128 * 2 ^ (7 * k) := by
        conv => lhs; rw [show m = 128 * (m / 128) + m % 128 by omega]
        rw [Nat.add_mul, Nat.mul_assoc]
      have hr : m % 128 * 2 ^ (7 * k) ≤ 127 * 2 ^ (7 * k) := Nat.mul_le_mul_right _ (by omega)
      have hq : m / 128 * (128 * 2 ^ (7 * k)) = 128 * (m / 128 * 2 ^ (7 * k)) := Nat.mul_left_comm _ _ _
      rw [e1, ih (m / 128) (by omega) (k + 1) _ rest (by omega) (by rw [hp]; omega) (by rw [hp, hq]; omega) (by omega), hp, hq, List.length_cons]
      congr 1
      · omega
      · congr 1
        omega
    · have hc : (UInt8.ofNat m).toNat = m := by
        simp
        omega
      have hk9 : k = 9 → m ≤ 1 := by
        rintro rfl
        rw [e9] at hm
        omega
      rw [varint_last h, List.singleton_append, numR, hc, if_neg (by omega), if_neg (by omega), nOr_add hk (by rw [hc]; exact hk9) ha, hc, Nat.mod_eq_of_lt (by omega)]
      rfl
theorem pow_room {k m r : Nat} (hk : k ≤ 8) (h : m * 2 ^ (7 * (k + 1)) < 18446744073709551616) (hr : r < 128) : (r + 128 * m) * 2 ^ (7 * k) < 18446744073709551616 := by
  have e : 2 ^ (7 * (k + 1)) * 2 ^ (57 - 7 * k) = 18446744073709551616 := by
    rw [← Nat.pow_add, show 7 * (k + 1) + (57 - 7 * k) = 64 by omega]
  have h1 : m < 2 ^ (57 - 7 * k) := by
    apply Nat.lt_of_mul_lt_mul_right (a := 2 ^ (7 * (k + 1)))
    rw [Nat.mul_comm (2 ^ (57 - 7 * k)), e]
    exact h
  have h2 : (r + 128 * m) < 2 ^ (64 - 7 * k) := by
    rw [show 64 - 7 * k = 7 + (57 - 7 * k) by omega, Nat.pow_add]
    omega
  have h3 := Nat.mul_lt_mul_of_pos_right h2 (Nat.two_pow_pos (7 * k))
  rw [← Nat.pow_add, show 64 - 7 * k + 7 * k = 64 by omega] at h3
  exact h3
/-- What is read as a number is its varint. -/
theorem numR_inv : ∀ (l : List UInt8) (k acc n k' : Nat), k ≤ 9 → acc < 2 ^ (7 * k) → numR l k acc = (n, k', 0) →
    ∃ m, l.take (k' - k) = varint m ∧ n = acc + m * 2 ^ (7 * k) ∧ m * 2 ^ (7 * k) < 18446744073709551616 ∧ (0 < k → 0 < m) ∧ k < k' ∧ k' - k ≤ l.length := by
  intro l
  induction l with
  | nil => intro k acc n k' _ _ h; simp [numR] at h
  | cons c l ih =>
    intro k acc n k' hk ha h
    have hcl := c.toNat_lt
    rw [numR] at h
    split at h
    · simp at h
    · rename_i h1
      have h9 : k = 9 → c.toNat ≤ 1 := fun e => by
        have : ¬ (k = 9 ∧ 1 < c.toNat) := fun x => h1 (Or.inl x)
        omega
      have hz : 0 < k → 0 < c.toNat := fun e => by
        have : ¬ (0 < k ∧ c.toNat = 0) := fun x => h1 (Or.inr x)
        omega
      rw [nOr_add hk h9 ha] at h
      have hp := pow_step k
      split at h
      · rename_i h2
        have hk8 : k ≤ 8 := by omega
        have hr : c.toNat % 128 * 2 ^ (7 * k) ≤ 127 * 2 ^ (7 * k) := Nat.mul_le_mul_right _ (by omega)
        obtain ⟨m, e1, e2, e3, e4, e5, e6⟩ := ih (k + 1) _ n k' (by omega) (by rw [hp]; omega) h
        have e7 := e4 (by omega)
        refine ⟨c.toNat % 128 + 128 * m, ?_, ?_, pow_room hk8 e3 (by omega), fun _ => by omega, by omega, by simp only [List.length_cons]; omega⟩
        · rw [show k' - k = (k' - (k + 1)) + 1 by omega, List.take_succ_cons, e1, varint_more (n := c.toNat % 128 + 128 * m) (by omega)]
          congr 1
          · apply UInt8.toNat_inj.1
            simp
            omega
          · congr 1
            omega
        · rw [e2, hp, Nat.add_mul, Nat.mul_assoc, Nat.mul_left_comm]
          omega
      · rename_i h2
        simp only [Prod.mk.injEq] at h
        obtain ⟨rfl, rfl, _⟩ := h
        have hm : c.toNat % 128 = c.toNat := Nat.mod_eq_of_lt (by omega)
        refine ⟨c.toNat, ?_, by rw [hm], ?_, hz, by omega, by simp only [List.length_cons]; omega⟩
        · rw [show k + 1 - k = 1 by omega, varint_last (by omega)]
          simp
        · rcases pow9 hk with rfl | rfl | rfl | rfl | rfl | rfl | rfl | rfl | rfl | rfl
          all_goals first
            | (simp only [Nat.reduceMul, Nat.reducePow]; omega)
            | (have := h9 rfl; simp only [Nat.reduceMul, Nat.reducePow]; omega)
theorem num_enc {m : Nat} (h : m < 18446744073709551616) (rest : List UInt8) : numR (varint m ++ rest) 0 0 = (m, (varint m).length, 0) := by
  have := numR_varint m 0 0 rest (by omega) (by simp) (by simpa using h) (by omega)
  simpa using this
theorem num_inv {l : List UInt8} {n k : Nat} (h : numR l 0 0 = (n, k, 0)) : l.take k = varint n ∧ n < 18446744073709551616 ∧ 0 < k ∧ k ≤ l.length := by
  obtain ⟨m, e1, e2, e3, _, e5, e6⟩ := numR_inv l 0 0 n k (by omega) (by simp) h
  have : n = m := by simpa using e2
  subst this
  exact ⟨by simpa using e1, by simpa using e3, e5, by simpa using e6⟩
theorem cnt_enc {n least most : Nat} {er : Int} (h : n < 18446744073709551616) (h1 : least ≤ n) (h2 : n ≤ most) (rest : List UInt8) : cntR (varint n ++ rest) least most er = (n, (varint n).length, 0) := by
  unfold cntR
  rw [num_enc h]
  simp
  omega
theorem cnt_inv {l : List UInt8} {least most : Nat} {er : Int} (he : er ≠ 0) (h : (cntR l least most er).2.2 = 0) :
    l.take (cntR l least most er).2.1 = varint (cntR l least most er).1 ∧ 0 < (cntR l least most er).2.1 ∧ (cntR l least most er).2.1 ≤ l.length ∧ least ≤ (cntR l least most er).1 ∧ (cntR l least most er).1 ≤ most := by
  unfold cntR at h ⊢
  split at h
  · rename_i h1
    exact absurd h h1
  · rename_i h1
    rw [if_neg h1]
    split at h
    · exact absurd h he
    · rename_i h2
      rw [if_neg h2]
      have hx : (numR l 0 0).2.2 = 0 := by simpa using h1
      obtain ⟨e1, e2, e3, e4⟩ := num_inv (l := l) (n := (numR l 0 0).1) (k := (numR l 0 0).2.1) (by rw [← hx])
      exact ⟨e1, e3, e4, by show least ≤ (numR l 0 0).1; omega, by show (numR l 0 0).1 ≤ most; omega⟩
theorem drop_one {l : List UInt8} {p : Nat} {c : UInt8} {t : List UInt8} (h : l.drop p = c :: t) : p < l.length ∧ l.getD p 0 = c ∧ l.drop (p + 1) = t := by
  have hp : p < l.length := by
    by_cases hp : p < l.length
    · exact hp
    · rw [List.drop_eq_nil_of_le (by omega)] at h
      cases h
  rw [List.drop_eq_getElem_cons hp] at h
  simp only [List.cons.injEq] at h
  exact ⟨hp, by rw [← h.1]; simp [hp], h.2⟩
theorem drop_app {l : List UInt8} {p : Nat} {a t : List UInt8} (h : l.drop p = a ++ t) : l.drop (p + a.length) = t := by
  rw [← List.drop_drop, h]
  simp
/-- Kinds as bytes. -/
theorem byteOf_small {k : Int} (h : 0 ≤ k ∧ k ≤ 255) : (byteOf k).toNat = k.toNat := by
  unfold byteOf
  simp
  omega
theorem unf_zig {n : Int} (h : Int64 n) : unfR (zig n).toNat = n ∧ (zig n).toNat < 18446744073709551616 := by
  obtain ⟨h1, h2⟩ := h
  unfold zig
  split
  · refine ⟨?_, by omega⟩
    unfold unfR
    rw [if_pos (by omega)]
    omega
  · refine ⟨?_, by omega⟩
    unfold unfR
    rw [if_neg (by omega)]
    omega
theorem zig_unf {n : Nat} (h : n < 18446744073709551616) : Int64 (unfR n) ∧ (zig (unfR n)).toNat = n := by
  unfold unfR Int64 zig
  split
  · refine ⟨by omega, ?_⟩
    rw [if_pos (by omega)]
    omega
  · refine ⟨by omega, ?_⟩
    rw [if_neg (by omega)]
    omega
theorem takeR_head (l : List UInt8) (d p : Nat) : takeR l d p = headR l p fun doc => if d = 0 then (.nil, 0, 3) else begR (takeR l (d - 1)) l (p + 1) doc := by
  cases d with
  | zero => rfl
  | succ d => rfl
def GV.nOk : GV → Bool
  | .nil => false
  | .mk _ n _ _ _ _ _ _ => decide (-9223372036854775808 ≤ n ∧ n ≤ 9223372036854775807)
/-- A value that can be written and is read again. -/
def Gd (g : GV) : Prop := g.every GV.formed = true ∧ g.every GV.readable = true ∧ g.every GV.limited = true ∧ g.every GV.nOk = true
/-- The parts' bytes. -/
def encP (doc : Bool) (ps : List (ByteArray × GV)) : List UInt8 := ps.flatMap fun x => (if doc = true then encS x.1 else []) ++ x.2.enc
/-- Names that rise, from one on. -/
def up : List UInt8 → List (ByteArray × GV) → Prop
  | _, [] => True
  | prev, x :: ps => Lib.compareBytes prev x.1.data.toList < 0 ∧ up x.1.data.toList ps
def nmOk (x : ByteArray × GV) : Prop := nameFits x.1 = true ∧ validB x.1 = true

theorem ba_eta (s : ByteArray) : (⟨s.data.toList.toArray⟩ : ByteArray) = s := by
  cases s
  simp
theorem text_enc {l : List UInt8} {p : Nat} {s : ByteArray} {rest : List UInt8} (h : l.drop p = s.data.toList ++ rest) (hp : p ≤ l.length) (hv : validB s = true) : textR l p s.size = 0 ∧ (l.drop p).take s.size = s.data.toList := by
  have e : (l.drop p).take s.size = s.data.toList := by
    rw [h, show s.size = s.data.toList.length by simp, List.take_left]
  have hlen : (l.drop p).length = s.size + rest.length := by rw [h]; simp
  rw [List.length_drop] at hlen
  refine ⟨?_, e⟩
  unfold textR
  rw [if_neg (by omega), e, validD_B, ba_eta, if_pos hv]
theorem app_le {l : List UInt8} {p : Nat} {a t : List UInt8} (h : l.drop p = a ++ t) (hp : p ≤ l.length) : p + a.length ≤ l.length := by
  have : (l.drop p).length = a.length + t.length := by rw [h]; simp
  rw [List.length_drop] at this
  omega
theorem encS_len (s : ByteArray) : (encS s).length = (varint s.size).length + s.size := by simp [encS]
/-- A name that was written is read. -/
theorem name_enc {l prev rest : List UInt8} {p : Nat} {s : ByteArray} (h : l.drop p = encS s ++ rest) (hp : p ≤ l.length) (hf : nameFits s = true) (hv : validB s = true) (hc : Lib.compareBytes prev s.data.toList < 0) :
    nameR l p prev = (s.data.toList, p + (encS s).length, 0) := by
  have hf2 : s.size ≠ 0 ∧ s.size ≤ 24 := of_decide_eq_true hf
  have h1 : l.drop p = varint s.size ++ (s.data.toList ++ rest) := by rw [h, encS, List.append_assoc]
  have h2 := drop_app h1
  obtain ⟨t1, t2⟩ := text_enc h2 (app_le h1 hp) hv
  unfold nameR
  rw [h1, cnt_enc (by omega) (by omega) hf2.2]
  simp only [ne_eq, not_true_eq_false, if_false]
  rw [if_neg (by rw [t1]; simp), t2, if_neg (by omega), encS_len, Nat.add_assoc]
/-- The parts that were written are read. -/
theorem parts_enc (f : Nat → GV × Nat × Int) (l : List UInt8) (doc : Bool) : ∀ (ps : List (ByteArray × GV)),
    (∀ x ∈ ps, ∀ p rest, p ≤ l.length → l.drop p = x.2.enc ++ rest → ∃ g', f p = (g', p + x.2.enc.length, 0) ∧ g'.same x.2 = true) → (doc = true → ∀ x ∈ ps, nmOk x) →
    ∀ (p : Nat) (acc : List (ByteArray × GV)) (prev rest : List UInt8), p ≤ l.length → l.drop p = encP doc ps ++ rest → (doc = true → up prev ps) →
    ∃ qs, partsR f l doc ps.length p acc prev = (acc ++ qs, p + (encP doc ps).length, 0) ∧ qs.length = ps.length ∧ ∀ i (h : i < ps.length) (h' : i < qs.length), (qs[i]'h').2.same (ps[i]'h).2 = true ∧ (doc = true → (qs[i]'h').1 = (ps[i]'h).1) := by
  intro ps
  induction ps with
  | nil =>
    intro _ _ p acc prev rest _ _ _
    exact ⟨[], by simp [partsR, encP], rfl, fun i h => absurd h (Nat.not_lt_zero _)⟩
  | cons x ps ih =>
    intro hf hn p acc prev rest hp hd hu
    have e0 : encP doc (x :: ps) = (if doc = true then encS x.1 else []) ++ (x.2.enc ++ encP doc ps) := by simp [encP, List.append_assoc]
    have hd1 : l.drop p = (if doc = true then encS x.1 else []) ++ (x.2.enc ++ (encP doc ps ++ rest)) := by rw [hd, e0]; simp [List.append_assoc]
    have hq : ∃ nm : List UInt8, (if doc = true then nameR l p prev else (prev, p, 0)) = (nm, p + (if doc = true then encS x.1 else []).length, 0) ∧ (doc = true → nm = x.1.data.toList) := by
      cases doc with
      | true =>
        simp only [if_true] at hd1 ⊢
        refine ⟨x.1.data.toList, ?_, fun _ => rfl⟩
        exact name_enc hd1 hp (hn rfl x (by simp)).1 (hn rfl x (by simp)).2 (hu rfl).1
      | false => exact ⟨prev, by simp, fun h => by cases h⟩
    obtain ⟨nm, hq1, hq2⟩ := hq
    have hd2 := drop_app hd1
    have hp2 := app_le hd1 hp
    obtain ⟨g', hg1, hg2⟩ := hf x (by simp) _ _ hp2 hd2
    have hd3 := drop_app hd2
    have hp3 := app_le hd2 hp2
    obtain ⟨qs, h1, h2, h3⟩ := ih (fun y hy => hf y (by simp [hy])) (fun hdoc y hy => hn hdoc y (by simp [hy])) _ (acc ++ [(⟨nm.toArray⟩, g')]) nm rest hp3 hd3 (fun hdoc => by rw [hq2 hdoc]; exact (hu hdoc).2)
    refine ⟨(⟨nm.toArray⟩, g') :: qs, ?_, by simp [h2], ?_⟩
    · rw [List.length_cons, partsR, hq1]
      simp only [ne_eq, not_true_eq_false, if_false, hg1]
      rw [h1, e0]
      simp only [List.append_assoc, List.cons_append, List.nil_append, List.length_append]
      congr 2
      omega
    · intro i hi hi'
      cases i with
      | zero =>
        refine ⟨hg2, fun hdoc => ?_⟩
        simp only [List.getElem_cons_zero]
        rw [hq2 hdoc, ba_eta]
      | succ i =>
        simp only [List.getElem_cons_succ]
        exact h3 i (by simpa using hi) (by simpa using hi')
theorem every_top {p : GV → Bool} {g : GV} (h : g.every p = true) : p g = true := by
  cases g with
  | nil => exact h
  | mk k n s ln l fn nm f => simp only [GV.every, Bool.and_eq_true] at h; exact h.1
theorem every_l {p : GV → Bool} {n s ln l fn nm f} (h : (GV.mk 5 n s ln l fn nm f).every p = true) (i : Nat) (hi : i < ln) : (l i).every p = true := by
  simp only [GV.every, Bool.and_eq_true, if_true] at h
  exact List.all_eq_true.1 h.2 i (by simpa using hi)
theorem every_f {p : GV → Bool} {n s ln l fn nm f} (h : (GV.mk 6 n s ln l fn nm f).every p = true) (i : Nat) (hi : i < fn) : (f i).every p = true := by
  simp only [GV.every, Bool.and_eq_true, if_true] at h
  exact List.all_eq_true.1 h.2 i (by simpa using hi)
theorem Gd.l {n s ln l fn nm f} (h : Gd (GV.mk 5 n s ln l fn nm f)) (i : Nat) (hi : i < ln) : Gd (l i) := ⟨every_l h.1 i hi, every_l h.2.1 i hi, every_l h.2.2.1 i hi, every_l h.2.2.2 i hi⟩
theorem Gd.f {n s ln l fn nm f} (h : Gd (GV.mk 6 n s ln l fn nm f)) (i : Nat) (hi : i < fn) : Gd (f i) := ⟨every_f h.1 i hi, every_f h.2.1 i hi, every_f h.2.2.1 i hi, every_f h.2.2.2 i hi⟩
theorem fold_mem {c : Nat → Nat} {n a i : Nat} (h : i < n) : c i ≤ (List.range n).foldl (fun m i => m + c i) a := by
  rw [foldl_add]
  have := sum_mem (f := c) h
  omega
theorem fold_max_mem {c : Nat → Nat} : ∀ {n i : Nat}, i < n → c i ≤ (List.range n).foldl (fun m i => max m (c i)) 0
  | 0, i, h => absurd h (Nat.not_lt_zero _)
  | n + 1, i, h => by
    rw [List.range_succ, List.foldl_append]
    simp only [List.foldl_cons, List.foldl_nil]
    rcases Nat.lt_succ_iff_lt_or_eq.1 h with h1 | rfl
    · have := fold_max_mem (c := c) h1
      omega
    · omega
theorem empty_eq {s : ByteArray} (h : s.toList.isEmpty = true) : s = ⟨#[]⟩ := by
  have h1 := empty_size h
  have h2 : s = ByteArray.empty := by simpa using h1
  rw [h2]
  rfl
theorem kind_of {k n s ln l fn nm f} (h : (GV.mk k n s ln l fn nm f).formed = true) : k = 1 ∨ k = 2 ∨ k = 3 ∨ k = 4 ∨ k = 5 ∨ k = 6 := by
  unfold GV.formed at h
  by_cases h1 : k = 1
  · exact Or.inl h1
  by_cases h2 : k = 2
  · exact Or.inr (Or.inl h2)
  by_cases h3 : k = 3
  · exact Or.inr (Or.inr (Or.inl h3))
  by_cases h4 : k = 4
  · exact Or.inr (Or.inr (Or.inr (Or.inl h4)))
  by_cases h5 : k = 5
  · exact Or.inr (Or.inr (Or.inr (Or.inr (Or.inl h5))))
  by_cases h6 : k = 6
  · exact Or.inr (Or.inr (Or.inr (Or.inr (Or.inr h6))))
  · simp [h1, h2, h3, h4, h5, h6] at h
theorem up_of {nm : Nat → ByteArray} {f : Nat → GV} : ∀ {n a : Nat} {prev : List UInt8}, (∀ i, a ≤ i → i + 1 < a + n → Lib.compareBytes (nm i).data.toList (nm (i + 1)).data.toList < 0) → (0 < n → Lib.compareBytes prev (nm a).data.toList < 0) → up prev ((List.range' a n).map fun i => (nm i, f i))
  | 0, _, _, _, _ => trivial
  | n + 1, a, prev, h, h0 => by
    rw [List.range'_succ]
    refine ⟨h0 (by omega), up_of (fun i h1 h2 => h i (by omega) (by omega)) fun h1 => h a (by omega) (by omega)⟩
theorem rising_up {fn : Nat} {nm : Nat → ByteArray} {f : Nat → GV} (h : risingB fn nm = true) (h0 : ∀ i, i < fn → (nm i).size ≠ 0) : up [] ((List.range fn).map fun i => (nm i, f i)) := by
  rw [List.range_eq_range']
  refine up_of (fun i _ hi => ?_) fun hn => ?_
  · have := List.all_eq_true.1 h i (by simp; omega)
    rw [less_cmp] at this
    have := of_decide_eq_true this
    rw [ByteArray.toList_eq, ByteArray.toList_eq] at this
    exact this
  · have := h0 0 hn
    have e : (nm 0).data.toList ≠ [] := by
      intro e
      apply this
      have : (nm 0).data.toList.length = 0 := by rw [e]; rfl
      simpa using this
    cases hx : (nm 0).data.toList with
    | nil => exact absurd hx e
    | cons c t => simp [Lib.compareBytes]
theorem encP_l (ln : Nat) (l : Nat → GV) : encP false ((List.range ln).map fun i => (⟨#[]⟩, l i)) = (List.range ln).flatMap fun i => (l i).enc := by
  simp [encP, List.flatMap_map]
theorem encP_f (fn : Nat) (nm : Nat → ByteArray) (f : Nat → GV) : encP true ((List.range fn).map fun i => (nm i, f i)) = (List.range fn).flatMap fun i => encS (nm i) ++ (f i).enc := by
  simp [encP, List.flatMap_map]
theorem head_at {l : List UInt8} {p : Nat} {beg : Bool → GV × Nat × Int} (hp : p < l.length) : headR l p beg = if byteN l p = 1 then (gN, p + 1, 0) else if byteN l p = 2 then boolR l (p + 1) else if byteN l p = 3 then intR l (p + 1) else if byteN l p = 4 then txtR l (p + 1) else if byteN l p = 5 then beg false else if byteN l p = 6 then beg true else (.nil, 0, 4) := by
  unfold headR
  rw [if_neg (by omega)]
theorem byteN_at {l : List UInt8} {p : Nat} {k : Int} (h : l.getD p 0 = byteOf k) (hk : 0 ≤ k ∧ k ≤ 255) : byteN l p = k.toNat := by
  unfold byteN
  rw [h, byteOf_small hk]
set_option maxHeartbeats 1000000 in
/-- What was written is read as the same, whatever stands behind. -/
theorem take_enc : ∀ g : GV, Gd g → g.size ≤ 2048 → ∀ (l : List UInt8) (d p : Nat) (rest : List UInt8), g.depth ≤ d → p ≤ l.length → l.drop p = g.enc ++ rest → ∃ g', takeR l d p = (g', p + g.enc.length, 0) ∧ g'.same g = true := by
  intro g
  induction g with
  | nil => intro h; exact absurd (every_top h.1) (by simp [GV.formed])
  | mk k n s ln lf fn nm f ihl ihf =>
    intro hG hS l d p rest hD hp hd
    have hF := every_top hG.1
    have hR := every_top hG.2.1
    have hM := every_top hG.2.2.1
    have hN := every_top hG.2.2.2
    rcases kind_of hF with rfl | rfl | rfl | rfl | rfl | rfl
    · simp only [GV.formed, if_true, Bool.and_eq_true, decide_eq_true_eq] at hF
      obtain ⟨⟨⟨rfl, hs⟩, rfl⟩, rfl⟩ := hF
      have e0 : (GV.mk 1 0 s 0 lf 0 nm f).enc = [byteOf 1] := by simp [GV.enc]
      rw [e0] at hd ⊢
      rw [List.cons_append] at hd
      obtain ⟨d1, d2, _⟩ := drop_one hd
      refine ⟨gN, ?_, ?_⟩
      · rw [takeR_head, head_at d1, byteN_at d2 (by omega)]
        rfl
      · simp [gN, GV.same, empty_eq hs]
    · simp only [GV.formed, show ((2 : Int) = 1) = False by decide, if_true, if_false, Bool.and_eq_true, decide_eq_true_eq, Bool.or_eq_true] at hF
      obtain ⟨⟨⟨hn, hs⟩, rfl⟩, rfl⟩ := hF
      have e0 : (GV.mk 2 n s 0 lf 0 nm f).enc = [byteOf 2, byteOf n] := by simp [GV.enc]
      rw [e0] at hd ⊢
      rw [List.cons_append] at hd
      obtain ⟨d1, d2, d3⟩ := drop_one hd
      obtain ⟨d4, d5, _⟩ := drop_one (l := l) (p := p + 1) (c := byteOf n) (t := rest) d3
      refine ⟨gB n, ?_, ?_⟩
      · rw [takeR_head, head_at d1, byteN_at d2 (by omega)]
        simp only [Int.reduceToNat, Nat.reduceEqDiff, if_true, if_false]
        unfold boolR
        rw [if_neg (by omega), byteN_at d5 (by omega), if_neg (by omega), show ((n.toNat : Nat) : Int) = n by omega]
        rfl
      · simp [gB, GV.same, empty_eq hs]
    · simp only [GV.formed, show ((3 : Int) = 1) = False by decide, show ((3 : Int) = 2) = False by decide, if_true, if_false, Bool.and_eq_true, decide_eq_true_eq] at hF
      obtain ⟨⟨hs, rfl⟩, rfl⟩ := hF
      have e0 : (GV.mk 3 n s 0 lf 0 nm f).enc = byteOf 3 :: varint (zig n).toNat := by simp [GV.enc]
      rw [e0] at hd ⊢
      rw [List.cons_append] at hd
      obtain ⟨d1, d2, d3⟩ := drop_one hd
      obtain ⟨z1, z2⟩ := unf_zig (n := n) (show _ ∧ _ from of_decide_eq_true hN)
      refine ⟨gI n, ?_, ?_⟩
      · rw [takeR_head, head_at d1, byteN_at d2 (by omega)]
        simp only [Int.reduceToNat, Nat.reduceEqDiff, if_true, if_false]
        unfold intR
        rw [show l.drop (p + 1) = varint (zig n).toNat ++ rest from d3, num_enc z2]
        simp only [ne_eq, not_true_eq_false, if_false, z1, List.length_cons]
        congr 2
        omega
      · simp [gI, GV.same, empty_eq hs]
    · simp only [GV.formed, show ((4 : Int) = 1) = False by decide, show ((4 : Int) = 2) = False by decide, show ((4 : Int) = 3) = False by decide, if_true, if_false, Bool.and_eq_true, decide_eq_true_eq] at hF
      obtain ⟨⟨rfl, rfl⟩, rfl⟩ := hF
      have e0 : (GV.mk 4 0 s 0 lf 0 nm f).enc = byteOf 4 :: encS s := by simp [GV.enc]
      have hv : validB s = true := by simpa [GV.readable] using hR
      have hsz : s.size ≤ 2048 := by
        simp [GV.size, textN] at hS
        omega
      rw [e0] at hd ⊢
      rw [List.cons_append] at hd
      obtain ⟨d1, d2, d3⟩ := drop_one hd
      have h1 : l.drop (p + 1) = varint s.size ++ (s.data.toList ++ rest) := by rw [d3, encS, List.append_assoc]
      have h2 := drop_app h1
      obtain ⟨t1, t2⟩ := text_enc h2 (app_le h1 (by omega)) hv
      refine ⟨gT s, ?_, ?_⟩
      · rw [takeR_head, head_at d1, byteN_at d2 (by omega)]
        simp only [Int.reduceToNat, Nat.reduceEqDiff, if_true, if_false]
        unfold txtR
        rw [h1, cnt_enc (by omega) (by omega) hsz]
        simp only [ne_eq, not_true_eq_false, if_false]
        rw [if_neg (by rw [t1]; simp), t2, ba_eta, List.length_cons, encS_len]
        congr 2
        omega
      · simp [gT, GV.same]
    · simp only [GV.formed, show ((5 : Int) = 1) = False by decide, show ((5 : Int) = 2) = False by decide, show ((5 : Int) = 3) = False by decide, show ((5 : Int) = 4) = False by decide, if_true, if_false, Bool.and_eq_true, decide_eq_true_eq] at hF
      obtain ⟨⟨rfl, hs⟩, rfl⟩ := hF
      have e0 : (GV.mk 5 0 s ln lf 0 nm f).enc = byteOf 5 :: (varint ln ++ (List.range ln).flatMap fun i => (lf i).enc) := by simp [GV.enc]
      have hln : ln ≤ 32 := by simpa [GV.limited] using hM
      have hdp : 1 + (List.range ln).foldl (fun m i => max m (lf i).depth) 0 ≤ d := by simpa [GV.depth] using hD
      rw [GV.size_l5] at hS
      rw [e0] at hd ⊢
      rw [List.cons_append] at hd
      obtain ⟨d1, d2, d3⟩ := drop_one hd
      have h1 : l.drop (p + 1) = varint ln ++ (encP false ((List.range ln).map fun i => (⟨#[]⟩, lf i)) ++ rest) := by rw [d3, encP_l, List.append_assoc]
      have h2 := drop_app h1
      obtain ⟨qs, q1, q2, q3⟩ := parts_enc (takeR l (d - 1)) l false ((List.range ln).map fun i => (⟨#[]⟩, lf i)) (by
        intro x hx p rest hp hd
        simp only [List.mem_map, List.mem_range] at hx
        obtain ⟨i, hi, rfl⟩ := hx
        exact ihl i (hG.l i hi) (Nat.le_trans (fold_mem (c := fun i => (lf i).size) hi) hS) l (d - 1) p rest (by have := fold_max_mem (c := fun i => (lf i).depth) hi; omega) hp hd) (fun h => by cases h) _ [] [] rest (app_le h1 (by omega)) h2 (fun h => by cases h)
      simp only [List.length_map, List.length_range, List.nil_append] at q1 q2 q3
      refine ⟨partsG false qs, ?_, ?_⟩
      · rw [takeR_head, head_at d1, byteN_at d2 (by omega)]
        simp only [Int.reduceToNat, Nat.reduceEqDiff, if_true, if_false]
        rw [if_neg (by omega)]
        unfold begR
        rw [h1, cnt_enc (by omega) (by omega) hln]
        simp only [ne_eq, not_true_eq_false, if_false]
        rw [q1, encP_l]
        simp only [closeR, ne_eq, not_true_eq_false, if_false, List.length_cons, List.length_append]
        congr 2
        omega
      · simp only [partsG, Bool.false_eq_true, if_false, GV.same, q2, empty_eq hs]
        simp
        intro i hi
        have := (q3 i hi (by omega)).1
        simp only [List.getElem_map, List.getElem_range] at this
        simp only [pg]
        rw [List.getElem?_eq_getElem (by omega)]
        exact this
    · simp only [GV.formed, show ((6 : Int) = 1) = False by decide, show ((6 : Int) = 2) = False by decide, show ((6 : Int) = 3) = False by decide, show ((6 : Int) = 4) = False by decide, show ((6 : Int) = 5) = False by decide, if_true, if_false, Bool.and_eq_true, decide_eq_true_eq] at hF
      obtain ⟨⟨⟨hrise, rfl⟩, hs⟩, rfl⟩ := hF
      have e0 : (GV.mk 6 0 s 0 lf fn nm f).enc = byteOf 6 :: (varint fn ++ (List.range fn).flatMap fun i => encS (nm i) ++ (f i).enc) := by simp [GV.enc]
      have hM2 : (∀ i, i < fn → nameFits (nm i) = true) ∧ fn ≤ 32 := by simpa [GV.limited] using hM
      have hR2 : ∀ i, i < fn → validB (nm i) = true := by simpa [GV.readable] using hR
      have hdp : 1 + (List.range fn).foldl (fun m i => max m (f i).depth) 0 ≤ d := by simpa [GV.depth] using hD
      rw [GV.size_l6] at hS
      rw [e0] at hd ⊢
      rw [List.cons_append] at hd
      obtain ⟨d1, d2, d3⟩ := drop_one hd
      have h1 : l.drop (p + 1) = varint fn ++ (encP true ((List.range fn).map fun i => (nm i, f i)) ++ rest) := by rw [d3, encP_f, List.append_assoc]
      have h2 := drop_app h1
      obtain ⟨qs, q1, q2, q3⟩ := parts_enc (takeR l (d - 1)) l true ((List.range fn).map fun i => (nm i, f i)) (by
        intro x hx p rest hp hd
        simp only [List.mem_map, List.mem_range] at hx
        obtain ⟨i, hi, rfl⟩ := hx
        exact ihf i (hG.f i hi) (Nat.le_trans (Nat.le_trans (Nat.le_add_left _ _) (fold_mem (c := fun i => textN (nm i) + (f i).size) (a := 1 + digitsN fn) hi)) hS) l (d - 1) p rest (by have := fold_max_mem (c := fun i => (f i).depth) hi; omega) hp hd) (fun _ x hx => by
        simp only [List.mem_map, List.mem_range] at hx
        obtain ⟨i, hi, rfl⟩ := hx
        exact ⟨hM2.1 i hi, hR2 i hi⟩) _ [] [] rest (app_le h1 (by omega)) h2 (fun _ => rising_up hrise fun i hi => by have := hM2.1 i hi; exact (show _ ∧ _ from of_decide_eq_true this).1)
      simp only [List.length_map, List.length_range, List.nil_append] at q1 q2 q3
      refine ⟨partsG true qs, ?_, ?_⟩
      · rw [takeR_head, head_at d1, byteN_at d2 (by omega)]
        simp only [Int.reduceToNat, Nat.reduceEqDiff, if_true, if_false]
        rw [if_neg (by omega)]
        unfold begR
        rw [h1, cnt_enc (by omega) (by omega) hM2.2]
        simp only [ne_eq, not_true_eq_false, if_false]
        rw [q1, encP_f]
        simp only [closeR, ne_eq, not_true_eq_false, if_false, List.length_cons, List.length_append]
        congr 2
        omega
      · simp only [partsG, if_true, GV.same, q2, empty_eq hs]
        simp
        intro i hi
        have := q3 i hi (by omega)
        simp only [List.getElem_map, List.getElem_range] at this
        simp only [pg, pnm]
        rw [List.getElem?_eq_getElem (by omega)]
        exact ⟨this.2 trivial, this.1⟩
/-- A piece of the bytes. -/
theorem piece_app {l : List UInt8} {p r q : Nat} (h1 : p ≤ r) (h2 : r ≤ q) : (l.drop p).take (q - p) = (l.drop p).take (r - p) ++ (l.drop r).take (q - r) := by
  rw [show q - p = (r - p) + (q - r) by omega, List.take_add, List.drop_drop, show p + (r - p) = r by omega]
theorem piece_one {l : List UInt8} {p : Nat} (h : p < l.length) : (l.drop p).take (p + 1 - p) = [l.getD p 0] := by
  rw [show p + 1 - p = 1 by omega, List.drop_eq_getElem_cons h, List.take_succ_cons, List.take_zero, List.getD_eq_getElem?_getD, List.getElem?_eq_getElem h]
  rfl
theorem byte_back {l : List UInt8} {p : Nat} {k : Int} (hk : 0 ≤ k ∧ k ≤ 255) (h : byteN l p = k.toNat) : byteOf k = l.getD p 0 := by
  apply UInt8.toNat_inj.1
  rw [byteOf_small hk]
  exact h.symm
theorem text_inv {l : List UInt8} {p n : Nat} (h : textR l p n = 0) : p + n ≤ l.length ∧ validB ⟨((l.drop p).take n).toArray⟩ = true ∧ ((l.drop p).take n).length = n := by
  unfold textR at h
  split at h
  · cases h
  · rename_i h1
    split at h
    · rename_i h2
      rw [validD_B] at h2
      exact ⟨by omega, h2, by rw [List.length_take, List.length_drop]; omega⟩
    · cases h
theorem encS_of {b : List UInt8} : encS ⟨b.toArray⟩ = varint b.length ++ b := by simp [encS, ByteArray.size]
theorem name_inv {l prev : List UInt8} {p : Nat} (h : (nameR l p prev).2.2 = 0) :
    encS ⟨(nameR l p prev).1.toArray⟩ = (l.drop p).take ((nameR l p prev).2.1 - p) ∧ p ≤ (nameR l p prev).2.1 ∧ (nameR l p prev).2.1 ≤ l.length ∧ nameFits ⟨(nameR l p prev).1.toArray⟩ = true ∧ validB ⟨(nameR l p prev).1.toArray⟩ = true ∧ Lib.compareBytes prev (nameR l p prev).1 < 0 := by
  unfold nameR at h ⊢
  split at h
  · rename_i h1
    exact absurd h h1
  · rename_i h1
    obtain ⟨c1, c2, c3, c4, c5⟩ := cnt_inv (l := l.drop p) (least := 1) (most := 24) (er := 15) (by decide) (by simpa using h1)
    generalize hc : cntR (l.drop p) 1 24 15 = c at *
    rw [if_neg h1]
    split at h
    · rename_i h2
      exact absurd h h2
    · rename_i h2
      rw [if_neg h2]
      obtain ⟨t1, t2, t3⟩ := text_inv (l := l) (p := p + c.2.1) (n := c.1) (by simpa using h2)
      split at h
      · cases h
      · rename_i h3
        rw [if_neg h3]
        simp only
        refine ⟨?_, by omega, t1, ?_, t2, by omega⟩
        · rw [encS_of, t3, ← c1, piece_app (l := l) (p := p) (r := p + c.2.1) (by omega) (by omega)]
          rw [show p + c.2.1 - p = c.2.1 by omega, show p + c.2.1 + c.1 - (p + c.2.1) = c.1 by omega]
        · simp only [nameFits, ByteArray.size, List.size_toArray, t3]
          exact decide_eq_true ⟨by omega, c5⟩
theorem parts_inv (f : Nat → GV × Nat × Int) (l : List UInt8) (doc : Bool) (G : GV → Prop) (hf : ∀ p g q, p ≤ l.length → f p = (g, q, 0) → p < q ∧ q ≤ l.length ∧ g.enc = (l.drop p).take (q - p) ∧ G g) :
    ∀ (n p : Nat) (acc : List (ByteArray × GV)) (prev : List UInt8) (qs : List (ByteArray × GV)) (q : Nat), p ≤ l.length → partsR f l doc n p acc prev = (qs, q, 0) →
    ∃ ps, qs = acc ++ ps ∧ ps.length = n ∧ p ≤ q ∧ q ≤ l.length ∧ encP doc ps = (l.drop p).take (q - p) ∧ (∀ x ∈ ps, G x.2 ∧ (doc = true → nmOk x)) ∧ (doc = true → up prev ps) := by
  intro n
  induction n with
  | zero =>
    intro p acc prev qs q hp h
    simp only [partsR, Prod.mk.injEq] at h
    obtain ⟨rfl, rfl, _⟩ := h
    exact ⟨[], by simp, rfl, Nat.le_refl _, hp, by simp [encP], fun x hx => absurd hx (by simp), fun _ => trivial⟩
  | succ n ih =>
    intro p acc prev qs q hp h
    rw [partsR] at h
    have hN : (if doc = true then nameR l p prev else (prev, p, 0)).2.2 = 0 → ∃ nm r, (if doc = true then nameR l p prev else (prev, p, 0)) = (nm, r, 0) ∧ p ≤ r ∧ r ≤ l.length ∧ (if doc = true then encS ⟨nm.toArray⟩ else []) = (l.drop p).take (r - p) ∧ (doc = true → nameFits ⟨nm.toArray⟩ = true ∧ validB ⟨nm.toArray⟩ = true ∧ Lib.compareBytes prev nm < 0) := by
      cases doc with
      | true =>
        simp only [if_true]
        intro h0
        obtain ⟨e1, e2, e3, e4, e5, e6⟩ := name_inv h0
        exact ⟨_, _, by rw [← h0], e2, e3, e1, fun _ => ⟨e4, e5, e6⟩⟩
      | false =>
        intro _
        exact ⟨prev, p, by simp, Nat.le_refl _, hp, by simp, fun h => by cases h⟩
    generalize (if doc = true then nameR l p prev else (prev, p, 0)) = y at h hN
    by_cases h1 : y.2.2 ≠ 0
    · rw [if_pos h1] at h
      simp only [Prod.mk.injEq] at h
      exact absurd h.2.2 h1
    · obtain ⟨nm, r, rfl, e1, e2, e3, e4⟩ := hN (by simpa using h1)
      rw [if_neg h1] at h
      simp only at h
      split at h
      · rename_i h2
        simp only [Prod.mk.injEq] at h
        exact absurd h.2.2 h2
      · rename_i h2
        have h3 : (f r).2.2 = 0 := by simpa using h2
        obtain ⟨f1, f2, f3, f4⟩ := hf r (f r).1 (f r).2.1 e2 (by rw [← h3])
        obtain ⟨ps, p1, p2, p3, p4, p5, p6, p7⟩ := ih _ _ _ _ _ f2 h
        refine ⟨(⟨nm.toArray⟩, (f r).1) :: ps, by rw [p1]; simp, by simp [p2], by omega, p4, ?_, ?_, ?_⟩
        · rw [piece_app (l := l) (p := p) (r := r) e1 (by omega), piece_app (l := l) (p := r) (r := (f r).2.1) (by omega) p3, ← p5, ← f3, ← e3]
          simp [encP]
        · intro x hx
          rcases List.mem_cons.1 hx with rfl | hx
          · exact ⟨f4, fun hd => ⟨(e4 hd).1, (e4 hd).2.1⟩⟩
          · exact p6 x hx
        · intro hd
          exact ⟨(e4 hd).2.2, p7 hd⟩
theorem parts_map (ps : List (ByteArray × GV)) : (List.range ps.length).map (fun i => (pnm ps i, pg ps i)) = ps := by
  apply List.ext_getElem
  · simp
  · intro i h1 h2
    simp [pnm, pg, h2]
theorem parts_flat (ps : List (ByteArray × GV)) : (List.range ps.length).flatMap (fun i => (pg ps i).enc) = encP false ps := by
  conv => rhs; rw [← parts_map ps]
  simp [encP, List.flatMap_map]
theorem parts_flatD (ps : List (ByteArray × GV)) : (List.range ps.length).flatMap (fun i => encS (pnm ps i) ++ (pg ps i).enc) = encP true ps := by
  conv => rhs; rw [← parts_map ps]
  simp [encP, List.flatMap_map]
theorem pg_mem {ps : List (ByteArray × GV)} {i : Nat} (h : i < ps.length) : (pnm ps i, pg ps i) ∈ ps := by
  have : (pnm ps i, pg ps i) = ps[i]'h := by simp [pnm, pg, h]
  rw [this]
  exact List.getElem_mem h
theorem up_rise : ∀ {ps : List (ByteArray × GV)} {prev : List UInt8}, up prev ps → ∀ i, i + 1 < ps.length → Lib.compareBytes (pnm ps i).data.toList (pnm ps (i + 1)).data.toList < 0
  | [], _, _, i, h => absurd h (Nat.not_lt_zero _)
  | [x], _, _, i, h => by simp at h
  | x :: y :: ps, prev, hu, i, h => by
    cases i with
    | zero => exact hu.2.1
    | succ i => exact up_rise (ps := y :: ps) hu.2 i (by simpa using h)
theorem Gd.of {k n s ln l fn nm f} (h1 : (GV.mk k n s ln l fn nm f).formed = true) (h2 : (GV.mk k n s ln l fn nm f).readable = true) (h3 : (GV.mk k n s ln l fn nm f).limited = true) (h4 : (GV.mk k n s ln l fn nm f).nOk = true) (h5 : k = 5 → ∀ i, i < ln → Gd (l i)) (h6 : k = 6 → ∀ i, i < fn → Gd (f i)) : Gd (GV.mk k n s ln l fn nm f) := by
  have key : ∀ p : GV → Bool, p (GV.mk k n s ln l fn nm f) = true → (∀ g, Gd g → g.every p = true) → (GV.mk k n s ln l fn nm f).every p = true := by
    intro p hp hg
    simp only [GV.every, hp, Bool.true_and]
    split
    · rename_i e
      exact List.all_eq_true.2 fun i hi => hg _ (h5 e i (by simpa using hi))
    · split
      · rename_i e
        exact List.all_eq_true.2 fun i hi => hg _ (h6 e i (by simpa using hi))
      · rfl
  exact ⟨key _ h1 fun g h => h.1, key _ h2 fun g h => h.2.1, key _ h3 fun g h => h.2.2.1, key _ h4 fun g h => h.2.2.2⟩
theorem beg_inv (l : List UInt8) (d : Nat) (doc : Bool) (p : Nat) (g : GV) (q : Nat) (hp : p < l.length) (hk : byteN l p = if doc = true then 6 else 5)
    (ih : ∀ p g q, p ≤ l.length → takeR l d p = (g, q, 0) → p < q ∧ q ≤ l.length ∧ g.enc = (l.drop p).take (q - p) ∧ Gd g ∧ g.depth ≤ d) (h : begR (takeR l d) l (p + 1) doc = (g, q, 0)) :
    p < q ∧ q ≤ l.length ∧ g.enc = (l.drop p).take (q - p) ∧ Gd g ∧ g.depth ≤ d + 1 := by
  unfold begR at h
  split at h
  · rename_i h1
    simp only [Prod.mk.injEq] at h
    exact absurd h.2.2 h1
  · rename_i h1
    obtain ⟨c1, c2, c3, c4, c5⟩ := cnt_inv (l := l.drop (p + 1)) (least := 0) (most := 32) (er := 15) (by decide) (by simpa using h1)
    generalize hc : cntR (l.drop (p + 1)) 0 32 15 = c at *
    rw [List.length_drop] at c3
    unfold closeR at h
    split at h
    · rename_i h2
      simp only [Prod.mk.injEq] at h
      exact absurd h.2.2 h2
    · rename_i h2
      have h3 : (partsR (takeR l d) l doc c.1 (p + 1 + c.2.1) [] []).2.2 = 0 := by simpa using h2
      obtain ⟨ps, p1, p2, p3, p4, p5, p6, p7⟩ := parts_inv (takeR l d) l doc (fun g => Gd g ∧ g.depth ≤ d) ih c.1 (p + 1 + c.2.1) [] [] _ _ (by omega) (by rw [← h3])
      rw [List.nil_append] at p1
      rw [p1] at h
      simp only [Prod.mk.injEq] at h
      obtain ⟨rfl, rfl, _⟩ := h
      generalize hr : (partsR (takeR l d) l doc c.1 (p + 1 + c.2.1) [] []).2.1 = q at *
      have ez : (⟨#[]⟩ : ByteArray).toList.isEmpty = true := by simp [ByteArray.toList_eq]
      have e1 : (l.drop p).take (q - p) = l.getD p 0 :: (varint ps.length ++ encP doc ps) := by
        rw [piece_app (l := l) (p := p) (r := p + 1) (by omega) (by omega), piece_one hp, piece_app (l := l) (p := p + 1) (r := p + 1 + c.2.1) (by omega) (by omega), show p + 1 + c.2.1 - (p + 1) = c.2.1 by omega, c1, ← p5, p2]
        rfl
      rw [e1]
      refine ⟨by omega, p4, ?_⟩
      cases doc with
      | true =>
        simp only [if_true] at hk
        simp only [partsG, if_true]
        refine ⟨?_, ?_, ?_⟩
        · rw [← byte_back (k := 6) (by omega) hk, ← parts_flatD]
          simp [GV.enc]
        · refine Gd.of ?_ ?_ ?_ (by simp [GV.nOk]) (fun h => by cases h) (fun _ i hi => (p6 _ (pg_mem hi)).1.1)
          · simp only [GV.formed, show ((6 : Int) = 1) = False by decide, show ((6 : Int) = 2) = False by decide, show ((6 : Int) = 3) = False by decide, show ((6 : Int) = 4) = False by decide, show ((6 : Int) = 5) = False by decide, if_true, if_false, Bool.and_eq_true, decide_eq_true_eq]
            refine ⟨⟨⟨?_, trivial⟩, ez⟩, trivial⟩
            refine List.all_eq_true.2 fun i hi => ?_
            rw [less_cmp, ByteArray.toList_eq, ByteArray.toList_eq]
            exact decide_eq_true (up_rise (p7 rfl) i (by simp at hi; omega))
          · simp only [GV.readable, show ((6 : Int) = 4) = False by decide, if_true, if_false]
            exact List.all_eq_true.2 fun i hi => ((p6 _ (pg_mem (by simpa using hi))).2 rfl).2
          · simp only [GV.limited, show ((6 : Int) = 5) = False by decide, if_true, if_false, Bool.and_eq_true]
            exact ⟨List.all_eq_true.2 fun i hi => ((p6 _ (pg_mem (by simpa using hi))).2 rfl).1, decide_eq_true (by omega)⟩
        · simp only [GV.depth, show ((6 : Int) = 5) = False by decide, if_true, if_false]
          have := foldl_max_le (f := fun i => (pg ps i).depth) (n := ps.length) (B := d) fun i hi => (p6 _ (pg_mem hi)).1.2
          omega
      | false =>
        simp only [Bool.false_eq_true, if_false] at hk
        simp only [partsG, Bool.false_eq_true, if_false]
        refine ⟨?_, ?_, ?_⟩
        · rw [← byte_back (k := 5) (by omega) hk, ← parts_flat]
          simp [GV.enc]
        · refine Gd.of ?_ ?_ ?_ (by simp [GV.nOk]) (fun _ i hi => (p6 _ (pg_mem hi)).1.1) (fun h => by cases h)
          · simp only [GV.formed, show ((5 : Int) = 1) = False by decide, show ((5 : Int) = 2) = False by decide, show ((5 : Int) = 3) = False by decide, show ((5 : Int) = 4) = False by decide, if_true, if_false, Bool.and_eq_true, decide_eq_true_eq]
            exact ⟨⟨trivial, ez⟩, trivial⟩
          · simp [GV.readable]
          · simp only [GV.limited, if_true]
            exact decide_eq_true (by omega)
        · simp only [GV.depth, if_true]
          have := foldl_max_le (f := fun i => (pg ps i).depth) (n := ps.length) (B := d) fun i hi => (p6 _ (pg_mem hi)).1.2
          omega
theorem head_inv (l : List UInt8) (d : Nat) (beg : Bool → GV × Nat × Int) (p : Nat) (g : GV) (q : Nat) (h : headR l p beg = (g, q, 0))
    (hb : ∀ doc, p < l.length → (byteN l p = if doc = true then 6 else 5) → beg doc = (g, q, 0) → p < q ∧ q ≤ l.length ∧ g.enc = (l.drop p).take (q - p) ∧ Gd g ∧ g.depth ≤ d) :
    p < q ∧ q ≤ l.length ∧ g.enc = (l.drop p).take (q - p) ∧ Gd g ∧ g.depth ≤ d := by
  have ez : (⟨#[]⟩ : ByteArray).toList.isEmpty = true := by simp [ByteArray.toList_eq]
  unfold headR at h
  split at h
  · simp at h
  · rename_i hp0
    have hp : p < l.length := by omega
    split at h
    · rename_i hk
      simp only [Prod.mk.injEq] at h
      obtain ⟨rfl, rfl, _⟩ := h
      refine ⟨by omega, by omega, ?_, Gd.of ?_ (by simp [GV.readable]) (by simp [GV.limited]) (by simp [GV.nOk]) (fun h => by cases h) (fun h => by cases h), by simp [gN, GV.depth]⟩
      · rw [piece_one hp, ← byte_back (k := 1) (by omega) hk]
        simp [gN, GV.enc]
      · simp [GV.formed]
    · split at h
      · rename_i hk
        unfold boolR at h
        split at h
        · simp at h
        · rename_i hp1
          split at h
          · simp at h
          · rename_i hn
            simp only [Prod.mk.injEq] at h
            obtain ⟨rfl, rfl, _⟩ := h
            refine ⟨by omega, by omega, ?_, Gd.of ?_ (by simp [GV.readable]) (by simp [GV.limited]) ?_ (fun h => by cases h) (fun h => by cases h), by simp [gB, GV.depth]⟩
            · rw [piece_app (l := l) (p := p) (r := p + 1) (by omega) (by omega), piece_one hp, piece_one (by omega), ← byte_back (k := 2) (by omega) hk, ← byte_back (k := (byteN l (p + 1) : Nat)) (by omega) (by omega)]
              simp [gB, GV.enc]
            · have : byteN l (p + 1) = 0 ∨ byteN l (p + 1) = 1 := by omega
              rcases this with e | e <;> simp [GV.formed, e]
            · simp [GV.nOk]
              omega
      · split at h
        · rename_i hk
          unfold intR at h
          split at h
          · rename_i h1
            simp only [Prod.mk.injEq] at h
            exact absurd h.2.2 h1
          · rename_i h1
            have h2 : (numR (l.drop (p + 1)) 0 0).2.2 = 0 := by simpa using h1
            obtain ⟨n1, n2, n3, n4⟩ := num_inv (l := l.drop (p + 1)) (n := (numR (l.drop (p + 1)) 0 0).1) (k := (numR (l.drop (p + 1)) 0 0).2.1) (by rw [← h2])
            generalize numR (l.drop (p + 1)) 0 0 = c at *
            rw [List.length_drop] at n4
            simp only [Prod.mk.injEq] at h
            obtain ⟨rfl, rfl, _⟩ := h
            obtain ⟨z1, z2⟩ := zig_unf n2
            refine ⟨by omega, by omega, ?_, Gd.of ?_ (by simp [GV.readable]) (by simp [GV.limited]) (decide_eq_true z1) (fun h => by cases h) (fun h => by cases h), by simp [gI, GV.depth]⟩
            · rw [piece_app (l := l) (p := p) (r := p + 1) (by omega) (by omega), piece_one hp, ← byte_back (k := 3) (by omega) hk, show p + 1 + c.2.1 - (p + 1) = c.2.1 by omega, n1]
              simp [gI, GV.enc, z2]
            · simp [GV.formed]
        · split at h
          · rename_i hk
            unfold txtR at h
            split at h
            · rename_i h1
              simp only [Prod.mk.injEq] at h
              exact absurd h.2.2 h1
            · rename_i h1
              obtain ⟨c1, c2, c3, c4, c5⟩ := cnt_inv (l := l.drop (p + 1)) (least := 0) (most := 2048) (er := 2) (by decide) (by simpa using h1)
              generalize hc : cntR (l.drop (p + 1)) 0 2048 2 = c at *
              rw [List.length_drop] at c3
              split at h
              · rename_i h2
                simp only [Prod.mk.injEq] at h
                exact absurd h.2.2 h2
              · rename_i h2
                obtain ⟨t1, t2, t3⟩ := text_inv (l := l) (p := p + 1 + c.2.1) (n := c.1) (by simpa using h2)
                simp only [Prod.mk.injEq] at h
                obtain ⟨rfl, rfl, _⟩ := h
                refine ⟨by omega, by omega, ?_, Gd.of ?_ ?_ (by simp [GV.limited]) (by simp [GV.nOk]) (fun h => by cases h) (fun h => by cases h), by simp [gT, GV.depth]⟩
                · rw [piece_app (l := l) (p := p) (r := p + 1) (by omega) (by omega), piece_one hp, ← byte_back (k := 4) (by omega) hk, piece_app (l := l) (p := p + 1) (r := p + 1 + c.2.1) (by omega) (by omega), show p + 1 + c.2.1 - (p + 1) = c.2.1 by omega, c1, show p + 1 + c.2.1 + c.1 - (p + 1 + c.2.1) = c.1 by omega]
                  have e : (gT ⟨((l.drop (p + 1 + c.2.1)).take c.1).toArray⟩).enc = byteOf 4 :: encS ⟨((l.drop (p + 1 + c.2.1)).take c.1).toArray⟩ := by simp [gT, GV.enc]
                  rw [e, encS_of, t3]
                  rfl
                · simp [GV.formed]
                · simpa [GV.readable] using t2
          · split at h
            · rename_i hk
              exact hb false hp hk h
            · split at h
              · rename_i hk
                exact hb true hp hk h
              · simp at h
/-- What is read is written as it was read, and is good but for its size. -/
theorem take_inv (l : List UInt8) : ∀ (d p : Nat) (g : GV) (q : Nat), p ≤ l.length → takeR l d p = (g, q, 0) → p < q ∧ q ≤ l.length ∧ g.enc = (l.drop p).take (q - p) ∧ Gd g ∧ g.depth ≤ d := by
  intro d
  induction d with
  | zero =>
    intro p g q _ h
    refine head_inv l 0 (fun _ => (.nil, 0, 3)) p g q h fun doc _ _ hb => ?_
    simp at hb
  | succ d ih =>
    intro p g q _ h
    exact head_inv l (d + 1) (fun doc => begR (takeR l d) l (p + 1) doc) p g q h fun doc hp hk hb => beg_inv l d doc p g q hp hk ih hb
theorem err_zeroM {g : GV} (h : g.err = 0) : g.every GV.formed = true ∧ g.every GV.readable = true ∧ g.every GV.limited = true ∧ g.depth ≤ 8 ∧ g.size ≤ 2048 := by
  unfold GV.err at h
  split at h
  · omega
  · split at h
    · omega
    · split at h
      · omega
      · split at h
        · omega
        · split at h
          · omega
          · rename_i a b c d e
            exact ⟨by simpa using a, by simpa using b, by simpa using c, by omega, by omega⟩
theorem err_ofM {g : GV} (h1 : g.every GV.formed = true) (h2 : g.every GV.readable = true) (h3 : g.every GV.limited = true) (h4 : g.depth ≤ 8) (h5 : g.size ≤ 2048) : g.err = 0 := by
  simp [GV.err, h1, h2, h3, show ¬ 8 < g.depth by omega, show ¬ 2048 < g.size by omega]
/-- A value that is good and written is read at its place as the same. -/
theorem val_enc {g : GV} (h : g.err = 0) (hn : g.every GV.nOk = true) (hs : g.enc.length = g.size) {l rest : List UInt8} {p : Nat} (hp : p ≤ l.length) (hd : l.drop p = g.enc ++ rest) : ∃ g', valR l p = (g', p + g.enc.length, 0) ∧ g'.same g = true := by
  obtain ⟨h1, h2, h3, h4, h5⟩ := err_zeroM h
  obtain ⟨g', e1, e2⟩ := take_enc g ⟨h1, h2, h3, hn⟩ h5 l 8 p rest h4 hp hd
  refine ⟨g', ?_, e2⟩
  unfold valR
  rw [e1]
  simp only [ne_eq, not_true_eq_false, if_false]
  rw [if_neg (by omega)]
/-- What is read at a place stands there as it is written. -/
theorem val_inv {l : List UInt8} {p : Nat} {g : GV} {q : Nat} (hp : p ≤ l.length) (h : valR l p = (g, q, 0)) : p < q ∧ q ≤ l.length ∧ g.enc = (l.drop p).take (q - p) ∧ Gd g ∧ g.depth ≤ 8 ∧ g.enc.length ≤ 2048 := by
  unfold valR at h
  split at h
  · rename_i h1
    simp only [Prod.mk.injEq] at h
    exact absurd h.2.2 h1
  · split at h
    · simp at h
    · rename_i h2
      obtain ⟨e1, e2, e3, e4, e5⟩ := take_inv l 8 p g q hp h
      rw [h] at h2
      simp only at h2
      refine ⟨e1, e2, e3, e4, e5, ?_⟩
      rw [e3, List.length_take]
      omega
/-- What Get tells of a good value's bytes. -/
theorem get_enc {g : GV} (h : g.err = 0) (hn : g.every GV.nOk = true) (hs : g.enc.length = g.size) : (getR g.enc).2 = 0 ∧ (getR g.enc).1.same g = true := by
  obtain ⟨g', e1, e2⟩ := val_enc h hn hs (l := g.enc) (p := 0) (rest := []) (by omega) (by simp)
  have e : getR g.enc = (g', 0) := by
    unfold getR
    rw [e1]
    simp
  rw [e]
  exact ⟨rfl, e2⟩
/-- One byte more is refused. -/
theorem get_more {g : GV} (h : g.err = 0) (hn : g.every GV.nOk = true) (hs : g.enc.length = g.size) (c : UInt8) (t : List UInt8) : (getR (g.enc ++ c :: t)).2 = 4 := by
  obtain ⟨g', e1, e2⟩ := val_enc h hn hs (l := g.enc ++ c :: t) (p := 0) (rest := c :: t) (by omega) (by simp)
  unfold getR
  rw [e1]
  simp
/-- What Get reads is all of the bytes. -/
theorem get_inv {l : List UInt8} (h : (getR l).2 = 0) : (getR l).1.enc = l ∧ Gd (getR l).1 ∧ (getR l).1.depth ≤ 8 ∧ l.length ≤ 2048 := by
  unfold getR at h ⊢
  split at h
  · rename_i h1
    exact absurd h h1
  · rename_i h1
    rw [if_neg h1]
    split at h
    · cases h
    · rename_i h2
      rw [if_neg h2]
      have h3 : (valR l 0).2.2 = 0 := by simpa using h1
      obtain ⟨e1, e2, e3, e4, e5, e6⟩ := val_inv (l := l) (p := 0) (g := (valR l 0).1) (q := (valR l 0).2.1) (by omega) (by rw [← h3])
      have e7 : (valR l 0).1.enc = l := by
        rw [e3, List.drop_zero, List.take_of_length_le (by omega)]
      exact ⟨e7, e4, e5, by rw [← e7]; exact e6⟩
/-- A byte less is refused: a value's bytes are no other one's beginning. -/
theorem get_less {g : GV} (h : g.err = 0) (hn : g.every GV.nOk = true) (hs : g.enc.length = g.size) (hsz : ∀ g' : GV, Gd g' → g'.enc.length = g'.size) {l : List UInt8} {c : UInt8} (e : g.enc = l ++ [c]) : (getR l).2 ≠ 0 := by
  intro h0
  obtain ⟨e1, e2, e3, e4⟩ := get_inv h0
  have hs2 := hsz _ e2
  have h5 : (getR l).1.err = 0 := err_ofM e2.1 e2.2.1 e2.2.2.1 e3 (by rw [← hs2, e1]; exact e4)
  have h6 := get_more h5 e2.2.2.2 hs2 c []
  rw [e1, ← e] at h6
  have h7 := (get_enc h hn hs).1
  rw [h7] at h6
  cases h6
end Go.Proofs.YtfnmmpakejdlgaaDoor
