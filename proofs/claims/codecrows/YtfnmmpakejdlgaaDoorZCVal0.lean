/- Eight bytes of a row at once: what word reads, and where none of them is 128 or more; the two tables of unicode/utf8. -/
import Derived.Test.YtfnmmpakejdlgaaDoorZCWord
import Derived.Lib.ValidLaws
import Derived.Deep.LoopGhost
import Derived.Deep.DeepMust
import Derived.Deep.CutBlock
import Derived.Deep.DeepCutAuto
namespace Go.Proofs.YtfnmmpakejdlgaaDoor
open Go.RowKit

theorem byts_drop {w : World} {b o k : Nat} {t : List UInt8} (h : Byts w (some ⟨b, o, none⟩) t) : Byts w (some ⟨b, o + k, none⟩) (t.drop k) := by
  intro i hi
  have hi2 : k + i < t.length := by simp at hi; omega
  obtain ⟨b', o', e, hc⟩ := h (k + i) hi2
  cases e
  refine ⟨b, o + k, rfl, ?_⟩
  rw [Nat.add_assoc, hc]
  simp
theorem byts_none {w : World} {a : Option Addr} : Byts w a [] := fun i hi => absurd hi (Nat.not_lt_zero i)
theorem byts_some {w : World} {a : Option Addr} {t : List UInt8} (h : Byts w a t) (h0 : 0 < t.length) : ∃ b o, a = some ⟨b, o, none⟩ := by
  obtain ⟨b, o, e, _⟩ := h 0 h0
  exact ⟨b, o, e⟩
theorem byts_cell {w : World} {b o i : Nat} {t : List UInt8} (h : Byts w (some ⟨b, o, none⟩) t) (hi : i < t.length) : w.cell? ⟨b, o + i, none⟩ = some (.int .u8 ((t.getD i 0).toNat : Int)) := by
  obtain ⟨b', o', e, hc⟩ := h i hi
  cases e
  rw [hc]
  simp [hi]

theorem leNat8 (a0 a1 a2 a3 a4 a5 a6 a7 : UInt8) : Lib.leNat [a0, a1, a2, a3, a4, a5, a6, a7] = a0.toNat + a1.toNat * 256 + a2.toNat * 65536 + a3.toNat * 16777216 + a4.toNat * 4294967296 + a5.toNat * 1099511627776 + a6.toNat * 281474976710656 + a7.toNat * 72057594037927936 := by
  simp only [Lib.leNat]
  omega

theorem take_eight (t : List UInt8) (h8 : 8 ≤ t.length) : [t.getD 0 0, t.getD 1 0, t.getD 2 0, t.getD 3 0, t.getD 4 0, t.getD 5 0, t.getD 6 0, t.getD 7 0] = t.take 8 := by
  match t, h8 with
  | a0 :: a1 :: a2 :: a3 :: a4 :: a5 :: a6 :: a7 :: r, _ => simp
/-- What word reads of a row of bytes. -/
theorem wordL (a : Option Addr) (n c : Nat) (t : List UInt8) (w : World) (hn : n = t.length) (h8 : 8 ≤ n) (hl : n ≤ 140737488355328) (hB : Byts w a t) :
    Calls Tryd.prog 81 #[.slice a n c] w fun e w' => e = .returned (.int .u64 ((Lib.leNat (t.take 8) : Nat) : Int)) ∧ ∃ q, w' = w.drewN q := by
  subst hn
  obtain ⟨b, o, rfl⟩ := byts_some hB (by omega)
  have h := word_any b o t.length c (fun i => (t.getD i 0).toNat) w h8 hl (fun i => (t.getD i 0).toNat_lt) (fun i hi => byts_cell hB (by omega))
  have e0 : wordE ((t.getD 0 0).toNat : Int) ((t.getD 1 0).toNat : Int) ((t.getD 2 0).toNat : Int) ((t.getD 3 0).toNat : Int) ((t.getD 4 0).toNat : Int) ((t.getD 5 0).toNat : Int) ((t.getD 6 0).toNat : Int) ((t.getD 7 0).toNat : Int) = ((Lib.leNat (t.take 8) : Nat) : Int) := by
    rw [wordE_nat _ _ _ _ _ _ _ _ (UInt8.toNat_lt _) (UInt8.toNat_lt _) (UInt8.toNat_lt _) (UInt8.toNat_lt _) (UInt8.toNat_lt _) (UInt8.toNat_lt _) (UInt8.toNat_lt _) (UInt8.toNat_lt _), ← leNat8]
    rw [take_eight t h8]
  generalize ((Lib.leNat (t.take 8) : Nat) : Int) = Z at e0 ⊢
  have h2 : (wordE (((fun i => (t.getD i 0).toNat) 0 : Nat) : Int) (((fun i => (t.getD i 0).toNat) 1 : Nat) : Int) (((fun i => (t.getD i 0).toNat) 2 : Nat) : Int) (((fun i => (t.getD i 0).toNat) 3 : Nat) : Int) (((fun i => (t.getD i 0).toNat) 4 : Nat) : Int) (((fun i => (t.getD i 0).toNat) 5 : Nat) : Int) (((fun i => (t.getD i 0).toNat) 6 : Nat) : Int) (((fun i => (t.getD i 0).toNat) 7 : Nat) : Int)) = Z := e0
  rw [h2] at h
  exact h

/-- The first k bytes are below 128. -/
def Low (t : List UInt8) (k : Nat) : Prop := ∀ b ∈ t.take k, b.toNat < 128
theorem low_word {t : List UInt8} (h8 : 8 ≤ t.length) : (Lib.leNat (t.take 8) &&& 9259542123273814144 = 0) ↔ Low t 8 := by
  have e : (t.take 8).length = 8 := by simp; omega
  have h := Lib.leNat_mask (t.take 8)
  rw [e, Lib.maskN8] at h
  exact h
theorem low_add {t : List UInt8} {a b : Nat} (ha : Low t a) (hb : Low (t.drop a) b) : Low t (a + b) := by
  unfold Low at *
  rw [List.take_add]
  intro x hx
  rcases List.mem_append.1 hx with h | h
  · exact ha x h
  · exact hb x h
theorem low_one {t : List UInt8} (h : (t.getD 0 0).toNat < 128) : Low t 1 := by
  unfold Low
  match t with
  | [] => simp
  | c :: r =>
    intro b hb
    simp at hb h
    subst hb
    exact h
theorem low_skip {t : List UInt8} {k : Nat} (h : Low t k) : Lib.validD (t.drop k) = Lib.validD t := (Lib.validD_ascii k t h).symm
theorem word_lt8 (t : List UInt8) : Lib.leNat (t.take 8) < 18446744073709551616 := by
  have h := Lib.leNat_lt (t.take 8)
  have h2 : 256 ^ (t.take 8).length ≤ 256 ^ 8 := Nat.pow_le_pow_right (by decide) (by simp; omega)
  exact Nat.lt_of_lt_of_le h (by simpa using h2)

/-- The word of a row, with what it says of its bytes. -/
theorem word_says (t : List UInt8) (h8 : 8 ≤ t.length) : ∃ A : Nat, A < 18446744073709551616 ∧ ((A &&& 9259542123273814144 = 0) ↔ Low t 8) ∧ ∀ (a : Option Addr) (n c : Nat) (w : World), n = t.length → n ≤ 140737488355328 → Byts w a t →
    Calls Tryd.prog 81 #[.slice a n c] w fun e w' => e = .returned (.int .u64 (A : Int)) ∧ ∃ q, w' = w.drewN q :=
  ⟨_, word_lt8 t, low_word h8, fun a n c w hn hl hB => wordL a n c t w hn (by omega) hl hB⟩

/-- The two tables of unicode/utf8, as they are laid. -/
def Tabs (w : World) : Prop :=
  (∀ c, c < 256 → w.cell? ⟨0, c, none⟩ = some (.int .u8 (Lib.firstT c))) ∧
  (∀ i, i < 16 → w.cell? ⟨1, 2 * i, none⟩ = some (.int .u8 (Lib.accLo i)) ∧ w.cell? ⟨1, 2 * i + 1, none⟩ = some (.int .u8 (Lib.accHi i)))
theorem Tabs.below {w w' : World} (h : Tabs w) (hb : RowKit.Below w.heap.size w w') : Tabs w' := by
  refine ⟨fun c hc => ?_, fun i hi => ?_⟩
  · rw [hb.cell (p := ⟨0, c, none⟩) (cell_lt' (h.1 c hc))]
    exact h.1 c hc
  · rw [hb.cell (p := ⟨1, 2 * i, none⟩) (cell_lt' (h.2 i hi).1), hb.cell (p := ⟨1, 2 * i + 1, none⟩) (cell_lt' (h.2 i hi).2)]
    exact h.2 i hi
theorem firstT_lt (b : Nat) : Lib.firstT b < 256 := by
  unfold Lib.firstT
  repeat' split
  all_goals omega
set_option maxRecDepth 100000 in
theorem and7 : ∀ X : Fin 256, bits .and .u8 ((X.val : Nat) : Int) 7 = ((X.val % 8 : Nat) : Int) := by decide
end Go.Proofs.YtfnmmpakejdlgaaDoor
