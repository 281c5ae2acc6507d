/- Some texts in one: each opens with its own remark. -/
import Derived.Test.YthdggdmaajlaiaaK2
import Derived.Deep.OwnRows
import Derived.Lib.SliceRun
import Derived.Laws.IdiomCopy
import Derived.Deep.RegionLaw
import Derived.BigRegion
/- Mark. -/
namespace Go.Proofs.Ythdggdmaajlaiaa
open Go.RowKit

variable {w : World} {A W B ta tw tb : Nat} {ws bs : List Nat} {top low high : Nat} {op : Bool}

/-- A head's word with its mark on, or off. -/
def markW (x : Nat) (on : Bool) : Nat := if on then (x ^^^ (x &&& 2 ^ 54)) ||| 2 ^ 54 else x ^^^ (x &&& 2 ^ 54)
/-- What Mark leaves, and tells. -/
def markA (ws bs : List Nat) (top : Nat) (at_ : Int) (on : Bool) : List Nat × Int := if holdsAt bs top at_ then (ws.set at_.toNat (markW (ws.getD at_.toNat 0) on), 0) else (ws, 1)
end Go.Proofs.Ythdggdmaajlaiaa

/- What an object may be; room for bits. -/
namespace Go.Proofs.Ythdggdmaajlaiaa
open Go.RowKit

/-- May an object have such a head? -/
def fitsA (t r s o : Int) : Bool := decide (1 ≤ t ∧ t ≤ 255) && (decide (0 ≤ s ∧ s ≤ 4096) && (decide (0 ≤ r ∧ r ≤ s) && decide (0 ≤ o ∧ o ≤ 1048575)))
theorem fits_any (t r s o : Int) (w : World) :
    Calls Try.prog 48 #[.int .i64 t, .int .i64 r, .int .i64 s, .int .i64 o] w fun e w' => e = .returned (.bool (fitsA t r s o)) ∧ w' = w := by
  have H1 := mkHid (within_any t 1 255 w)
  have H2 := mkHid (within_any s 0 4096 w)
  have H3 := mkHid (within_any r 0 s w)
  have H4 := mkHid (within_any o 0 1048575 w)
  unfold fitsA
  generalize decide (1 ≤ t ∧ t ≤ 255) = b1 at *
  generalize decide (0 ≤ s ∧ s ≤ 4096) = b2 at *
  generalize decide (0 ≤ r ∧ r ≤ s) = b3 at *
  generalize decide (0 ≤ o ∧ o ≤ 1048575) = b4 at *
  cases b1
  · go_enter Try.func48, Try.ntmps48
    go_wp2_with fail
    refine H1.out.mono ?_
    rintro e w1 ⟨rfl, rfl⟩
    go_wp2_with fail
    go_ret
    exact ⟨rfl, rfl⟩
  cases b2
  · go_enter Try.func48, Try.ntmps48
    go_wp2_with fail
    refine H1.out.mono ?_
    rintro e w1 ⟨rfl, rfl⟩
    go_wp2_with fail
    refine H2.out.mono ?_
    rintro e w1 ⟨rfl, rfl⟩
    go_wp2_with fail
    go_ret
    exact ⟨rfl, rfl⟩
  cases b3
  · go_enter Try.func48, Try.ntmps48
    go_wp2_with fail
    refine H1.out.mono ?_
    rintro e w1 ⟨rfl, rfl⟩
    go_wp2_with fail
    refine H2.out.mono ?_
    rintro e w1 ⟨rfl, rfl⟩
    go_wp2_with fail
    refine H3.out.mono ?_
    rintro e w1 ⟨rfl, rfl⟩
    go_wp2_with fail
    go_ret
    exact ⟨rfl, rfl⟩
  cases b4
  all_goals
    go_enter Try.func48, Try.ntmps48
    go_wp2_with fail
    refine H1.out.mono ?_
    rintro e w1 ⟨rfl, rfl⟩
    go_wp2_with fail
    refine H2.out.mono ?_
    rintro e w1 ⟨rfl, rfl⟩
    go_wp2_with fail
    refine H3.out.mono ?_
    rintro e w1 ⟨rfl, rfl⟩
    go_wp2_with fail
    refine H4.out.mono ?_
    rintro e w1 ⟨rfl, rfl⟩
    go_wp2_with fail
    go_ret
    exact ⟨rfl, rfl⟩

theorem made_words (m : Nat) : madeCells #[.int .u64 0] m = wcells (List.replicate m 0) := by
  unfold madeCells wcells
  apply Array.ext
  · simp
  · intro i h1 h2
    simp [Nat.mod_one]

theorem placesFor_any (n : Nat) (w : World) (h0 : 1 ≤ n) (hn : n ≤ 1048576) :
    Calls Try.prog 65 #[.int .i64 n] w fun e w' => e = .returned (.slice (some ⟨w.heap.size, 0, none⟩) ((n + 63) / 64) ((n + 63) / 64)) ∧ Below w.heap.size w w' ∧ Wds w' w.heap.size 27 (List.replicate ((n + 63) / 64) 0) := by
  obtain ⟨m, hm⟩ : ∃ m, m = (n + 63) / 64 := ⟨_, rfl⟩
  rw [← hm]
  have h64 : ((n : Int) + 63) / 64 = (m : Int) := by omega
  have hm0 : (0 : Int) ≤ (m : Int) := by omega
  have hm1 : m ≤ 20000 := by omega
  have hmk := run_make_row' (P := Try.prog) 91 27 (.int .u64 0) 8 Try.underlying91 (by kernel_rfl) rfl .i64 .i64 m (by omega) (by omega) w
  obtain ⟨W2, hW2⟩ : ∃ W2, W2 = w.alloc (.cells (madeCells #[.int .u64 0] m) 27) := ⟨_, rfl⟩
  have B2 := mkHid (p := Below w.heap.size w W2) (by rw [hW2]; exact (Below.refl _ w).alloc (Nat.le_refl _) _)
  have P2 := mkHid (p := Wds W2 w.heap.size 27 (List.replicate m 0)) (by rw [hW2, made_words]; exact heap_alloc_new w _)
  rw [← hW2] at hmk
  clear hm hW2
  go_enter Try.func65, Try.ntmps65
  go_wp2_with fail
  go_ret
  exact ⟨rfl, B2.out, P2.out⟩
end Go.Proofs.Ythdggdmaajlaiaa

/- A new arena. -/
namespace Go.Proofs.Ythdggdmaajlaiaa
open Go.RowKit

theorem ar_new {u : World} {W B n : Nat} (hn : n ≤ 1048576) (hW : Wds u W 27 (List.replicate n 0)) (hB : Wds u B 27 (List.replicate ((n + 63) / 64) 0)) (hne : W ≠ B) (ta : Nat) :
    Ar (u.alloc (.cells #[.slice (some ⟨W, 0, none⟩) n n, .slice (some ⟨B, 0, none⟩) ((n + 63) / 64) ((n + 63) / 64), .int .i64 0, .int .i64 0, .int .i64 0, .bool false] ta)) u.heap.size W B ta 27 27 (List.replicate n 0) (List.replicate ((n + 63) / 64) 0) 0 0 0 false := by
  have hb : Below u.heap.size u (u.alloc (.cells #[.slice (some ⟨W, 0, none⟩) n n, .slice (some ⟨B, 0, none⟩) ((n + 63) / 64) ((n + 63) / 64), .int .i64 0, .int .i64 0, .int .i64 0, .bool false] ta)) := (Below.refl _ u).alloc (Nat.le_refl _) _
  have hz : ∀ k i : Nat, (List.replicate k 0).getD i 0 < 18446744073709551616 := by
    intro k i
    rw [List.getD_eq_getElem?_getD, List.getElem?_replicate]
    split <;> simp
  have h1 := hW.lt
  have h2 := hB.lt
  refine ⟨?_, hW.below hb, hB.below hb, by omega, by omega, hne, by simp, by simpa using hn, hz _, hz _, by simp, Nat.le_refl _, Nat.le_refl _⟩
  rw [List.length_replicate, List.length_replicate]
  exact heap_alloc_new u _
set_option maxHeartbeats 1000000 in
theorem New_any (n : Nat) (w : World) (h0 : 1 ≤ n) (hn : n ≤ 1048576) :
    Calls Try.prog 40 #[.int .i64 n] w fun e w' => ∃ A W B, e = .returned (.tuple #[.pointer (some ⟨A, 0, none⟩), .int .i64 0]) ∧ Below w.heap.size w w' ∧ w.heap.size ≤ A ∧ w.heap.size ≤ W ∧ w.heap.size ≤ B ∧ Ar w' A W B 93 27 27 (List.replicate n 0) (List.replicate ((n + 63) / 64) 0) 0 0 0 false := by
  have HW := mkHid (fun u : World => within_any (n : Int) 1 1048576 u)
  rw [decide_eq_true (show (1 : Int) ≤ (n : Int) ∧ (n : Int) ≤ 1048576 by omega)] at HW
  have HP := mkHid (fun u : World => placesFor_any n u h0 hn)
  have HMK := mkHid (fun u : World => run_make_row' (P := Try.prog) 23 27 (.int .u64 0) 8 Try.underlying23 (by kernel_rfl) rfl .i64 .i64 n (by omega) (by omega) u)
  have hm0 := HMK.out w.drew
  obtain ⟨W2, hW2⟩ : ∃ W2, W2 = w.drew.alloc (.cells (madeCells #[.int .u64 0] n) 27) := ⟨_, rfl⟩
  rw [← hW2] at hm0
  have HW2 := mkHid hW2
  clear hW2
  go_enter Try.func40, Try.ntmps40
  go_wp2_with fail
  refine (HW.out _).mono ?_
  rintro e w1 ⟨rfl, rfl⟩
  go_wp2_with fail
  go_region_with (go_at_call 65; refine (HP.out _).mono ?_; rintro e w3 ⟨rfl, b3, p3⟩; have hm1 := HMK.out w3)
  all_goals go_wp2_with fail
  all_goals go_ret2
  all_goals first
    | (have hp2 : Wds w3 w1.heap.size 27 (List.replicate n 0) := by
         have h2 : Wds W2 w1.heap.size 27 (List.replicate n 0) := by
           rw [HW2.out, made_words]; exact heap_alloc_new w1.drew _
         exact h2.below b3
       have hs2 : W2.heap.size = w1.heap.size + 1 := by rw [HW2.out]; simp
       have hb2 : Below w1.heap.size w1 W2 := by rw [HW2.out]; exact ((Below.refl _ w1).drew).alloc (Nat.le_refl _) _
       have hb3 : Below w1.heap.size w1 w3 := hb2.trans (b3.mono hb2.size)
       exact ⟨_, _, _, rfl, hb3.alloc hb3.size _, hb3.size, Nat.le_refl _, hb2.size, ar_new hn hp2 p3 (by omega) _⟩)
    | (have hb3 : Below w1.heap.size w1 w3 := ((Below.refl _ w1).drew).trans b3
       have hr : Below w3.heap.size w3 (w3.alloc (.cells (madeCells #[.int .u64 0] n) 27)) := (Below.refl _ w3).alloc (Nat.le_refl _) _
       have hp2 : Wds (w3.alloc (.cells (madeCells #[.int .u64 0] n) 27)) w3.heap.size 27 (List.replicate n 0) := by
         rw [made_words]; exact heap_alloc_new w3 _
       have hb4 := hb3.trans (hr.mono hb3.size)
       have hlt := p3.lt
       exact ⟨_, _, _, rfl, hb4.alloc hb4.size _, by have := hb3.size; omega, hb3.size, Nat.le_refl _, by simpa using ar_new hn hp2 (p3.below hr) (by have h : w1.drew.heap.size = w1.heap.size := rfl; omega) _⟩)

theorem New_bad (n : Int) (w : World) (h : ¬ (1 ≤ n ∧ n ≤ 1048576)) :
    Calls Try.prog 40 #[.int .i64 n] w fun e w' => e = .returned (.tuple #[.pointer none, .int .i64 1]) ∧ w' = w := by
  have HW := mkHid (within_any n 1 1048576 w)
  rw [decide_eq_false h] at HW
  clear h
  go_enter Try.func40, Try.ntmps40
  go_wp2_with fail
  refine HW.out.mono ?_
  rintro e w1 ⟨rfl, rfl⟩
  go_wp2_with fail
  go_ret2
  exact ⟨rfl, rfl⟩
end Go.Proofs.Ythdggdmaajlaiaa

/- Alloc, where it is refused. -/
namespace Go.Proofs.Ythdggdmaajlaiaa
open Go.RowKit

variable {w : World} {A W B ta tw tb : Nat} {ws bs : List Nat} {top low high : Nat} {op : Bool}

theorem Alloc_arg (A : Nat) (t r s o : Int) (w : World) (hb : fitsA t r s o = false) :
    Calls Try.prog 24 #[.pointer (some ⟨A, 0, none⟩), .int .i64 t, .int .i64 r, .int .i64 s, .int .i64 o] w fun e w' => e = .returned (.tuple #[.int .i64 0, .int .i64 1]) ∧ w' = w := by
  have HF := mkHid (fits_any t r s o w)
  rw [hb] at HF
  clear hb
  go_enter Try.func24, Try.ntmps24
  go_wp2_with fail
  refine HF.out.mono ?_
  rintro e w1 ⟨rfl, rfl⟩
  go_wp2_with fail
  go_ret2
  exact ⟨rfl, rfl⟩

theorem fitsA_nat {t r s o : Int} (h : fitsA t r s o = true) : ∃ t' r' s' o' : Nat, t = t' ∧ r = r' ∧ s = s' ∧ o = o' ∧ 1 ≤ t' ∧ t' < 256 ∧ r' ≤ s' ∧ s' ≤ 4096 ∧ o' < 1048576 := by
  unfold fitsA at h
  simp only [Bool.and_eq_true, decide_eq_true_eq] at h
  exact ⟨t.toNat, r.toNat, s.toNat, o.toNat, by omega, by omega, by omega, by omega, by omega, by omega, by omega, by omega, by omega⟩

theorem Alloc_full (h : Ar w A W B ta tw tb ws bs top low high op) (t r s o : Nat) (hb : fitsA t r s o = true) (hs : s ≤ 4096) (hfull : ws.length - top < 1 + s) :
    Calls Try.prog 24 #[.pointer (some ⟨A, 0, none⟩), .int .i64 t, .int .i64 r, .int .i64 s, .int .i64 o] w fun e w' => e = .returned (.tuple #[.int .i64 0, .int .i64 5]) ∧ w' = w := by
  have HF := mkHid (fits_any t r s o w)
  rw [hb] at HF
  have HFr := mkHid (Free_any h)
  have hfew := h.few
  obtain ⟨f, hf⟩ : ∃ f, f = ws.length - top := ⟨_, rfl⟩
  rw [← hf] at HFr hfull
  have hf1 : f ≤ 1048576 := by omega
  have hlt : (f : Int) < 1 + (s : Int) := by omega
  clear hb h hf
  go_enter Try.func24, Try.ntmps24
  go_wp2_with fail
  refine HF.out.mono ?_
  rintro e w1 ⟨rfl, rfl⟩
  go_wp2_with fail
  refine HFr.out.mono ?_
  rintro e w1 ⟨rfl, rfl⟩
  go_wp2_with fail
  go_ret2
  exact ⟨rfl, rfl⟩
end Go.Proofs.Ythdggdmaajlaiaa

/- Words that are laid over a row of words: clear, copy. -/
namespace Go.Proofs.Ythdggdmaajlaiaa
open Go.RowKit

/-- Words laid over others. -/
def lay (l : List Nat) : Nat → List Nat → List Nat
  | _, [] => l
  | o, x :: r => lay (l.set o x) (o + 1) r
theorem lay_len : ∀ (xs l : List Nat) (o : Nat), (lay l o xs).length = l.length
  | [], _, _ => rfl
  | x :: r, l, o => by rw [lay, lay_len r]; simp
theorem getD_set (l : List Nat) (o x i : Nat) : (l.set o x).getD i 0 = if i = o ∧ i < l.length then x else l.getD i 0 := by
  rw [List.getD_eq_getElem?_getD, List.getElem?_set, List.getD_eq_getElem?_getD]
  by_cases e : o = i
  · subst e
    by_cases h : o < l.length
    · rw [if_pos rfl, if_pos h, if_pos ⟨rfl, h⟩]; rfl
    · rw [if_pos rfl, if_neg h, if_neg (fun h2 => h h2.2), List.getElem?_eq_none (by omega)]
  · rw [if_neg e, if_neg (fun h => e h.1.symm)]
theorem lay_getD : ∀ (xs l : List Nat) (o i : Nat), o + xs.length ≤ l.length → (lay l o xs).getD i 0 = if o ≤ i ∧ i < o + xs.length then xs.getD (i - o) 0 else l.getD i 0
  | [], l, o, i, _ => by rw [lay, if_neg (by simp)]
  | x :: r, l, o, i, h => by
    simp only [List.length_cons] at h
    rw [lay, lay_getD r (l.set o x) (o + 1) i (by simp; omega), getD_set]
    by_cases h1 : o + 1 ≤ i ∧ i < o + 1 + r.length
    · rw [if_pos h1, if_pos (by simp; omega), show i - o = (i - (o + 1)) + 1 by omega]; simp
    · rw [if_neg h1]
      by_cases h2 : i = o
      · subst h2
        rw [if_pos ⟨rfl, by omega⟩, if_pos (by simp)]; simp
      · rw [if_neg (fun h3 => h2 h3.1), if_neg (by simp; omega)]
theorem lay_lt {xs l : List Nat} {o : Nat} (hl : ∀ i, l.getD i 0 < 18446744073709551616) (hx : ∀ x ∈ xs, x < 18446744073709551616) (h : o + xs.length ≤ l.length) (i : Nat) : (lay l o xs).getD i 0 < 18446744073709551616 := by
  rw [lay_getD xs l o i h]
  split
  · rename_i h1
    rw [List.getD_eq_getElem?_getD, List.getElem?_eq_getElem (by omega)]
    exact hx _ (List.getElem_mem _)
  · exact hl i
def wvals (xs : List Nat) : List Value := xs.map fun x : Nat => Value.int .u64 (x : Int)
theorem Wds.lay : ∀ (xs : List Nat) {w : World} {b t : Nat} {l : List Nat} (o : Nat), Wds w b t l → Wds (w.setCells b o (wvals xs)) b t (lay l o xs)
  | [], _, _, _, _, _, h => h
  | x :: r, _, _, _, _, o, h => Wds.lay r (o + 1) (h.set o x)
theorem Chg.setCells {p : Nat → Prop} {b : Nat} (hb : p b) : ∀ (vs : List Value) {w w' : World} (o : Nat), Chg p w w' → Chg p w (w'.setCells b o vs)
  | [], _, _, _, h => h
  | _ :: vs, _, _, o, h => Chg.setCells hb vs (o + 1) (h.setCell (Or.inl hb) o _)
theorem Raw.lay {w : World} {A W B ta tw tb : Nat} {ws bs : List Nat} {top low high : Nat} {op : Bool} (h : Raw w A W B ta tw tb ws bs top low high op) (xs : List Nat) (o : Nat) (hx : ∀ x ∈ xs, x < 18446744073709551616) (ho : o + xs.length ≤ ws.length) :
    Raw (w.setCells W o (wvals xs)) A W B ta tw tb (lay ws o xs) bs top low high op := by
  have hc := Chg.setCells (p := fun k => k = W) rfl (wvals xs) o (Chg.refl (fun k => k = W) w)
  have hA : (w.setCells W o (wvals xs)).heap[A]? = w.heap[A]? := hc.block A (Array.getElem?_eq_some_iff.1 h.head).1 (fun e => h.aw e)
  refine ⟨by rw [hA, lay_len]; exact h.head, h.words.lay xs o, h.bits.chg hc (fun e => h.wb e.symm), h.aw, h.ab, h.wb, by rw [lay_len]; exact h.len, by rw [lay_len]; exact h.few, lay_lt h.wlt hx ho, h.blt⟩

theorem Raw.setWord {w : World} {A W B ta tw tb : Nat} {ws bs : List Nat} {top low high : Nat} {op : Bool} (h : Raw w A W B ta tw tb ws bs top low high op) (o x : Nat) (hx : x < 18446744073709551616) (ho : o < ws.length) :
    Raw (w.setCell ⟨W, o, none⟩ (.int .u64 (x : Int))) A W B ta tw tb (ws.set o x) bs top low high op := h.lay [x] o (by intro y hy; simp at hy; omega) (by simp; omega)

/-- clear of a part of a row of words, as a step of a region that draws. -/
theorem step_clear {P : Program} {ops : Array Oper} {o : Oper} {a : Act} {w : World} {K : Act → World → Prop} {Q : Exit → Act → World → Prop} {E : Prop}
    (hg : o.guard = none) (s : Operand) (t : TypeId) (hop : o.op = Op.call { callee := Callee.builtin Builtin.clear, args := #[s], argTypes := #[t] })
    (e : TypeId) (h1 : P.underlying t = some (.slice e)) (hv : ∀ w, (zeroValue e).run P w = .ok (.int .u64 0) w)
    (W tw p n c : Nat) (ad : Addr) (ws : List Nat) (hs : a.eval s = .slice (some ad) n c) (had : 0 < n → ad = ⟨W, p, none⟩) (hw : Wds w W tw ws) (hn : p + n ≤ ws.length)
    (hK : ∀ w', w' = w.setCells W p (wvals (List.replicate n 0)) → K (a.put o.dst (.tuple #[])) w') :
    if Region.wanted o (yielded ops a.tmps) = true then Oper.wp P o a w K Q else E := by
  have hw' : Region.wanted o (yielded ops a.tmps) = true := by simp [Region.wanted, hg]
  rw [if_pos hw']
  rcases Nat.eq_zero_or_pos n with h0 | h0
  · subst h0
    have hrun : (Builtin.clear_ #[t] o.type #[.slice (some ad) 0 c]).run P w = .ok (.tuple #[]) w := by
      simp [Builtin.clear_, run_underlying h1]
    unfold Oper.wp
    simp [execOp, hop, resolve, invoke, builtin, hs, hrun, Result.andThen]
    exact hK _ rfl
  · rw [had h0] at hs
    have hrun := Lib.run_clear_slice (P := P) w t e o.type (.int .u64 0) h1 hv rfl rfl W p n c h0 (fun j hj => by rw [hw.cell (by omega)]; rfl) (fun j hj => hw.free _)
    unfold Oper.wp
    simp [execOp, hop, resolve, invoke, builtin, hs, hrun, Result.andThen]
    have e2 : wvals (List.replicate n 0) = List.replicate n (.int .u64 0) := by simp [wvals]
    exact hK _ (by rw [e2])
end Go.Proofs.Ythdggdmaajlaiaa

/- Alloc, where it lays an object. -/
namespace Go.Proofs.Ythdggdmaajlaiaa
open Go.RowKit

variable {w : World} {A W B ta tw tb : Nat} {ws bs : List Nat} {top low high : Nat} {op : Bool}
/-- A bit is set. -/
def setB (bs : List Nat) (p : Nat) : List Nat := bs.set (p / 64) (bs.getD (p / 64) 0 ||| 2 ^ (p % 64))
theorem setB_lt {bs : List Nat} {p : Nat} (hb : ∀ i, bs.getD i 0 < 18446744073709551616) (i : Nat) : (setB bs p).getD i 0 < 18446744073709551616 := by
  unfold setB
  rw [getD_set]
  split
  · have h2 : 2 ^ (p % 64) < 2 ^ 64 := Nat.pow_lt_pow_right (by omega) (by omega)
    exact Nat.or_lt_two_pow (n := 64) (hb _) h2
  · exact hb i
theorem zero_u64 (w : World) : (zeroValue 27).run Try.prog w = .ok (.int .u64 0) w := by kernel_rfl
/-- The words behind Alloc. -/
def allocW (ws : List Nat) (top t r s o : Nat) : List Nat := lay (ws.set top (packed t r s o)) (top + 1) (List.replicate s 0)
set_option maxHeartbeats 4000000 in
theorem Alloc_ok (h : Ar w A W B ta tw tb ws bs top low high op) (t r s o : Nat) (hb : fitsA t r s o = true) (ht : t < 256) (hrs : r ≤ s) (hs : s ≤ 4096) (ho : o < 1048576) (hroom : top + 1 + s ≤ ws.length) :
    Calls Try.prog 24 #[.pointer (some ⟨A, 0, none⟩), .int .i64 t, .int .i64 r, .int .i64 s, .int .i64 o] w fun e w' => e = .returned (.tuple #[.int .i64 top, .int .i64 0]) ∧ Chg (mine A W B) w w' ∧ Ar w' A W B ta tw tb (allocW ws top t r s o) (setB bs top) (top + (1 + s)) low high op := by
  have HF := mkHid (fits_any t r s o w)
  rw [hb] at HF
  have HFr := mkHid (Free_any h)
  have hfew := h.few
  have hlen := h.len
  obtain ⟨f, hf⟩ : ∃ f, f = ws.length - top := ⟨_, rfl⟩
  rw [← hf] at HFr
  have hf1 : f ≤ 1048576 := by omega
  have hlt : ¬ ((f : Int) < 1 + (s : Int)) := by omega
  obtain ⟨c0, c1, c2, c3, c4, c5⟩ := h.cells
  have f2 := h.free 2
  have HP := mkHid (fun u : World => pack_any t r s o u ht (by omega) hs ho)
  have hpk : packed t r s o < 18446744073709551616 := by unfold packed; omega
  obtain ⟨pk, hpk'⟩ : ∃ pk, pk = packed t r s o := ⟨_, rfl⟩
  rw [← hpk'] at HP hpk
  obtain ⟨U, hU⟩ : ∃ U, U = w.setCell ⟨A, 2, none⟩ (.int .i64 ((top : Int) + (1 + (s : Int)))) := ⟨_, rfl⟩
  have R1 := h.raw.setTop (top + (1 + s))
  rw [show (((top + (1 + s) : Nat)) : Int) = (top : Int) + (1 + (s : Int)) by simp, ← hU] at R1
  obtain ⟨d0, d1, d2, d3, d4, d5⟩ := R1.drew.cells
  have dw := R1.drew.words.cell (i := top) (by omega)
  have df := R1.drew.words.free top
  have R2 := R1.setWord top pk hpk (by omega)
  obtain ⟨x0, x1, x2, x3, x4, x5⟩ := R2.drew.cells
  rw [show (((top + (1 + s) : Nat)) : Int) = (top : Int) + (1 + (s : Int)) by simp] at x2
  rw [List.length_set] at x0
  have hp0 : (0 : Int) ≤ (top : Int) := by omega
  have hp1 : (top : Int) < (ws.length : Int) := by omega
  have htop : top ≤ 1048576 := by omega
  have HU := mkHid hU
  have HW2 : Hid (Wds (U.setCell ⟨W, top, none⟩ (.int .u64 (pk : Int))) W tw (ws.set top pk)) := R2.words
  rw [hU] at d0 d1 d2 d3 d4 d5 dw df x0 x1 x2 x3 x4 x5 HW2
  have hq1 : (0 : Int) ≤ (top : Int) + 1 := by omega
  have hq2 : (top : Int) + 1 ≤ (top : Int) + (1 + (s : Int)) := by omega
  have hq3 : (top : Int) + (1 + (s : Int)) ≤ (ws.length : Int) := by omega
  have hq4 : IntKind.i64.wrap ((top : Int) + 1) = (top : Int) + 1 := by rw [IntKind.wrap_i64]; omega
  have hq5 : ((top : Int) + 1).toNat = top + 1 := by omega
  have hq6 : ((top : Int) + (1 + (s : Int))).toNat = top + (1 + s) := by omega
  have hq7 : top + (1 + s) - (top + 1) = s := by omega
  obtain ⟨AD, hAD, HADD⟩ : ∃ AD : Addr, (if ws.length = top + 1 then some (⟨W, 0, none⟩ : Addr) else some ⟨W, top + 1, none⟩) = some AD ∧ Hid (0 < s → AD = ⟨W, top + 1, none⟩) := by
    by_cases h : ws.length = top + 1
    · exact ⟨_, by rw [if_pos h], fun h2 => by omega⟩
    · exact ⟨_, by rw [if_neg h], fun _ => rfl⟩
  have HFACT : Hid (∀ w4 : World, w4 = (U.setCell ⟨W, top, none⟩ (.int .u64 (pk : Int))).drew.drew.setCells W (top + 1) (wvals (List.replicate s 0)) → Hid (Raw w4 A W B ta tw tb (lay (ws.set top pk) (top + 1) (List.replicate s 0)) bs (top + (1 + s)) low high op) ∧ Hid (Chg (mine A W B) w w4) ∧ w4.cell? ⟨A, 1, none⟩ = some (.slice (some ⟨B, 0, none⟩) bs.length bs.length)) := by
    intro w4 hw4
    have R3 : Raw w4 A W B ta tw tb (lay (ws.set top pk) (top + 1) (List.replicate s 0)) bs (top + (1 + s)) low high op := by
      rw [hw4]; exact R2.drew.drew.lay (List.replicate s 0) (top + 1) (by intro x hx; rw [List.eq_of_mem_replicate hx]; decide) (by simp; omega)
    refine ⟨R3, ?_, R3.cells.2.1⟩
    rw [hw4, hU]
    exact Chg.setCells (Or.inr (Or.inl rfl)) _ _ ((((Chg.refl _ w).setCell (Or.inl (Or.inl rfl)) _ _).setCell (Or.inl (Or.inr (Or.inl rfl))) _ _).drew.drew)
  rw [hU] at HFACT
  have HPK := mkHid hpk'
  have HA := mkHid h
  have HROOM := mkHid hroom
  have HLEN := mkHid hlen
  clear hb h hf R1 R2 hU hpk' hrs hroom hlen
  go_enter Try.func24, Try.ntmps24
  go_wp2_with fail
  refine HF.out.mono ?_
  rintro e w1 ⟨rfl, rfl⟩
  go_wp2_with fail
  refine HFr.out.mono ?_
  rintro e w1 ⟨rfl, rfl⟩
  go_wp2_with fail
  go_region_with (go_at_call 49; refine (HP.out _).mono ?_; rintro e w3 ⟨rfl, rfl⟩)
  all_goals
    go_wp2_with fail
    go_region_law (refine step_clear rfl (.tmp 62) 23 rfl 27 Try.underlying23 zero_u64 W tw (top + 1) s (ws.length - (top + 1)) AD (ws.set top pk) (by simp [Act.eval, Act.put]) HADD.out HW2.out (by rw [List.length_set]; have := HROOM.out; omega) ?_; intro w4 hw4; obtain ⟨HR3, HC4, y1⟩ := HFACT.out w4 hw4; clear hw4)
    all_goals
      have HADD2 := mkHid (add_any top B tb bs.length bs w4 (by have := HROOM.out; have := HLEN.out; omega) (by have := HLEN.out; omega) HR3.out.bits HR3.out.blt)
      go_wp2_with fail
      refine HADD2.out.mono ?_
      rintro e w5 ⟨rfl, hc5, hb5⟩
      have HR5 := mkHid (HR3.out.setBits hc5 (top / 64) (bs.getD (top / 64) 0 ||| 2 ^ (top % 64)) (by
        have h2 : 2 ^ (top % 64) < 2 ^ 64 := Nat.pow_lt_pow_right (by omega) (by omega)
        exact Nat.or_lt_two_pow (n := 64) (HR3.out.blt _) h2) hb5)
      have HC5 := mkHid (HC4.out.trans (hc5.mono fun k _ e => Or.inr (Or.inr e)))
      clear hc5 hb5
      go_wp2_with fail
      go_ret2
      refine ⟨rfl, HC5.out, ?_⟩
      unfold allocW
      rw [← HPK.out]
      exact HR5.out.ar (by rw [lay_len, List.length_set]; have := HROOM.out; omega) HA.out.lowLe (by have := HA.out.highLe; omega)
end Go.Proofs.Ythdggdmaajlaiaa

/- Keep. -/
namespace Go.Proofs.Ythdggdmaajlaiaa
open Go.RowKit

/-- copy of a part of a row of words within it, as a step of a region that draws. -/
theorem step_copy {P : Program} {ops : Array Oper} {o : Oper} {a : Act} {w : World} {K : Act → World → Prop} {Q : Exit → Act → World → Prop} {E : Prop}
    (hg : o.guard = none) (d s : Operand) (t : TypeId) (hop : o.op = Op.call { callee := Callee.builtin Builtin.copy, args := #[d, s], argTypes := #[t, t] })
    (e : TypeId) (h1 : P.underlying t = some (.slice e)) (hsz : (P.info? e).map (·.size) = some 1)
    (W tw p q n dl dc sc : Nat) (ws : List Nat) (hd : a.eval d = .slice (some ⟨W, p, none⟩) dl dc) (hs : a.eval s = .slice (some ⟨W, q, none⟩) n sc) (hw : Wds w W tw ws) (hdl : n ≤ dl) (hpl : p + n ≤ ws.length) (hql : q + n ≤ ws.length)
    (hK : ∀ w', w' = w.setCells W p (wvals ((ws.drop q).take n)) → K (a.put o.dst (goInt n)) w') :
    if Region.wanted o (yielded ops a.tmps) = true then Oper.wp P o a w K Q else E := by
  have hw' : Region.wanted o (yielded ops a.tmps) = true := by simp [Region.wanted, hg]
  rw [if_pos hw']
  have hlen : (wvals ((ws.drop q).take n)).length = n := by simp [wvals]; omega
  have hrun := run_copy_cells (P := P) w t t o.type e W p dl dc ⟨W, q, none⟩ n sc (wvals ((ws.drop q).take n)) h1 hsz (by rw [hlen]; exact (Nat.min_eq_left hdl).symm) (fun j v hv => by
      have hj := (List.getElem?_eq_some_iff.1 hv).1
      rw [hlen] at hj
      rw [show (⟨W, q, none⟩ : Addr).add j = ⟨W, q + j, none⟩ by unfold Addr.add; split <;> simp_all, hw.cell (by omega), ← hv]
      simp [wvals, hj, show q + j < ws.length by omega]) (fun j hj => by rw [hlen] at hj; rw [hw.cell (by omega)]; rfl) (fun j hj => hw.free _) (fun v hv => by
      obtain ⟨x, _, rfl⟩ := List.mem_map.1 hv
      rfl)
  rw [hlen] at hrun
  unfold Oper.wp
  simp [execOp, hop, resolve, invoke, builtin, hd, hs, hrun, Result.andThen]
  exact hK _ rfl

variable {w : World} {A W B ta tw tb : Nat} {ws bs : List Nat} {top low high : Nat} {op : Bool}
/-- The words behind Keep. -/
def keepW (ws : List Nat) (low high n : Nat) : List Nat := lay ws low ((ws.drop high).take n)
def KeepSay (w : World) (A W B ta tw tb : Nat) (ws bs : List Nat) (top low high : Nat) (op : Bool) (e : Ending) (w' : World) : Prop :=
  Chg (mine A W B) w w' ∧ ((op = false ∧ e = .returned (.tuple #[.int .i64 0, .int .i64 0, .int .i64 16]) ∧ Ar w' A W B ta tw tb ws bs top low high op) ∨ (op = true ∧ high = top ∧ e = .returned (.tuple #[.int .i64 0, .int .i64 0, .int .i64 17]) ∧ Ar w' A W B ta tw tb ws bs top low high op) ∨ (op = true ∧ high < top ∧ e = .returned (.tuple #[.int .i64 high, .int .i64 low, .int .i64 0]) ∧ Ar w' A W B ta tw tb (keepW ws low high (1 + sizeAt ws high)) (setB (cleared bs high) low) top (low + (1 + sizeAt ws high)) (high + 1 + sizeAt ws high) op))
theorem info_w : (Try.prog.info? 27).map (·.size) = some 1 := by kernel_rfl
end Go.Proofs.Ythdggdmaajlaiaa
