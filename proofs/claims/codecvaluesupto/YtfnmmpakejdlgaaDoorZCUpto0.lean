/- Toward valueUpTo: a scope with labels and a number that falls; the state between the steps. -/
import Derived.Test.YtfnmmpakejdlgaaDoorK15
import Derived.Test.YtfnmmpakejdlgaaDoorK10
import Derived.Test.YtfnmmpakejdlgaaDoorK15
import Derived.Deep.LoopGhost
import Derived.Laws.DeepNot64
namespace Go.Proofs.YtfnmmpakejdlgaaDoor
open Go.RowKit

/-- As wp_scope_all, the number borne by what holds. -/
theorem wp_scope_ghost {P : Program} {a : Act} {w : World} {Q : Exit → Act → World → Prop} {c : Code} (J : Nat → Nat → Act → World → Prop)
    (pass : ∀ l k a w, J l k a w → ∃ rest, findLabel c l = some (Code.skip.seq rest) ∧ rest.wp P (Exit.jumps (fun l' a' w' => ∃ k', k' < k ∧ J l' k' a' w') Q) a w)
    (first : (∀ l k a w, J l k a w → ∃ rest, findLabel c l = some (Code.skip.seq rest) ∧ rest.wp P (Exit.jumps (fun l' a' w' => ∃ k', J l' k' a' w') Q) a w) → c.wp P (Exit.jumps (fun l' a' w' => ∃ k', J l' k' a' w') Q) a w) : (Code.scope c).wp P Q a w := by
  refine wp_scope_all (fun l a w => ∃ k, J l k a w) (fun l a w => leastOf (fun k => J l k a w)) ?_ ?_
  · intro l a w h
    obtain ⟨h1, _⟩ := leastOf_spec h
    obtain ⟨rest, hf, hw⟩ := pass l _ a w h1
    refine ⟨rest, hf, Code.wp_mono (fun e a w hq => ?_) hw⟩
    cases e with
    | goto l' =>
      obtain ⟨k', hk', hJ⟩ := hq
      exact ⟨⟨k', hJ⟩, Nat.lt_of_le_of_lt ((leastOf_spec ⟨k', hJ⟩).2 k' hJ) hk'⟩
    | normal => exact hq
    | exit id => exact hq
    | ret => exact hq
    | panic ch => exact hq
    | outgrown => exact hq
  · intro h
    refine first fun l k a w hJ => ?_
    obtain ⟨rest, hf, hw⟩ := pass l k a w hJ
    refine ⟨rest, hf, Code.wp_mono (fun e a w hq => ?_) hw⟩
    cases e with
    | goto l' =>
      obtain ⟨k', _, hJ'⟩ := hq
      exact ⟨k', hJ'⟩
    | normal => exact hq
    | exit id => exact hq
    | ret => exact hq
    | panic ch => exact hq
    | outgrown => exact hq

theorem jumps_less {P : Program} {c : Code} {Q : Exit → Act → World → Prop} {J : Nat → Nat → Act → World → Prop} {k k' : Nat} {a : Act} {w : World} (hk : k' ≤ k) (h : c.wp P (Exit.jumps (fun l a w => ∃ j, j < k' ∧ J l j a w) Q) a w) : c.wp P (Exit.jumps (fun l a w => ∃ j, j < k ∧ J l j a w) Q) a w := by
  refine Code.wp_mono (fun e a w hq => ?_) h
  cases e with
  | goto l =>
    obtain ⟨j, hj, hJ⟩ := hq
    exact ⟨j, Nat.lt_of_lt_of_le hj hk, hJ⟩
  | normal => exact hq
  | exit id => exact hq
  | ret => exact hq
  | panic ch => exact hq
  | outgrown => exact hq
/-- The same; a step that falls into the next label may lean on that one's. -/
theorem wp_scope_ghost2 {P : Program} {a : Act} {w : World} {Q : Exit → Act → World → Prop} {c : Code} (J : Nat → Nat → Act → World → Prop)
    (pass : ∀ k, (∀ l' k' a w, k' < k → J l' k' a w → ∃ rest, findLabel c l' = some (Code.skip.seq rest) ∧ rest.wp P (Exit.jumps (fun l a w => ∃ j, j < k' ∧ J l j a w) Q) a w) → ∀ l a w, J l k a w → ∃ rest, findLabel c l = some (Code.skip.seq rest) ∧ rest.wp P (Exit.jumps (fun l a w => ∃ j, j < k ∧ J l j a w) Q) a w)
    (first : (∀ l k a w, J l k a w → ∃ rest, findLabel c l = some (Code.skip.seq rest) ∧ rest.wp P (Exit.jumps (fun l' a' w' => ∃ k', J l' k' a' w') Q) a w) → c.wp P (Exit.jumps (fun l' a' w' => ∃ k', J l' k' a' w') Q) a w) : (Code.scope c).wp P Q a w := by
  refine wp_scope_ghost J (fun l k a w hJ => ?_) first
  have key : ∀ k, ∀ l a w, J l k a w → ∃ rest, findLabel c l = some (Code.skip.seq rest) ∧ rest.wp P (Exit.jumps (fun l a w => ∃ j, j < k ∧ J l j a w) Q) a w := by
    intro k
    induction k using Nat.strongRecOn with
    | _ k ih => exact fun l a w h => pass k (fun l' k' a w hk h => ih k' hk l' a w h) l a w h
  exact key k l a w hJ

theorem use_label {P : Program} {c code : Code} {Q : Exit → Act → World → Prop} {J : Nat → Nat → Act → World → Prop} {k k' lb : Nat} {a : Act} {w : World}
    (IH : ∀ l' k' a w, k' < k → J l' k' a w → ∃ rest, findLabel c l' = some (Code.skip.seq rest) ∧ rest.wp P (Exit.jumps (fun l a w => ∃ j, j < k' ∧ J l j a w) Q) a w)
    (hc : findLabel c lb = some (Code.skip.seq code)) (hlt : k' < k) (hJ : J lb k' a w) : code.wp P (Exit.jumps (fun l a w => ∃ j, j < k ∧ J l j a w) Q) a w := by
  obtain ⟨rest, hf, hw⟩ := IH lb k' a w hlt hJ
  rw [hc] at hf
  cases hf
  exact jumps_less (Nat.le_of_lt hlt) hw
theorem use_first {P : Program} {c code : Code} {Q : Exit → Act → World → Prop} {J : Nat → Nat → Act → World → Prop} {k lb : Nat} {a : Act} {w : World}
    (IH : ∀ l k a w, J l k a w → ∃ rest, findLabel c l = some (Code.skip.seq rest) ∧ rest.wp P (Exit.jumps (fun l' a' w' => ∃ k', J l' k' a' w') Q) a w)
    (hc : findLabel c lb = some (Code.skip.seq code)) (hJ : J lb k a w) : code.wp P (Exit.jumps (fun l' a' w' => ∃ k', J l' k' a' w') Q) a w := by
  obtain ⟨rest, hf, hw⟩ := IH lb k a w hJ
  rw [hc] at hf
  cases hf
  exact hw

/-- The state between the steps. -/
structure St (w : World) (R b o c : Nat) (l : List UInt8) (lim : Int) (p0 : Nat) (w' : World) (p : Nat) (wv : Value) (st : List Opn) : Prop where
  only : OnlyAt R w w'
  rd : Rd w' R (some ⟨b, o, none⟩) l.length c p
  ple : p ≤ l.length
  pge : p0 ≤ p
  box4 : Blk5 w' w.heap.size (.int .i64 0) (.int .i64 0) (.string ⟨#[]⟩) (.slice none 0 0) (.slice none 0 0)
  stk : Stk (w.heap.size + 2) w' wv st
  trees : (p : Int) ≤ lim → Trees (hid (w.heap.size + 2) wv st) w' st
  nms : ∀ x ∈ st, Byts w x.na x.nm ∧ Apart R x.na x.nm ∧ x.nm.length ≤ 24
  dep : st.length ≤ 8
  lft : ∀ x ∈ st, x.left ≤ 32
/-- How many parts there are, at most. -/
def Cnt (p0 p k : Nat) (st : List Opn) : Prop := ∀ x ∈ st, x.fs.length + p0 + k ≤ p
/-- A frame: what stands in the slots that last. -/
structure Frm (w : World) (R : Nat) (lim : Int) (wv : Value) (t : Array Value) : Prop where
  size : t.size = 113
  s0 : t[0]? = some (.pointer (some ⟨R, 0, none⟩))
  s1 : t[1]? = some (.int .i64 lim)
  s4 : t[4]? = some (.pointer (some ⟨w.heap.size, 0, none⟩))
  s5 : t[5]? = some (.pointer (some ⟨w.heap.size + 1, 0, none⟩))
  s6 : t[6]? = some wv
/-- Only the reader and the value's box are changed: the state holds. -/
theorem St.step {w w1 w2 : World} {R b o c : Nat} {l : List UInt8} {lim : Int} {p0 p q : Nat} {wv : Value} {st : List Opn} (h : St w R b o c l lim p0 w1 p wv st) (hR : R < w.heap.size) (ho : Chg (fun k => k = R ∨ k = w.heap.size + 1) w1 w2) (hr : Rd w2 R (some ⟨b, o, none⟩) l.length c q) (hq : q ≤ l.length) (hpq : p ≤ q) : St w R b o c l lim p0 w2 q wv st := by
  have hs := h.only.size
  have h4 := h.box4.lt
  refine ⟨?_, hr, hq, Nat.le_trans h.pge hpq, ?_, h.stk.keep ?_, fun hl => (h.trees (by omega)).keep ?_, h.nms, h.dep, h.lft⟩
  · refine ⟨ho.os.trans h.only.os, ho.tape.trans h.only.tape, ho.output.trans h.only.output, Nat.le_trans hs ho.size, fun k hk hn => (ho.block k (by omega) ?_).trans (h.only.block k hk hn)⟩
    rintro (e | e)
    · exact hn e
    · omega
  · have := h.box4
    unfold Blk5 at this ⊢
    rw [ho.block w.heap.size (by omega) (by rintro (e | e) <;> omega)]
    exact this
  · intro k hk hk2
    exact ho.block k hk2 (by rintro (e | e) <;> omega)
  · intro k hk hp
    have := (hid_false.1 hp).1
    exact ⟨hp, ho.block k hk (by rintro (e | e) <;> omega)⟩
theorem Chg.of_only {R X : Nat} {w w' : World} (h : OnlyAt R w w') : Chg (fun k => k = R ∨ k = X) w w' := ⟨h.os, h.tape, h.output, h.size, fun k hk hn => h.block k hk fun e => hn (Or.inl e)⟩
theorem Chg.drew {p : Nat → Prop} {w w' : World} (h : Chg p w w') : Chg p w w'.drew := ⟨h.os, h.tape, h.output, h.size, h.block⟩
theorem Chg.box {R X : Nat} {w w' : World} (h : Chg (fun k => k = R ∨ k = X) w w') (o : Nat) (v : Value) : Chg (fun k => k = R ∨ k = X) w (w'.setCell ⟨X, o, none⟩ v) := h.setCell (Or.inl (Or.inr rfl)) o v

theorem bits_xor_comm (a b : Int) : bits .xor .i64 a b = bits .xor .i64 b a := by
  show IntKind.i64.wrap ((BitVec.ofInt 64 a ^^^ BitVec.ofInt 64 b).toNat : Int) = IntKind.i64.wrap ((BitVec.ofInt 64 b ^^^ BitVec.ofInt 64 a).toNat : Int)
  rw [BitVec.xor_comm]
theorem i64_xor_zero (m : Nat) (h : m < 9223372036854775808) : bits .xor .i64 (m : Int) 0 = (m : Int) := by
  show IntKind.i64.wrap ((BitVec.ofInt 64 (m : Int) ^^^ BitVec.ofInt 64 0).toNat : Int) = _
  have h1 : BitVec.ofInt 64 0 = 0#64 := by decide
  rw [h1, BitVec.xor_zero, ofInt_u64 m (by omega)]
  simp [IntKind.wrap, IntKind.bits, IntKind.signed]
  omega
theorem i64_xor_neg (m : Nat) (h : m < 9223372036854775808) : bits .xor .i64 (m : Int) (-1) = -(m : Int) - 1 := by
  rw [bits_xor_comm, i64_not m h]
  omega

set_option maxHeartbeats 1000000 in
set_option maxRecDepth 1000000 in
theorem unfolded_any (n : Nat) (w : World) (hn : n < 18446744073709551616) : Calls Tryd.prog 69 #[.int .u64 n] w fun e w' => e = .returned (.int .i64 (unfR n)) ∧ w' = w := by
  obtain ⟨m, hm⟩ : ∃ m : Nat, m = n / 2 := ⟨_, rfl⟩
  have hm2 : m < 9223372036854775808 := by omega
  have hd : (n : Int) / 2 = (m : Int) := by omega
  have HP : ∀ x y : Int, x = y → Ending.returned (.int .i64 x) = Ending.returned (.int .i64 y) := fun x y h => by rw [h]
  have hx0 : bits .xor .i64 (m : Int) 0 = (m : Int) := i64_xor_zero m hm2
  have hx1 : bits .xor .i64 (m : Int) (-1) = -(m : Int) - 1 := i64_xor_neg m hm2
  by_cases h1 : n % 2 = 1
  · have ha : bits .and .u64 (n : Int) 1 = 1 := by
      have h := u64_and_nat n 1 hn (by omega)
      rw [show ((1 : Nat) : Int) = 1 from rfl] at h
      rw [h, Nat.and_one_is_mod]
      omega
    have hu : unfR n = -(m : Int) - 1 := by unfold unfR; rw [if_pos h1, ← hm]
    rw [hu]
    clear hu h1 hm
    go_enter Tryd.func69, Tryd.ntmps69
    go_wp2_with fail
    go_ret
    exact ⟨rfl, rfl⟩
  · have ha : bits .and .u64 (n : Int) 1 = 0 := by
      have h := u64_and_nat n 1 hn (by omega)
      rw [show ((1 : Nat) : Int) = 1 from rfl] at h
      rw [h, Nat.and_one_is_mod]
      omega
    have hu : unfR n = (m : Int) := by unfold unfR; rw [if_neg h1, ← hm]
    rw [hu]
    clear hu h1 hm
    go_enter Tryd.func69, Tryd.ntmps69
    go_wp2_with fail
    go_ret
    exact ⟨rfl, rfl⟩

theorem numR_pos : ∀ (l : List UInt8) (k acc : Nat), (numR l k acc).2.2 = 0 → 0 < (numR l k acc).2.1
  | [], _, _, h => absurd h (by simp [numR])
  | c :: l, k, acc, h => by
    rw [numR] at h ⊢
    split at h
    · exact absurd h (by decide)
    · rename_i h3
      rw [if_neg h3]
      split at h
      · rename_i h4
        rw [if_pos h4]
        exact numR_pos l _ _ h
      · rename_i h4
        rw [if_neg h4]
        exact Nat.succ_pos _
theorem numR_lt : ∀ (l : List UInt8) (k acc : Nat), acc < 18446744073709551616 → (numR l k acc).1 < 18446744073709551616
  | [], _, _, _ => by simp [numR]
  | c :: l, k, acc, h => by
    rw [numR]
    split
    · decide
    · split
      · exact numR_lt l _ _ (nOr_lt h)
      · exact nOr_lt h
theorem unfR_64 (n : Nat) (h : n < 18446744073709551616) : Int64 (unfR n) := by
  unfold Int64 unfR
  split <;> omega
/-- The bytes of a row as a text. -/
theorem byts_string {w : World} {a : Option Addr} {c : Nat} {t : List UInt8} (h : Byts w a t) : (convert 22 9 (.slice a t.length c)).run Tryd.prog w = .ok (.string ⟨t.toArray⟩) w := by
  cases a with
  | none =>
    cases t with
    | nil => exact run_convert_bytes_nil w 22 5 Tryd.underlying22 Tryd.underlying5 0 c 9 Tryd.underlying9
    | cons x t =>
      obtain ⟨b, o, e, _⟩ := h 0 (by simp)
      exact absurd e (by simp)
  | some ad =>
    refine run_convert_bytes_back w 22 9 5 ad c t Tryd.underlying22 Tryd.underlying5 Tryd.underlying9 ?_
    intro j hj
    obtain ⟨b, o, e, hc⟩ := h j hj
    cases e
    rw [show (⟨b, o, none⟩ : Addr).add j = ⟨b, o + j, none⟩ by simp [Addr.add]]
    exact hc

theorem takeR_eq (l : List UInt8) (d p : Nat) : takeR l d p = headR l p fun doc => if d = 0 then (.nil, 0, 3) else begR (takeR l (d - 1)) l (p + 1) doc := by
  cases d with
  | zero => simp [takeR]
  | succ d => simp [takeR]

theorem wrap_small (m : Nat) (h : m ≤ 100) : IntKind.i64.wrap (m : Int) = (m : Int) ∧ wrap64 (m : Int) = (m : Int) ∧ IntKind.i64.wrap (((m + 1 : Nat) : Int) - 1) = (m : Int) ∧ IntKind.i64.wrap ((m : Int) + 1 - 1) = (m : Int) := by
  have e1 : ((m + 1 : Nat) : Int) - 1 = (m : Int) := by omega
  have e2 : (m : Int) + 1 - 1 = (m : Int) := by omega
  have e3 : IntKind.i64.wrap (m : Int) = (m : Int) := IntWalk.i64_in _ (by omega)
  rw [e1, e2]
  exact ⟨e3, (IntWalk.i64_left _).symm.trans e3, e3, e3⟩
/-- The top's own cells. -/
theorem Stk.top {B g c : Nat} {w : World} {st : List Opn} {x : Opn} (h : Stk B w (.slice (some ⟨g, 0, none⟩) (st.length + 1) c) (x :: st)) :
    (w.cell? ⟨g, st.length * 7, none⟩ = some (.int .i64 x.kind) ∧ w.cell? ⟨g, st.length * 7 + 3, none⟩ = some x.l ∧ w.cell? ⟨g, st.length * 7 + 4, none⟩ = some x.f ∧ w.cell? ⟨g, st.length * 7 + 5, none⟩ = some (.int .i64 x.left) ∧ w.cell? ⟨g, st.length * 7 + 6, none⟩ = some (.slice x.na x.nm.length x.nc)) ∧ w.frozen? ⟨g, st.length * 7 + 5, none⟩ = false ∧ w.frozen? ⟨g, st.length * 7 + 6, none⟩ = false := by
  have ho := h.own
  rw [stCells_cons] at ho
  have e : ∀ j, j < 7 → w.cell? ⟨g, st.length * 7 + j, none⟩ = x.enc[j]? := by
    intro j hj
    have h1 := ho.cellAt (st.length * 7 + j) (by omega)
    rw [h1, List.getElem?_append_right (by rw [stCells_len]; omega), stCells_len]
    congr 1
    omega
  exact ⟨⟨e 0 (by omega), e 3 (by omega), e 4 (by omega), e 5 (by omega), e 6 (by omega)⟩, ho.frozenAt _, ho.frozenAt _⟩
theorem Stk.topRow {B g c : Nat} {w : World} {st : List Opn} {x : Opn} (h : Stk B w (.slice (some ⟨g, 0, none⟩) (st.length + 1) c) (x :: st)) :
    ∃ cur : Array Value, w.heap[g]? = some (.cells cur 102 (0, 0)) ∧ cur[st.length * 7]? = some (.int .i64 x.kind) ∧ cur[st.length * 7 + 3]? = some x.l ∧ cur[st.length * 7 + 4]? = some x.f ∧ cur[st.length * 7 + 6]? = some (.slice x.na x.nm.length x.nc) := by
  obtain ⟨⟨d0, d3, d4, _, d6⟩, _⟩ := h.top
  rcases h.own.2 with ⟨e, _⟩ | ⟨g', cap, cur, e, _, hg, _⟩
  · exact absurd e (by simp)
  · cases e
    refine ⟨cur, hg, ?_, ?_, ?_, ?_⟩ <;> (rw [← cell_of_row w g _ _ _ _ hg]; assumption)
theorem Blk5.chg {w w' : World} {B b : Nat} {x0 x1 x2 x3 x4 : Value} (h : Blk5 w b x0 x1 x2 x3 x4) (hc : Chg (fun k => B + 2 ≤ k) w w') (hb : b = B + 1) : Blk5 w' b x0 x1 x2 x3 x4 := by
  have hl := h.lt
  unfold Blk5 at h ⊢
  rw [hc.block b hl (by omega)]
  exact h
/-- The top set anew. -/
theorem St.set {w w1 : World} {R b o c : Nat} {l : List UInt8} {lim : Int} {p0 p g cp i : Nat} {rest : List Opn} {x y : Opn} {u : Value} (h : St w R b o c l lim p0 w1 p (.slice (some ⟨g, 0, none⟩) (rest.length + 1) cp) (x :: rest)) (hR : R < w.heap.size) (hd : y.doc = x.doc) (hf : y.fs = x.fs) (ha : y.a = x.a) (hc : y.c = x.c) (hp : y.parts = x.parts) (he : x.enc.set i u = y.enc) (hi : i < 7) (hn : Byts w y.na y.nm ∧ Apart R y.na y.nm ∧ y.nm.length ≤ 24) (hlf : y.left ≤ 32) :
    St w R b o c l lim p0 (w1.setCell ⟨g, rest.length * 7 + i, none⟩ u) p (.slice (some ⟨g, 0, none⟩) (rest.length + 1) cp) (y :: rest) := by
  have hg := own_blk h.stk.own (k := g) rfl
  have hr : y.row = x.row := by unfold Opn.row; rw [hf, ha, hc]
  have hs := h.only.size
  refine ⟨h.only.setNew (by omega) _, h.rd.other (by omega), h.ple, h.pge, h.box4.other (by omega), h.stk.set hd hf ha hc he hi, fun hl => ?_, ?_, h.dep, ?_⟩
  · have ht := h.trees hl
    have hk : Kp (hid (w.heap.size + 2) (.slice (some ⟨g, 0, none⟩) (rest.length + 1) cp) (x :: rest)) w1 (hid (w.heap.size + 2) (.slice (some ⟨g, 0, none⟩) (rest.length + 1) cp) (y :: rest)) (w1.setCell ⟨g, rest.length * 7 + i, none⟩ u) := by
      intro k hk hp2
      obtain ⟨q1, q2, q3⟩ := hid_false.1 hp2
      refine ⟨hid_false.2 ⟨q1, q2, ?_⟩, RowKit.Below.heap_setCell w1 ⟨g, rest.length * 7 + i, none⟩ u k (fun e => q2 (by rw [e]; rfl))⟩
      intro z hz
      rcases List.mem_cons.1 hz with rfl | hz
      · rw [hr]
        exact q3 x (by simp)
      · exact q3 z (by simp [hz])
    intro z hz
    rcases List.mem_cons.1 hz with rfl | hz
    · have := (ht x (by simp)).keep hk
      exact ⟨by rw [hf]; exact this.1, by rw [hf, hp]; exact this.2⟩
    · exact (ht z (by simp [hz])).keep hk
  · intro z hz
    rcases List.mem_cons.1 hz with rfl | hz
    · exact hn
    · exact h.nms z (by simp [hz])
  · intro z hz
    rcases List.mem_cons.1 hz with rfl | hz
    · exact hlf
    · exact h.lft z (by simp [hz])

theorem off_from {B : Nat} {w : World} {wv : Value} {g : GV} {v : Value} (h : Off (hid B wv []) w g v) : From B w g v :=
  Lies.mono (fun b o u h0 => by
    obtain ⟨h1, h2⟩ := hide_cell.1 h0
    exact mask_cell.2 ⟨(hid_false.1 h1).1, h2⟩) h

/-- Beyond the limit what was read is not kept: of it only the faults are told. -/
theorem St.parts {w w1 : World} {R b o c : Nat} {l : List UInt8} {lim : Int} {p0 p : Nat} {wv : Value} {rest : List Opn} {x : Opn} (h : St w R b o c l lim p0 w1 p wv (x :: rest)) (hl : ¬ (p : Int) ≤ lim) (ps : List (ByteArray × GV)) : St w R b o c l lim p0 w1 p wv ({ x with parts := ps } :: rest) := by
  refine ⟨h.only, h.rd, h.ple, h.pge, h.box4, ⟨?_, ?_, ?_⟩, fun h2 => absurd h2 hl, ?_, h.dep, ?_⟩
  · have := h.stk.own
    rw [stCells_cons] at this ⊢
    exact this
  · intro z hz
    rcases List.mem_cons.1 hz with rfl | hz
    · exact h.stk.rows x (by simp)
    · exact h.stk.rows z (by simp [hz])
  · have := List.pairwise_cons.1 h.stk.apart
    exact List.pairwise_cons.2 ⟨fun z hz => this.1 z hz, this.2⟩
  · intro z hz
    rcases List.mem_cons.1 hz with rfl | hz
    · exact h.nms x (by simp)
    · exact h.nms z (by simp [hz])
  · intro z hz
    rcases List.mem_cons.1 hz with rfl | hz
    · exact h.lft x (by simp)
    · exact h.lft z (by simp [hz])
/-- A part more. -/
theorem St.add {w w1 w2 : World} {R b o c : Nat} {l : List UInt8} {lim : Int} {p0 p g cp : Nat} {rest : List Opn} {x : Opn} {f : Fl} {cur : Array Value} (h : St w R b o c l lim p0 w1 p (.slice (some ⟨g, 0, none⟩) (rest.length + 1) cp) (x :: rest)) (hR : R < w.heap.size) (hl : (p : Int) ≤ lim) (hcur : w1.heap[g]? = some (.cells cur 102 (0, 0))) (hs : f.nm.size ≤ 140737488355328) (hOf : Off (hid (w.heap.size + 2) (.slice (some ⟨g, 0, none⟩) (rest.length + 1) cp) (x :: rest)) w1 f.g f.val)
    (hA : AddSay (w.heap.size + 2) g (rest.length * 7 + (if x.doc = true then 4 else 3)) x.fs.length x.ty x.width x.row cur (x.zs ++ (if x.doc = true then f.enc else f.val.cells.toList)) w1 w2) :
    ∃ g2 c2, St w R b o c l lim p0 w2 p (.slice (some ⟨g, 0, none⟩) (rest.length + 1) cp) (x.more (some ⟨g2, 0, none⟩) c2 f (f.nm, f.g) :: rest) ∧ Chg (fun k => w.heap.size + 2 ≤ k) w1 w2 := by
  obtain ⟨g2, c2, hstk, hkp, hch, hgB⟩ := Stk.add (f := f) (pt := (f.nm, f.g)) h.stk hcur hA
  have hch2 : Chg (fun k => w.heap.size + 2 ≤ k) w1 w2 := hch.mono fun k _ hp => by
    rcases hp with e | e
    · omega
    · exact (own_blk (h.stk.rows x (by simp)) e).2
  have hs1 := h.only.size
  refine ⟨g2, c2, ⟨?_, ?_, h.ple, h.pge, ?_, hstk, fun _ => ?_, ?_, h.dep, ?_⟩, hch2⟩
  · exact ⟨hch2.os.trans h.only.os, hch2.tape.trans h.only.tape, hch2.output.trans h.only.output, Nat.le_trans hs1 hch2.size, fun k hk hn => (hch2.block k (by omega) (by omega)).trans (h.only.block k hk hn)⟩
  · have := h.rd
    unfold Rd at this ⊢
    rw [hch2.block R (by omega) (by omega)]
    exact this
  · have := h.box4
    have hlt := this.lt
    unfold Blk5 at this ⊢
    rw [hch2.block w.heap.size hlt (by omega)]
    exact this
  · have ht := h.trees hl
    intro z hz
    rcases List.mem_cons.1 hz with rfl | hz
    · exact ((ht x (by simp)).keep hkp).more (hOf.keep hkp) hs rfl
    · exact (ht z (by simp [hz])).keep hkp
  · intro z hz
    rcases List.mem_cons.1 hz with rfl | hz
    · exact h.nms x (by simp)
    · exact h.nms z (by simp [hz])
  · intro z hz
    rcases List.mem_cons.1 hz with rfl | hz
    · exact h.lft x (by simp)
    · exact h.lft z (by simp [hz])

theorem Stk.top5 {B g c : Nat} {w : World} {st : List Opn} {x : Opn} (h : Stk B w (.slice (some ⟨g, 0, none⟩) (st.length + 1) c) (x :: st)) :
    w.cell? ⟨g, st.length * 7, none⟩ = some (.int .i64 x.kind) ∧ w.cell? ⟨g, st.length * 7 + 1, none⟩ = some (.int .i64 0) ∧ w.cell? ⟨g, st.length * 7 + 2, none⟩ = some (.string ⟨#[]⟩) ∧ w.cell? ⟨g, st.length * 7 + 3, none⟩ = some x.l ∧ w.cell? ⟨g, st.length * 7 + 4, none⟩ = some x.f := by
  have ho := h.own
  rw [stCells_cons] at ho
  have e : ∀ j, j < 7 → w.cell? ⟨g, st.length * 7 + j, none⟩ = x.enc[j]? := by
    intro j hj
    have h1 := ho.cellAt (st.length * 7 + j) (by omega)
    rw [h1, List.getElem?_append_right (by rw [stCells_len]; omega), stCells_len]
    congr 1
    omega
  exact ⟨e 0 (by omega), e 1 (by omega), e 2 (by omega), e 3 (by omega), e 4 (by omega)⟩
theorem Opn.slices (x : Opn) : ∃ la ln lc fa fn fc, x.l = .slice la ln lc ∧ x.f = .slice fa fn fc := by
  unfold Opn.l Opn.f Opn.row
  cases x.doc with
  | true => exact ⟨none, 0, 0, _, _, _, rfl, rfl⟩
  | false => exact ⟨_, _, _, none, 0, 0, rfl, rfl⟩
/-- One more that is open. -/
theorem St.push {w w1 w2 : World} {R b o c : Nat} {l : List UInt8} {lim : Int} {p0 p : Nat} {wv wv' : Value} {st : List Opn} {y : Opn} (h : St w R b o c l lim p0 w1 p wv st) (hR : R < w.heap.size) (hx : y.row = .slice none 0 0) (hz : y.fs = []) (hp : y.parts = []) (ho : w2.ownsRow (w.heap.size + 2) 102 7 wv' (st.length + 1) (stCells st ++ y.enc)) (hg : w1.grownBy w2 wv.ownBlock) (hat : wv'.ownBlock = wv.ownBlock ∨ wv'.ownBlock = some w1.heap.size) (hd : st.length + 1 ≤ 8) (hn : Byts w y.na y.nm ∧ Apart R y.na y.nm ∧ y.nm.length ≤ 24) (hlf : y.left ≤ 32) :
    St w R b o c l lim p0 w2 p wv' (y :: st) := by
  have hw : ∀ k, k < w.heap.size + 2 → some k ≠ wv.ownBlock := fun k hk e => by have := (own_blk h.stk.own e.symm).2; omega
  have hs := h.only.size
  have h4 := h.box4.lt
  have hkp := kp_push (B := w.heap.size + 2) (st := st) hx hg (hat.elim Or.inl fun e => Or.inr ⟨_, e, Nat.le_refl _⟩)
  refine ⟨⟨hg.os.trans h.only.os, hg.tape.trans h.only.tape, hg.output.trans h.only.output, Nat.le_trans hs hg.size, fun k hk hn => (hg.block k (by omega) (hw k (by omega))).trans (h.only.block k hk hn)⟩, ?_, h.ple, h.pge, ?_, h.stk.push hx hz ho hg, fun hl => ?_, ?_, by simpa using hd, ?_⟩
  · have := h.rd
    unfold Rd at this ⊢
    rw [hg.block R (by omega) (hw R (by omega))]
    exact this
  · have := h.box4
    unfold Blk5 at this ⊢
    rw [hg.block w.heap.size h4 (hw _ (by omega))]
    exact this
  · intro z hz2
    rcases List.mem_cons.1 hz2 with rfl | hz2
    · exact ⟨fun f hf => by rw [hz] at hf; simp at hf, by rw [hz, hp]; rfl⟩
    · exact (h.trees hl z hz2).keep hkp
  · intro z hz2
    rcases List.mem_cons.1 hz2 with rfl | hz2
    · exact hn
    · exact h.nms z hz2
  · intro z hz2
    rcases List.mem_cons.1 hz2 with rfl | hz2
    · exact hlf
    · exact h.lft z hz2
/-- The top taken off. -/
theorem St.pop {w w1 : World} {R b o c : Nat} {l : List UInt8} {lim : Int} {p0 p g cp : Nat} {rest : List Opn} {x : Opn} (h : St w R b o c l lim p0 w1 p (.slice (some ⟨g, 0, none⟩) (rest.length + 1) cp) (x :: rest)) : St w R b o c l lim p0 w1 p (.slice (some ⟨g, 0, none⟩) rest.length cp) rest :=
  ⟨h.only, h.rd, h.ple, h.pge, h.box4, h.stk.pop, fun hl z hz => (h.trees hl z (by simp [hz])).keep kp_pop, fun z hz => h.nms z (by simp [hz]), by have := h.dep; simp at this; omega, fun z hz => h.lft z (by simp [hz])⟩
theorem infoOpen : (Tryd.prog.info? 102).map (fun i => (i.zero, i.size, i.bytes)) = some (some (.agg #[.int .i64 0, .int .i64 0, .string ⟨#[]⟩, .slice none 0 0, .slice none 0 0, .int .i64 0, .slice none 0 0]), 7, 112) := by kernel_rfl

theorem box_first (w : World) : Blk5 ((w.alloc (.cells #[.int .i64 0, .int .i64 0, .string ⟨#[]⟩, .slice none 0 0, .slice none 0 0] 29)).alloc (.cells #[.int .i64 0, .int .i64 0, .string ⟨#[]⟩, .slice none 0 0, .slice none 0 0] 29)) (w.heap.size + 1) (.int .i64 0) (.int .i64 0) (.string ⟨#[]⟩) (.slice none 0 0) (.slice none 0 0) := by
  have h := Blk5.new (w.alloc (.cells #[.int .i64 0, .int .i64 0, .string ⟨#[]⟩, .slice none 0 0, .slice none 0 0] 29)) (.int .i64 0) (.int .i64 0) (.string ⟨#[]⟩) (.slice none 0 0) (.slice none 0 0)
  simpa using h
theorem st_first {w : World} {R b o c : Nat} {l : List UInt8} {lim : Int} {p0 : Nat} (hR : Rd w R (some ⟨b, o, none⟩) l.length c p0) (_hRl : R < w.heap.size) (hp : p0 ≤ l.length) :
    St w R b o c l lim p0 ((w.alloc (.cells #[.int .i64 0, .int .i64 0, .string ⟨#[]⟩, .slice none 0 0, .slice none 0 0] 29)).alloc (.cells #[.int .i64 0, .int .i64 0, .string ⟨#[]⟩, .slice none 0 0, .slice none 0 0] 29)) p0 (.slice none 0 0) [] := by
  have hb := (((RowKit.Below.refl w.heap.size w).alloc (Nat.le_refl _) (.cells #[.int .i64 0, .int .i64 0, .string ⟨#[]⟩, .slice none 0 0, .slice none 0 0] 29))).alloc (by simp) (.cells #[.int .i64 0, .int .i64 0, .string ⟨#[]⟩, .slice none 0 0, .slice none 0 0] 29)
  refine ⟨OnlyAt.of_below hb, hR.below hb, hp, Nat.le_refl _, ?_, ⟨⟨rfl, Or.inl ⟨rfl, rfl⟩⟩, fun x hx => absurd hx (by simp), List.Pairwise.nil⟩, fun _ x hx => absurd hx (by simp), fun x hx => absurd hx (by simp), by simp, fun x hx => absurd hx (by simp)⟩
  exact (Blk5.new w (.int .i64 0) (.int .i64 0) (.string ⟨#[]⟩) (.slice none 0 0) (.slice none 0 0)).below ((RowKit.Below.refl _ _).alloc (Nat.le_refl _) _)

/-- What add is to tell at a Doc. -/
def AddDoc : Prop := ∀ (B W q ln lc : Nat) (la : Option Addr) (na : Option Addr) (nc : Nat) (nmb : List UInt8) (cur : Array Value) (xs : List Value) (k n : Int) (s : ByteArray) (la' : Option Addr) (ln' lc' : Nat) (fa' : Option Addr) (fn' fc' : Nat) (w : World),
  w.heap[W]? = some (.cells cur 102 (0, 0)) → cur[q]? = some (.int .i64 6) → cur[q + 4]? = some (.slice la ln lc) → cur[q + 6]? = some (.slice na nmb.length nc) → (∀ u : World, (∀ k, k < B → u.heap[k]? = w.heap[k]?) → Byts u na nmb) → B ≤ W → w.ownsRow B 70 6 (.slice la ln lc) ln xs → (Value.slice la ln lc).ownBlock ≠ some W → ln ≤ 1000000 → B ≤ w.heap.size →
  Calls Tryd.prog 73 #[.pointer (some ⟨W, q, none⟩), .agg #[.int .i64 k, .int .i64 n, .string s, .slice la' ln' lc', .slice fa' fn' fc']] w fun e w' => e = .returned (.tuple #[]) ∧ AddSay B W (q + 4) ln 70 6 (.slice la ln lc) cur (xs ++ [.string ⟨nmb.toArray⟩, .int .i64 k, .int .i64 n, .string s, .slice la' ln' lc', .slice fa' fn' fc']) w w'
end Go.Proofs.YtfnmmpakejdlgaaDoor
