/- append of a whole row to no row, as a step of a region that draws its order; cells beside a store (no walk). -/
import Derived.Test.YtlfgolnnkcehbaaApPut
import Derived.Deep.RegionHeld3
import Derived.RegionTactic
namespace Go.Proofs.Ytlfgolnnkcehbaa
open Go.RowKit

theorem step_dup {P : Program} {w : World} {ops : Array Oper} {o : Oper} {a : Act} {K : Act → World → Prop} {Q : Exit → Act → World → Prop} {E : Prop} (hgd : o.guard = none) (s x : Operand) (t : TypeId)
    (ho : o.op = .call { callee := .builtin .append, args := #[s, x], argTypes := #[t, t] })
    (e : TypeId) (i : TypeInfo) (z : Value) (size bytes : Nat) (ht : P.underlying t = some (.slice e)) (hi : P.info? e = some i) (hz : i.zero = some z)
    (hsize : i.size = size) (hby : i.bytes = bytes) (hzs : z.cells.size = size) (hsz : 0 < size)
    (hs : a.eval s = .slice none 0 0) (ad : Option Addr) (n c : Nat) (news : List Value) (hx : a.eval x = .slice ad n c) (hnone : ad = none → n = 0 ∧ c = 0) (hl : news.length = n * size)
    (hnews : ∀ b, ad = some b → ∀ (j : Nat) (u : Value), news[j]? = some u → w.cell? (b.add j) = some u) (h1 : ∀ u ∈ news, u.oneCell' = true)
    (h63 : n ≤ maxLen) (hbytes : n * bytes ≤ 140737488355328)
    (h : ∀ q c' w', w'.ownsRow w.heap.size e size (.slice q n c') n news → Below w.heap.size w w' → K (a.put o.dst (.slice q n c')) w') : if Region.wanted o (yielded ops a.tmps) = true then Oper.wp P o a w K Q else E := by
  have hw : Region.wanted o (yielded ops a.tmps) = true := by simp [Region.wanted, hgd]
  rw [if_pos hw]
  cases ad with
  | none =>
    obtain ⟨rfl, rfl⟩ := hnone rfl
    obtain rfl : news = [] := List.eq_nil_of_length_eq_zero (by simpa using hl)
    have hrun := run_append_owned_none (P := P) (w := w) w.heap.size t o.type e i size ht hi (.slice none 0 0) 0 [] (World.ownsRow_nil w _ e size)
    unfold Oper.wp
    simp [execOp, ho, resolve, invoke, builtin, hs, hx, hrun, Result.andThen]
    exact h none 0 w (World.ownsRow_nil w _ e size) (Below.refl _ _)
  | some b =>
    refine wp_append_own w s x t ho w.heap.size e i z size bytes ht hi hz hsize hby hzs hsz (.slice none 0 0) 0 [] hs (World.ownsRow_nil w _ e size) b n c news hx hl (hnews b rfl) h1 (by omega) (by rw [Nat.zero_add]; exact hbytes) (Nat.le_refl _) ?_
    intro v' w' h2 h3 h4
    rw [Nat.zero_add, List.nil_append] at h2
    have hb : Below w.heap.size w w' := ⟨h3.os, h3.tape, h3.output, h3.size, fun k hk => h3.block k hk (by simp [Value.ownBlock])⟩
    rcases h2.2 with ⟨rfl, rfl⟩ | ⟨g, cap, cur, rfl, h5⟩
    · exact h none 0 w' h2 hb
    · exact h _ cap w' ⟨h2.1, Or.inr ⟨g, cap, cur, rfl, h5⟩⟩ hb
theorem grown_below {w0 w w' : World} {B : Nat} {v : Value} {t z n : Nat} {xs : List Value} (hb : Below B w0 w) (hB : B ≤ w.heap.size) (ho : w.ownsRow B t z v n xs) (hg : w.grownBy w' v.ownBlock) : Below B w0 w' := by
  refine hb.trans ⟨hg.os, hg.tape, hg.output, hg.size, fun k hk => hg.block k (by omega) (fun e => ?_)⟩
  rcases ho.2 with ⟨rfl, _⟩ | ⟨g, cap, cur, rfl, h1, _⟩
  · cases e
  · have : k = g := by simpa [Value.ownBlock] using e
    omega
theorem own_upM {u u' : World} {B e size n : Nat} {v : Value} {xs : List Value} (h : u.ownsRow B e size v n xs) (hb : Below u.heap.size u u') : u'.ownsRow B e size v n xs := row_sameM h fun k hk => by
  rcases h.2 with ⟨rfl, _⟩ | ⟨g, cap, cur, rfl, h1, h2, _⟩
  · cases hk
  · have : g = k := by simpa [Value.ownBlock] using hk
    subst this
    exact hb.block g (Array.getElem?_eq_some_iff.1 h2).1
theorem cell_set1 (u : World) {b M : Nat} (h : b ≠ M) {f j : Nat} {v : Value} : (u.setCell ⟨M, f, none⟩ v).cell? ⟨b, j, none⟩ = u.cell? ⟨b, j, none⟩ := World.cell?_of_block (a := ⟨b, j, none⟩) (set1_ne u h)
/-- One object's cells in a block of their own. -/
theorem news5 {u : World} {gs : Nat} {y : Ob} {wa : Option Addr} {wc : Nat} (h : u.heap[gs]? = some (.cells #[.int .i64 y.tag, .int .i64 y.refs, .int .i64 y.own, .bool y.mark, .slice wa y.ws.length wc] 75 (0, 0))) (j : Nat) (v : Value) (hv : (objC y wa wc)[j]? = some v) : u.cell? ((⟨gs, 0, none⟩ : Addr).add j) = some v := by
  rw [ad_add _ gs 0 rfl j, Nat.zero_add, cell_of_row u gs j _ _ _ h]
  unfold objC at hv
  simpa using hv
theorem one5 {y : Ob} {wa : Option Addr} {wc : Nat} (u : Value) (hu : u ∈ objC y wa wc) : u.oneCell' = true := by
  unfold objC at hu
  simp at hu
  rcases hu with rfl | rfl | rfl | rfl | rfl <;> rfl
/-- The ways of a region meet again. -/
theorem ap_join {P : Program} {id : Nat} {ops : Array Oper} {b : Bool} {Q : Exit → Act → World → Prop} {a : Act} {w : World} (F : Option Addr → Nat → Nat → Nat → Nat → Act) (Facts : World → Option Addr → Nat → Nat → Nat → Nat → Prop) (h1 : (∀ W q c gs g cap, Facts W q c gs g cap → Q .normal (F q c gs g cap) W) → (Code.region id ops b).wp P Q a w) (h2 : ∀ W q c gs g cap, Facts W q c gs g cap → Q .normal (F q c gs g cap) W) : (Code.region id ops b).wp P Q a w := h1 h2
end Go.Proofs.Ytlfgolnnkcehbaa
