/- append of a whole row to no row (a copy). -/
import Derived.Test.YtlfgolnnkcehbaaProg
import Derived.Laws.AppendOwn
import Derived.Laws.AppendOwnNone
import Derived.Deep.AppendLies
import Derived.Deep.OwnRows
import Derived.Handy
namespace Go.Proofs.Ytlfgolnnkcehbaa
open Go.RowKit

/-- append of a whole row to no row. -/
theorem wpList_dup {P : Program} {w : World} {ops : Array Oper} {rest : List Oper} {o : Oper} {a : Act} {Q : Exit → Act → World → Prop} (hgd : o.guard = none) (s x : Operand) (t : TypeId)
    (ho : o.op = .call { callee := .builtin .append, args := #[s, x], argTypes := #[t, t] })
    (e : TypeId) (i : TypeInfo) (z : Value) (size bytes : Nat) (ht : P.underlying t = some (.slice e)) (hi : P.info? e = some i) (hz : i.zero = some z)
    (hsize : i.size = size) (hby : i.bytes = bytes) (hzs : z.cells.size = size) (hsz : 0 < size)
    (hs : a.eval s = .slice none 0 0) (ad : Option Addr) (n c : Nat) (news : List Value) (hx : a.eval x = .slice ad n c) (hnone : ad = none → n = 0 ∧ c = 0) (hl : news.length = n * size)
    (hnews : ∀ b, ad = some b → ∀ (j : Nat) (u : Value), news[j]? = some u → w.cell? (b.add j) = some u) (h1 : ∀ u ∈ news, u.oneCell' = true)
    (h63 : n ≤ maxLen) (hbytes : n * bytes ≤ 140737488355328)
    (h : ∀ v' w', w'.ownsRow w.heap.size e size v' n news → w.grownBy w' none → (∃ q c', v' = .slice q n c' ∧ (q = none → n = 0 ∧ c' = 0)) → wpList P ops Q rest (a.put o.dst v') w') : wpList P ops Q (o :: rest) a w := by
  cases ad with
  | none =>
    obtain ⟨rfl, rfl⟩ := hnone rfl
    obtain rfl : news = [] := List.eq_nil_of_length_eq_zero (by simpa using hl)
    exact wpList_append_own_none hgd s x t ho w.heap.size e i size ht hi _ 0 [] hs (World.ownsRow_nil w _ e size) hx (h _ _ (World.ownsRow_nil w _ e size) ⟨rfl, rfl, rfl, Nat.le_refl _, fun _ _ _ => rfl⟩ ⟨none, 0, rfl, fun _ => ⟨rfl, rfl⟩⟩)
  | some b =>
    refine wpList_append_own w hgd s x t ho w.heap.size e i z size bytes ht hi hz hsize hby hzs hsz (.slice none 0 0) 0 [] hs (World.ownsRow_nil w _ e size) b n c news hx hl (hnews b rfl) h1 (by omega) (by rw [Nat.zero_add]; exact hbytes) (Nat.le_refl _) ?_
    intro v' w' h2 h3 h4
    rw [Nat.zero_add, List.nil_append] at h2
    refine h v' w' h2 h3 ?_
    rcases h2.2 with ⟨rfl, rfl⟩ | ⟨g, cap, cur, rfl, _⟩
    · exact ⟨none, 0, rfl, fun _ => ⟨rfl, rfl⟩⟩
    · exact ⟨_, cap, rfl, fun h => by cases h⟩
end Go.Proofs.Ytlfgolnnkcehbaa
