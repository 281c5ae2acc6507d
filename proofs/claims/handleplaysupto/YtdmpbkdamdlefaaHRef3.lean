/- The document's own table, copied. -/
import Derived.Test.YtdmpbkdamdlefaaHRef2
import Derived.Test.YtdmpbkdamdlefaaHSS
import Derived.Handy
namespace Go.Proofs.Ytdmpbkdamdlefaa
open Go.RowKit

/-- append of a whole row to no row. -/
theorem wpList_dup {P : Program} {w : World} {ops : Array Oper} {rest : List Oper} {o : Oper} {a : Act} {Q : Exit → Act → World → Prop} (hgd : o.guard = none) (s x : Operand) (t : TypeId)
    (ho : o.op = .call { callee := .builtin .append, args := #[s, x], argTypes := #[t, t] })
    (e : TypeId) (i : TypeInfo) (z : Value) (size bytes : Nat) (ht : P.underlying t = some (.slice e)) (hi : P.info? e = some i) (hz : i.zero = some z)
    (hsize : i.size = size) (hby : i.bytes = bytes) (hzs : z.cells.size = size) (hsz : 0 < size)
    (hs : a.eval s = .slice none 0 0) (ad : Option Addr) (n c : Nat) (news : List Value) (hx : a.eval x = .slice ad n c) (hnone : ad = none → n = 0 ∧ c = 0) (hl : news.length = n * size)
    (hnews : ∀ b, ad = some b → ∀ (j : Nat) (u : Value), news[j]? = some u → w.cell? (b.add j) = some u) (h1 : ∀ u ∈ news, u.oneCell' = true)
    (h63 : n ≤ maxLen) (hbytes : n * bytes ≤ 140737488355328)
    (h : ∀ v' w', w'.ownsRow w.heap.size e size v' n news → w.grownBy w' none → (∃ q c', v' = .slice q n c' ∧ (q = none → n = 0 ∧ c' = 0)) → wpList P ops Q rest (a.put o.dst v') w') : wpList P ops Q (o :: rest) a w := by
  cases ad with
  | none =>
    obtain ⟨rfl, rfl⟩ := hnone rfl
    obtain rfl : news = [] := List.eq_nil_of_length_eq_zero (by simpa using hl)
    exact wpList_append_own_none hgd s x t ho w.heap.size e i size ht hi _ 0 [] hs (World.ownsRow_nil w _ e size) hx (h _ _ (World.ownsRow_nil w _ e size) ⟨rfl, rfl, rfl, Nat.le_refl _, fun _ _ _ => rfl⟩ ⟨none, 0, rfl, fun _ => ⟨rfl, rfl⟩⟩)
  | some b =>
    refine wpList_append_own w hgd s x t ho w.heap.size e i z size bytes ht hi hz hsize hby hzs hsz (.slice none 0 0) 0 [] hs (World.ownsRow_nil w _ e size) b n c news hx hl (hnews b rfl) h1 (by omega) (by rw [Nat.zero_add]; exact hbytes) (Nat.le_refl _) ?_
    intro v' w' h2 h3 h4
    rw [Nat.zero_add, List.nil_append] at h2
    refine h v' w' h2 h3 ?_
    rcases h2.2 with ⟨rfl, rfl⟩ | ⟨g, cap, cur, rfl, _⟩
    · exact ⟨none, 0, rfl, fun _ => ⟨rfl, rfl⟩⟩
    · exact ⟨_, cap, rfl, fun h => by cases h⟩
/-- A slot's three cells. -/
def scells (L : List RS) : List Value := L.flatMap fun s => [.int .u64 (s.gen : Int), .int .i64 (s.at_ : Int), .bool s.taken]
theorem scells_len : ∀ L : List RS, (scells L).length = L.length * 3
  | [] => rfl
  | s :: r => by
    have := scells_len r
    simp only [scells, List.flatMap_cons, List.length_append, List.length_cons, List.length_nil] at this ⊢
    omega
theorem scells_at : ∀ (L : List RS) (i c : Nat), i < L.length → c < 3 → (scells L)[i * 3 + c]? = some (match c with | 0 => .int .u64 ((rs L i).gen : Int) | 1 => .int .i64 ((rs L i).at_ : Int) | _ => .bool (rs L i).taken)
  | [], i, _, h, _ => absurd h (Nat.not_lt_zero _)
  | s :: r, 0, c, _, hc => by
    match c, hc with
    | 0, _ => simp [scells, rs]
    | 1, _ => simp [scells, rs]
    | 2, _ => simp [scells, rs]
  | s :: r, i + 1, c, h, hc => by
    have ih := scells_at r i c (by simpa using h) hc
    have e1 : rs (s :: r) (i + 1) = rs r i := by simp [rs]
    rw [e1, ← ih]
    simp only [scells, List.flatMap_cons]
    rw [List.getElem?_append_right (by simp; omega)]
    congr 1
    simp; omega
theorem scells_one (L : List RS) : ∀ u ∈ scells L, u.oneCell' = true := by
  intro u hu
  obtain ⟨s, _, hs⟩ := List.mem_flatMap.1 hu
  simp at hs
  rcases hs with rfl | rfl | rfl <;> rfl
def ncells (F : List Nat) : List Value := F.map fun x : Nat => Value.int .i64 (x : Int)
theorem ncells_len (F : List Nat) : (ncells F).length = F.length := by simp [ncells]
theorem ncells_one (F : List Nat) : ∀ u ∈ ncells F, u.oneCell' = true := by
  intro u hu
  obtain ⟨s, _, rfl⟩ := List.mem_map.1 hu
  rfl
theorem SRow.cells {w : World} {a : Option Addr} {L : List RS} (h : SRow w a L) : ∀ b, a = some b → ∀ (j : Nat) (u : Value), (scells L)[j]? = some u → w.cell? (b.add j) = some u := by
  intro b hb j u hu
  have hj := (List.getElem?_eq_some_iff.1 hu).1
  rw [scells_len] at hj
  obtain ⟨g, e, _, c0, c1, c2⟩ := h.at_ (i := j / 3) (by omega)
  rw [e] at hb
  cases hb
  have hadd : (⟨g, 0, none⟩ : Addr).add j = ⟨g, j, none⟩ := by unfold Addr.add; split <;> simp_all
  rw [hadd, ← hu]
  have hs := scells_at L (j / 3) (j % 3) (by omega) (by omega)
  rw [show j / 3 * 3 + j % 3 = j by omega] at hs
  rw [hs]
  have h3 : j % 3 = 0 ∨ j % 3 = 1 ∨ j % 3 = 2 := by omega
  rcases h3 with h3 | h3 | h3
  · rw [h3]; rw [show j / 3 * 3 = j by omega] at c0; exact c0
  · rw [h3]; rw [show j / 3 * 3 + 1 = j by omega] at c1; exact c1
  · rw [h3]; rw [show j / 3 * 3 + 2 = j by omega] at c2; exact c2
theorem NRow.cells {w : World} {a : Option Addr} {F : List Nat} (h : NRow w a F) : ∀ b, a = some b → ∀ (j : Nat) (u : Value), (ncells F)[j]? = some u → w.cell? (b.add j) = some u := by
  intro b hb j u hu
  have hj := (List.getElem?_eq_some_iff.1 hu).1
  rw [ncells_len] at hj
  rcases h with h | ⟨g, e, _, hc⟩
  · omega
  · rw [e] at hb
    cases hb
    rw [show (⟨g, 0, none⟩ : Addr).add j = ⟨g, j, none⟩ by unfold Addr.add; split <;> simp_all, hc j hj, ← hu]
    simp [ncells, hj]
/-- Rows of one's own can be read. -/
theorem srow_of {w : World} {B n : Nat} {q : Option Addr} {c : Nat} {L : List RS} (h : w.ownsRow B 76 3 (.slice q n c) n (scells L)) : n = L.length ∧ SRow w q L := by
  have hn : n = L.length := by have := h.1; rw [scells_len] at this; omega
  refine ⟨hn, ?_⟩
  subst hn
  rcases h.2 with ⟨e, h0⟩ | ⟨g, cap, cur, e, hb, hg, hnc, hcm, hcs, hcx⟩
  · exact Or.inl h0
  · cases e
    refine Or.inr ⟨g, rfl, (Array.getElem?_eq_some_iff.1 hg).1, fun i hi => ?_⟩
    have key : ∀ k v, k < 3 → (scells L)[i * 3 + k]? = some v → w.cell? ⟨g, i * 3 + k, none⟩ = some v := by
      intro k v hk hv
      rw [cell_of_row w g _ _ _ _ hg, ← hv, ← hcx, List.getElem?_take_of_lt (by omega)]
      simp
    exact ⟨key 0 _ (by omega) (scells_at L i 0 hi (by omega)), key 1 _ (by omega) (scells_at L i 1 hi (by omega)), key 2 _ (by omega) (scells_at L i 2 hi (by omega))⟩
theorem nrow_of {w : World} {B n : Nat} {q : Option Addr} {c : Nat} {F : List Nat} (h : w.ownsRow B 3 1 (.slice q n c) n (ncells F)) : n = F.length ∧ NRow w q F := by
  have hn : n = F.length := by have := h.1; rw [ncells_len] at this; omega
  refine ⟨hn, ?_⟩
  subst hn
  rcases h.2 with ⟨e, h0⟩ | ⟨g, cap, cur, e, hb, hg, hnc, hcm, hcs, hcx⟩
  · exact Or.inl h0
  · cases e
    refine Or.inr ⟨g, rfl, (Array.getElem?_eq_some_iff.1 hg).1, fun i hi => ?_⟩
    rw [cell_of_row w g _ _ _ _ hg]
    have e1 : (ncells F)[i]? = some (.int .i64 ((F.getD i 0 : Nat) : Int)) := by simp [ncells, hi]
    rw [← e1, ← hcx, List.getElem?_take_of_lt (by omega)]
    simp
theorem infoSlot : (Try.prog.info? 76).map (fun i => (i.zero, i.size, i.bytes)) = some (some (.agg #[.int .u64 0, .int .i64 0, .bool false]), 3, 24) := by kernel_rfl
end Go.Proofs.Ytdmpbkdamdlefaa
