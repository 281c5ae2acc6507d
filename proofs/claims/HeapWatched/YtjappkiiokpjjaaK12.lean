/- Some texts in one: each opens with its own remark. -/
import Derived.Test.YtjappkiiokpjjaaK11
import Derived.Recover
import Derived.Deep.AppendLies
import Derived.Deep.OwnRows
/- tellMade and tellLinked of a heap that the statement's own watcher watches. -/
namespace Go.Proofs.Ytjappkiiokpjjaa
open Go.RowKit

/-- The watcher. -/
def wtW (K : Nat) : Value := .iface 51 (.pointer (some ⟨K, 0, none⟩))
section
variable {own : Nat → Prop} {w : World} {i : HId} {s : HS} {K : Nat}
set_option maxHeartbeats 1000000 in
set_option maxRecDepth 1000000 in
theorem tellMade_wt_idle (w : World) : CallsD Try.prog 97 #[] .returning w fun e u' w' => e = .returned (.tuple #[]) ∧ u' = .returning ∧ w' = w := by
  refine callsD_of_wpS Try.func97 rfl fun c₀ cs hu => ?_
  apply wpS_region
  cases c₀
  simp_all [wpOpsS, go_sem, recoverD, Try.ntmps97, bodyPostS, results, Try.results97]
set_option maxHeartbeats 1000000 in
set_option maxRecDepth 1000000 in
theorem tellMade_wt {Q : World → Prop} (h : HP own w i s (wtW K)) (x : Nat) (hC : Calls Try.prog 130 #[.pointer (some ⟨K, 0, none⟩), .int .u64 (x : Int)] w fun e w' => e = .returned (.tuple #[]) ∧ Q w') : Calls Try.prog 57 #[.pointer (some ⟨i.H, 0, none⟩), .int .u64 (x : Int)] w fun e w' => e = .returned (.tuple #[]) ∧ Q w' := by
  obtain ⟨_, _, c2, _⟩ := h.cells
  have HC := mkHid hC
  clear h hC
  unfold wtW at c2
  go_enter_defers Try.func57, Try.ntmps57
  go_wp2_with fail
  refine HC.out.mono ?_
  rintro e w3 ⟨rfl, h3⟩
  go_wp2_with fail
  refine leaves_cons (f := 97) (args := #[]) (by simp) (by simp [go_sem]) ?_
  refine (tellMade_wt_idle _).mono ?_
  rintro e u' w'' ⟨rfl, rfl, rfl⟩
  simp [Leaves, settle, results, Try.results57, go_sem]
  exact h3
set_option maxHeartbeats 1000000 in
set_option maxRecDepth 1000000 in
theorem tellLinked_wt_idle (w : World) : CallsD Try.prog 99 #[] .returning w fun e u' w' => e = .returned (.tuple #[]) ∧ u' = .returning ∧ w' = w := by
  refine callsD_of_wpS Try.func99 rfl fun c₀ cs hu => ?_
  apply wpS_region
  cases c₀
  simp_all [wpOpsS, go_sem, recoverD, Try.ntmps99, bodyPostS, results, Try.results99]
set_option maxHeartbeats 1000000 in
set_option maxRecDepth 1000000 in
theorem tellLinked_wt {Q : World → Prop} (h : HP own w i s (wtW K)) (x : Nat) (hx : x ≠ 0) (hC : Calls Try.prog 129 #[.pointer (some ⟨K, 0, none⟩), .int .u64 (x : Int)] w fun e w' => e = .returned (.tuple #[]) ∧ Q w') : Calls Try.prog 60 #[.pointer (some ⟨i.H, 0, none⟩), .int .u64 (x : Int)] w fun e w' => e = .returned (.tuple #[]) ∧ Q w' := by
  obtain ⟨_, _, c2, _⟩ := h.cells
  have HC := mkHid hC
  clear h hC
  have hx0 : ((x : Int) == 0) = false := beq_eq_false_iff_ne.2 (by omega)
  unfold wtW at c2
  go_enter_defers Try.func60, Try.ntmps60
  go_wp2_with fail
  refine HC.out.mono ?_
  rintro e w3 ⟨rfl, h3⟩
  go_wp2_with fail
  refine leaves_cons (f := 99) (args := #[]) (by simp) (by simp [go_sem]) ?_
  refine (tellLinked_wt_idle _).mono ?_
  rintro e u' w'' ⟨rfl, rfl, rfl⟩
  simp [Leaves, settle, results, Try.results60, go_sem]
  exact h3
theorem tellLinked_wt0 (h : HP own w i s (wtW K)) : Calls Try.prog 60 #[.pointer (some ⟨i.H, 0, none⟩), .int .u64 0] w fun e w' => e = .returned (.tuple #[]) ∧ w' = w := by
  obtain ⟨_, _, c2, _⟩ := h.cells
  clear h
  unfold wtW at c2
  go_enter Try.func60, Try.ntmps60
  go_wp2_with fail
  go_returns
  exact ⟨rfl, rfl⟩
end
end Go.Proofs.Ytjappkiiokpjjaa

/- Rows of words that the statements keep beside a heap. -/
namespace Go.Proofs.Ytjappkiiokpjjaa
open Go.RowKit

/-- The handles of the first ones. -/
def hs1 (i : Nat) : List Nat := (List.range i).map fun j => hnd j 1
theorem hs1_len (i : Nat) : (hs1 i).length = i := by simp [hs1]
theorem hs1_succ (i : Nat) : hs1 (i + 1) = hs1 i ++ [hnd i 1] := by simp [hs1, List.range_succ]
theorem hs1_at {i j : Nat} (h : j < i) : (hs1 i).getD j 0 = hnd j 1 := by simp [hs1, h]
/-- A row of one's own that is none of the heap's. -/
def Rw (own : Nat → Prop) (w : World) (B e : Nat) (u : Value) (xs : List Value) : Prop := w.ownsRow B e 1 u xs.length xs ∧ ∀ k, u.ownBlock = some k → ¬ own k
section
variable {own own' : Nat → Prop} {w w' : World} {B e : Nat} {u : Value} {xs : List Value}
theorem Rw.nil (own : Nat → Prop) (w : World) (B e : Nat) : Rw own w B e (.slice none 0 0) [] := ⟨World.ownsRow_nil _ _ _ _, fun k h => by cases h⟩
theorem Rw.lt (h : Rw own w B e u xs) {k : Nat} (hk : u.ownBlock = some k) : B ≤ k ∧ k < w.heap.size := h.1.lt k hk
theorem Rw.same (h : Rw own w B e u xs) (hb : ∀ k, u.ownBlock = some k → w'.heap[k]? = w.heap[k]? ∧ ¬ own' k) : Rw own' w' B e u xs := by
  refine ⟨⟨h.1.1, ?_⟩, fun k hk => (hb k hk).2⟩
  rcases h.1.2 with h0 | ⟨g, cap, cur, rfl, h1, h2, h3⟩
  · exact Or.inl h0
  · exact Or.inr ⟨g, cap, cur, rfl, h1, by rw [(hb g rfl).1]; exact h2, h3⟩
theorem Rw.mv (h : Rw own w B e u xs) (m : Mv own own' w w') : Rw own' w' B e u xs := h.same fun k hk => ⟨m.chg.block k (h.lt hk).2 (h.2 k hk), fun e => (m.sub k e).elim (h.2 k hk) (fun e => by have := (h.lt hk).2; omega)⟩
theorem Rw.below (h : Rw own w B e u xs) (hb : Below w.heap.size w w') : Rw own w' B e u xs := h.mv (Mv.of_below hb)
theorem Rw.drew (h : Rw own w B e u xs) : Rw own w.drew B e u xs := h.same fun k hk => ⟨rfl, h.2 k hk⟩
theorem Rw.cells (h : Rw own w B e u xs) (h0 : 0 < xs.length) : ∃ g c, u = .slice (some ⟨g, 0, none⟩) xs.length c ∧ xs.length ≤ c ∧ c ≤ maxLen ∧ g < w.heap.size ∧ ¬ own g ∧ ∀ (j : Nat) (v : Value), xs[j]? = some v → w.cell? ⟨g, j, none⟩ = some v := by
  have h2 := h.2
  rcases h.1.2 with ⟨_, h0'⟩ | ⟨g, cap, cur, rfl, hb, hg, hnc, hcm, hcs, hcx⟩
  · omega
  · refine ⟨g, cap, rfl, hnc, hcm, (Array.getElem?_eq_some_iff.1 hg).1, h2 g rfl, fun j v hj => ?_⟩
    have hlt := (List.getElem?_eq_some_iff.1 hj).1
    rw [cell_of_row w g j _ _ _ hg, ← hj, ← hcx, List.getElem?_take_of_lt (by omega)]
    simp
theorem Rw.at_ {g n c : Nat} (h : Rw own w B e (.slice (some ⟨g, 0, none⟩) n c) xs) {j : Nat} {v : Value} (hj : xs[j]? = some v) : w.cell? ⟨g, j, none⟩ = some v := by
  have h0 := (List.getElem?_eq_some_iff.1 hj).1
  obtain ⟨g', c', e', _, _, _, _, h6⟩ := h.cells (by omega)
  cases e'
  exact h6 j v hj
theorem ucells_at {l : List Nat} {j : Nat} (hj : j < l.length) : (ucells l)[j]? = some (.int .u64 ((l.getD j 0 : Nat) : Int)) := by simp [ucells, hj]
theorem Rw.len (h : Rw own w B e u xs) : ∃ a c, u = .slice a xs.length c ∧ (0 < xs.length → ∃ g, a = some ⟨g, 0, none⟩) := by
  rcases h.1.2 with ⟨rfl, h0'⟩ | ⟨g, cap, cur, rfl, hb, hg, hnc, hcm, hcs, hcx⟩
  · exact ⟨none, 0, by rw [h0'], fun h => by omega⟩
  · exact ⟨_, cap, rfl, fun _ => ⟨g, rfl⟩⟩
end
theorem cell_new1 (w : World) (v : Value) (t : TypeId) : (w.alloc (.cells #[v] t)).cell? ⟨w.heap.size, 0, none⟩ = some v := by
  rw [cell_of_row _ _ 0 _ _ _ (heap_alloc_new w (.cells #[v] t))]; rfl
/-- append of one to such a row. -/
theorem wpList_append_rw {P : Program} {w : World} {ops : Array Oper} {rest : List Oper} {o : Oper} {a : Act} {Q : Exit → Act → World → Prop} {own : Nat → Prop} (hgd : o.guard = none) (s x : Operand) (t : TypeId)
    (ho : o.op = .call { callee := .builtin .append, args := #[s, x], argTypes := #[t, t] })
    (B : Nat) (e : TypeId) (i : TypeInfo) (z : Value) (bytes : Nat) (ht : P.underlying t = some (.slice e)) (hi : P.info? e = some i) (hz : i.zero = some z)
    (hsize : i.size = 1) (hby : i.bytes = bytes) (hzs : z.cells.size = 1)
    (v : Value) (xs : List Value) (hs : a.eval s = v) (hown : Rw own w B e v xs)
    (ad : Addr) (y : Value) (hx : a.eval x = .slice (some ad) 1 1) (hy : w.cell? ad = some y) (h1 : y.oneCell' = true)
    (h63 : xs.length + 1 ≤ maxLen) (hbytes : (xs.length + 1) * bytes ≤ 140737488355328) (hbase : B ≤ w.heap.size) (hlt : ∀ k, own k → k < w.heap.size)
    (h : ∀ u' w', Rw own w' B e u' (xs ++ [y]) → Chg (fun k => ¬ own k ∧ B ≤ k) w w' → wpList P ops Q rest (a.put o.dst u') w') : wpList P ops Q (o :: rest) a w := by
  refine wpList_append_lies w hgd s x t ho B e i z 1 bytes ht hi hz hsize hby hzs (by decide) v xs.length xs hs hown.1 ad 1 1 [y] hx rfl (fun j u hj => ?_) (fun u hu => ?_) (by decide) h63 hbytes hbase _ rfl fun g cap w' r1 r2 r3 _ => ?_
  · match j, hj with
    | 0, hj =>
      simp at hj
      subst hj
      have e0 : ad.add 0 = ad := by simp [Addr.add]
      rw [e0]; exact hy
  · simp at hu
    subst hu
    exact h1
  · refine h _ w' ⟨by rw [List.length_append]; exact r1, fun k hk hok => ?_⟩ ⟨r2.os, r2.tape, r2.output, r2.size, fun k hk hn => r2.block k hk fun e2 => hn ⟨fun ho => hown.2 k e2.symm ho, (hown.lt e2.symm).1⟩⟩
    have hkg : g = k := by simpa [Value.ownBlock] using hk
    subst hkg
    rcases r3 with r3 | r3
    · exact hown.2 g r3 hok
    · have := hlt g hok
      omega
end Go.Proofs.Ytjappkiiokpjjaa

/- Places of objects one behind the other; First. -/
namespace Go.Proofs.Ytjappkiiokpjjaa
open Go.RowKit

theorem place_succ : ∀ {Lo : List Ob} {k : Nat}, k < Lo.length → place Lo (k + 1) = place Lo k + osz (oat Lo k)
  | [], _, h => by simp at h
  | o :: r, 0, _ => by simp [place, tot, oat]
  | o :: r, k + 1, h => by
    have := place_succ (Lo := r) (k := k) (by simpa using h)
    unfold place at this ⊢
    simp only [List.take_succ_cons, tot]
    rw [show oat (o :: r) (k + 1) = oat r k by simp [oat]]
    omega
theorem place_all (Lo : List Ob) : place Lo Lo.length = tot Lo := by unfold place; rw [List.take_length]
theorem place_lt {Lo : List Ob} : ∀ {k : Nat}, k < Lo.length → place Lo k < tot Lo := by
  have key : ∀ n k, k + n = Lo.length → 0 < n → place Lo k < tot Lo := by
    intro n
    induction n with
    | zero => intro k _ h; omega
    | succ n ih =>
      intro k hk _
      have h1 := place_succ (Lo := Lo) (k := k) (by omega)
      have hz : osz (oat Lo k) = 1 + (oat Lo k).ws.length := rfl
      rcases Nat.eq_zero_or_pos n with h0 | h0
      · have : k + 1 = Lo.length := by omega
        have h2 := place_all Lo
        rw [← this] at h2
        omega
      · have := ih (k + 1) (by omega) h0
        omega
  intro k hk
  exact key (Lo.length - k) k (by omega) (by omega)
section
variable {w : World} {cap : Nat} {Lo : List Ob}
theorem obAt_place {k : Nat} (hk : k < Lo.length) : obAt Lo [] 0 (place Lo k) = some (oat Lo k) := by
  unfold obAt
  have := objAt_place Lo 0 k hk
  rw [Nat.zero_add] at this
  rw [this]
theorem at_First {A W B : Nat} (h : AT w A W B cap Lo [] 0 false) : Calls Try.prog 86 #[.pointer (some ⟨A, 0, none⟩)] w fun r w' => r = .returned (.int .i64 0) ∧ w' = w := by
  obtain ⟨ws, bs, top, low, high, h1, h2, h3⟩ := h
  obtain ⟨_, _, q1, q2, _⟩ := h3.cls rfl
  have := First_any h1
  rw [q1, q2] at this
  exact this
end
end Go.Proofs.Ytjappkiiokpjjaa

/- A marker in memory, over a heap where nothing was freed or moved: its stack, and what putting an object there does (no walk). -/
namespace Go.Proofs.Ytjappkiiokpjjaa
open Go.RowKit

def Ob.on (o : Ob) (b : Bool) : Ob := ⟨o.tag, o.refs, o.own, b, o.ws⟩
def mkO (Os : List Ob) (k : Nat) (b : Bool) : List Ob := Os.set k ((oat Os k).on b)
/-- Two rows of objects that are the same but for their marks. -/
def Like (Os Ps : List Ob) : Prop := Os.length = Ps.length ∧ ∀ k, (oat Os k).tag = (oat Ps k).tag ∧ (oat Os k).refs = (oat Ps k).refs ∧ (oat Os k).own = (oat Ps k).own ∧ (oat Os k).ws = (oat Ps k).ws
theorem Like.refl (Os : List Ob) : Like Os Os := ⟨rfl, fun _ => ⟨rfl, rfl, rfl, rfl⟩⟩
theorem Like.trans {a b c : List Ob} (h : Like a b) (g : Like b c) : Like a c := ⟨h.1.trans g.1, fun k => ⟨(h.2 k).1.trans (g.2 k).1, (h.2 k).2.1.trans (g.2 k).2.1, (h.2 k).2.2.1.trans (g.2 k).2.2.1, (h.2 k).2.2.2.trans (g.2 k).2.2.2⟩⟩
theorem Like.symm {a b : List Ob} (h : Like a b) : Like b a := ⟨h.1.symm, fun k => ⟨(h.2 k).1.symm, (h.2 k).2.1.symm, (h.2 k).2.2.1.symm, (h.2 k).2.2.2.symm⟩⟩
theorem oat_beyond {Os : List Ob} {k : Nat} (h : Os.length ≤ k) : oat Os k = Ob0 := by unfold oat; simp [h]
theorem oat_mkO {Os : List Ob} {k : Nat} (b : Bool) (j : Nat) (hk : k < Os.length) : oat (mkO Os k b) j = if j = k then (oat Os k).on b else oat Os j := oat_set _ j hk
theorem mkO_len (Os : List Ob) (k : Nat) (b : Bool) : (mkO Os k b).length = Os.length := by simp [mkO]
theorem like_mkO (Os : List Ob) (k : Nat) (b : Bool) : Like (mkO Os k b) Os := by
  refine ⟨mkO_len _ _ _, fun j => ?_⟩
  rcases Nat.lt_or_ge k Os.length with hk | hk
  · rw [oat_mkO b j hk]
    split
    · next e => subst e; exact ⟨rfl, rfl, rfl, rfl⟩
    · exact ⟨rfl, rfl, rfl, rfl⟩
  · unfold mkO
    rw [List.set_eq_of_length_le hk]
    exact ⟨rfl, rfl, rfl, rfl⟩
theorem plL_mkO (Os : List Ob) (p k : Nat) (b : Bool) : plL p (mkO Os k b) = plL p Os := plL_set Os p k _ (by simp [Ob.on, osz])
theorem plL_congr : ∀ (Os Ps : List Ob) (p : Nat), Os.length = Ps.length → (∀ k, (oat Os k).ws = (oat Ps k).ws) → plL p Os = plL p Ps
  | [], [], _, _, _ => rfl
  | [], _ :: _, _, h, _ => by simp at h
  | _ :: _, [], _, h, _ => by simp at h
  | o :: r, q :: s, p, h, g => by
    have h0 : o.ws = q.ws := g 0
    have := plL_congr r s (p + osz o) (by simpa using h) (fun k => by have := g (k + 1); simpa [oat] using this)
    simp only [plL]
    rw [this]
    simp [osz, h0]
theorem tot_congr : ∀ (Os Ps : List Ob), Os.length = Ps.length → (∀ k, (oat Os k).ws = (oat Ps k).ws) → tot Os = tot Ps
  | [], [], _, _ => rfl
  | [], _ :: _, h, _ => by simp at h
  | _ :: _, [], h, _ => by simp at h
  | o :: r, q :: s, h, g => by
    have h0 : o.ws = q.ws := g 0
    have := tot_congr r s (by simpa using h) (fun k => by have := g (k + 1); simpa [oat] using this)
    simp only [tot]
    rw [this]
    simp [osz, h0]
theorem Like.pl {Os Ps : List Ob} (h : Like Os Ps) (p : Nat) : plL p Os = plL p Ps := plL_congr Os Ps p h.1 fun k => (h.2 k).2.2.2
theorem Like.tot {Os Ps : List Ob} (h : Like Os Ps) : tot Os = tot Ps := tot_congr Os Ps h.1 fun k => (h.2 k).2.2.2
/-- How many are marked. -/
def mcnt (Os : List Ob) : Nat := Os.countP (fun o => o.mark)
theorem mcnt_le (Os : List Ob) : mcnt Os ≤ Os.length := List.countP_le_length
theorem mcnt_set : ∀ (Os : List Ob) (k : Nat), k < Os.length → (oat Os k).mark = false → mcnt (mkO Os k true) = mcnt Os + 1
  | [], _, h, _ => by simp at h
  | o :: r, 0, _, hm => by
    have hm' : o.mark = false := hm
    simp [mkO, mcnt, Ob.on, hm']
  | o :: r, k + 1, h, hm => by
    have := mcnt_set r k (by simpa using h) (by simpa [oat] using hm)
    unfold mkO mcnt at this ⊢
    simp only [Sx2, List.countP_cons]
    rw [show oat (o :: r) (k + 1) = oat r k from by simp [oat], this]
    omega
theorem mcnt_lt {Os : List Ob} {k : Nat} (h : k < Os.length) (hm : (oat Os k).mark = false) : mcnt Os < Os.length := by
  have h1 := mcnt_set Os k h hm
  have h2 := mcnt_le (mkO Os k true)
  rw [mkO_len] at h2
  omega
/-- A word is put: the object that it stands for, if it is not marked, is marked and put on the stack. -/
def putX (s : List Ob × List Nat) (y : Nat) : List Ob × List Nat :=
  match look (plL 0 s.1) y with
  | none => s
  | some k => if (oat s.1 k).mark then s else (mkO s.1 k true, s.2 ++ [k])
def putAll (s : List Ob × List Nat) (ys : List Nat) : List Ob × List Nat := ys.foldl putX s
def refsO (o : Ob) : List Nat := o.ws.take o.refs
/-- A unit. -/
def unitX (s : List Ob × List Nat) : List Ob × List Nat :=
  match s.2.getLast? with
  | none => s
  | some k => putAll (s.1, s.2.dropLast) (refsO (oat s.1 k))
def stepX : Nat → List Ob × List Nat → List Ob × List Nat
  | 0, s => s
  | n + 1, s => if s.2.isEmpty then s else stepX n (unitX s)
def offO (Os : List Ob) : List Ob := Os.map (·.on false)
def startX (Os : List Ob) (rt : List Nat) : List Ob × List Nat := putAll (offO Os, []) rt
theorem putX_none {s : List Ob × List Nat} {y : Nat} (h : look (plL 0 s.1) y = none) : putX s y = s := by unfold putX; rw [h]
theorem putX_old {s : List Ob × List Nat} {y k : Nat} (h : look (plL 0 s.1) y = some k) (hm : (oat s.1 k).mark = true) : putX s y = s := by unfold putX; rw [h]; simp [hm]
theorem putX_new {s : List Ob × List Nat} {y k : Nat} (h : look (plL 0 s.1) y = some k) (hm : (oat s.1 k).mark = false) : putX s y = (mkO s.1 k true, s.2 ++ [k]) := by unfold putX; rw [h]; simp [hm]
theorem like_putX (s : List Ob × List Nat) (y : Nat) : Like (putX s y).1 s.1 := by
  unfold putX
  split
  · exact Like.refl _
  · split
    · exact Like.refl _
    · exact like_mkO _ _ _
theorem like_putAll : ∀ (ys : List Nat) (s : List Ob × List Nat), Like (putAll s ys).1 s.1
  | [], _ => Like.refl _
  | y :: ys, s => (like_putAll ys (putX s y)).trans (like_putX s y)
theorem like_offO (Os : List Ob) : Like (offO Os) Os := by
  refine ⟨by simp [offO], fun k => ?_⟩
  rcases Nat.lt_or_ge k Os.length with hk | hk
  · have : oat (offO Os) k = (oat Os k).on false := by simp [oat, offO, hk]
    rw [this]
    exact ⟨rfl, rfl, rfl, rfl⟩
  · rw [oat_beyond hk, oat_beyond (by simpa [offO] using hk)]
    exact ⟨rfl, rfl, rfl, rfl⟩
/-- What the stack is: places of objects, no more than are marked. -/
structure Stk1 (s : List Ob × List Nat) : Prop where
  lt : ∀ k, k ∈ s.2 → k < s.1.length
  few : s.2.length ≤ mcnt s.1
theorem look_lt {Os : List Ob} {y k : Nat} (h : look (plL 0 Os) y = some k) : k < Os.length := (look_pl_some h).1
theorem Stk1.putX {s : List Ob × List Nat} (h : Stk1 s) (y : Nat) : Stk1 (putX s y) := by
  unfold Proofs.Ytjappkiiokpjjaa.putX
  split
  · exact h
  · next k hk =>
    split
    · exact h
    · next hm =>
      refine ⟨fun j hj => ?_, ?_⟩
      · rw [mkO_len]
        rcases List.mem_append.1 hj with hj | hj
        · exact h.lt j hj
        · simp at hj
          rw [hj]; exact look_lt hk
      · have h1 := mcnt_set s.1 k (look_lt hk) (by simpa using hm)
        have h2 := h.few
        show (s.2 ++ [k]).length ≤ mcnt (mkO s.1 k true)
        rw [h1, List.length_append]
        simp; omega
theorem Stk1.putAll : ∀ (ys : List Nat) {s : List Ob × List Nat}, Stk1 s → Stk1 (putAll s ys)
  | [], _, h => h
  | y :: ys, _, h => Stk1.putAll ys (h.putX y)
theorem Stk1.pop {s : List Ob × List Nat} (h : Stk1 s) : Stk1 (s.1, s.2.dropLast) := ⟨fun k hk => h.lt k (List.dropLast_subset _ hk), by have := h.few; simp; omega⟩
theorem Stk1.unit {s : List Ob × List Nat} (h : Stk1 s) : Stk1 (unitX s) := by
  unfold unitX
  split
  · exact h
  · exact Stk1.putAll _ h.pop
/-- The marker: its block, whether a marking is at work, its stack; and all blocks, those of the heap too. -/
structure Mr (own : Nat → Prop) (w : World) (i : HId) (cap slots : Nat) (rt : List Nat) (wv : Value) (M : Nat) (rn : Bool) (s : List Ob × List Nat) (oh : Nat → Prop) (sv : Value) : Prop where
  ph : PH oh w i cap slots s.1 rt wv
  head : w.heap[M]? = some (.cells #[.pointer (some ⟨i.H, 0, none⟩), sv, .bool rn] 126 (0, 0))
  hM : ¬ oh M
  row : Rw oh w 0 27 sv (ucells (s.2.map fun k => hnd k 1))
  hS : sv.ownBlock ≠ some M
  owns : ∀ k, own k ↔ oh k ∨ k = M ∨ sv.ownBlock = some k
  stk : Stk1 s
def MS (own : Nat → Prop) (w : World) (i : HId) (cap slots : Nat) (rt : List Nat) (wv : Value) (M : Nat) (rn : Bool) (s : List Ob × List Nat) : Prop := ∃ oh sv, Mr own w i cap slots rt wv M rn s oh sv
section
variable {own oh : Nat → Prop} {w w' : World} {i : HId} {cap slots : Nat} {rt : List Nat} {wv : Value} {M : Nat} {rn : Bool} {s : List Ob × List Nat} {sv : Value}
theorem Mr.lt (h : Mr own w i cap slots rt wv M rn s oh sv) {k : Nat} (hk : own k) : k < w.heap.size := by
  rcases (h.owns k).1 hk with hk | rfl | hk
  · exact HP.lt h.ph hk
  · exact (Array.getElem?_eq_some_iff.1 h.head).1
  · exact (h.row.lt hk).2
theorem Mr.same (h : Mr own w i cap slots rt wv M rn s oh sv) (hb : ∀ k, own k → w'.heap[k]? = w.heap[k]?) : Mr own w' i cap slots rt wv M rn s oh sv :=
  ⟨HP.same h.ph fun k hk => hb k ((h.owns k).2 (Or.inl hk)), by rw [hb M ((h.owns M).2 (Or.inr (Or.inl rfl)))]; exact h.head, h.hM, h.row.same fun k hk => ⟨hb k ((h.owns k).2 (Or.inr (Or.inr hk))), h.row.2 k hk⟩, h.hS, h.owns, h.stk⟩
theorem Mr.below (h : Mr own w i cap slots rt wv M rn s oh sv) (hb : Below w.heap.size w w') : Mr own w' i cap slots rt wv M rn s oh sv := h.same fun k hk => hb.block k (h.lt hk)
theorem Mr.drew (h : Mr own w i cap slots rt wv M rn s oh sv) : Mr own w.drew i cap slots rt wv M rn s oh sv := h.same fun _ _ => rfl
/-- The heap alone is changed. -/
theorem Mr.heap (h : Mr own w i cap slots rt wv M rn s oh sv) {oh' : Nat → Prop} {Os' : List Ob} {rt' : List Nat} {wv' : Value} (m : Mv oh oh' w w') (p : PH oh' w' i cap slots Os' rt' wv') (hl : s.1.length ≤ Os'.length) (hc : mcnt s.1 ≤ mcnt Os') : ∃ own', Mv own own' w w' ∧ Mr own' w' i cap slots rt' wv' M rn (Os', s.2) oh' sv := by
  have hMl := (Array.getElem?_eq_some_iff.1 h.head).1
  refine ⟨fun k => oh' k ∨ k = M ∨ sv.ownBlock = some k, ⟨m.chg.mono fun k _ hk => (h.owns k).2 (Or.inl hk), fun k hk => ?_⟩, p, ?_, fun e => ?_, h.row.mv m, h.hS, fun k => Iff.rfl, fun k hk => Nat.lt_of_lt_of_le (h.stk.lt k hk) hl, Nat.le_trans h.stk.few hc⟩
  · rcases hk with hk | hk
    · rcases m.sub k hk with hk | hk
      · exact Or.inl ((h.owns k).2 (Or.inl hk))
      · exact Or.inr hk
    · exact Or.inl ((h.owns k).2 (Or.inr hk))
  · rw [m.chg.block _ hMl h.hM]; exact h.head
  · rcases m.sub M e with e | e
    · exact h.hM e
    · omega
theorem Mr.cells (h : Mr own w i cap slots rt wv M rn s oh sv) : w.cell? ⟨M, 0, none⟩ = some (.pointer (some ⟨i.H, 0, none⟩)) ∧ w.cell? ⟨M, 1, none⟩ = some sv ∧ w.cell? ⟨M, 2, none⟩ = some (.bool rn) := ⟨cell_of_row w M 0 _ _ _ h.head, cell_of_row w M 1 _ _ _ h.head, cell_of_row w M 2 _ _ _ h.head⟩
theorem Mr.free (h : Mr own w i cap slots rt wv M rn s oh sv) (k : Nat) : w.frozen? ⟨M, k, none⟩ = false := frozen_of_row w _ k _ _ h.head
theorem Mr.len (h : Mr own w i cap slots rt wv M rn s oh sv) : ∃ a c, sv = .slice a s.2.length c ∧ (0 < s.2.length → ∃ g, a = some ⟨g, 0, none⟩) := by
  obtain ⟨a, c, e, hg⟩ := h.row.len
  rw [ucells_len, List.length_map] at e hg
  exact ⟨a, c, e, hg⟩
theorem Mr.few (h : Mr own w i cap slots rt wv M rn s oh sv) : s.2.length ≤ s.1.length ∧ s.1.length ≤ 1048576 ∧ tot s.1 ≤ 1048576 := by
  obtain ⟨h1, h2, h3, h4, h5⟩ := h.ph.few
  have := h.stk.few
  have := mcnt_le s.1
  exact ⟨by omega, by omega, by omega⟩
/-- The stack's row grows or shrinks, and the marker holds it. -/
theorem Mr.push (h : Mr own w i cap slots rt wv M rn s oh sv) {w3 : World} {u : Value} {K : List Nat} (hc : Chg (fun k => sv.ownBlock = some k) w w3) (hr : Rw oh w3 0 27 u (ucells (K.map fun k => hnd k 1))) (hu : ∀ k, u.ownBlock = some k → sv.ownBlock = some k ∨ w.heap.size ≤ k) (hs : Stk1 (s.1, K)) : ∃ own', Mv own own' w (w3.setCell ⟨M, 1, none⟩ u) ∧ Mr own' (w3.setCell ⟨M, 1, none⟩ u) i cap slots rt wv M rn (s.1, K) oh u := by
  have hMl := (Array.getElem?_eq_some_iff.1 h.head).1
  have hn : u.ownBlock ≠ some M := fun e => by
    rcases hu M e with e | e
    · exact h.hS e
    · omega
  have hc2 : Chg (fun k => k = M) w3 (w3.setCell ⟨M, 1, none⟩ u) := (Chg.refl (fun k => k = M) w3).setCell (b := M) (Or.inl rfl) _ _
  have hh3 : w3.heap[M]? = some (.cells #[.pointer (some ⟨i.H, 0, none⟩), sv, .bool rn] 126 (0, 0)) := by rw [hc.block M hMl h.hS]; exact h.head
  have p3 : PH oh w3 i cap slots s.1 rt wv := HP.same h.ph fun k hk => hc.block k (HP.lt h.ph hk) (fun e => h.row.2 k e hk)
  refine ⟨fun k => oh k ∨ k = M ∨ u.ownBlock = some k, ⟨⟨hc2.os.trans hc.os, hc2.tape.trans hc.tape, hc2.output.trans hc.output, Nat.le_trans hc.size hc2.size, fun k hk hn2 => ?_⟩, fun k hk => ?_⟩, HP.same p3 fun k hk => hc2.block k (HP.lt p3 hk) (fun e => h.hM (e ▸ hk)), ?_, h.hM, hr.same fun k hk => ⟨hc2.block k (hr.lt hk).2 (fun e => hn (by rw [← e]; exact hk)), hr.2 k hk⟩, hn, fun k => Iff.rfl, hs⟩
  · rw [hc2.block k (Nat.lt_of_lt_of_le hk hc.size) (fun e => hn2 ((h.owns k).2 (Or.inr (Or.inl e)))), hc.block k hk (fun e => hn2 ((h.owns k).2 (Or.inr (Or.inr e))))]
  · rcases hk with hk | hk | hk
    · exact Or.inl ((h.owns k).2 (Or.inl hk))
    · exact Or.inl ((h.owns k).2 (Or.inr (Or.inl hk)))
    · rcases hu k hk with hk | hk
      · exact Or.inl ((h.owns k).2 (Or.inr (Or.inr hk)))
      · exact Or.inr hk
  · rw [heap_setCell_same w3 _ _ _ _ _ hh3]
    rfl
theorem Mr.setRun (h : Mr own w i cap slots rt wv M rn s oh sv) (b : Bool) : Mr own (w.setCell ⟨M, 2, none⟩ (.bool b)) i cap slots rt wv M b s oh sv := by
  have hc : Chg (fun k => k = M) w (w.setCell ⟨M, 2, none⟩ (.bool b)) := (Chg.refl (fun k => k = M) w).setCell (b := M) (Or.inl rfl) _ _
  refine ⟨HP.same h.ph fun k hk => hc.block k (HP.lt h.ph hk) (fun e => h.hM (e ▸ hk)), ?_, h.hM, h.row.same fun k hk => ⟨hc.block k (h.row.lt hk).2 (fun e => h.hS (by rw [← e]; exact hk)), h.row.2 k hk⟩, h.hS, h.owns, h.stk⟩
  rw [heap_setCell_same w _ _ _ _ _ h.head]
  rfl
theorem Rw.dropLast {e n g c : Nat} {xs : List Value} {B : Nat} (h : Rw oh w B e (.slice (some ⟨g, 0, none⟩) n c) xs) : Rw oh w B e (.slice (some ⟨g, 0, none⟩) (n - 1) c) xs.dropLast := by
  obtain ⟨⟨h1, h2⟩, h3⟩ := h
  rcases h2 with ⟨h2, _⟩ | ⟨g', cap', cur, e', hb, hg, hnc, hcm, hcs, hcx⟩
  · cases h2
  · cases e'
    refine ⟨⟨by simp, Or.inr ⟨g, c, cur, by simp, hb, hg, by simp; omega, hcm, hcs, ?_⟩⟩, h3⟩
    rw [Nat.mul_one] at hcx ⊢
    rw [List.length_dropLast, List.dropLast_eq_take, ← hcx, List.take_take, List.length_take]
    congr 1
    omega
theorem Mr.setRunMv (h : Mr own w i cap slots rt wv M rn s oh sv) (b : Bool) : Mv own own w (w.setCell ⟨M, 2, none⟩ (.bool b)) := Mv.of_chg ((Chg.refl own w).setCell (b := M) (Or.inl ((h.owns M).2 (Or.inr (Or.inl rfl)))) _ _)
theorem MS.lt (h : MS own w i cap slots rt wv M rn s) {k : Nat} (hk : own k) : k < w.heap.size := by obtain ⟨_, _, h⟩ := h; exact h.lt hk
theorem MS.below (h : MS own w i cap slots rt wv M rn s) (hb : Below w.heap.size w w') : MS own w' i cap slots rt wv M rn s := by obtain ⟨oh, sv, h⟩ := h; exact ⟨oh, sv, h.below hb⟩
theorem MS.drew (h : MS own w i cap slots rt wv M rn s) : MS own w.drew i cap slots rt wv M rn s := by obtain ⟨oh, sv, h⟩ := h; exact ⟨oh, sv, h.drew⟩
theorem MS.stk (h : MS own w i cap slots rt wv M rn s) : Stk1 s := by obtain ⟨oh, sv, h⟩ := h; exact h.stk
theorem MS.few (h : MS own w i cap slots rt wv M rn s) : s.2.length ≤ s.1.length ∧ s.1.length ≤ 1048576 ∧ tot s.1 ≤ 1048576 := by obtain ⟨oh, sv, h⟩ := h; exact h.few
end
/-- append of one to a row of one's own: only that row, and what is new, is changed. -/
theorem wpList_append_rw2 {P : Program} {w : World} {ops : Array Oper} {rest : List Oper} {o : Oper} {a : Act} {Q : Exit → Act → World → Prop} {own : Nat → Prop} (hgd : o.guard = none) (s x : Operand) (t : TypeId)
    (ho : o.op = .call { callee := .builtin .append, args := #[s, x], argTypes := #[t, t] })
    (B : Nat) (e : TypeId) (i : TypeInfo) (z : Value) (bytes : Nat) (ht : P.underlying t = some (.slice e)) (hi : P.info? e = some i) (hz : i.zero = some z)
    (hsize : i.size = 1) (hby : i.bytes = bytes) (hzs : z.cells.size = 1)
    (v : Value) (xs : List Value) (hs : a.eval s = v) (hown : Rw own w B e v xs)
    (ad : Addr) (y : Value) (hx : a.eval x = .slice (some ad) 1 1) (hy : w.cell? ad = some y) (h1 : y.oneCell' = true)
    (h63 : xs.length + 1 ≤ maxLen) (hbytes : (xs.length + 1) * bytes ≤ 140737488355328) (hbase : B ≤ w.heap.size) (hlt : ∀ k, own k → k < w.heap.size)
    (h : ∀ u' w', Rw own w' B e u' (xs ++ [y]) → Chg (fun k => v.ownBlock = some k) w w' → (∀ k, u'.ownBlock = some k → v.ownBlock = some k ∨ w.heap.size ≤ k) → wpList P ops Q rest (a.put o.dst u') w') : wpList P ops Q (o :: rest) a w := by
  refine wpList_append_lies w hgd s x t ho B e i z 1 bytes ht hi hz hsize hby hzs (by decide) v xs.length xs hs hown.1 ad 1 1 [y] hx rfl (fun j u hj => ?_) (fun u hu => ?_) (by decide) h63 hbytes hbase _ rfl fun g cap w' r1 r2 r3 _ => ?_
  · match j, hj with
    | 0, hj =>
      simp at hj
      subst hj
      have e0 : ad.add 0 = ad := by simp [Addr.add]
      rw [e0]; exact hy
  · simp at hu
    subst hu
    exact h1
  · refine h _ w' ⟨by rw [List.length_append]; exact r1, fun k hk hok => ?_⟩ ⟨r2.os, r2.tape, r2.output, r2.size, fun k hk hn => r2.block k hk fun e2 => hn e2.symm⟩ fun k hk => ?_
    · have hkg : g = k := by simpa [Value.ownBlock] using hk
      subst hkg
      rcases r3 with r3 | r3
      · exact hown.2 g r3 hok
      · have := hlt g hok
        omega
    · have hkg : g = k := by simpa [Value.ownBlock] using hk
      subst hkg
      exact r3.imp id (fun e => Nat.le_of_eq e.symm)
end Go.Proofs.Ytjappkiiokpjjaa
