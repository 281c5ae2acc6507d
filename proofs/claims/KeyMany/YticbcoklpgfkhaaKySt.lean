/- The reader of keys between its steps. (No walk.) -/
import Derived.Test.YticbcoklpgfkhaaKyStk
import Derived.Test.YticbcoklpgfkhaaKyLet
import Derived.Test.YticbcoklpgfkhaaKyPut
namespace Go.Proofs.Yticbcoklpgfkhaa
open Go.RowKit

def Opn.fr (x : Opn) : Fr := ⟨x.doc, x.nm, x.parts⟩
/-- The state between the steps: the value's box is the block w.heap.size; all else that is new lies behind it. -/
structure KSt (w : World) (R B : Nat) (w' : World) (l : List UInt8) (wv : Value) (st : List Opn) : Prop where
  only : OnlyAt R w w'
  rd : Rk w' R B l
  stk : Stk (w.heap.size + 1) w' wv st
  trees : Trees (hid (w.heap.size + 1) wv st) w' st
  nms : ∀ x ∈ st, x.nm.length ≤ 1000000
/-- How many parts there are, at most. -/
def CntK (n0 n k : Nat) (st : List Opn) : Prop := ∀ x ∈ st, x.fs.length + n + k ≤ n0
theorem CntK.up {n0 n k m j : Nat} {st : List Opn} (h : CntK n0 n k st) (hq : m + j ≤ n + k) : CntK n0 m j st := fun x hx => by have := h x hx; omega
/-- Only the reader and the value's box are changed: the state holds. -/
theorem KSt.step {w w1 w2 : World} {R B : Nat} {l l' : List UInt8} {wv : Value} {st : List Opn} (h : KSt w R B w1 l wv st) (ho : Chg (fun k => k = R ∨ k = w.heap.size) w1 w2) (hR : R < w.heap.size) (hr : Rk w2 R B l') : KSt w R B w2 l' wv st := by
  have hs := h.only.size
  refine ⟨?_, hr, h.stk.keep ?_, h.trees.keep ?_, h.nms⟩
  · refine ⟨ho.os.trans h.only.os, ho.tape.trans h.only.tape, ho.output.trans h.only.output, Nat.le_trans hs ho.size, fun k hk hn => (ho.block k (by omega) ?_).trans (h.only.block k hk hn)⟩
    rintro (e | e)
    · exact hn e
    · omega
  · intro k hk hk2
    exact ho.block k hk2 (by rintro (e | e) <;> omega)
  · intro k hk hp
    have := (hid_false.1 hp).1
    exact ⟨hp, ho.block k hk (by rintro (e | e) <;> omega)⟩
theorem Chg.of_only {R X : Nat} {w w' : World} (h : OnlyAt R w w') : Chg (fun k => k = R ∨ k = X) w w' := ⟨h.os, h.tape, h.output, h.size, fun k hk hn => h.block k hk fun e => hn (Or.inl e)⟩
theorem Chg.drew {p : Nat → Prop} {w w' : World} (h : Chg p w w') : Chg p w w'.drew := ⟨h.os, h.tape, h.output, h.size, h.block⟩
theorem Chg.box {R X : Nat} {w w' : World} (h : Chg (fun k => k = R ∨ k = X) w w') (o : Nat) (v : Value) : Chg (fun k => k = R ∨ k = X) w (w'.setCell ⟨X, o, none⟩ v) := h.setCell (Or.inl (Or.inr rfl)) o v
theorem Rk.other {w : World} {R B : Nat} {l : List UInt8} (h : Rk w R B l) {b o : Nat} (hb : B ≤ b) (u : Value) : Rk (w.setCell ⟨b, o, none⟩ u) R B l := h.keep fun k _ hk => RowKit.Below.heap_setCell w ⟨b, o, none⟩ u k (by show k ≠ b; omega)
theorem Rk.drew {w : World} {R B : Nat} {l : List UInt8} (h : Rk w R B l) : Rk w.drew R B l := h.keep fun _ _ _ => rfl
/-- The top's name set anew. -/
theorem KSt.name {w w1 : World} {R B : Nat} {l : List UInt8} {g cp : Nat} {rest : List Opn} {x : Opn} {nm : List UInt8} (h : KSt w R B w1 l (.slice (some ⟨g, 0, none⟩) (rest.length + 1) cp) (x :: rest)) (hB : B ≤ w.heap.size) (hn : nm.length ≤ 1000000) :
    KSt w R B (w1.setCell ⟨g, rest.length * 6 + 5, none⟩ (.string ⟨nm.toArray⟩)) l (.slice (some ⟨g, 0, none⟩) (rest.length + 1) cp) ({ x with nm := nm } :: rest) := by
  have hg := own_blk h.stk.own (k := g) rfl
  have hs := h.only.size
  have hr : ({ x with nm := nm } : Opn).row = x.row := rfl
  refine ⟨h.only.setNew (by omega) _, h.rd.other (by omega) _, h.stk.set (y := { x with nm := nm }) rfl rfl rfl rfl rfl (by omega), ?_, ?_⟩
  · have ht := h.trees
    have hk : Kp (hid (w.heap.size + 1) (.slice (some ⟨g, 0, none⟩) (rest.length + 1) cp) (x :: rest)) w1 (hid (w.heap.size + 1) (.slice (some ⟨g, 0, none⟩) (rest.length + 1) cp) ({ x with nm := nm } :: rest)) (w1.setCell ⟨g, rest.length * 6 + 5, none⟩ (.string ⟨nm.toArray⟩)) := by
      intro k hk hp2
      obtain ⟨q1, q2, q3⟩ := hid_false.1 hp2
      refine ⟨hid_false.2 ⟨q1, q2, ?_⟩, RowKit.Below.heap_setCell w1 ⟨g, rest.length * 6 + 5, none⟩ _ k (fun e => q2 (by rw [e]; rfl))⟩
      intro z hz
      rcases List.mem_cons.1 hz with rfl | hz
      · rw [hr]
        exact q3 x (by simp)
      · exact q3 z (by simp [hz])
    intro z hz
    rcases List.mem_cons.1 hz with rfl | hz
    · have := (ht x (by simp)).keep hk
      exact ⟨this.1, this.2⟩
    · exact (ht z (by simp [hz])).keep hk
  · intro z hz
    rcases List.mem_cons.1 hz with rfl | hz
    · exact hn
    · exact h.nms z (by simp [hz])
/-- A part more. -/
theorem KSt.add {w w1 w2 : World} {R B : Nat} {l : List UInt8} {g cp : Nat} {rest : List Opn} {x : Opn} {f : Fl} {cur : Array Value} (h : KSt w R B w1 l (.slice (some ⟨g, 0, none⟩) (rest.length + 1) cp) (x :: rest)) (hB : B ≤ w.heap.size) (hcur : w1.heap[g]? = some (.cells cur 104 (0, 0))) (hs : f.nm.size ≤ 140737488355328) (hOf : Off (hid (w.heap.size + 1) (.slice (some ⟨g, 0, none⟩) (rest.length + 1) cp) (x :: rest)) w1 f.g f.val)
    (hA : AddSay (w.heap.size + 1) g (rest.length * 6 + (if x.doc = true then 4 else 3)) x.fs.length x.ty x.width x.row cur (x.zs ++ (if x.doc = true then f.enc else f.val.cells.toList)) w1 w2) :
    ∃ g2 c2, KSt w R B w2 l (.slice (some ⟨g, 0, none⟩) (rest.length + 1) cp) (x.more (some ⟨g2, 0, none⟩) c2 f (f.nm, f.g) :: rest) ∧ Chg (fun k => w.heap.size + 1 ≤ k) w1 w2 := by
  obtain ⟨g2, c2, hstk, hkp, hch, hgB⟩ := Stk.add (f := f) (pt := (f.nm, f.g)) h.stk hcur hA
  have hch2 : Chg (fun k => w.heap.size + 1 ≤ k) w1 w2 := hch.mono fun k _ hp => by
    rcases hp with e | e
    · omega
    · exact (own_blk (h.stk.rows x (by simp)) e).2
  have hs1 := h.only.size
  refine ⟨g2, c2, ⟨?_, ?_, hstk, ?_, ?_⟩, hch2⟩
  · exact ⟨hch2.os.trans h.only.os, hch2.tape.trans h.only.tape, hch2.output.trans h.only.output, Nat.le_trans hs1 hch2.size, fun k hk hn => (hch2.block k (by omega) (by omega)).trans (h.only.block k hk hn)⟩
  · exact h.rd.keep fun k hk hkB => hch2.block k hk (by omega)
  · have ht := h.trees
    intro z hz
    rcases List.mem_cons.1 hz with rfl | hz
    · exact ((ht x (by simp)).keep hkp).more (hOf.keep hkp) hs rfl
    · exact (ht z (by simp [hz])).keep hkp
  · intro z hz
    rcases List.mem_cons.1 hz with rfl | hz
    · exact h.nms x (by simp)
    · exact h.nms z (by simp [hz])
/-- One more that is open. -/
theorem KSt.push {w w1 w2 : World} {R B : Nat} {l : List UInt8} {wv wv' : Value} {st : List Opn} {y : Opn} {O : Obj} (h : KSt w R B w1 l wv st) (hB : B ≤ w.heap.size) (hx : y.row = .slice none 0 0) (hz : y.fs = []) (hp : y.parts = []) (hnm : y.nm = []) (ho : w2.ownsRow (w.heap.size + 1) 104 6 wv' (st.length + 1) (stCells st ++ y.enc)) (hg : (w1.alloc O).grownBy w2 wv.ownBlock) (hat : wv'.ownBlock = wv.ownBlock ∨ wv'.ownBlock = some (w1.alloc O).heap.size) (hbx : w.heap.size < w1.heap.size) :
    KSt w R B w2 l wv' (y :: st) ∧ w2.heap[w.heap.size]? = w1.heap[w.heap.size]? := by
  have ha : ∀ k, k < w1.heap.size → (w1.alloc O).heap[k]? = w1.heap[k]? := ((RowKit.Below.refl w1.heap.size w1).alloc (Nat.le_refl _) O).block
  have hal := (RowKit.Below.refl w1.heap.size w1).alloc (Nat.le_refl _) O
  have hw : ∀ k, k < w.heap.size + 1 → some k ≠ wv.ownBlock := fun k hk e => by have := (own_blk h.stk.own e.symm).2; omega
  have hb : ∀ k, k < w.heap.size + 1 → w2.heap[k]? = w1.heap[k]? := fun k hk => (hg.block k (by simp; omega) (hw k hk)).trans (ha k (by omega))
  have hs := h.only.size
  have hstk : Stk (w.heap.size + 1) (w1.alloc O) wv st := h.stk.keep fun k _ hk => ha k hk
  have hkp0 : Kp (hid (w.heap.size + 1) wv st) w1 (hid (w.heap.size + 1) wv st) (w1.alloc O) := fun b hb hp => ⟨hp, ha b hb⟩
  have hkp := kp_push (B := w.heap.size + 1) (st := st) hx hg (hat.elim Or.inl fun e => Or.inr ⟨_, e, Nat.le_refl _⟩)
  refine ⟨⟨⟨hg.os.trans (hal.os.trans h.only.os), hg.tape.trans (hal.tape.trans h.only.tape), hg.output.trans (hal.output.trans h.only.output), Nat.le_trans hs (Nat.le_trans hal.size hg.size), fun k hk hn => (hb k (by omega)).trans (h.only.block k hk hn)⟩, h.rd.keep fun k _ hk => hb k (by omega), hstk.push hx hz ho hg, ?_, ?_⟩, hb _ (by omega)⟩
  · intro z hz2
    rcases List.mem_cons.1 hz2 with rfl | hz2
    · exact ⟨fun f hf => by rw [hz] at hf; simp at hf, by rw [hz, hp]; rfl⟩
    · exact ((h.trees z hz2).keep hkp0).keep hkp
  · intro z hz2
    rcases List.mem_cons.1 hz2 with rfl | hz2
    · rw [hnm]
      simp
    · exact h.nms z hz2
/-- The top taken off. -/
theorem KSt.pop {w w1 : World} {R B : Nat} {l : List UInt8} {g cp : Nat} {rest : List Opn} {x : Opn} (h : KSt w R B w1 l (.slice (some ⟨g, 0, none⟩) (rest.length + 1) cp) (x :: rest)) : KSt w R B w1 l (.slice (some ⟨g, 0, none⟩) rest.length cp) rest :=
  ⟨h.only, h.rd, h.stk.pop, fun z hz => (h.trees z (by simp [hz])).keep kp_pop, fun z hz => h.nms z (by simp [hz])⟩

/-- What the steps keep: parts are no more than their bytes. -/
def FewP (g : GV) : Prop := g.nodes ≤ g.key.length
def InvN : KS → Prop
  | .kind st _ => ∀ f ∈ st, ∀ p ∈ f.parts, FewP p.2
  | .next st _ => ∀ f ∈ st, ∀ p ∈ f.parts, FewP p.2
  | .whole g st _ => FewP g ∧ ∀ f ∈ st, ∀ p ∈ f.parts, FewP p.2
  | .done none => True
  | .done (some q) => FewP q.1
theorem few_parts {doc : Bool} {ps : List (ByteArray × GV)} (h : ∀ p ∈ ps, FewP p.2) : FewP (partsG doc ps) := by
  have key : ∀ ps : List (ByteArray × GV), (∀ p ∈ ps, FewP p.2) → (ps.map fun p => p.2.nodes).sum ≤ (partsB doc ps).length := by
    intro ps
    induction ps with
    | nil => intro _; simp
    | cons p ps ih =>
      intro h
      have h1 := ih fun q hq => h q (by simp [hq])
      have h2 : p.2.nodes ≤ p.2.key.length := h p (by simp)
      unfold partsB at h1 ⊢
      simp only [List.map_cons, List.sum_cons, List.flatMap_cons, List.length_append, List.length_cons]
      omega
  have hk := key ps h
  have e : ((List.range ps.length).map fun i => (pg ps i).nodes).sum = (ps.map fun p => p.2.nodes).sum := by
    congr 1
    apply List.ext_getElem
    · simp
    · intro i h1 h2
      have hi : i < ps.length := by simpa using h1
      simp [pg, hi]
  unfold FewP
  rw [parts_key]
  simp only [List.length_cons, List.length_append]
  cases doc with
  | true => simp only [partsG, if_true, GV.nodes, List.range_zero, List.map_nil, List.sum_nil, e]; omega
  | false => simp only [partsG, Bool.false_eq_true, if_false, GV.nodes, List.range_zero, List.map_nil, List.sum_nil, e]; omega
theorem invN_step {s : KS} (h : InvN s) : InvN (stepK s) := by
  cases s with
  | done r => exact h
  | whole g st l =>
    cases st with
    | nil => exact h.1
    | cons f st =>
      intro f' hf' p hp
      rcases List.mem_cons.1 hf' with rfl | hf'
      · simp only [List.mem_append, List.mem_singleton] at hp
        rcases hp with hp | rfl
        · exact h.2 f (by simp) p hp
        · exact h.1
      · exact h.2 f' (by simp [hf']) p hp
  | next st l =>
    cases st with
    | nil => trivial
    | cons f st =>
      cases l with
      | nil => trivial
      | cons x t =>
        show InvN (nextK f st x t)
        unfold nextK
        split
        · exact ⟨few_parts (h f (by simp)), fun f' hf' => h f' (by simp [hf'])⟩
        · split
          · split
            · split
              · trivial
              · intro f' hf' p hp
                rcases List.mem_cons.1 hf' with rfl | hf'
                · exact h f (by simp) p hp
                · exact h f' (by simp [hf']) p hp
            · exact h
          · trivial
  | kind st l =>
    cases l with
    | nil => trivial
    | cons x t =>
      have hp : ∀ (k n : Int) (s : ByteArray), FewP (.mk k n s 0 (fun _ => .nil) 0 (fun _ => ⟨#[]⟩) (fun _ => .nil)) := by
        intro k n s
        simp [FewP, GV.nodes, GV.key]
      show InvN (kindK st x t)
      unfold kindK
      split
      · exact ⟨hp _ _ _, h⟩
      · split
        · split <;> exact ⟨hp _ _ _, h⟩
        · split
          · split
            · exact ⟨hp _ _ _, h⟩
            · trivial
          · split
            · split
              · trivial
              · exact ⟨hp _ _ _, h⟩
            · split
              · intro f' hf' p hp
                rcases List.mem_cons.1 hf' with rfl | hf'
                · simp at hp
                · exact h f' hf' p hp
              · split
                · intro f' hf' p hp
                  rcases List.mem_cons.1 hf' with rfl | hf'
                  · simp at hp
                  · exact h f' hf' p hp
                · trivial
theorem leads_few {l0 : List UInt8} {g : GV} {rest : List UInt8} (h : Leads (.kind [] l0) (.done (some (g, rest)))) : g.nodes ≤ g.key.length := by
  obtain ⟨n, hn⟩ := h
  have key : ∀ (n : Nat) (s : KS), InvN s → InvN (runK n s) := by
    intro n
    induction n with
    | zero => exact fun _ h => h
    | succ n ih => exact fun s h => ih _ (invN_step h)
  have := key n (.kind [] l0) (fun f hf => absurd hf (by simp))
  rw [hn] at this
  exact this
theorem kind_cases (l : List UInt8) (st : List Fr) : (kindR l = 1 ∧ ∃ t, l = 10 :: t) ∨ (kindR l = 2 ∧ ∃ t, l = 20 :: t) ∨ (kindR l = 3 ∧ ∃ t, l = 30 :: t) ∨ (kindR l = 4 ∧ ∃ t, l = 40 :: t) ∨ (kindR l = 5 ∧ ∃ t, l = 50 :: t) ∨ (kindR l = 6 ∧ ∃ t, l = 60 :: t) ∨ (¬ (kindR l = 1 ∨ kindR l = 2 ∨ kindR l = 3 ∨ kindR l = 4 ∨ kindR l = 5 ∨ kindR l = 6) ∧ stepK (.kind st l) = .done none) := by
  cases l with
  | nil => simp [kindR, stepK]
  | cons x t =>
    by_cases h1 : x = 10
    · subst h1; exact Or.inl ⟨rfl, t, rfl⟩
    by_cases h2 : x = 20
    · subst h2; exact Or.inr (Or.inl ⟨rfl, t, rfl⟩)
    by_cases h3 : x = 30
    · subst h3; exact Or.inr (Or.inr (Or.inl ⟨rfl, t, rfl⟩))
    by_cases h4 : x = 40
    · subst h4; exact Or.inr (Or.inr (Or.inr (Or.inl ⟨rfl, t, rfl⟩)))
    by_cases h5 : x = 50
    · subst h5; exact Or.inr (Or.inr (Or.inr (Or.inr (Or.inl ⟨rfl, t, rfl⟩))))
    by_cases h6 : x = 60
    · subst h6; exact Or.inr (Or.inr (Or.inr (Or.inr (Or.inr (Or.inl ⟨rfl, t, rfl⟩)))))
    refine Or.inr (Or.inr (Or.inr (Or.inr (Or.inr (Or.inr ⟨?_, by simp [stepK, kindK, h1, h2, h3, h4, h5, h6]⟩)))))
    have ne : ∀ m : UInt8, x ≠ m → x.toNat ≠ m.toNat := fun m h e => h (UInt8.toNat_inj.1 e)
    have n1 : x.toNat ≠ 10 := ne 10 h1
    have n2 : x.toNat ≠ 20 := ne 20 h2
    have n3 : x.toNat ≠ 30 := ne 30 h3
    have n4 : x.toNat ≠ 40 := ne 40 h4
    have n5 : x.toNat ≠ 50 := ne 50 h5
    have n6 : x.toNat ≠ 60 := ne 60 h6
    have e : kindR (x :: t) = if x.toNat % 10 = 0 then ((x.toNat / 10 : Nat) : Int) else 0 := rfl
    rw [e]
    split <;> omega
theorem wrap_smallK (m : Nat) (h : m ≤ 1000000) : IntKind.i64.wrap (m : Int) = (m : Int) ∧ wrap64 (m : Int) = (m : Int) ∧ IntKind.i64.wrap (((m + 1 : Nat) : Int) - 1) = (m : Int) ∧ IntKind.i64.wrap ((m : Int) + 1 - 1) = (m : Int) := by
  have e1 : ((m + 1 : Nat) : Int) - 1 = (m : Int) := by omega
  have e2 : (m : Int) + 1 - 1 = (m : Int) := by omega
  have e3 : IntKind.i64.wrap (m : Int) = (m : Int) := IntWalk.i64_in _ (by omega)
  rw [e1, e2]
  exact ⟨e3, (IntWalk.i64_left _).symm.trans e3, e3, e3⟩
theorem Blk5.chgK {w w' : World} {B : Nat} {x0 x1 x2 x3 x4 : Value} (h : Blk5 w B x0 x1 x2 x3 x4) (hc : Chg (fun k => B + 1 ≤ k) w w') : Blk5 w' B x0 x1 x2 x3 x4 := by
  have hl := h.lt
  unfold Blk5 at h ⊢
  rw [hc.block B hl (by omega)]
  exact h
theorem next_cases (l : List UInt8) (f : Fr) (st : List Fr) : (oneR l = 0 ∧ ∃ t, l = 0 :: t) ∨ (oneR l = 1 ∧ ∃ t, l = 1 :: t) ∨ (¬ (oneR l = 0 ∨ oneR l = 1) ∧ stepK (.next (f :: st) l) = .done none) := by
  cases l with
  | nil => exact Or.inr (Or.inr ⟨by simp [oneR], rfl⟩)
  | cons x t =>
    by_cases h1 : x = 0
    · subst h1; exact Or.inl ⟨rfl, t, rfl⟩
    by_cases h2 : x = 1
    · subst h2; exact Or.inr (Or.inl ⟨rfl, t, rfl⟩)
    refine Or.inr (Or.inr ⟨?_, by simp [stepK, nextK, h1, h2]⟩)
    have n1 : x.toNat ≠ 0 := fun e => h1 (UInt8.toNat_inj.1 e)
    have n2 : x.toNat ≠ 1 := fun e => h2 (UInt8.toNat_inj.1 e)
    show ¬ ((x.toNat : Int) = 0 ∨ (x.toNat : Int) = 1)
    omega
end Go.Proofs.Yticbcoklpgfkhaa
