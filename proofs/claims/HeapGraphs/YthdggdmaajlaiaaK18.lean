/- Some texts in one: each opens with its own remark. -/
import Derived.Test.YthdggdmaajlaiaaK17
import Derived.Test.YthdggdmaajlaiaaK14
import Derived.Test.YthdggdmaajlaiaaK16
import Derived.Test.YthdggdmaajlaiaaK15
/- A graph's rows in memory, however they lie (no walk). -/
namespace Go.Proofs.Ythdggdmaajlaiaa
open Go.RowKit

def asI (ws : List Nat) : List Int := ws.map fun x : Nat => (x : Int)
/-- A row of nodes that is seen. -/
def NR (w : World) (a : Option Addr) (ns : List (Nat × List Int × List Nat)) : Prop := ns = [] ∨ ∃ g, a = some ⟨g, 0, none⟩ ∧ g < w.heap.size ∧ ∀ (j : Nat) (x : Nat × List Int × List Nat), ns[j]? = some x → ∃ ar cr aw cw, w.cell? ⟨g, j * 3, none⟩ = some (.int .i64 (x.1 : Int)) ∧ w.cell? ⟨g, j * 3 + 1, none⟩ = some (.slice ar x.2.1.length cr) ∧ w.cell? ⟨g, j * 3 + 2, none⟩ = some (.slice aw x.2.2.length cw) ∧ RZ .i64 w ar x.2.1 ∧ RZ .u64 w aw (asI x.2.2)
theorem NR.below {w w' : World} {a : Option Addr} {ns : List (Nat × List Int × List Nat)} (h : NR w a ns) (hb : Below w.heap.size w w') : NR w' a ns := by
  rcases h with h | ⟨g, e, hl, h⟩
  · exact Or.inl h
  · refine Or.inr ⟨g, e, Nat.lt_of_lt_of_le hl hb.size, fun j x hj => ?_⟩
    obtain ⟨ar, cr, aw, cw, h0, h1, h2, h3, h4⟩ := h j x hj
    exact ⟨ar, cr, aw, cw, (hb.cell (p := ⟨g, _, none⟩) hl).trans h0, (hb.cell (p := ⟨g, _, none⟩) hl).trans h1, (hb.cell (p := ⟨g, _, none⟩) hl).trans h2, h3.below hb, h4.below hb⟩
/-- A graph that is seen. -/
def GV2 (w : World) (v : Value) (roots : List Int) (ns : List (Nat × List Int × List Nat)) : Prop := ∃ ra rc na nc, v = .agg #[.slice ra roots.length rc, .slice na ns.length nc] ∧ RZ .i64 w ra roots ∧ NR w na ns
theorem own_rz {w : World} {B n : Nat} {u : Value} {zs : List Int} (h : w.ownsRow B 3 1 u n (zcells zs)) : ∃ a c, u = .slice a n c ∧ RZ .i64 w a zs := by
  have hn : zs.length = n := by have := h.1; rw [zcells_len] at this; omega
  rcases h.2 with ⟨e, h0⟩ | ⟨g, cap, cur, e, hb, hg, hnc, hcm, hcs, hcx⟩
  · subst h0
    exact ⟨none, 0, e, Or.inl (List.eq_nil_of_length_eq_zero hn)⟩
  · refine ⟨_, _, e, Or.inr ⟨g, rfl, (Array.getElem?_eq_some_iff.1 hg).1, fun j hj => ?_⟩⟩
    rw [cell_of_row w g j _ _ _ hg]
    have h1 : (zcells zs)[j]? = some (.int .i64 (zs.getD j 0)) := by simp [zcells, hj]
    rw [← hcx, List.getElem?_take] at h1
    split at h1
    · rw [← Array.getElem?_toList]; exact h1
    · cases h1
theorem nodes_at {w : World} {B : Nat} : ∀ {cs : List Value} {ns : List (Nat × List Int × List Nat)}, NodesOk w B cs ns → ∀ (j : Nat) (x : Nat × List Int × List Nat), ns[j]? = some x → ∃ g1 g2, cs[j * 3]? = some (.int .i64 (x.1 : Int)) ∧ cs[j * 3 + 1]? = some (.slice (some ⟨g1, 0, none⟩) x.2.1.length x.2.1.length) ∧ cs[j * 3 + 2]? = some (.slice (some ⟨g2, 0, none⟩) x.2.2.length x.2.2.length) ∧ Nms w g1 x.2.1 ∧ Wds w g2 27 x.2.2
  | [], [], _, j, x, hx => by simp at hx
  | a :: b :: c :: r, y :: ns, h, 0, x, hx => by
    simp at hx
    subst hx
    obtain ⟨⟨g1, g2, rfl, rfl, rfl, _, _, h1, h2⟩, _⟩ := h
    exact ⟨g1, g2, rfl, rfl, rfl, h1, h2⟩
  | a :: b :: c :: r, y :: ns, h, j + 1, x, hx => by
    obtain ⟨g1, g2, e0, e1, e2, h1, h2⟩ := nodes_at h.2 j x (by simpa using hx)
    refine ⟨g1, g2, ?_, ?_, ?_, h1, h2⟩
    · rw [show (j + 1) * 3 = j * 3 + 1 + 1 + 1 by omega]; simpa using e0
    · rw [show (j + 1) * 3 + 1 = j * 3 + 1 + 1 + 1 + 1 by omega]; simpa using e1
    · rw [show (j + 1) * 3 + 2 = j * 3 + 2 + 1 + 1 + 1 by omega]; simpa using e2
  | [], _ :: _, h, _, _, _ => h.elim
  | [_], [], h, _, _, _ => h.elim
  | [_], _ :: _, h, _, _, _ => h.elim
  | [_, _], [], h, _, _, _ => h.elim
  | [_, _], _ :: _, h, _, _, _ => h.elim
  | _ :: _ :: _ :: _, [], h, _, _, _ => h.elim
theorem nms_rz {w : World} {g : Nat} {l : List Int} (h : Nms w g l) : RZ .i64 w (some ⟨g, 0, none⟩) l := Or.inr ⟨g, rfl, h.lt, fun _ hj => h.cell hj⟩
theorem wds_rz {w : World} {g t : Nat} {l : List Nat} (h : Wds w g t l) : RZ .u64 w (some ⟨g, 0, none⟩) (asI l) := Or.inr ⟨g, rfl, h.lt, fun j hj => by
  have hj' : j < l.length := by simpa [asI] using hj
  rw [h.cell hj']
  simp [asI, hj']⟩
/-- The heap's graph is seen. -/
theorem GraphV.seen {w : World} {B : Nat} {v : Value} {roots : List Int} {ns : List (Nat × List Int × List Nat)} (h : GraphV w B v roots ns) : GV2 w v roots ns := by
  obtain ⟨u1, u2, cs, rfl, h1, h2, h3⟩ := h
  obtain ⟨a, c, rfl, hr⟩ := own_rz h1
  rcases h2.2 with ⟨e, h0⟩ | ⟨g, cap, cur, e, hb, hg, hnc, hcm, hcs, hcx⟩
  · subst e
    exact ⟨a, c, none, 0, by rw [h0], hr, Or.inl (List.eq_nil_of_length_eq_zero h0)⟩
  · subst e
    refine ⟨a, c, _, _, rfl, hr, Or.inr ⟨g, rfl, (Array.getElem?_eq_some_iff.1 hg).1, fun j x hx => ?_⟩⟩
    obtain ⟨g1, g2, e0, e1, e2, k1, k2⟩ := nodes_at h3 j x hx
    have key : ∀ (t : Nat) (y : Value), cs[t]? = some y → w.cell? ⟨g, t, none⟩ = some y := fun t y hy => by
      rw [cell_of_row w g t _ _ _ hg]
      rw [← hcx, List.getElem?_take] at hy
      split at hy
      · rw [← Array.getElem?_toList]; exact hy
      · cases hy
    exact ⟨_, _, _, _, key _ _ e0, key _ _ e1, key _ _ e2, nms_rz k1, wds_rz k2⟩
end Go.Proofs.Ythdggdmaajlaiaa

/- The objects of HeapGraphs, and that two heaps of them have one graph (no walk). -/
namespace Go.Proofs.Ythdggdmaajlaiaa
open Go.RowKit

/-- What hangs together: so many, each one's number of refs, its refs (below 0: none), its word. -/
structure Hang where
  n : Nat
  mm : Nat → Nat
  rf : Nat → Nat → Int
  wd : Nat → Nat
/-- Another number at one place. -/
def upN {α : Type} (p : Nat → α) (i : Nat) (x : α) : Nat → α := fun t => if t = i then x else p t
/-- A slot's object: lab: which one it is, sl: each one's slot, p: how many refs are set by now, q: whether the word is. -/
def refV (G : Hang) (sl : Nat → Nat) (i k p : Nat) : Nat := if k < p ∧ 0 ≤ G.rf i k then hnd (sl ((G.rf i k).toNat % G.n)) 1 else 0
def HOb (G : Hang) (lab sl p : Nat → Nat) (q : Nat → Bool) (j : Nat) : Ob := ⟨1 + lab j, G.mm (lab j), j, false, ((List.range (G.mm (lab j))).map fun k => refV G sl (lab j) k (p (lab j))) ++ [if q (lab j) then G.wd (lab j) else 0]⟩
def HLs (G : Hang) (lab sl p : Nat → Nat) (q : Nat → Bool) (c : Nat) : List Ob := (List.range c).map (HOb G lab sl p q)
section
variable {G : Hang} {lab sl p : Nat → Nat} {q : Nat → Bool} {c : Nat}
theorem HLs_len : (HLs G lab sl p q c).length = c := by simp [HLs]
theorem HLs_at {j : Nat} (h : j < c) : oat (HLs G lab sl p q c) j = HOb G lab sl p q j := by simp [oat, HLs, h]
theorem HOb_ws (j : Nat) : (HOb G lab sl p q j).ws.length = G.mm (lab j) + 1 := by simp [HOb]
theorem HOb_refs (j : Nat) : (HOb G lab sl p q j).refs = G.mm (lab j) := rfl
theorem HLs_tot (hm : ∀ i, G.mm i ≤ 8) : tot (HLs G lab sl p q c) ≤ c * 10 := by
  induction c with
  | zero => simp [HLs, tot]
  | succ c ih =>
    unfold HLs at ih ⊢
    rw [List.range_succ, List.map_append, tot_append]
    have := HOb_ws (G := G) (lab := lab) (sl := sl) (p := p) (q := q) c
    have := hm (lab c)
    simp only [List.map_cons, List.map_nil, tot, osz]
    omega
theorem HLs_more : HLs G lab sl (fun _ => 0) (fun _ => false) (c + 1) = HLs G lab sl (fun _ => 0) (fun _ => false) c ++ [newOb (1 + lab c) (G.mm (lab c)) (G.mm (lab c) + 1) c] := by
  unfold HLs
  rw [List.range_succ, List.map_append]
  congr 1
  simp only [List.map_cons, List.map_nil, HOb, newOb]
  have e : (List.range (G.mm (lab c))).map (fun k => refV G sl (lab c) k 0) ++ [if false = true then G.wd (lab c) else 0] = List.replicate (G.mm (lab c) + 1) 0 := by
    rw [List.replicate_succ']
    congr 1
    apply List.ext_getElem
    · simp
    · intro i h1 h2
      simp [refV]
  rw [e]
/-- A ref more is set. -/
theorem HOb_put {i k j : Nat} (hlab : lab j = i) (hp : p i = k) (hk : k < G.mm i) (hr : 0 ≤ G.rf i k) : (HOb G lab sl p q j).put k (hnd (sl ((G.rf i k).toNat % G.n)) 1) = HOb G lab sl (upN p i (k + 1)) q j := by
  subst hlab
  unfold HOb Ob.put
  dsimp only
  rw [List.set_append_left _ _ (by simpa using hk)]
  congr 2
  apply List.ext_getElem
  · simp
  · intro t h1 h2
    simp only [List.getElem_set, List.getElem_map, List.getElem_range, upN, if_pos]
    by_cases e : k = t
    · subst e
      rw [if_pos rfl]
      unfold refV
      rw [if_pos ⟨by omega, hr⟩]
    · rw [if_neg e, hp]
      unfold refV
      by_cases e2 : t < k
      · simp [e2, show t < k + 1 by omega]
      · rw [if_neg (fun h => e2 h.1), if_neg (fun h => by omega)]
theorem HOb_up {i k j : Nat} (hlab : lab j ≠ i) : HOb G lab sl (upN p i k) q j = HOb G lab sl p q j := by
  unfold HOb upN
  rw [if_neg hlab]
theorem HOb_none {i k j : Nat} (hp : p i = k) (hr : ¬ 0 ≤ G.rf i k) : HOb G lab sl (upN p i (k + 1)) q j = HOb G lab sl p q j := by
  by_cases hl : lab j = i
  · subst hl
    unfold HOb
    congr 2
    apply List.map_congr_left
    intro t _
    unfold refV upN
    rw [if_pos rfl, hp]
    by_cases e : t = k
    · subst e
      rw [if_neg (fun h => hr h.2), if_neg (fun h => hr h.2)]
    · by_cases e2 : t < k
      · simp [e2, show t < k + 1 by omega]
      · rw [if_neg (fun h => by omega), if_neg (fun h => by omega)]
  · exact HOb_up hl
theorem HOb_word {i j : Nat} (hlab : lab j = i) : (HOb G lab sl p q j).put (G.mm i + 0) (G.wd i) = HOb G lab sl p (upN q i true) j := by
  subst hlab
  unfold HOb Ob.put upN
  dsimp only
  rw [List.set_append_right _ _ (by simp), if_pos rfl]
  simp
theorem HOb_upq {i j : Nat} (hlab : lab j ≠ i) : HOb G lab sl p (upN q i true) j = HOb G lab sl p q j := by
  unfold HOb upN
  rw [if_neg hlab]
theorem HLs_set {c : Nat} {f g : Nat → Ob} {j : Nat} (h : ∀ t, t < c → t ≠ j → g t = f t) : ((List.range c).map f).set j (g j) = (List.range c).map g := by
  apply List.ext_getElem
  · simp
  · intro t h1 h2
    simp only [List.getElem_set, List.getElem_map, List.getElem_range]
    by_cases e : j = t
    · rw [if_pos e, e]
    · rw [if_neg e]
      exact (h t (by simpa using h2) (fun h => e h.symm)).symm
end
/-- Slots and objects, one for one. -/
structure Slots (n : Nat) (lab sl : Nat → Nat) : Prop where
  sl_lt : ∀ i, i < n → sl i < n
  lab_lt : ∀ j, j < n → lab j < n
  lab_sl : ∀ i, i < n → lab (sl i) = i
  sl_lab : ∀ j, j < n → sl (lab j) = j
theorem Slots.id (n : Nat) : Slots n (fun j => j) (fun i => i) := ⟨fun _ h => h, fun _ h => h, fun _ _ => rfl, fun _ _ => rfl⟩
theorem Slots.turn {n t : Nat} (hn : 0 < n) : Slots n (fun j => (j + t) % n) (fun i => (i + (n - t % n)) % n) := by
  have ht : t % n < n := Nat.mod_lt _ hn
  refine ⟨fun _ _ => Nat.mod_lt _ hn, fun _ _ => Nat.mod_lt _ hn, fun i hi => ?_, fun j hj => ?_⟩
  · show ((i + (n - t % n)) % n + t) % n = i
    rw [Nat.mod_add_mod, Nat.add_assoc]
    have e : n - t % n + t = n * (1 + t / n) := by
      have := Nat.div_add_mod t n
      rw [Nat.mul_add, Nat.mul_one]
      omega
    rw [e, Nat.add_mul_mod_self_left, Nat.mod_eq_of_lt hi]
  · show ((j + t) % n + (n - t % n)) % n = j
    rw [Nat.mod_add_mod, Nat.add_assoc]
    have e : t + (n - t % n) = n * (1 + t / n) := by
      have := Nat.div_add_mod t n
      rw [Nat.mul_add, Nat.mul_one]
      omega
    rw [e, Nat.add_mul_mod_self_left, Nat.mod_eq_of_lt hj]
section
variable {G : Hang} {lab sl p : Nat → Nat} {q : Nat → Bool}
theorem Slots.one (S : Slots G.n lab sl) {i t : Nat} (ht : t < G.n) (h : t ≠ sl i) : lab t ≠ i := fun e => h (by rw [← e, S.sl_lab t ht])
theorem HLs_ref (S : Slots G.n lab sl) {i k : Nat} (hi : i < G.n) (hp : p i = k) (hk : k < G.mm i) (hr : 0 ≤ G.rf i k) : (HLs G lab sl p q G.n).set (sl i) ((oat (HLs G lab sl p q G.n) (sl i)).put k (hnd (sl ((G.rf i k).toNat % G.n)) 1)) = HLs G lab sl (upN p i (k + 1)) q G.n := by
  rw [HLs_at (S.sl_lt i hi), HOb_put (S.lab_sl i hi) hp hk hr]
  exact HLs_set fun t ht hne => HOb_up (S.one ht hne)
theorem HLs_none {i k : Nat} (hp : p i = k) (hr : ¬ 0 ≤ G.rf i k) : HLs G lab sl (upN p i (k + 1)) q G.n = HLs G lab sl p q G.n := by
  unfold HLs
  exact List.map_congr_left fun t _ => HOb_none hp hr
theorem HLs_word (S : Slots G.n lab sl) {i : Nat} (hi : i < G.n) : (HLs G lab sl p q G.n).set (sl i) ((oat (HLs G lab sl p q G.n) (sl i)).put ((oat (HLs G lab sl p q G.n) (sl i)).refs + 0) (G.wd i)) = HLs G lab sl p (upN q i true) G.n := by
  rw [HLs_at (S.sl_lt i hi), HOb_refs, S.lab_sl i hi, HOb_word (S.lab_sl i hi)]
  exact HLs_set fun t ht hne => HOb_upq (S.one ht hne)
theorem HLs_noword {i : Nat} (hw : G.wd i = 0) : HLs G lab sl p (upN q i true) G.n = HLs G lab sl p q G.n := by
  unfold HLs
  refine List.map_congr_left fun t _ => ?_
  by_cases e : lab t = i
  · unfold HOb upN
    rw [if_pos e, e, hw]
    simp
  · exact HOb_upq e
theorem HLs_congr {p' : Nat → Nat} {q' : Nat → Bool} (S : Slots G.n lab sl) (hp : ∀ i, i < G.n → p i = p' i) (hq : ∀ i, i < G.n → q i = q' i) : HLs G lab sl p q G.n = HLs G lab sl p' q' G.n := by
  unfold HLs
  refine List.map_congr_left fun t ht => ?_
  have := S.lab_lt t (List.mem_range.1 ht)
  unfold HOb
  rw [hp _ this, hq _ this]
/-- What the checks want. -/
theorem HLs_ok (S : Slots G.n lab sl) (hn : 0 < G.n) : (∀ k, k < (HLs G lab sl p q G.n).length → (oat (HLs G lab sl p q G.n) k).own = k) ∧ RefsOk (HLs G lab sl p q G.n) := by
  refine ⟨fun k hk => ?_, fun k hk j hj => ?_⟩
  · rw [HLs_len] at hk
    rw [HLs_at hk]; rfl
  · rw [HLs_len] at hk ⊢
    rw [HLs_at hk] at hj ⊢
    rw [HOb_refs] at hj
    have e : (HOb G lab sl p q k).ws.getD j 0 = refV G sl (lab k) j (p (lab k)) := by
      unfold HOb
      dsimp only
      rw [List.getD_eq_getElem?_getD, List.getElem?_append_left (by simpa using hj)]
      simp [hj]
    rw [e]
    unfold refV
    split
    · exact Or.inr ⟨_, S.sl_lt _ (Nat.mod_lt _ hn), rfl⟩
    · exact Or.inl rfl
end
theorem look_lt' {Os : List Ob} {x p : Nat} (h : look (plL 0 Os) x = some p) : p < Os.length := (look_pl_some h).1
theorem ph_sndG {cap slots : Nat} {Os : List Ob} {rt : List Nat} : Snd (plainS cap slots Os rt) := by
  intro x p hl
  have hp := look_lt' (Os := Os) hl
  refine ⟨oat Os p, ?_⟩
  show obAt Os [] 0 (rs (plL 0 Os) p).at_ = _
  rw [plL_rs Os 0 p hp, Nat.zero_add]
  exact obAt_place hp
theorem plc_hnd {cap slots : Nat} {Os : List Ob} {rt : List Nat} {k : Nat} (hk : k < Os.length) (hb : Os.length ≤ 1048576) : plc (plainS cap slots Os rt) (hnd k 1) = some (place Os k) := by
  unfold plc
  show Option.map _ (look (plL 0 Os) (hnd k 1)) = _
  rw [look_pl hk hb]
  show some (rs (plL 0 Os) k).at_ = _
  rw [plL_rs Os 0 k hk, Nat.zero_add]
theorem obD_at {cap slots : Nat} {Os : List Ob} {rt : List Nat} {k : Nat} (hk : k < Os.length) : obD (plainS cap slots Os rt) (place Os k) = oat Os k := by
  unfold obD
  rw [show obAt (plainS cap slots Os rt).Lo (plainS cap slots Os rt).Hi (plainS cap slots Os rt).e (place Os k) = some (oat Os k) from obAt_place hk]
  rfl
theorem place_lt2 {Os : List Ob} {j k : Nat} (h : j < k) (hk : k ≤ Os.length) : place Os j < place Os k := by
  induction k with
  | zero => omega
  | succ k ih =>
    have h1 := place_succ (Lo := Os) (k := k) (by omega)
    have hz : osz (oat Os k) = 1 + (oat Os k).ws.length := rfl
    rcases Nat.lt_or_ge j k with hj | hj
    · have := ih hj (by omega); omega
    · obtain rfl : j = k := by omega
      omega
theorem place_inj {Os : List Ob} {j k : Nat} (hj : j < Os.length) (hk : k < Os.length) (h : place Os j = place Os k) : j = k := by
  rcases Nat.lt_trichotomy j k with e | e | e
  · have := place_lt2 (Os := Os) e (by omega); omega
  · exact e
  · have := place_lt2 (Os := Os) e (by omega); omega
theorem hnd_ne (k : Nat) : hnd k 1 ≠ 0 := by unfold hnd; omega
section
variable {G : Hang} {lab sl p lab' sl' : Nat → Nat} {q : Nat → Bool}
/-- Two heaps of the same hanging together have one graph. -/
theorem hang_same (S : Slots G.n lab sl) (S' : Slots G.n lab' sl') (hn : 0 < G.n) (hb : G.n ≤ 1048576) {rt rt' : List Nat} (hrl : rt.length = rt'.length) (hrt : ∀ k, k < rt.length → (rt.getD k 0 = 0 ∧ rt'.getD k 0 = 0) ∨ ∃ i, i < G.n ∧ rt.getD k 0 = hnd (sl i) 1 ∧ rt'.getD k 0 = hnd (sl' i) 1) {cap slots K K' : Nat}
    (e : K = (bfsK (plainS cap slots (HLs G lab sl p q G.n) rt) (mRoots (plainS cap slots (HLs G lab sl p q G.n) rt)) K).M.length) (e' : K' = (bfsK (plainS cap slots (HLs G lab' sl' p q G.n) rt') (mRoots (plainS cap slots (HLs G lab' sl' p q G.n) rt')) K').M.length)
    (hK : ∀ j, j < K → j < (bfsK (plainS cap slots (HLs G lab sl p q G.n) rt) (mRoots (plainS cap slots (HLs G lab sl p q G.n) rt)) j).M.length) (hK' : ∀ j, j < K' → j < (bfsK (plainS cap slots (HLs G lab' sl' p q G.n) rt') (mRoots (plainS cap slots (HLs G lab' sl' p q G.n) rt')) j).M.length) :
    rt.map (numX (plainS cap slots (HLs G lab sl p q G.n) rt) (bfsK (plainS cap slots (HLs G lab sl p q G.n) rt) (mRoots (plainS cap slots (HLs G lab sl p q G.n) rt)) K)) = rt'.map (numX (plainS cap slots (HLs G lab' sl' p q G.n) rt') (bfsK (plainS cap slots (HLs G lab' sl' p q G.n) rt') (mRoots (plainS cap slots (HLs G lab' sl' p q G.n) rt')) K')) ∧
    (bfsK (plainS cap slots (HLs G lab sl p q G.n) rt) (mRoots (plainS cap slots (HLs G lab sl p q G.n) rt)) K).M.map (nodeOf (plainS cap slots (HLs G lab sl p q G.n) rt) (bfsK (plainS cap slots (HLs G lab sl p q G.n) rt) (mRoots (plainS cap slots (HLs G lab sl p q G.n) rt)) K)) = (bfsK (plainS cap slots (HLs G lab' sl' p q G.n) rt') (mRoots (plainS cap slots (HLs G lab' sl' p q G.n) rt')) K').M.map (nodeOf (plainS cap slots (HLs G lab' sl' p q G.n) rt') (bfsK (plainS cap slots (HLs G lab' sl' p q G.n) rt') (mRoots (plainS cap slots (HLs G lab' sl' p q G.n) rt')) K')) := by
  have hl : (HLs G lab sl p q G.n).length = G.n := HLs_len
  have hl' : (HLs G lab' sl' p q G.n).length = G.n := HLs_len
  have hhnd : ∀ i, i < G.n → Rl (plainS cap slots (HLs G lab sl p q G.n) rt) (plainS cap slots (HLs G lab' sl' p q G.n) rt') (fun x y => ∃ i, i < G.n ∧ x = place (HLs G lab sl p q G.n) (sl i) ∧ y = place (HLs G lab' sl' p q G.n) (sl' i)) (hnd (sl i) 1) (hnd (sl' i) 1) := fun i hi =>
    Or.inr ⟨hnd_ne _, hnd_ne _, _, _, plc_hnd (by rw [hl]; exact S.sl_lt i hi) (by rw [hl]; exact hb), plc_hnd (by rw [hl']; exact S'.sl_lt i hi) (by rw [hl']; exact hb), i, hi, rfl, rfl⟩
  refine graphs_alike (P := fun x y => ∃ i, i < G.n ∧ x = place (HLs G lab sl p q G.n) (sl i) ∧ y = place (HLs G lab' sl' p q G.n) (sl' i)) ?_ ?_ ?_ e e' hK hK'
  · rintro x x' y y' ⟨i, hi, rfl, rfl⟩ ⟨j, hj, rfl, rfl⟩
    constructor
    · intro h
      have := place_inj (by rw [hl]; exact S.sl_lt i hi) (by rw [hl]; exact S.sl_lt j hj) h
      have h2 : i = j := by rw [← S.lab_sl i hi, ← S.lab_sl j hj, this]
      rw [h2]
    · intro h
      have := place_inj (by rw [hl']; exact S'.sl_lt i hi) (by rw [hl']; exact S'.sl_lt j hj) h
      have h2 : i = j := by rw [← S'.lab_sl i hi, ← S'.lab_sl j hj, this]
      rw [h2]
  · rintro x y ⟨i, hi, rfl, rfl⟩
    unfold refsAt
    rw [obD_at (by rw [hl]; exact S.sl_lt i hi), obD_at (by rw [hl']; exact S'.sl_lt i hi), HLs_at (S.sl_lt i hi), HLs_at (S'.sl_lt i hi)]
    unfold HOb
    dsimp only
    rw [S.lab_sl i hi, S'.lab_sl i hi]
    refine ⟨rfl, ?_, ?_⟩
    · have g0 : ∀ f : Nat → Nat, List.drop (G.mm i) (List.map f (List.range (G.mm i)) ++ [if q i = true then G.wd i else 0]) = [if q i = true then G.wd i else 0] := fun f => by
        rw [List.drop_append_of_le_length (by simp)]
        simp
      rw [g0, g0]
    · rw [List.take_append_of_le_length (by simp), List.take_append_of_le_length (by simp)]
      refine Two.of (by simp) fun k hk => ?_
      have hk2 : k < G.mm i := by simp at hk; omega
      have g1 : ∀ f : Nat → Nat, (List.take (G.mm i) (List.map f (List.range (G.mm i)))).getD k 0 = f k := fun f => by
        rw [List.getD_eq_getElem?_getD, List.getElem?_take_of_lt hk2]
        simp [hk2]
      rw [g1, g1]
      unfold refV
      by_cases hc : k < p i ∧ 0 ≤ G.rf i k
      · rw [if_pos hc, if_pos hc]
        exact hhnd _ (Nat.mod_lt _ hn)
      · rw [if_neg hc, if_neg hc]
        exact Or.inl ⟨rfl, rfl⟩
  · refine Two.of hrl fun k hk => ?_
    show Rl _ _ _ (rt.getD k 0) (rt'.getD k 0)
    rcases hrt k hk with ⟨h1, h2⟩ | ⟨i, hi, h1, h2⟩
    · rw [h1, h2]
      exact Or.inl ⟨rfl, rfl⟩
    · rw [h1, h2]
      exact hhnd i hi
end
end Go.Proofs.Ythdggdmaajlaiaa
