/- A heap where nothing was ever freed or moved: its objects in a row, the k-th one's handle is of slot k. -/
import Derived.Test.YtcgaeloacmjokaaEMake2
namespace Go.Proofs.Ytcgaeloacmjokaa
open Go.RowKit

def Ob0 : Ob := ⟨0, 0, 0, false, []⟩
def oat (Os : List Ob) (k : Nat) : Ob := Os.getD k Ob0
theorem oat_get {Os : List Ob} {k : Nat} (h : k < Os.length) : Os[k]? = some (oat Os k) := by unfold oat; simp [h]
theorem oat_set {Os : List Ob} {k : Nat} (o : Ob) (j : Nat) (h : k < Os.length) : oat (Os.set k o) j = if j = k then o else oat Os j := by
  unfold oat
  rw [List.getD_eq_getElem?_getD, List.getElem?_set, List.getD_eq_getElem?_getD]
  by_cases e : k = j
  · subst e; rw [if_pos rfl, if_pos rfl, if_pos h]; rfl
  · rw [if_neg e, if_neg (fun h => e h.symm)]
theorem oat_snoc (Os : List Ob) (o : Ob) (j : Nat) : oat (Os ++ [o]) j = if j = Os.length then o else oat Os j := by
  unfold oat
  rw [List.getD_eq_getElem?_getD, List.getD_eq_getElem?_getD]
  by_cases e : j = Os.length
  · subst e; simp
  · rw [if_neg e]
    rcases Nat.lt_or_ge j Os.length with h | h
    · rw [List.getElem?_append_left h]
    · rw [List.getElem?_eq_none (by simp; omega), List.getElem?_eq_none h]
/-- Their slots. -/
def plL : Nat → List Ob → List RS
  | _, [] => []
  | p, o :: r => ⟨1, p, true⟩ :: plL (p + osz o) r
def place (Os : List Ob) (k : Nat) : Nat := tot (Os.take k)
theorem plL_len : ∀ (Os : List Ob) (p : Nat), (plL p Os).length = Os.length
  | [], _ => rfl
  | o :: r, p => by simp [plL, plL_len r]
theorem plL_rs : ∀ (Os : List Ob) (p k : Nat), k < Os.length → rs (plL p Os) k = ⟨1, p + place Os k, true⟩
  | [], _, _, h => by simp at h
  | o :: r, p, 0, _ => by simp [plL, rs, place, tot]
  | o :: r, p, k + 1, h => by
    have := plL_rs r (p + osz o) k (by simpa using h)
    unfold place at this ⊢
    simp only [List.take_succ_cons, tot]
    rw [show p + (osz o + tot (List.take k r)) = p + osz o + tot (List.take k r) by omega, ← this]
    rfl
theorem plL_append : ∀ (Os : List Ob) (p : Nat) (o : Ob), plL p (Os ++ [o]) = plL p Os ++ [⟨1, p + tot Os, true⟩]
  | [], p, o => by simp [plL, tot]
  | x :: r, p, o => by
    simp only [List.cons_append, plL, plL_append r, tot]
    rw [show p + osz x + tot r = p + (osz x + tot r) by omega]
theorem plL_set : ∀ (Os : List Ob) (p k : Nat) (o : Ob), osz o = osz (oat Os k) → plL p (Os.set k o) = plL p Os
  | [], _, _, _, _ => rfl
  | x :: r, p, 0, o, h => by
    have h' : osz o = osz x := h
    simp only [List.set_cons_zero, plL, h']
  | x :: r, p, k + 1, o, h => by
    simp only [List.set_cons_succ, plL]
    rw [plL_set r (p + osz x) k o (by unfold oat at h ⊢; simpa using h)]
theorem plL_cnt : ∀ (Os : List Ob) (p : Nat), cnt (plL p Os) = Os.length
  | [], _ => rfl
  | o :: r, p => by
    have := plL_cnt r (p + osz o)
    unfold cnt at this ⊢
    simp [plL, this]
theorem objAt_place : ∀ (Os : List Ob) (p k : Nat), k < Os.length → objAt p Os (p + place Os k) = some (oat Os k)
  | [], _, _, h => by simp at h
  | o :: r, p, 0, _ => by simp [objAt, place, tot, oat]
  | o :: r, p, k + 1, h => by
    have := objAt_place r (p + osz o) k (by simpa using h)
    unfold place at this ⊢
    simp only [List.take_succ_cons, tot, objAt]
    have hz : osz o = 1 + o.ws.length := rfl
    rw [if_neg (by omega), show p + (osz o + tot (List.take k r)) = p + osz o + tot (List.take k r) by omega, this]
    rfl
theorem setObj_place : ∀ (Os : List Ob) (p k : Nat) (x : Ob), k < Os.length → setObj p Os (p + place Os k) x = Os.set k x
  | [], _, _, _, h => by simp at h
  | o :: r, p, 0, x, _ => by simp [setObj, place, tot]
  | o :: r, p, k + 1, x, h => by
    have := setObj_place r (p + osz o) k x (by simpa using h)
    unfold place at this ⊢
    simp only [List.take_succ_cons, tot, setObj]
    have hz : osz o = 1 + o.ws.length := rfl
    rw [if_neg (by omega), show p + (osz o + tot (List.take k r)) = p + osz o + tot (List.take k r) by omega, this]
    rfl
def plainS (cap slots : Nat) (Os : List Ob) (rt : List Nat) : HS := ⟨cap, slots, Os, [], 0, false, plL 0 Os, [], rt⟩
/-- A plain heap: its blocks, where it lies, its room, objects, roots, watcher. -/
def PH (own : Nat → Prop) (w : World) (i : HId) (cap slots : Nat) (Os : List Ob) (rt : List Nat) (wv : Value) : Prop := HP own w i (plainS cap slots Os rt) wv
theorem look_pl {Os : List Ob} {k : Nat} (hk : k < Os.length) (hb : Os.length ≤ 1048576) : look (plL 0 Os) (hnd k 1) = some k := by
  have h := look_of (L := plL 0 Os) (p := k) (by rw [plL_len]; exact hk) (by rw [plL_len]; exact hb) (by rw [plL_rs Os 0 k hk])
  rw [plL_rs Os 0 k hk] at h
  exact h
theorem look_pl_some {Os : List Ob} {x p : Nat} (h : look (plL 0 Os) x = some p) : p < Os.length ∧ x = hnd p 1 := by
  obtain ⟨h1, h2, h3, h4⟩ := look_some h
  rw [plL_len] at h2
  rw [plL_rs Os 0 p h2] at h4
  refine ⟨h2, ?_⟩
  have h5 : (1 : Nat) = x / 4294967296 := h4
  unfold hnd
  omega
section
variable {own : Nat → Prop} {w : World} {i : HId} {cap slots : Nat} {Os : List Ob} {rt : List Nat} {wv : Value}
theorem PH.few (h : PH own w i cap slots Os rt wv) : tot Os ≤ cap ∧ cap ≤ 1048576 ∧ Os.length ≤ slots ∧ slots ≤ 1048576 ∧ rt.length = 16 := by
  have h1 := HP.at_ h
  have h2 := h1.le
  have h3 := (HP.ab h).few
  rw [show (plainS cap slots Os rt).L = plL 0 Os from rfl, plL_len] at h3
  have h4 : tot Os ≤ cap ∧ cap ≤ 1048576 := h2
  obtain ⟨ot, h⟩ := h
  exact ⟨h4.1, h4.2, h3.2.1, h3.1, h.rlen⟩
theorem PH.has (h : PH own w i cap slots Os rt wv) {k : Nat} (hk : k < Os.length) : Has (plainS cap slots Os rt) (hnd k 1) (place Os k) (oat Os k) := by
  obtain ⟨h1, h2, h3, h4, h5⟩ := h.few
  refine ⟨hnd_lt (by omega) (by decide), k, look_pl hk (by omega), ?_, ?_⟩
  · show (rs (plL 0 Os) k).at_ = _
    rw [plL_rs Os 0 k hk]; exact Nat.zero_add _
  · show obAt Os [] 0 (place Os k) = _
    unfold obAt
    have := objAt_place Os 0 k hk
    rw [Nat.zero_add] at this
    rw [this]
theorem PH.ok (h : PH own w i cap slots Os rt wv) {k : Nat} (hk : k < Os.length) : (oat Os k).ok := (Has.ok h (h.has hk)).1
theorem plain_put {k : Nat} (hk : k < Os.length) (j y : Nat) : (plainS cap slots Os rt).put (place Os k) ((oat Os k).put j y) = plainS cap slots (Os.set k ((oat Os k).put j y)) rt := by
  unfold HS.put plainS setLo setHi
  have h1 := setObj_place Os 0 k ((oat Os k).put j y) hk
  have h2 := objAt_place Os 0 k hk
  rw [Nat.zero_add] at h1 h2
  dsimp only
  rw [h1, h2, plL_set Os 0 k _ (by simp [Ob.put, osz])]
theorem plain_more (o : Ob) : (plainS cap slots Os rt).more (plL 0 Os ++ [⟨1, tot Os, true⟩]) [] o = plainS cap slots (Os ++ [o]) rt := by
  unfold HS.more plainS
  dsimp only
  rw [plL_append, Nat.zero_add]
  rfl
theorem may_pl {Os : List Ob} {k : Nat} (hk : k < Os.length) (hb : Os.length ≤ 1048576) : mayH (plL 0 Os) (hnd k 1) = true := by
  unfold mayH; rw [look_pl hk hb]; simp
end
end Go.Proofs.Ytcgaeloacmjokaa
