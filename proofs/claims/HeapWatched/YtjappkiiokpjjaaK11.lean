/- Some texts in one: each opens with its own remark. -/
import Derived.Test.YtjappkiiokpjjaaK10
/- Root, Head, Make, New. -/
namespace Go.Proofs.Ytjappkiiokpjjaa
open Go.RowKit

theorem roots_at (rt : List Nat) (hl : rt.length = 16) (k : Nat) (hk : k < 16) (W : World) : (Instr.index 28 (.agg (wcells rt)) (.int .i64 (k : Int))).run Try.prog W = .ok (.int .u64 ((rt.getD k 0 : Nat) : Int)) W := by
  obtain ⟨r0, r1, r2, r3, r4, r5, r6, r7, r8, r9, r10, r11, r12, r13, r14, r15, rfl⟩ := list16 rt hl
  have hkk : k = 0 ∨ k = 1 ∨ k = 2 ∨ k = 3 ∨ k = 4 ∨ k = 5 ∨ k = 6 ∨ k = 7 ∨ k = 8 ∨ k = 9 ∨ k = 10 ∨ k = 11 ∨ k = 12 ∨ k = 13 ∨ k = 14 ∨ k = 15 := by omega
  rcases hkk with rfl | rfl | rfl | rfl | rfl | rfl | rfl | rfl | rfl | rfl | rfl | rfl | rfl | rfl | rfl | rfl <;> simp [wcells, Instr.index, run_underlying Try.underlying28, Result.andThen, asIntOf, Go.part, go_sem]
section
variable {own : Nat → Prop} {w : World} {i : HId} {s : HS} {wv : Value}
theorem Root_arg (k : Int) (w : World) (H : Nat) (hk : ¬ (0 ≤ k ∧ k < 16)) : Calls Try.prog 64 #[.pointer (some ⟨H, 0, none⟩), .int .i64 k] w fun e w' => e = .returned (.tuple #[.int .u64 0, .int .i64 1]) ∧ w' = w := by
  have HR := mkHid (isRoot_any k w)
  rw [show isR k = false from decide_eq_false hk] at HR
  clear hk
  go_enter Try.func64, Try.ntmps64
  go_wp2_with fail
  refine HR.out.mono ?_
  rintro e w1 ⟨rfl, rfl⟩
  go_wp2_with fail
  go_returns
  exact ⟨rfl, rfl⟩
theorem Root_yes (h : HP own w i s wv) (k : Nat) (hk : k < 16) : Calls Try.prog 64 #[.pointer (some ⟨i.H, 0, none⟩), .int .i64 k] w fun e w' => e = .returned (.tuple #[.int .u64 (s.rt.getD k 0 : Nat), .int .i64 0]) ∧ Below w.heap.size w w' := by
  have HR := mkHid (isRoot_any k w)
  rw [show isR k = true from decide_eq_true ⟨by omega, by omega⟩] at HR
  have HH := mkHid (held_any h)
  have hlen : s.rt.length = 16 := by obtain ⟨ot, h⟩ := h; exact h.rlen
  have hX := roots_at s.rt hlen k hk
  obtain ⟨V, hV⟩ : ∃ V, V = Value.agg (wcells s.rt) := ⟨_, rfl⟩
  rw [← hV] at hX HH
  clear h hk hlen hV
  go_enter Try.func64, Try.ntmps64
  go_wp2_with fail
  refine HR.out.mono ?_
  rintro e w1 ⟨rfl, rfl⟩
  go_wp2_with fail
  refine HH.out.mono ?_
  rintro e w2 ⟨rfl, b2⟩
  have B2 := mkHid b2
  clear b2
  go_wp2_with fail
  go_returns
  exact ⟨rfl, B2.out⟩
theorem hHead_no (h : HP own w i s wv) (x : Nat) (hx : x < 18446744073709551616) (hl : look s.L x = none) : Calls Try.prog 77 #[.pointer (some ⟨i.H, 0, none⟩), .int .u64 x] w fun e w' => e = .returned (.tuple #[.int .i64 0, .int .i64 0, .int .i64 0, .int .i64 6]) ∧ Below w.heap.size w w' := by
  have HO := mkHid (object_no h x hx hl)
  unfold headZ at HO
  clear h hl
  go_enter Try.func77, Try.ntmps77
  go_wp2_with fail
  refine HO.out.mono ?_
  rintro e w1 ⟨rfl, b1⟩
  have B1 := mkHid b1
  clear b1
  go_wp2_with fail
  go_quiet (fail)
  go_wp2_with fail
  go_returns
  exact ⟨rfl, below_dn (B1.out.alloc B1.out.size _) _⟩
theorem hHead_yes (h : HP own w i s wv) {x q : Nat} {o : Ob} (hh : Has s x q o) : Calls Try.prog 77 #[.pointer (some ⟨i.H, 0, none⟩), .int .u64 x] w fun e w' => e = .returned (.tuple #[.int .i64 o.tag, .int .i64 o.refs, .int .i64 o.ws.length, .int .i64 0]) ∧ Below w.heap.size w w' := by
  obtain ⟨t, r, z, m, u, ht, hr, hz, hrz, hzz, hm, hu, ho⟩ := object_let h hh
  have HO := mkHid ho
  rw [← hr, ← hz, ← ht]
  clear h hh ho ht hr hz hm hu
  go_enter Try.func77, Try.ntmps77
  go_wp2_with fail
  refine HO.out.mono ?_
  rintro e w1 ⟨rfl, b1⟩
  have B1 := mkHid b1
  clear b1
  go_wp2_with fail
  go_quiet (fail)
  go_wp2_with fail
  go_returns
  exact ⟨rfl, below_dn (B1.out.alloc B1.out.size _) _⟩
/-- A new object: the table takes a slot, the arena lays it. -/
def HS.more (s : HS) (L : List RS) (F : List Nat) (o : Ob) : HS := ⟨s.cap, s.slots, if s.op then s.Lo else s.Lo ++ [o], if s.op then s.Hi ++ [o] else [], if s.op then s.e else 0, s.op, L, F, s.rt⟩
theorem HP.alloc (h : HP own w i s wv) {t r z p : Nat} (hb : fitsH t r z = true) (hp : p < 1048576) (hroom : topOf s.Lo s.Hi s.e s.op + 1 + z ≤ s.cap) : Calls Try.prog 56 #[.pointer (some ⟨i.A, 0, none⟩), .int .i64 t, .int .i64 r, .int .i64 z, .int .i64 p] w fun e w' => e = .returned (.tuple #[.int .i64 (topOf s.Lo s.Hi s.e s.op : Nat), .int .i64 0]) ∧ Mv own own w w' ∧ HP own w' i (s.more s.L s.F ⟨t, r, p, false, List.replicate z 0⟩) wv := by
  have hf := of_decide_eq_true hb
  have hA : fitsA t r z p = true := by
    unfold fitsA
    simp only [Bool.and_eq_true, decide_eq_true_eq]
    omega
  have ha := h.at_
  unfold HS.more
  cases hop : s.op with
  | true =>
    rw [hop] at ha hroom
    refine (at_AllocO ha t r z p hA (by omega) (by omega) (by omega) (by omega) hp hroom).mono ?_
    rintro e w' ⟨rfl, hc, h2⟩
    exact ⟨rfl, h.arena hc h2⟩
  | false =>
    rw [hop] at ha hroom
    refine (at_AllocC ha t r z p hA (by omega) (by omega) (by omega) (by omega) hp hroom).mono ?_
    rintro e w' ⟨rfl, hc, h2⟩
    exact ⟨rfl, h.arena hc h2⟩
theorem hMake_core {Q : World → World → Prop} (h : HP own w i s wv) (t r z : Nat) (hb : fitsH t r z = true) (hroom : topOf s.Lo s.Hi s.e s.op + 1 + z ≤ s.cap) (hcnt : cnt s.L < s.slots) (x p : Nat) (hx : x < 18446744073709551616) (L' : List RS) (F' : List Nat) (hp : look L' x = some p) (hp2 : p < 1048576)
    (hM : ∀ u, HP own u i s wv → Calls Try.prog 53 #[.pointer (some ⟨i.T, 0, none⟩), .int .i64 (topOf s.Lo s.Hi s.e s.op : Nat)] u fun e w' => e = .returned (.tuple #[.int .u64 x, .int .i64 0]) ∧ ∃ own', Mv own own' u w' ∧ HP own' w' i ⟨s.cap, s.slots, s.Lo, s.Hi, s.e, s.op, L', F', s.rt⟩ wv)
    (hT : ∀ own' u, Mv own own' w u → HP own' u i (s.more L' F' ⟨t, r, p, false, List.replicate z 0⟩) wv → Calls Try.prog 57 #[.pointer (some ⟨i.H, 0, none⟩), .int .u64 x] u fun e w' => e = .returned (.tuple #[]) ∧ Q u w') :
    Calls Try.prog 21 #[.pointer (some ⟨i.H, 0, none⟩), .int .i64 t, .int .i64 r, .int .i64 z] w fun e w' => e = .returned (.tuple #[.int .u64 x, .int .i64 0]) ∧ ∃ own' u, Mv own own' w u ∧ HP own' u i (s.more L' F' ⟨t, r, p, false, List.replicate z 0⟩) wv ∧ Q u w' := by
  have HF := mkHid (hfits_any t r z w)
  rw [hb] at HF
  have hz : z ≤ 4096 := by
    have := of_decide_eq_true hb
    omega
  have HA := mkHid (hArena_any h)
  have HT := mkHid (hTable_any h)
  have HFR := mkHid (at_Free h.at_)
  have HTOP := mkHid (at_Top h.at_)
  have HCO := mkHid (ab_Count h.ab)
  have HSL := mkHid (ab_Slots h.ab)
  have HMK := mkHid (hM w h)
  have HSlot := mkHid (fun (own' : Nat → Prop) (u : World) (hu : HP own' u i ⟨s.cap, s.slots, s.Lo, s.Hi, s.e, s.op, L', F', s.rt⟩ wv) => ab_Slot hu.ab x p hx hp)
  have HAl := mkHid (fun (own' : Nat → Prop) (u : World) (hu : HP own' u i ⟨s.cap, s.slots, s.Lo, s.Hi, s.e, s.op, L', F', s.rt⟩ wv) => HP.alloc hu (t := t) (r := r) (z := z) (p := p) hb hp2 hroom)
  have HTM := mkHid hT
  obtain ⟨hc1, hc2⟩ := cnt_le h
  have hle := h.at_.le
  obtain ⟨fr, hfr⟩ : ∃ fr, fr = s.cap - topOf s.Lo s.Hi s.e s.op := ⟨_, rfl⟩
  obtain ⟨tp, htp⟩ : ∃ tp, tp = topOf s.Lo s.Hi s.e s.op := ⟨_, rfl⟩
  obtain ⟨c, hc⟩ : ∃ c, c = cnt s.L := ⟨_, rfl⟩
  obtain ⟨n, hn⟩ : ∃ n, n = s.slots := ⟨_, rfl⟩
  rw [← hfr] at HFR
  rw [← htp] at HTOP HMK
  rw [← hc] at HCO
  rw [← hn] at HSL
  have h2 : ¬ ((fr : Int) < 1 + (z : Int)) := by omega
  have h4 : ((c : Int) == (n : Int)) = false := beq_eq_false_iff_ne.2 (by omega)
  clear h hb hroom hc hn hfr htp hle hc1 hc2 hcnt hM hT
  go_enter Try.func21, Try.ntmps21
  go_wp2_with fail
  refine HF.out.mono ?_
  rintro e w1 ⟨rfl, rfl⟩
  go_wp2_with fail
  refine HA.out.mono ?_
  rintro e w1 ⟨rfl, rfl⟩
  go_wp2_with fail
  refine HT.out.mono ?_
  rintro e w1 ⟨rfl, rfl⟩
  go_wp2_with fail
  refine HFR.out.mono ?_
  rintro e w1 ⟨rfl, rfl⟩
  go_wp2_with fail
  refine HCO.out.mono ?_
  rintro e w1 ⟨rfl, rfl⟩
  go_wp2_with fail
  refine HSL.out.mono ?_
  rintro e w1 ⟨rfl, rfl⟩
  go_wp2_with fail
  refine HTOP.out.mono ?_
  rintro e w1 ⟨rfl, rfl⟩
  go_wp2_with fail
  refine HMK.out.mono ?_
  rintro e w2 ⟨rfl, own2, m2, h2'⟩
  have M2 := mkHid m2
  have H2 := mkHid h2'
  clear m2 h2'
  go_wp2_with fail
  refine (HSlot.out _ _ H2.out).mono ?_
  rintro e w3 ⟨rfl, rfl⟩
  go_wp2_with fail
  refine (HAl.out _ _ H2.out).mono ?_
  rintro e w4 ⟨rfl, m4, h4'⟩
  have M4 := mkHid m4
  have H4 : Hid (HP own2 w4 i (s.more L' F' ⟨t, r, p, false, List.replicate z 0⟩) wv) := h4'
  clear m4 h4'
  go_wp2_with fail
  refine (HTM.out _ _ (M2.out.trans M4.out) H4.out).mono ?_
  rintro e w5 ⟨rfl, q5⟩
  have Q5 := mkHid q5
  clear q5
  go_wp2_with fail
  go_returns
  exact ⟨rfl, own2, w4, M2.out.trans M4.out, H4.out, Q5.out⟩
end
end Go.Proofs.Ytjappkiiokpjjaa

/- A heap where nothing was ever freed or moved: its objects in a row, the k-th one's handle is of slot k. -/
namespace Go.Proofs.Ytjappkiiokpjjaa
open Go.RowKit

def Ob0 : Ob := ⟨0, 0, 0, false, []⟩
def oat (Os : List Ob) (k : Nat) : Ob := Os.getD k Ob0
theorem oat_get {Os : List Ob} {k : Nat} (h : k < Os.length) : Os[k]? = some (oat Os k) := by unfold oat; simp [h]
theorem oat_set {Os : List Ob} {k : Nat} (o : Ob) (j : Nat) (h : k < Os.length) : oat (Os.set k o) j = if j = k then o else oat Os j := by
  unfold oat
  rw [List.getD_eq_getElem?_getD, List.getElem?_set, List.getD_eq_getElem?_getD]
  by_cases e : k = j
  · subst e; rw [if_pos rfl, if_pos rfl, if_pos h]; rfl
  · rw [if_neg e, if_neg (fun h => e h.symm)]
theorem oat_snoc (Os : List Ob) (o : Ob) (j : Nat) : oat (Os ++ [o]) j = if j = Os.length then o else oat Os j := by
  unfold oat
  rw [List.getD_eq_getElem?_getD, List.getD_eq_getElem?_getD]
  by_cases e : j = Os.length
  · subst e; simp
  · rw [if_neg e]
    rcases Nat.lt_or_ge j Os.length with h | h
    · rw [List.getElem?_append_left h]
    · rw [List.getElem?_eq_none (by simp; omega), List.getElem?_eq_none h]
/-- Their slots. -/
def plL : Nat → List Ob → List RS
  | _, [] => []
  | p, o :: r => ⟨1, p, true⟩ :: plL (p + osz o) r
def place (Os : List Ob) (k : Nat) : Nat := tot (Os.take k)
theorem plL_len : ∀ (Os : List Ob) (p : Nat), (plL p Os).length = Os.length
  | [], _ => rfl
  | o :: r, p => by simp [plL, plL_len r]
theorem plL_rs : ∀ (Os : List Ob) (p k : Nat), k < Os.length → rs (plL p Os) k = ⟨1, p + place Os k, true⟩
  | [], _, _, h => by simp at h
  | o :: r, p, 0, _ => by simp [plL, rs, place, tot]
  | o :: r, p, k + 1, h => by
    have := plL_rs r (p + osz o) k (by simpa using h)
    unfold place at this ⊢
    simp only [List.take_succ_cons, tot]
    rw [show p + (osz o + tot (List.take k r)) = p + osz o + tot (List.take k r) by omega, ← this]
    rfl
theorem plL_append : ∀ (Os : List Ob) (p : Nat) (o : Ob), plL p (Os ++ [o]) = plL p Os ++ [⟨1, p + tot Os, true⟩]
  | [], p, o => by simp [plL, tot]
  | x :: r, p, o => by
    simp only [List.cons_append, plL, plL_append r, tot]
    rw [show p + osz x + tot r = p + (osz x + tot r) by omega]
theorem plL_set : ∀ (Os : List Ob) (p k : Nat) (o : Ob), osz o = osz (oat Os k) → plL p (Os.set k o) = plL p Os
  | [], _, _, _, _ => rfl
  | x :: r, p, 0, o, h => by
    have h' : osz o = osz x := h
    simp only [Sx1, plL, h']
  | x :: r, p, k + 1, o, h => by
    simp only [Sx2, plL]
    rw [plL_set r (p + osz x) k o (by unfold oat at h ⊢; simpa using h)]
theorem plL_cnt : ∀ (Os : List Ob) (p : Nat), cnt (plL p Os) = Os.length
  | [], _ => rfl
  | o :: r, p => by
    have := plL_cnt r (p + osz o)
    unfold cnt at this ⊢
    simp [plL, this]
theorem objAt_place : ∀ (Os : List Ob) (p k : Nat), k < Os.length → objAt p Os (p + place Os k) = some (oat Os k)
  | [], _, _, h => by simp at h
  | o :: r, p, 0, _ => by simp [objAt, place, tot, oat]
  | o :: r, p, k + 1, h => by
    have := objAt_place r (p + osz o) k (by simpa using h)
    unfold place at this ⊢
    simp only [List.take_succ_cons, tot, objAt]
    have hz : osz o = 1 + o.ws.length := rfl
    rw [if_neg (by omega), show p + (osz o + tot (List.take k r)) = p + osz o + tot (List.take k r) by omega, this]
    rfl
theorem setObj_place : ∀ (Os : List Ob) (p k : Nat) (x : Ob), k < Os.length → setObj p Os (p + place Os k) x = Os.set k x
  | [], _, _, _, h => by simp at h
  | o :: r, p, 0, x, _ => by simp [setObj, place, tot]
  | o :: r, p, k + 1, x, h => by
    have := setObj_place r (p + osz o) k x (by simpa using h)
    unfold place at this ⊢
    simp only [List.take_succ_cons, tot, setObj]
    have hz : osz o = 1 + o.ws.length := rfl
    rw [if_neg (by omega), show p + (osz o + tot (List.take k r)) = p + osz o + tot (List.take k r) by omega, this]
    rfl
def plainS (cap slots : Nat) (Os : List Ob) (rt : List Nat) : HS := ⟨cap, slots, Os, [], 0, false, plL 0 Os, [], rt⟩
/-- A plain heap: its blocks, where it lies, its room, objects, roots, watcher. -/
def PH (own : Nat → Prop) (w : World) (i : HId) (cap slots : Nat) (Os : List Ob) (rt : List Nat) (wv : Value) : Prop := HP own w i (plainS cap slots Os rt) wv
theorem look_pl {Os : List Ob} {k : Nat} (hk : k < Os.length) (hb : Os.length ≤ 1048576) : look (plL 0 Os) (hnd k 1) = some k := by
  have h := look_of (L := plL 0 Os) (p := k) (by rw [plL_len]; exact hk) (by rw [plL_len]; exact hb) (by rw [plL_rs Os 0 k hk])
  rw [plL_rs Os 0 k hk] at h
  exact h
theorem look_pl_some {Os : List Ob} {x p : Nat} (h : look (plL 0 Os) x = some p) : p < Os.length ∧ x = hnd p 1 := by
  obtain ⟨h1, h2, h3, h4⟩ := look_some h
  rw [plL_len] at h2
  rw [plL_rs Os 0 p h2] at h4
  refine ⟨h2, ?_⟩
  have h5 : (1 : Nat) = x / 4294967296 := h4
  unfold hnd
  omega
section
variable {own : Nat → Prop} {w : World} {i : HId} {cap slots : Nat} {Os : List Ob} {rt : List Nat} {wv : Value}
theorem PH.few (h : PH own w i cap slots Os rt wv) : tot Os ≤ cap ∧ cap ≤ 1048576 ∧ Os.length ≤ slots ∧ slots ≤ 1048576 ∧ rt.length = 16 := by
  have h1 := HP.at_ h
  have h2 := h1.le
  have h3 := (HP.ab h).few
  rw [show (plainS cap slots Os rt).L = plL 0 Os from rfl, plL_len] at h3
  have h4 : tot Os ≤ cap ∧ cap ≤ 1048576 := h2
  obtain ⟨ot, h⟩ := h
  exact ⟨h4.1, h4.2, h3.2.1, h3.1, h.rlen⟩
theorem PH.has (h : PH own w i cap slots Os rt wv) {k : Nat} (hk : k < Os.length) : Has (plainS cap slots Os rt) (hnd k 1) (place Os k) (oat Os k) := by
  obtain ⟨h1, h2, h3, h4, h5⟩ := h.few
  refine ⟨hnd_lt (by omega) (by decide), k, look_pl hk (by omega), ?_, ?_⟩
  · show (rs (plL 0 Os) k).at_ = _
    rw [plL_rs Os 0 k hk]; exact Nat.zero_add _
  · show obAt Os [] 0 (place Os k) = _
    unfold obAt
    have := objAt_place Os 0 k hk
    rw [Nat.zero_add] at this
    rw [this]
theorem PH.ok (h : PH own w i cap slots Os rt wv) {k : Nat} (hk : k < Os.length) : (oat Os k).ok := (Has.ok h (h.has hk)).1
theorem plain_put {k : Nat} (hk : k < Os.length) (j y : Nat) : (plainS cap slots Os rt).put (place Os k) ((oat Os k).put j y) = plainS cap slots (Os.set k ((oat Os k).put j y)) rt := by
  unfold HS.put plainS setLo setHi
  have h1 := setObj_place Os 0 k ((oat Os k).put j y) hk
  have h2 := objAt_place Os 0 k hk
  rw [Nat.zero_add] at h1 h2
  dsimp only
  rw [h1, h2, plL_set Os 0 k _ (by simp [Ob.put, osz])]
theorem plain_more (o : Ob) : (plainS cap slots Os rt).more (plL 0 Os ++ [⟨1, tot Os, true⟩]) [] o = plainS cap slots (Os ++ [o]) rt := by
  unfold HS.more plainS
  dsimp only
  rw [plL_append, Nat.zero_add]
  rfl
theorem may_pl {Os : List Ob} {k : Nat} (hk : k < Os.length) (hb : Os.length ≤ 1048576) : mayH (plL 0 Os) (hnd k 1) = true := by
  unfold mayH; rw [look_pl hk hb]; simp
end
end Go.Proofs.Ytjappkiiokpjjaa

/- What each call says of a plain heap. -/
namespace Go.Proofs.Ytjappkiiokpjjaa
open Go.RowKit

section
variable {own : Nat → Prop} {w : World} {i : HId} {cap slots : Nat} {Os : List Ob} {rt : List Nat} {wv : Value}
/-- The new object that is the k-th one. -/
def newOb (t r z k : Nat) : Ob := ⟨t, r, k, false, List.replicate z 0⟩
theorem tabs_new (h : PH own w i cap slots Os rt wv) (n : Nat) (hn : n < 9223372036854775808) (hl : Os.length < slots) : Calls Try.prog 53 #[.pointer (some ⟨i.T, 0, none⟩), .int .i64 n] w fun e w' => e = .returned (.tuple #[.int .u64 (hnd Os.length 1 : Nat), .int .i64 0]) ∧ ∃ own', Mv own own' w w' ∧ HP own' w' i ⟨cap, slots, Os, [], 0, false, plL 0 Os ++ [⟨1, n, true⟩], [], rt⟩ wv := by
  obtain ⟨ot, h0⟩ := id h
  have hl2 : (plL 0 Os).length < slots := by rw [plL_len]; exact hl
  have hT : AbO ot w i.T slots (plL 0 Os) [] := h0.tb
  have hm := ao_Make_new hT n hn hl2
  rw [plL_len] at hm
  refine hm.mono ?_
  rintro e w' ⟨rfl, ot', m, ha⟩
  refine ⟨rfl, ?_⟩
  have hH := (Array.getElem?_eq_some_iff.1 h0.head).1
  refine ⟨fun k => k = i.H ∨ mine i.A i.W i.B k ∨ ot' k, ⟨m.chg.mono fun k _ hk => (h0.owns k).2 (Or.inr (Or.inr hk)), fun k hk => ?_⟩, ot', ?_, h0.ar.same fun k hk => m.chg.block k (h0.ar.lt hk) (fun e => (h0.hT k e).2 hk), ha, fun k => Iff.rfl, h0.hA, fun k hk => ?_, h0.rlen, h0.rlt⟩
  · rcases hk with hk | hk | hk
    · exact Or.inl ((h0.owns k).2 (Or.inl hk))
    · exact Or.inl ((h0.owns k).2 (Or.inr (Or.inl hk)))
    · rcases m.sub k hk with hk | hk
      · exact Or.inl ((h0.owns k).2 (Or.inr (Or.inr hk)))
      · exact Or.inr hk
  · rw [m.chg.block _ hH (fun e => (h0.hT _ e).1 rfl)]; exact h0.head
  · rcases m.sub k hk with hk | hk
    · exact h0.hT k hk
    · exact ⟨fun e => by omega, fun e => by have := h0.ar.lt e; omega⟩
theorem ph_Make_core {Q : World → World → Prop} (h : PH own w i cap slots Os rt wv) (t r z : Nat) (hb : fitsH t r z = true) (hroom : tot Os + 1 + z ≤ cap) (hl : Os.length < slots)
    (hT : ∀ own' u, Mv own own' w u → PH own' u i cap slots (Os ++ [newOb t r z Os.length]) rt wv → Calls Try.prog 57 #[.pointer (some ⟨i.H, 0, none⟩), .int .u64 (hnd Os.length 1 : Nat)] u fun e w' => e = .returned (.tuple #[]) ∧ Q u w') :
    Calls Try.prog 21 #[.pointer (some ⟨i.H, 0, none⟩), .int .i64 t, .int .i64 r, .int .i64 z] w fun e w' => e = .returned (.tuple #[.int .u64 (hnd Os.length 1 : Nat), .int .i64 0]) ∧ ∃ own' u, Mv own own' w u ∧ PH own' u i cap slots (Os ++ [newOb t r z Os.length]) rt wv ∧ Q u w' := by
  obtain ⟨h1, h2, h3, h4, h5⟩ := h.few
  have hcn : cnt (plainS cap slots Os rt).L < slots := by
    show cnt (plL 0 Os) < slots
    rw [plL_cnt]; exact hl
  have hlk : look (plL 0 Os ++ [⟨1, tot Os, true⟩]) (hnd Os.length 1) = some Os.length := by
    have := look_pl (Os := Os ++ [newOb t r z Os.length]) (k := Os.length) (by simp) (by simp; omega)
    rw [plL_append, Nat.zero_add] at this
    exact this
  have hp2 : Os.length < 1048576 := by omega
  have ht2 : tot Os < 9223372036854775808 := by omega
  have hMM : ∀ u, HP own u i (plainS cap slots Os rt) wv → Calls Try.prog 53 #[.pointer (some ⟨i.T, 0, none⟩), .int .i64 (tot Os : Nat)] u fun e w' => e = .returned (.tuple #[.int .u64 (hnd Os.length 1 : Nat), .int .i64 0]) ∧ ∃ own', Mv own own' u w' ∧ HP own' w' i ⟨cap, slots, Os, [], 0, false, plL 0 Os ++ [⟨1, tot Os, true⟩], [], rt⟩ wv := fun u hu => tabs_new (h := hu) (tot Os) ht2 hl
  have hTT : ∀ own' u, Mv own own' w u → HP own' u i ((plainS cap slots Os rt).more (plL 0 Os ++ [⟨1, tot Os, true⟩]) [] (newOb t r z Os.length)) wv → Calls Try.prog 57 #[.pointer (some ⟨i.H, 0, none⟩), .int .u64 (hnd Os.length 1 : Nat)] u fun e w' => e = .returned (.tuple #[]) ∧ Q u w' := by rw [plain_more]; exact hT
  have hxl : hnd Os.length 1 < 18446744073709551616 := hnd_lt (by omega) (by decide)
  obtain ⟨L2, hL2⟩ : ∃ L2, L2 = plL 0 Os ++ [(⟨1, tot Os, true⟩ : RS)] := ⟨_, rfl⟩
  rw [← hL2] at hlk hMM hTT
  have hc := hMake_core (Q := Q) (s := plainS cap slots Os rt) h t r z hb hroom hcn (hnd Os.length 1) Os.length hxl L2 [] hlk hp2 hMM hTT
  rw [hL2] at hc
  erw [plain_more] at hc
  exact hc
theorem ph_Make (h : PH own w i cap slots Os rt .nilIface) (t r z : Nat) (hb : fitsH t r z = true) (hroom : tot Os + 1 + z ≤ cap) (hl : Os.length < slots) :
    Calls Try.prog 21 #[.pointer (some ⟨i.H, 0, none⟩), .int .i64 t, .int .i64 r, .int .i64 z] w fun e w' => e = .returned (.tuple #[.int .u64 (hnd Os.length 1 : Nat), .int .i64 0]) ∧ ∃ own', Mv own own' w w' ∧ PH own' w' i cap slots (Os ++ [newOb t r z Os.length]) rt .nilIface := by
  refine (ph_Make_core (Q := fun u w' => w' = u) h t r z hb hroom hl fun own' u _ hu => tellMade_nil hu _).mono ?_
  rintro e w' ⟨rfl, own', u, m, hu, rfl⟩
  exact ⟨rfl, own', m, hu⟩
theorem ph_full (h : PH own w i cap slots Os rt wv) (t r z : Nat) (hb : fitsH t r z = true) (hf : cap < tot Os + 1 + z ∨ Os.length = slots) : Calls Try.prog 21 #[.pointer (some ⟨i.H, 0, none⟩), .int .i64 t, .int .i64 r, .int .i64 z] w fun e w' => e = .returned (.tuple #[.int .u64 0, .int .i64 5]) ∧ w' = w := by
  refine hMake_full (s := plainS cap slots Os rt) h t r z hb ?_
  rcases hf with hf | hf
  · exact Or.inl hf
  · refine Or.inr ?_
    show cnt (plL 0 Os) = slots
    rw [plL_cnt]; exact hf
theorem ph_SetWord (h : PH own w i cap slots Os rt wv) {k j : Nat} (hk : k < Os.length) (hj : (oat Os k).refs + j < (oat Os k).ws.length) (y : Nat) (hy : y < 18446744073709551616) : Calls Try.prog 40 #[.pointer (some ⟨i.H, 0, none⟩), .int .u64 (hnd k 1 : Nat), .int .i64 j, .int .u64 y] w fun e w' => e = .returned (.int .i64 0) ∧ Mv own own w w' ∧ PH own w' i cap slots (Os.set k ((oat Os k).put ((oat Os k).refs + j) y)) rt wv := by
  have hc := SetWord_yes h (h.has hk) hj y hy
  rw [plain_put hk] at hc
  exact hc
theorem ph_SetRef (h : PH own w i cap slots Os rt .nilIface) {k j : Nat} (hk : k < Os.length) (hj : j < (oat Os k).refs) {y : Nat} (hy : y < Os.length) : Calls Try.prog 32 #[.pointer (some ⟨i.H, 0, none⟩), .int .u64 (hnd k 1 : Nat), .int .i64 j, .int .u64 (hnd y 1 : Nat)] w fun e w' => e = .returned (.int .i64 0) ∧ Mv own own w w' ∧ PH own w' i cap slots (Os.set k ((oat Os k).put j (hnd y 1))) rt .nilIface := by
  obtain ⟨h1, h2, h3, h4, h5⟩ := h.few
  have hc := SetRef_yes h (h.has hk) hj (hnd y 1) (hnd_lt (by omega) (by decide)) (may_pl hy (by omega))
  rw [plain_put hk] at hc
  exact hc
theorem ph_SetRoot (h : PH own w i cap slots Os rt .nilIface) {k y : Nat} (hk : k < 16) (hy : y < Os.length) : Calls Try.prog 23 #[.pointer (some ⟨i.H, 0, none⟩), .int .i64 k, .int .u64 (hnd y 1 : Nat)] w fun e w' => e = .returned (.int .i64 0) ∧ Mv own own w w' ∧ PH own w' i cap slots Os (rt.set k (hnd y 1)) .nilIface := by
  obtain ⟨h1, h2, h3, h4, h5⟩ := h.few
  exact SetRoot_yes h k (hnd y 1) hk (hnd_lt (by omega) (by decide)) (may_pl hy (by omega))
theorem ph_Word (h : PH own w i cap slots Os rt wv) {k j : Nat} (hk : k < Os.length) (hj : (oat Os k).refs + j < (oat Os k).ws.length) : Calls Try.prog 78 #[.pointer (some ⟨i.H, 0, none⟩), .int .u64 (hnd k 1 : Nat), .int .i64 j] w fun e w' => e = .returned (.tuple #[.int .u64 ((oat Os k).ws.getD ((oat Os k).refs + j) 0 : Nat), .int .i64 0]) ∧ Below w.heap.size w w' := Word_yes h (h.has hk) hj
theorem ph_Ref (h : PH own w i cap slots Os rt wv) {k j : Nat} (hk : k < Os.length) (hj : j < (oat Os k).refs) : Calls Try.prog 33 #[.pointer (some ⟨i.H, 0, none⟩), .int .u64 (hnd k 1 : Nat), .int .i64 j] w fun e w' => e = .returned (.tuple #[.int .u64 ((oat Os k).ws.getD j 0 : Nat), .int .i64 0]) ∧ Below w.heap.size w w' := Ref_yes h (h.has hk) hj
theorem ph_Root (h : PH own w i cap slots Os rt wv) {k : Nat} (hk : k < 16) : Calls Try.prog 64 #[.pointer (some ⟨i.H, 0, none⟩), .int .i64 k] w fun e w' => e = .returned (.tuple #[.int .u64 (rt.getD k 0 : Nat), .int .i64 0]) ∧ Below w.heap.size w w' := Root_yes h k hk
theorem PH.below (h : PH own w i cap slots Os rt wv) {w' : World} (hb : Below w.heap.size w w') : PH own w' i cap slots Os rt wv := HP.below h hb
theorem PH.drew (h : PH own w i cap slots Os rt wv) : PH own w.drew i cap slots Os rt wv := HP.drew h
end
/-- No roots. -/
def rt0 : List Nat := [0, 0, 0, 0, 0, 0, 0, 0, 0, 0, 0, 0, 0, 0, 0, 0]
set_option maxHeartbeats 1000000 in
theorem hNew_heap (n m : Nat) (w : World) (h1 : 1 ≤ n) (h2 : n ≤ 1048576) (g1 : 1 ≤ m) (g2 : m ≤ 1048576) : Calls Try.prog 34 #[.int .i64 n, .int .i64 m] w fun e w' => ∃ i own, e = .returned (.tuple #[.pointer (some ⟨i.H, 0, none⟩), .int .i64 0]) ∧ Below w.heap.size w w' ∧ (∀ k, own k → w.heap.size ≤ k) ∧ PH own w' i n m [] rt0 .nilIface := by
  have HA := mkHid (fun u : World => at_New n u h1 h2)
  have HT := mkHid (fun u : World => ao_New m u g1 g2)
  clear h1 h2 g1 g2
  go_enter Try.func34, Try.ntmps34
  go_wp2_with fail
  refine (HA.out _).mono ?_
  rintro e w1 ⟨A, W, B, rfl, b1, hA, hW, hB, a1⟩
  have HA1 := mkHid a1
  have B1 := mkHid b1
  have HW1 : Hid (∀ k, mine A W B k → w.heap.size ≤ k) := by
    rintro k (rfl | rfl | rfl)
    · exact hA
    · exact hW
    · exact hB
  clear a1 b1 hA hW hB
  go_wp2_with fail
  refine (HT.out _).mono ?_
  rintro e w2 ⟨rfl, b2, a2⟩
  have HB2 := mkHid b2
  have HT2 := mkHid a2
  clear a2 b2
  go_wp2_with fail
  go_returns
  have ha := HA1.out
  have b1 := B1.out
  have b2 := HB2.out
  have s1 := b1.size
  have s2 := b2.size
  have ht := HT2.out
  have htlt : w1.heap.size < w2.heap.size := ht.lt rfl
  have bb : Below w.heap.size w w2 := b1.trans (b2.mono s1)
  have b3 : Below w2.heap.size w2 (w2.alloc (.cells (hcells ⟨w2.heap.size, A, W, B, w1.heap.size⟩ rt0 .nilIface) 97)) := (Below.refl _ w2).alloc (Nat.le_refl _) _
  refine ⟨⟨w2.heap.size, A, W, B, w1.heap.size⟩, fun k => k = w2.heap.size ∨ mine A W B k ∨ k = w1.heap.size, rfl, bb.trans (b3.mono bb.size), ?_, fun k => k = w1.heap.size, ?_, ?_, ?_, fun k => Iff.rfl, ?_, ?_, rfl, ?_⟩
  · rintro k (rfl | hk | rfl)
    · omega
    · exact HW1.out k hk
    · omega
  · exact heap_alloc_new w2 _
  · exact (ha.below b2).below b3
  · exact ht.same fun k hk => by rw [hk]; exact b3.block _ htlt
  · intro e
    have e2 : mine A W B w2.heap.size := e
    have := ha.lt e2
    omega
  · rintro k rfl
    exact ⟨by show w1.heap.size ≠ w2.heap.size; omega, fun e => by have := ha.lt e; omega⟩
  · intro k
    unfold plainS rt0
    dsimp only
    match k with
    | 0 | 1 | 2 | 3 | 4 | 5 | 6 | 7 | 8 | 9 | 10 | 11 | 12 | 13 | 14 | 15 => decide
    | k + 16 => simp
end Go.Proofs.Ytjappkiiokpjjaa

/- The statements' own helpers. -/
namespace Go.Proofs.Ytjappkiiokpjjaa
open Go.RowKit

theorem hFresh_any (n m : Nat) (w : World) (h1 : 1 ≤ n) (h2 : n ≤ 1048576) (g1 : 1 ≤ m) (g2 : m ≤ 1048576) : Calls Try.prog 8 #[.int .i64 n, .int .i64 m] w fun e w' => ∃ i own, e = .returned (.pointer (some ⟨i.H, 0, none⟩)) ∧ Below w.heap.size w w' ∧ (∀ k, own k → w.heap.size ≤ k) ∧ PH own w' i n m [] rt0 .nilIface := by
  have HN := mkHid (hNew_heap n m w h1 h2 g1 g2)
  clear h1 h2 g1 g2
  go_enter Try.func8, Try.ntmps8
  go_wp2_with fail
  refine HN.out.mono ?_
  rintro e w1 ⟨i, own, rfl, hb, ho, hp⟩
  have HB := mkHid hb
  have HO := mkHid ho
  have HH := mkHid hp
  clear hb ho hp
  go_wp2_with fail
  go_ret
  exact ⟨i, own, rfl, HB.out, HO.out, HH.out⟩
section
variable {own : Nat → Prop} {w : World} {i : HId}
def aw1 : List Ob := [⟨1, 1, 0, false, [0, 0]⟩]
def aw2 : List Ob := [⟨1, 1, 0, false, [0, 0]⟩, ⟨2, 0, 1, false, [0]⟩]
def aw3 : List Ob := [⟨1, 1, 0, false, [4294967298, 0]⟩, ⟨2, 0, 1, false, [0]⟩]
theorem aw_make1 (h : PH own w i 100 10 [] rt0 .nilIface) : Calls Try.prog 21 #[.pointer (some ⟨i.H, 0, none⟩), .int .i64 1, .int .i64 1, .int .i64 2] w fun e w' => e = .returned (.tuple #[.int .u64 4294967297, .int .i64 0]) ∧ ∃ own', Mv own own' w w' ∧ PH own' w' i 100 10 aw1 rt0 .nilIface := ph_Make h 1 1 2 (by decide) (by decide) (by decide)
theorem aw_make2 (h : PH own w i 100 10 aw1 rt0 .nilIface) : Calls Try.prog 21 #[.pointer (some ⟨i.H, 0, none⟩), .int .i64 2, .int .i64 0, .int .i64 1] w fun e w' => e = .returned (.tuple #[.int .u64 4294967298, .int .i64 0]) ∧ ∃ own', Mv own own' w w' ∧ PH own' w' i 100 10 aw2 rt0 .nilIface := ph_Make h 2 0 1 (by decide) (by decide) (by decide)
theorem aw_ref (h : PH own w i 100 10 aw2 rt0 .nilIface) : Calls Try.prog 32 #[.pointer (some ⟨i.H, 0, none⟩), .int .u64 4294967297, .int .i64 0, .int .u64 4294967298] w fun e w' => e = .returned (.int .i64 0) ∧ Mv own own w w' ∧ PH own w' i 100 10 aw3 rt0 .nilIface := ph_SetRef h (k := 0) (j := 0) (y := 1) (by decide) (by decide) (by decide)
theorem aw_get (h : PH own w i 100 10 aw3 rt0 .nilIface) : Calls Try.prog 33 #[.pointer (some ⟨i.H, 0, none⟩), .int .u64 4294967297, .int .i64 0] w fun e w' => e = .returned (.tuple #[.int .u64 4294967298, .int .i64 0]) ∧ Below w.heap.size w w' := ph_Ref h (k := 0) (j := 0) (by decide) (by decide)
end
theorem fresh_100 (w : World) : Calls Try.prog 8 #[.int .i64 100, .int .i64 10] w fun e w' => ∃ i own, e = .returned (.pointer (some ⟨i.H, 0, none⟩)) ∧ Below w.heap.size w w' ∧ (∀ k, own k → w.heap.size ≤ k) ∧ PH own w' i 100 10 [] rt0 .nilIface := hFresh_any 100 10 w (by decide) (by decide) (by decide) (by decide)
theorem fresh_4096 (w : World) : Calls Try.prog 8 #[.int .i64 4096, .int .i64 256] w fun e w' => ∃ i own, e = .returned (.pointer (some ⟨i.H, 0, none⟩)) ∧ Below w.heap.size w w' ∧ (∀ k, own k → w.heap.size ≤ k) ∧ PH own w' i 4096 256 [] rt0 .nilIface := hFresh_any 4096 256 w (by decide) (by decide) (by decide) (by decide)
set_option maxHeartbeats 1000000 in
theorem awake9 (w : World) : Calls Try.prog 7 #[] w fun e w' => e = .returned (.bool true) ∧ Below w.heap.size w w' := by
  go_enter Try.func7, Try.ntmps7
  go_wp2_with fail
  refine (fresh_100 _).mono ?_
  rintro e w1 ⟨i, own, rfl, b1, ho, h1⟩
  have B1 := mkHid b1
  have HO := mkHid ho
  have H1 := mkHid h1
  clear b1 ho h1
  go_wp2_with fail
  refine (aw_make1 H1.out).mono ?_
  rintro e w2 ⟨rfl, own2, m2, h2⟩
  have M2 := mkHid m2
  have H2 := mkHid h2
  clear m2 h2
  go_wp2_with fail
  refine (aw_make2 H2.out).mono ?_
  rintro e w3 ⟨rfl, own3, m3, h3⟩
  have M3 := mkHid m3
  have H3 := mkHid h3
  clear m3 h3
  go_wp2_with fail
  refine (aw_ref H3.out).mono ?_
  rintro e w4 ⟨rfl, m4, h4⟩
  have M4 := mkHid m4
  have H4 := mkHid h4
  clear m4 h4
  go_wp2_with fail
  refine (aw_get H4.out).mono ?_
  rintro e w5 ⟨rfl, b5⟩
  have B5 := mkHid b5
  clear b5
  go_wp2_with fail
  go_ret
  have m := (M2.out.trans M3.out).trans M4.out
  have b1 := B1.out
  have hb := (m.below HO.out b1.size).1
  have hs := hb.size
  exact ⟨rfl, b1.trans (hb.trans (B5.out.mono (by have := b1.size; omega)))⟩
end Go.Proofs.Ytjappkiiokpjjaa
