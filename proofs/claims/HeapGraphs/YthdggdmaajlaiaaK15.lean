/- Some texts in one: each opens with its own remark. -/
import Derived.Test.YthdggdmaajlaiaaK11
import Derived.Test.YthdggdmaajlaiaaK14
import Derived.Test.YthdggdmaajlaiaaK13
/- A heap where nothing was ever freed or moved: its objects in a row, the k-th one's handle is of slot k. -/
namespace Go.Proofs.Ythdggdmaajlaiaa
open Go.RowKit

def Ob0 : Ob := ⟨0, 0, 0, false, []⟩
def oat (Os : List Ob) (k : Nat) : Ob := Os.getD k Ob0
theorem oat_get {Os : List Ob} {k : Nat} (h : k < Os.length) : Os[k]? = some (oat Os k) := by unfold oat; simp [h]
theorem oat_set {Os : List Ob} {k : Nat} (o : Ob) (j : Nat) (h : k < Os.length) : oat (Os.set k o) j = if j = k then o else oat Os j := by
  unfold oat
  rw [List.getD_eq_getElem?_getD, List.getElem?_set, List.getD_eq_getElem?_getD]
  by_cases e : k = j
  · subst e; rw [if_pos rfl, if_pos rfl, if_pos h]; rfl
  · rw [if_neg e, if_neg (fun h => e h.symm)]
theorem oat_snoc (Os : List Ob) (o : Ob) (j : Nat) : oat (Os ++ [o]) j = if j = Os.length then o else oat Os j := by
  unfold oat
  rw [List.getD_eq_getElem?_getD, List.getD_eq_getElem?_getD]
  by_cases e : j = Os.length
  · subst e; simp
  · rw [if_neg e]
    rcases Nat.lt_or_ge j Os.length with h | h
    · rw [List.getElem?_append_left h]
    · rw [List.getElem?_eq_none (by simp; omega), List.getElem?_eq_none h]
/-- Their slots. -/
def plL : Nat → List Ob → List RS
  | _, [] => []
  | p, o :: r => ⟨1, p, true⟩ :: plL (p + osz o) r
def place (Os : List Ob) (k : Nat) : Nat := tot (Os.take k)
theorem plL_len : ∀ (Os : List Ob) (p : Nat), (plL p Os).length = Os.length
  | [], _ => rfl
  | o :: r, p => by simp [plL, plL_len r]
theorem plL_rs : ∀ (Os : List Ob) (p k : Nat), k < Os.length → rs (plL p Os) k = ⟨1, p + place Os k, true⟩
  | [], _, _, h => by simp at h
  | o :: r, p, 0, _ => by simp [plL, rs, place, tot]
  | o :: r, p, k + 1, h => by
    have := plL_rs r (p + osz o) k (by simpa using h)
    unfold place at this ⊢
    simp only [List.take_succ_cons, tot]
    rw [show p + (osz o + tot (List.take k r)) = p + osz o + tot (List.take k r) by omega, ← this]
    rfl
theorem plL_append : ∀ (Os : List Ob) (p : Nat) (o : Ob), plL p (Os ++ [o]) = plL p Os ++ [⟨1, p + tot Os, true⟩]
  | [], p, o => by simp [plL, tot]
  | x :: r, p, o => by
    simp only [List.cons_append, plL, plL_append r, tot]
    rw [show p + osz x + tot r = p + (osz x + tot r) by omega]
theorem plL_set : ∀ (Os : List Ob) (p k : Nat) (o : Ob), osz o = osz (oat Os k) → plL p (Os.set k o) = plL p Os
  | [], _, _, _, _ => rfl
  | x :: r, p, 0, o, h => by
    have h' : osz o = osz x := h
    simp only [Sx1, plL, h']
  | x :: r, p, k + 1, o, h => by
    simp only [Sx2, plL]
    rw [plL_set r (p + osz x) k o (by unfold oat at h ⊢; simpa using h)]
theorem plL_cnt : ∀ (Os : List Ob) (p : Nat), cnt (plL p Os) = Os.length
  | [], _ => rfl
  | o :: r, p => by
    have := plL_cnt r (p + osz o)
    unfold cnt at this ⊢
    simp [plL, this]
theorem objAt_place : ∀ (Os : List Ob) (p k : Nat), k < Os.length → objAt p Os (p + place Os k) = some (oat Os k)
  | [], _, _, h => by simp at h
  | o :: r, p, 0, _ => by simp [objAt, place, tot, oat]
  | o :: r, p, k + 1, h => by
    have := objAt_place r (p + osz o) k (by simpa using h)
    unfold place at this ⊢
    simp only [List.take_succ_cons, tot, objAt]
    have hz : osz o = 1 + o.ws.length := rfl
    rw [if_neg (by omega), show p + (osz o + tot (List.take k r)) = p + osz o + tot (List.take k r) by omega, this]
    rfl
theorem setObj_place : ∀ (Os : List Ob) (p k : Nat) (x : Ob), k < Os.length → setObj p Os (p + place Os k) x = Os.set k x
  | [], _, _, _, h => by simp at h
  | o :: r, p, 0, x, _ => by simp [setObj, place, tot]
  | o :: r, p, k + 1, x, h => by
    have := setObj_place r (p + osz o) k x (by simpa using h)
    unfold place at this ⊢
    simp only [List.take_succ_cons, tot, setObj]
    have hz : osz o = 1 + o.ws.length := rfl
    rw [if_neg (by omega), show p + (osz o + tot (List.take k r)) = p + osz o + tot (List.take k r) by omega, this]
    rfl
def plainS (cap slots : Nat) (Os : List Ob) (rt : List Nat) : HS := ⟨cap, slots, Os, [], 0, false, plL 0 Os, [], rt⟩
/-- A plain heap: its blocks, where it lies, its room, objects, roots, watcher. -/
def PH (own : Nat → Prop) (w : World) (i : HId) (cap slots : Nat) (Os : List Ob) (rt : List Nat) (wv : Value) : Prop := HP own w i (plainS cap slots Os rt) wv
theorem look_pl {Os : List Ob} {k : Nat} (hk : k < Os.length) (hb : Os.length ≤ 1048576) : look (plL 0 Os) (hnd k 1) = some k := by
  have h := look_of (L := plL 0 Os) (p := k) (by rw [plL_len]; exact hk) (by rw [plL_len]; exact hb) (by rw [plL_rs Os 0 k hk])
  rw [plL_rs Os 0 k hk] at h
  exact h
theorem look_pl_some {Os : List Ob} {x p : Nat} (h : look (plL 0 Os) x = some p) : p < Os.length ∧ x = hnd p 1 := by
  obtain ⟨h1, h2, h3, h4⟩ := look_some h
  rw [plL_len] at h2
  rw [plL_rs Os 0 p h2] at h4
  refine ⟨h2, ?_⟩
  have h5 : (1 : Nat) = x / 4294967296 := h4
  unfold hnd
  omega
section
variable {own : Nat → Prop} {w : World} {i : HId} {cap slots : Nat} {Os : List Ob} {rt : List Nat} {wv : Value}
theorem PH.few (h : PH own w i cap slots Os rt wv) : tot Os ≤ cap ∧ cap ≤ 1048576 ∧ Os.length ≤ slots ∧ slots ≤ 1048576 ∧ rt.length = 16 := by
  have h1 := HP.at_ h
  have h2 := h1.le
  have h3 := (HP.ab h).few
  rw [show (plainS cap slots Os rt).L = plL 0 Os from rfl, plL_len] at h3
  have h4 : tot Os ≤ cap ∧ cap ≤ 1048576 := h2
  obtain ⟨ot, h⟩ := h
  exact ⟨h4.1, h4.2, h3.2.1, h3.1, h.rlen⟩
theorem PH.has (h : PH own w i cap slots Os rt wv) {k : Nat} (hk : k < Os.length) : Has (plainS cap slots Os rt) (hnd k 1) (place Os k) (oat Os k) := by
  obtain ⟨h1, h2, h3, h4, h5⟩ := h.few
  refine ⟨hnd_lt (by omega) (by decide), k, look_pl hk (by omega), ?_, ?_⟩
  · show (rs (plL 0 Os) k).at_ = _
    rw [plL_rs Os 0 k hk]; exact Nat.zero_add _
  · show obAt Os [] 0 (place Os k) = _
    unfold obAt
    have := objAt_place Os 0 k hk
    rw [Nat.zero_add] at this
    rw [this]
theorem PH.ok (h : PH own w i cap slots Os rt wv) {k : Nat} (hk : k < Os.length) : (oat Os k).ok := (Has.ok h (h.has hk)).1
theorem plain_put {k : Nat} (hk : k < Os.length) (j y : Nat) : (plainS cap slots Os rt).put (place Os k) ((oat Os k).put j y) = plainS cap slots (Os.set k ((oat Os k).put j y)) rt := by
  unfold HS.put plainS setLo setHi
  have h1 := setObj_place Os 0 k ((oat Os k).put j y) hk
  have h2 := objAt_place Os 0 k hk
  rw [Nat.zero_add] at h1 h2
  dsimp only
  rw [h1, h2, plL_set Os 0 k _ (by simp [Ob.put, osz])]
theorem plain_more (o : Ob) : (plainS cap slots Os rt).more (plL 0 Os ++ [⟨1, tot Os, true⟩]) [] o = plainS cap slots (Os ++ [o]) rt := by
  unfold HS.more plainS
  dsimp only
  rw [plL_append, Nat.zero_add]
  rfl
theorem may_pl {Os : List Ob} {k : Nat} (hk : k < Os.length) (hb : Os.length ≤ 1048576) : mayH (plL 0 Os) (hnd k 1) = true := by
  unfold mayH; rw [look_pl hk hb]; simp
end
end Go.Proofs.Ythdggdmaajlaiaa

/- Places of objects one behind the other; First. -/
namespace Go.Proofs.Ythdggdmaajlaiaa
open Go.RowKit

theorem place_succ : ∀ {Lo : List Ob} {k : Nat}, k < Lo.length → place Lo (k + 1) = place Lo k + osz (oat Lo k)
  | [], _, h => by simp at h
  | o :: r, 0, _ => by simp [place, tot, oat]
  | o :: r, k + 1, h => by
    have := place_succ (Lo := r) (k := k) (by simpa using h)
    unfold place at this ⊢
    simp only [List.take_succ_cons, tot]
    rw [show oat (o :: r) (k + 1) = oat r k by simp [oat]]
    omega
theorem place_all (Lo : List Ob) : place Lo Lo.length = tot Lo := by unfold place; rw [List.take_length]
theorem place_lt {Lo : List Ob} : ∀ {k : Nat}, k < Lo.length → place Lo k < tot Lo := by
  have key : ∀ n k, k + n = Lo.length → 0 < n → place Lo k < tot Lo := by
    intro n
    induction n with
    | zero => intro k _ h; omega
    | succ n ih =>
      intro k hk _
      have h1 := place_succ (Lo := Lo) (k := k) (by omega)
      have hz : osz (oat Lo k) = 1 + (oat Lo k).ws.length := rfl
      rcases Nat.eq_zero_or_pos n with h0 | h0
      · have : k + 1 = Lo.length := by omega
        have h2 := place_all Lo
        rw [← this] at h2
        omega
      · have := ih (k + 1) (by omega) h0
        omega
  intro k hk
  exact key (Lo.length - k) k (by omega) (by omega)
section
variable {w : World} {cap : Nat} {Lo : List Ob}
theorem obAt_place {k : Nat} (hk : k < Lo.length) : obAt Lo [] 0 (place Lo k) = some (oat Lo k) := by
  unfold obAt
  have := objAt_place Lo 0 k hk
  rw [Nat.zero_add] at this
  rw [this]
theorem at_First {A W B : Nat} (h : AT w A W B cap Lo [] 0 false) : Calls Try.prog 60 #[.pointer (some ⟨A, 0, none⟩)] w fun r w' => r = .returned (.int .i64 0) ∧ w' = w := by
  obtain ⟨ws, bs, top, low, high, h1, h2, h3⟩ := h
  obtain ⟨_, _, q1, q2, _⟩ := h3.cls rfl
  have := First_any h1
  rw [q1, q2] at this
  exact this
end
end Go.Proofs.Ythdggdmaajlaiaa

/- objectsHeld, Check. -/
namespace Go.Proofs.Ythdggdmaajlaiaa
open Go.RowKit

section
variable {own : Nat → Prop} {w : World} {i : HId} {cap slots : Nat} {Lo : List Ob} {L : List RS} {F : List Nat} {rt : List Nat} {wv : Value}
/-- Each object's owner is a slot with its place. -/
def ObjsOk (Lo : List Ob) (L : List RS) : Prop := ∀ k, k < Lo.length → (oat Lo k).own < L.length ∧ (rs L (oat Lo k).own).taken = true ∧ (rs L (oat Lo k).own).at_ = place Lo k
set_option maxHeartbeats 2000000 in
theorem objectsHeld_yes (h : HP own w i ⟨cap, slots, Lo, [], 0, false, L, F, rt⟩ wv) (hA : ObjsOk Lo L) : Calls Try.prog 36 #[.pointer (some ⟨i.H, 0, none⟩)] w fun e w' => e = .returned (.bool true) ∧ Below w.heap.size w w' := by
  have HAR := mkHid (hArena_any h)
  have HFI := mkHid (at_First h.at_)
  have HTO := mkHid (fun (v : World) (hv : Below w.heap.size w v) => at_Top (h.below hv).at_)
  have HHE := mkHid (fun (v : World) (k : Nat) (hv : Below w.heap.size w v) (hk : k < Lo.length) => at_Head (h.below hv).at_ (obAt_place hk))
  have HNE := mkHid (fun (v : World) (k : Nat) (hv : Below w.heap.size w v) (hk : k < Lo.length) => at_Next (h.below hv).at_ (obAt_place hk))
  have HHO := mkHid (fun (v : World) (k : Nat) (hv : Below w.heap.size w v) (hk : k < Lo.length) => holdsAt_yes (h.below hv) (hA k hk).1 (hA k hk).2.1 (hA k hk).2.2)
  have hle : tot Lo ≤ cap ∧ cap ≤ 1048576 := h.at_.le
  obtain ⟨T, hT⟩ : ∃ T, T = tot Lo := ⟨_, rfl⟩
  have HTT : Hid (∀ (v : World) (_ : Below w.heap.size w v), Calls Try.prog 22 #[.pointer (some ⟨i.A, 0, none⟩)] v fun r w' => r = .returned (.int .i64 (T : Int)) ∧ w' = v) := by
    intro v hv
    rw [hT]
    exact HTO.out v hv
  have HT2 := mkHid hT
  have hT20 : T ≤ 1048576 := by omega
  clear h hA hle hT HTO
  go_enter Try.func36, Try.ntmps36
  go_wp2_with fail
  refine HAR.out.mono ?_
  rintro e w1 ⟨rfl, rfl⟩
  go_wp2_with fail
  refine HFI.out.mono ?_
  rintro e w1 ⟨rfl, rfl⟩
  go_wp2_with fail
  go_loopw [4] (fun x wr => ∃ k : Nat, x = .int .i64 (place Lo k : Nat) ∧ k ≤ Lo.length ∧ Below w1.heap.size w1 wr) (fun x _ => T - (intOf x).toNat)
  case atStart => exact ⟨0, rfl, Nat.zero_le _, Below.refl _ _⟩
  case round =>
    obtain ⟨k, rfl, hk, hbw⟩ := hrel
    obtain ⟨q, hq⟩ : ∃ q, q = place Lo k := ⟨_, rfl⟩
    rw [← hq]
    by_cases hlt : k < Lo.length
    · have hqT : q < T := by rw [hq, HT2.out]; exact place_lt hlt
      have HH := mkHid (HHE.out wr k hbw hlt)
      obtain ⟨t, ht⟩ : ∃ t, t = (oat Lo k).tag := ⟨_, rfl⟩
      obtain ⟨r, hr⟩ : ∃ r, r = (oat Lo k).refs := ⟨_, rfl⟩
      obtain ⟨z, hz⟩ : ∃ z, z = (oat Lo k).ws.length := ⟨_, rfl⟩
      obtain ⟨mk, hmk⟩ : ∃ mk, mk = (oat Lo k).mark := ⟨_, rfl⟩
      obtain ⟨ow, how⟩ : ∃ ow, ow = (oat Lo k).own := ⟨_, rfl⟩
      have hO : headO (oat Lo k) = .agg #[.int .i64 (t : Int), .int .i64 (r : Int), .int .i64 (z : Int), .bool mk, .int .i64 (ow : Int)] := by unfold headO; rw [ht, hr, hz, hmk, how]
      rw [hO, ← hq] at HH
      have HT1 := mkHid (HTT.out wr hbw)
      have HHO1 := mkHid (fun (v : World) (hv : Below w1.heap.size w1 v) => HHO.out v k hv hlt)
      rw [← how, ← hq] at HHO1
      obtain ⟨q2, hq2⟩ : ∃ q2, q2 = place Lo (k + 1) := ⟨_, rfl⟩
      have HNX : Hid (∀ (v : World) (_ : Below w1.heap.size w1 v), Calls Try.prog 61 #[.pointer (some ⟨i.A, 0, none⟩), .int .i64 (q : Int)] v fun x w' => x = .returned (.tuple #[.int .i64 (q2 : Int), .int .i64 0]) ∧ w' = v) := by
        intro v hv
        have h1 := HNE.out v k hv hlt
        rw [← hq, show nextT Lo 0 false (q + osz (oat Lo k)) = q2 by unfold nextT; rw [if_neg (by simp), hq2, place_succ hlt, hq]] at h1
        exact h1
      have HQ2 := mkHid hq2
      have hq12 : q < q2 := by
        rw [hq2, place_succ hlt, ← hq]
        have hz : osz (oat Lo k) = 1 + (oat Lo k).ws.length := rfl
        omega
      have hc : (q : Int) < (T : Int) := by omega
      have HBW := mkHid hbw
      clear hbw hq hq2 ht hr hz hmk how hO
      go_wp2_with fail
      refine HT1.out.mono ?_
      rintro e w2 ⟨rfl, rfl⟩
      go_wp2_with fail
      refine HH.out.mono ?_
      rintro e w3 ⟨rfl, b3⟩
      have B3 := mkHid (HBW.out.trans ((b3.alloc b3.size (.cells #[.int .i64 (t : Int), .int .i64 (r : Int), .int .i64 (z : Int), .bool mk, .int .i64 (ow : Int)] 103)).mono HBW.out.size))
      clear b3
      go_wp2_with fail
      refine (HHO1.out _ B3.out).mono ?_
      rintro e w4 ⟨rfl, rfl⟩
      go_wp2_with fail
      refine (HNX.out _ B3.out).mono ?_
      rintro e w5 ⟨rfl, rfl⟩
      go_wp2_with fail
      go_roundw
      case rel => exact ⟨k + 1, by rw [HQ2.out], by omega, B3.out⟩
      case measure => simp [intOf]; omega
    · have hqT : q = T := by rw [hq, HT2.out, show k = Lo.length by omega, place_all]
      have HT1 := mkHid (HTT.out wr hbw)
      have hc : ¬ (q : Int) < (T : Int) := by omega
      have HBW := mkHid hbw
      clear hbw hq hqT
      go_wp2_with fail
      refine HT1.out.mono ?_
      rintro e w2 ⟨rfl, rfl⟩
      go_wp2_with fail
      go_ret
      exact ⟨rfl, HBW.out⟩
set_option maxHeartbeats 1000000 in
theorem Check_yes (h : HP own w i ⟨cap, slots, Lo, [], 0, false, L, F, rt⟩ wv) (hS : Snd ⟨cap, slots, Lo, [], 0, false, L, F, rt⟩) (hA : SlotsOk ⟨cap, slots, Lo, [], 0, false, L, F, rt⟩) (hB : ObjsOk Lo L) (hl : ∀ k, (bfsK ⟨cap, slots, Lo, [], 0, false, L, F, rt⟩ (mRoots ⟨cap, slots, Lo, [], 0, false, L, F, rt⟩) k).lost = false) : Calls Try.prog 11 #[.pointer (some ⟨i.H, 0, none⟩)] w fun e w' => e = .returned (.int .i64 0) ∧ Below w.heap.size w w' := by
  have H1 := mkHid (slotsHold_yes h hA)
  have H2 := mkHid (fun (v : World) (hv : Below w.heap.size w v) => objectsHeld_yes (h.below hv) hB)
  have H3 := mkHid (fun (v : World) (hv : Below w.heap.size w v) => reached_any (h.below hv) hS)
  have HL := mkHid hl
  clear h hS hA hB hl
  go_enter Try.func11, Try.ntmps11
  go_wp2_with fail
  refine H1.out.mono ?_
  rintro e w1 ⟨rfl, b1⟩
  have B1 := mkHid b1
  clear b1
  go_wp2_with fail
  refine (H2.out _ B1.out).mono ?_
  rintro e w2 ⟨rfl, b2⟩
  have B2 := mkHid (B1.out.trans (b2.mono B1.out.size))
  clear b2
  go_wp2_with fail
  refine (H3.out _ B2.out).mono ?_
  rintro e w3 ⟨Mb, rfl, b3, mp, u, K, m3, _⟩
  have B3 := mkHid (B2.out.trans (b3.mono B2.out.size))
  have c3 := m3.cells.2.2.2
  rw [HL.out] at c3
  clear b3 m3
  go_wp2_with fail
  go_ret
  exact ⟨rfl, B3.out⟩
end
end Go.Proofs.Ythdggdmaajlaiaa

/- What each call says of a plain heap. -/
namespace Go.Proofs.Ythdggdmaajlaiaa
open Go.RowKit

section
variable {own : Nat → Prop} {w : World} {i : HId} {cap slots : Nat} {Os : List Ob} {rt : List Nat} {wv : Value}
/-- The new object that is the k-th one. -/
def newOb (t r z k : Nat) : Ob := ⟨t, r, k, false, List.replicate z 0⟩
theorem tabs_new (h : PH own w i cap slots Os rt wv) (n : Nat) (hn : n < 9223372036854775808) (hl : Os.length < slots) : Calls Try.prog 21 #[.pointer (some ⟨i.T, 0, none⟩), .int .i64 n] w fun e w' => e = .returned (.tuple #[.int .u64 (hnd Os.length 1 : Nat), .int .i64 0]) ∧ ∃ own', Mv own own' w w' ∧ HP own' w' i ⟨cap, slots, Os, [], 0, false, plL 0 Os ++ [⟨1, n, true⟩], [], rt⟩ wv := by
  obtain ⟨ot, h0⟩ := id h
  have hl2 : (plL 0 Os).length < slots := by rw [plL_len]; exact hl
  have hT : AbO ot w i.T slots (plL 0 Os) [] := h0.tb
  have hm := ao_Make_new hT n hn hl2
  rw [plL_len] at hm
  refine hm.mono ?_
  rintro e w' ⟨rfl, ot', m, ha⟩
  refine ⟨rfl, ?_⟩
  have hH := (Array.getElem?_eq_some_iff.1 h0.head).1
  refine ⟨fun k => k = i.H ∨ mine i.A i.W i.B k ∨ ot' k, ⟨m.chg.mono fun k _ hk => (h0.owns k).2 (Or.inr (Or.inr hk)), fun k hk => ?_⟩, ot', ?_, h0.ar.same fun k hk => m.chg.block k (h0.ar.lt hk) (fun e => (h0.hT k e).2 hk), ha, fun k => Iff.rfl, h0.hA, fun k hk => ?_, h0.rlen, h0.rlt⟩
  · rcases hk with hk | hk | hk
    · exact Or.inl ((h0.owns k).2 (Or.inl hk))
    · exact Or.inl ((h0.owns k).2 (Or.inr (Or.inl hk)))
    · rcases m.sub k hk with hk | hk
      · exact Or.inl ((h0.owns k).2 (Or.inr (Or.inr hk)))
      · exact Or.inr hk
  · rw [m.chg.block _ hH (fun e => (h0.hT _ e).1 rfl)]; exact h0.head
  · rcases m.sub k hk with hk | hk
    · exact h0.hT k hk
    · exact ⟨fun e => by omega, fun e => by have := h0.ar.lt e; omega⟩
theorem ph_Make_core {Q : World → World → Prop} (h : PH own w i cap slots Os rt wv) (t r z : Nat) (hb : fitsH t r z = true) (hroom : tot Os + 1 + z ≤ cap) (hl : Os.length < slots)
    (hT : ∀ own' u, Mv own own' w u → PH own' u i cap slots (Os ++ [newOb t r z Os.length]) rt wv → Calls Try.prog 25 #[.pointer (some ⟨i.H, 0, none⟩), .int .u64 (hnd Os.length 1 : Nat)] u fun e w' => e = .returned (.tuple #[]) ∧ Q u w') :
    Calls Try.prog 6 #[.pointer (some ⟨i.H, 0, none⟩), .int .i64 t, .int .i64 r, .int .i64 z] w fun e w' => e = .returned (.tuple #[.int .u64 (hnd Os.length 1 : Nat), .int .i64 0]) ∧ ∃ own' u, Mv own own' w u ∧ PH own' u i cap slots (Os ++ [newOb t r z Os.length]) rt wv ∧ Q u w' := by
  obtain ⟨h1, h2, h3, h4, h5⟩ := h.few
  have hcn : cnt (plainS cap slots Os rt).L < slots := by
    show cnt (plL 0 Os) < slots
    rw [plL_cnt]; exact hl
  have hlk : look (plL 0 Os ++ [⟨1, tot Os, true⟩]) (hnd Os.length 1) = some Os.length := by
    have := look_pl (Os := Os ++ [newOb t r z Os.length]) (k := Os.length) (by simp) (by simp; omega)
    rw [plL_append, Nat.zero_add] at this
    exact this
  have hp2 : Os.length < 1048576 := by omega
  have ht2 : tot Os < 9223372036854775808 := by omega
  have hMM : ∀ u, HP own u i (plainS cap slots Os rt) wv → Calls Try.prog 21 #[.pointer (some ⟨i.T, 0, none⟩), .int .i64 (tot Os : Nat)] u fun e w' => e = .returned (.tuple #[.int .u64 (hnd Os.length 1 : Nat), .int .i64 0]) ∧ ∃ own', Mv own own' u w' ∧ HP own' w' i ⟨cap, slots, Os, [], 0, false, plL 0 Os ++ [⟨1, tot Os, true⟩], [], rt⟩ wv := fun u hu => tabs_new (h := hu) (tot Os) ht2 hl
  have hTT : ∀ own' u, Mv own own' w u → HP own' u i ((plainS cap slots Os rt).more (plL 0 Os ++ [⟨1, tot Os, true⟩]) [] (newOb t r z Os.length)) wv → Calls Try.prog 25 #[.pointer (some ⟨i.H, 0, none⟩), .int .u64 (hnd Os.length 1 : Nat)] u fun e w' => e = .returned (.tuple #[]) ∧ Q u w' := by rw [plain_more]; exact hT
  have hxl : hnd Os.length 1 < 18446744073709551616 := hnd_lt (by omega) (by decide)
  obtain ⟨L2, hL2⟩ : ∃ L2, L2 = plL 0 Os ++ [(⟨1, tot Os, true⟩ : RS)] := ⟨_, rfl⟩
  rw [← hL2] at hlk hMM hTT
  have hc := hMake_core (Q := Q) (s := plainS cap slots Os rt) h t r z hb hroom hcn (hnd Os.length 1) Os.length hxl L2 [] hlk hp2 hMM hTT
  rw [hL2] at hc
  erw [plain_more] at hc
  exact hc
theorem ph_Make (h : PH own w i cap slots Os rt .nilIface) (t r z : Nat) (hb : fitsH t r z = true) (hroom : tot Os + 1 + z ≤ cap) (hl : Os.length < slots) :
    Calls Try.prog 6 #[.pointer (some ⟨i.H, 0, none⟩), .int .i64 t, .int .i64 r, .int .i64 z] w fun e w' => e = .returned (.tuple #[.int .u64 (hnd Os.length 1 : Nat), .int .i64 0]) ∧ ∃ own', Mv own own' w w' ∧ PH own' w' i cap slots (Os ++ [newOb t r z Os.length]) rt .nilIface := by
  refine (ph_Make_core (Q := fun u w' => w' = u) h t r z hb hroom hl fun own' u _ hu => tellMade_nil hu _).mono ?_
  rintro e w' ⟨rfl, own', u, m, hu, rfl⟩
  exact ⟨rfl, own', m, hu⟩
theorem ph_full (h : PH own w i cap slots Os rt wv) (t r z : Nat) (hb : fitsH t r z = true) (hf : cap < tot Os + 1 + z ∨ Os.length = slots) : Calls Try.prog 6 #[.pointer (some ⟨i.H, 0, none⟩), .int .i64 t, .int .i64 r, .int .i64 z] w fun e w' => e = .returned (.tuple #[.int .u64 0, .int .i64 5]) ∧ w' = w := by
  refine hMake_full (s := plainS cap slots Os rt) h t r z hb ?_
  rcases hf with hf | hf
  · exact Or.inl hf
  · refine Or.inr ?_
    show cnt (plL 0 Os) = slots
    rw [plL_cnt]; exact hf
theorem ph_SetWord (h : PH own w i cap slots Os rt wv) {k j : Nat} (hk : k < Os.length) (hj : (oat Os k).refs + j < (oat Os k).ws.length) (y : Nat) (hy : y < 18446744073709551616) : Calls Try.prog 26 #[.pointer (some ⟨i.H, 0, none⟩), .int .u64 (hnd k 1 : Nat), .int .i64 j, .int .u64 y] w fun e w' => e = .returned (.int .i64 0) ∧ Mv own own w w' ∧ PH own w' i cap slots (Os.set k ((oat Os k).put ((oat Os k).refs + j) y)) rt wv := by
  have hc := SetWord_yes h (h.has hk) hj y hy
  rw [plain_put hk] at hc
  exact hc
theorem ph_SetRef (h : PH own w i cap slots Os rt .nilIface) {k j : Nat} (hk : k < Os.length) (hj : j < (oat Os k).refs) {y : Nat} (hy : y < Os.length) : Calls Try.prog 12 #[.pointer (some ⟨i.H, 0, none⟩), .int .u64 (hnd k 1 : Nat), .int .i64 j, .int .u64 (hnd y 1 : Nat)] w fun e w' => e = .returned (.int .i64 0) ∧ Mv own own w w' ∧ PH own w' i cap slots (Os.set k ((oat Os k).put j (hnd y 1))) rt .nilIface := by
  obtain ⟨h1, h2, h3, h4, h5⟩ := h.few
  have hc := SetRef_yes h (h.has hk) hj (hnd y 1) (hnd_lt (by omega) (by decide)) (may_pl hy (by omega))
  rw [plain_put hk] at hc
  exact hc
theorem ph_SetRoot (h : PH own w i cap slots Os rt .nilIface) {k y : Nat} (hk : k < 16) (hy : y < Os.length) : Calls Try.prog 8 #[.pointer (some ⟨i.H, 0, none⟩), .int .i64 k, .int .u64 (hnd y 1 : Nat)] w fun e w' => e = .returned (.int .i64 0) ∧ Mv own own w w' ∧ PH own w' i cap slots Os (rt.set k (hnd y 1)) .nilIface := by
  obtain ⟨h1, h2, h3, h4, h5⟩ := h.few
  exact SetRoot_yes h k (hnd y 1) hk (hnd_lt (by omega) (by decide)) (may_pl hy (by omega))
theorem ph_Ref (h : PH own w i cap slots Os rt wv) {k j : Nat} (hk : k < Os.length) (hj : j < (oat Os k).refs) : Calls Try.prog 13 #[.pointer (some ⟨i.H, 0, none⟩), .int .u64 (hnd k 1 : Nat), .int .i64 j] w fun e w' => e = .returned (.tuple #[.int .u64 ((oat Os k).ws.getD j 0 : Nat), .int .i64 0]) ∧ Below w.heap.size w w' := Ref_yes h (h.has hk) hj
theorem PH.below (h : PH own w i cap slots Os rt wv) {w' : World} (hb : Below w.heap.size w w') : PH own w' i cap slots Os rt wv := HP.below h hb
theorem PH.drew (h : PH own w i cap slots Os rt wv) : PH own w.drew i cap slots Os rt wv := HP.drew h
end
/-- No roots. -/
def rt0 : List Nat := [0, 0, 0, 0, 0, 0, 0, 0, 0, 0, 0, 0, 0, 0, 0, 0]
set_option maxHeartbeats 1000000 in
theorem hNew_heap (n m : Nat) (w : World) (h1 : 1 ≤ n) (h2 : n ≤ 1048576) (g1 : 1 ≤ m) (g2 : m ≤ 1048576) : Calls Try.prog 14 #[.int .i64 n, .int .i64 m] w fun e w' => ∃ i own, e = .returned (.tuple #[.pointer (some ⟨i.H, 0, none⟩), .int .i64 0]) ∧ Below w.heap.size w w' ∧ (∀ k, own k → w.heap.size ≤ k) ∧ PH own w' i n m [] rt0 .nilIface := by
  have HA := mkHid (fun u : World => at_New n u h1 h2)
  have HT := mkHid (fun u : World => ao_New m u g1 g2)
  clear h1 h2 g1 g2
  go_enter Try.func14, Try.ntmps14
  go_wp2_with fail
  refine (HA.out _).mono ?_
  rintro e w1 ⟨A, W, B, rfl, b1, hA, hW, hB, a1⟩
  have HA1 := mkHid a1
  have B1 := mkHid b1
  have HW1 : Hid (∀ k, mine A W B k → w.heap.size ≤ k) := by
    rintro k (rfl | rfl | rfl)
    · exact hA
    · exact hW
    · exact hB
  clear a1 b1 hA hW hB
  go_wp2_with fail
  refine (HT.out _).mono ?_
  rintro e w2 ⟨rfl, b2, a2⟩
  have HB2 := mkHid b2
  have HT2 := mkHid a2
  clear a2 b2
  go_wp2_with fail
  go_returns
  have ha := HA1.out
  have b1 := B1.out
  have b2 := HB2.out
  have s1 := b1.size
  have s2 := b2.size
  have ht := HT2.out
  have htlt : w1.heap.size < w2.heap.size := ht.lt rfl
  have bb : Below w.heap.size w w2 := b1.trans (b2.mono s1)
  have b3 : Below w2.heap.size w2 (w2.alloc (.cells (hcells ⟨w2.heap.size, A, W, B, w1.heap.size⟩ rt0 .nilIface) 62)) := (Below.refl _ w2).alloc (Nat.le_refl _) _
  refine ⟨⟨w2.heap.size, A, W, B, w1.heap.size⟩, fun k => k = w2.heap.size ∨ mine A W B k ∨ k = w1.heap.size, rfl, bb.trans (b3.mono bb.size), ?_, fun k => k = w1.heap.size, ?_, ?_, ?_, fun k => Iff.rfl, ?_, ?_, rfl, ?_⟩
  · rintro k (rfl | hk | rfl)
    · omega
    · exact HW1.out k hk
    · omega
  · exact heap_alloc_new w2 _
  · exact (ha.below b2).below b3
  · exact ht.same fun k hk => by rw [hk]; exact b3.block _ htlt
  · intro e
    have e2 : mine A W B w2.heap.size := e
    have := ha.lt e2
    omega
  · rintro k rfl
    exact ⟨by show w1.heap.size ≠ w2.heap.size; omega, fun e => by have := ha.lt e; omega⟩
  · intro k
    unfold plainS rt0
    dsimp only
    match k with
    | 0 | 1 | 2 | 3 | 4 | 5 | 6 | 7 | 8 | 9 | 10 | 11 | 12 | 13 | 14 | 15 => decide
    | k + 16 => simp
end Go.Proofs.Ythdggdmaajlaiaa
