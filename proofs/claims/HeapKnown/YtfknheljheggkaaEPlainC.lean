/- Check of a plain heap. -/
import Derived.Test.YtfknheljheggkaaECheck2
import Derived.Test.YtfknheljheggkaaERow
namespace Go.Proofs.Ytfknheljheggkaa
open Go.RowKit

/-- Nothing, or the handle of one of so many. -/
def Okx (n x : Nat) : Prop := x = 0 ∨ ∃ y, y < n ∧ x = hnd y 1
theorem Okx.mono {n m x : Nat} (h : Okx n x) (hm : n ≤ m) : Okx m x := h.imp id fun ⟨y, h1, h2⟩ => ⟨y, by omega, h2⟩
theorem Okx.lt {n x : Nat} (h : Okx n x) (hn : n ≤ 1048576) : x < 18446744073709551616 := by
  rcases h with rfl | ⟨y, h1, rfl⟩
  · decide
  · exact hnd_lt (by omega) (by decide)
theorem liveL_mem {f : Nat → Sl} : ∀ {n x : Nat}, x ∈ liveL f n → ∃ p, p < n ∧ (f p).taken = true ∧ x = hnd p (f p).gen
  | 0, x, h => by simp [liveL] at h
  | n + 1, x, h => by
    unfold liveL at h
    by_cases ht : (f n).taken = true
    · rw [if_pos ht] at h
      rcases List.mem_append.1 h with h | h
      · obtain ⟨p, h1, h2⟩ := liveL_mem h
        exact ⟨p, by omega, h2⟩
      · simp at h
        exact ⟨n, by omega, ht, h⟩
    · rw [if_neg ht] at h
      obtain ⟨p, h1, h2⟩ := liveL_mem h
      exact ⟨p, by omega, h2⟩
theorem objAt_mem : ∀ {l : List Ob} {p q : Nat} {o : Ob}, objAt p l q = some o → ∃ k, k < l.length ∧ o = oat l k
  | [], _, _, _, h => by simp [objAt] at h
  | x :: r, p, q, o, h => by
    unfold objAt at h
    by_cases e : q = p
    · rw [if_pos e] at h
      cases h
      exact ⟨0, by simp, by simp [oat]⟩
    · rw [if_neg e] at h
      obtain ⟨k, h1, h2⟩ := objAt_mem h
      exact ⟨k + 1, by simpa using h1, by rw [h2]; simp [oat]⟩
section
variable {own : Nat → Prop} {w : World} {i : HId} {cap slots : Nat} {Os : List Ob} {rt : List Nat} {wv : Value}
theorem plain_snd (h : PH own w i cap slots Os rt wv) : Snd (plainS cap slots Os rt) := by
  intro x p hl
  obtain ⟨h1, h2⟩ := look_pl_some (Os := Os) hl
  obtain ⟨hx, p', hl', hq, ho⟩ := h.has h1
  rw [← h2] at hl'
  rw [hl] at hl'
  cases hl'
  exact ⟨_, by rw [hq]; exact ho⟩
theorem plain_plc (h : PH own w i cap slots Os rt wv) {k : Nat} (hk : k < Os.length) : plc (plainS cap slots Os rt) (hnd k 1) = some (place Os k) := by
  obtain ⟨hx, p', hl', hq, ho⟩ := h.has hk
  unfold plc
  rw [hl']
  simp [hq]
theorem plain_slots (h : PH own w i cap slots Os rt wv) (hown : ∀ k, k < Os.length → (oat Os k).own = k) : SlotsOk (plainS cap slots Os rt) := by
  intro x hx
  obtain ⟨p, h1, h2, h3⟩ := liveL_mem (show x ∈ liveL (fun i => ⟨0, (rs (plL 0 Os) i).gen, (rs (plL 0 Os) i).taken⟩) (plL 0 Os).length from hx)
  rw [plL_len] at h1
  dsimp only at h3
  rw [plL_rs Os 0 p h1] at h3
  have hh := h.has h1
  rw [show hnd p 1 = x from h3.symm] at hh
  obtain ⟨h4, h5⟩ := id hh
  have hf := h.few
  exact ⟨h4, p, place Os p, oat Os p, by rw [h3]; exact look_pl h1 (by omega), hh, hown p h1⟩
theorem plain_objs (hown : ∀ k, k < Os.length → (oat Os k).own = k) : ObjsOk Os (plL 0 Os) := by
  intro k hk
  rw [hown k hk, plL_len, plL_rs Os 0 k hk]
  exact ⟨hk, rfl, Nat.zero_add _⟩
theorem meetM_lost {s : HS} {m : Mt} {x : Nat} (h : x = 0 ∨ plc s x ≠ none) : (meetM s m x).lost = m.lost := by
  unfold meetM
  by_cases h0 : x = 0
  · rw [if_pos h0]
  · rw [if_neg h0]
    cases hp : plc s x with
    | none => exact absurd hp (h.resolve_left h0)
    | some q => dsimp only; split <;> rfl
theorem meetAll_lost {s : HS} : ∀ (l : List Nat) {m : Mt}, (∀ x, x ∈ l → x = 0 ∨ plc s x ≠ none) → (meetAll s m l).lost = m.lost
  | [], _, _ => rfl
  | x :: l, m, h => by
    show (meetAll s (meetM s m x) l).lost = m.lost
    rw [meetAll_lost l (fun y hy => h y (by simp [hy])), meetM_lost (h x (by simp))]
/-- All refs are handles of objects, or 0. -/
def RefsOk (Os : List Ob) : Prop := ∀ k, k < Os.length → ∀ j, j < (oat Os k).refs → Okx Os.length ((oat Os k).ws.getD j 0)
theorem plain_ok (h : PH own w i cap slots Os rt wv) {x : Nat} (hx : Okx Os.length x) : x = 0 ∨ plc (plainS cap slots Os rt) x ≠ none := by
  rcases hx with hx | ⟨y, h1, rfl⟩
  · exact Or.inl hx
  · exact Or.inr (by rw [plain_plc h h1]; simp)
theorem plain_refs (_h : PH own w i cap slots Os rt wv) (hr : RefsOk Os) (q : Nat) : ∀ x, x ∈ refsAt (plainS cap slots Os rt) q → Okx Os.length x := by
  intro x hx
  unfold refsAt obD at hx
  cases ho : obAt Os [] 0 q with
  | none =>
    rw [show obAt (plainS cap slots Os rt).Lo (plainS cap slots Os rt).Hi (plainS cap slots Os rt).e q = none from ho] at hx
    simp at hx
  | some o =>
    rw [show obAt (plainS cap slots Os rt).Lo (plainS cap slots Os rt).Hi (plainS cap slots Os rt).e q = some o from ho] at hx
    have ho2 : objAt 0 Os q = some o := by
      unfold obAt at ho
      cases h1 : objAt 0 Os q with
      | some y => rw [h1] at ho; exact ho
      | none => rw [h1] at ho; simp [objAt] at ho
    obtain ⟨k, hk, rfl⟩ := objAt_mem ho2
    have hx' : x ∈ (oat Os k).ws.take (oat Os k).refs := hx
    obtain ⟨j, hj, hjx⟩ := List.mem_iff_getElem.1 hx'
    rw [List.length_take] at hj
    have := hr k hk j (by omega)
    rw [List.getElem_take] at hjx
    rw [← hjx]
    rw [List.getD_eq_getElem?_getD, List.getElem?_eq_getElem (by omega)] at this
    exact this
theorem plain_lost (h : PH own w i cap slots Os rt wv) (hr : RefsOk Os) (hrt : ∀ k, Okx Os.length (rt.getD k 0)) : ∀ k, (bfsK (plainS cap slots Os rt) (mRoots (plainS cap slots Os rt)) k).lost = false
  | 0 => by
    show (meetAll (plainS cap slots Os rt) m0 rt).lost = false
    rw [meetAll_lost rt (fun x hx => ?_)]
    · rfl
    · obtain ⟨j, hj, hjx⟩ := List.mem_iff_getElem.1 hx
      have := hrt j
      rw [List.getD_eq_getElem?_getD, List.getElem?_eq_getElem hj] at this
      refine plain_ok h ?_
      rw [← hjx]; exact this
  | k + 1 => by
    show (meetAll _ (bfsK (plainS cap slots Os rt) (mRoots (plainS cap slots Os rt)) k) _).lost = false
    rw [meetAll_lost _ (fun x hx => plain_ok h (plain_refs h hr _ x hx))]
    exact plain_lost h hr hrt k
theorem ph_Check (h : PH own w i cap slots Os rt wv) (hown : ∀ k, k < Os.length → (oat Os k).own = k) (hr : RefsOk Os) (hrt : ∀ k, Okx Os.length (rt.getD k 0)) : Calls Try.prog 17 #[.pointer (some ⟨i.H, 0, none⟩)] w fun e w' => e = .returned (.int .i64 0) ∧ RowKit.Below w.heap.size w w' :=
  Check_yes h (plain_snd h) (plain_slots h hown) (plain_objs hown) (plain_lost h hr hrt)
end
end Go.Proofs.Ytfknheljheggkaa
