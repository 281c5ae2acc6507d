/- Some texts in one: each opens with its own remark. -/
import Derived.Test.YthdggdmaajlaiaaK15
import Derived.Deep.AppendLies
import Derived.Deep.OwnRows
/- The statements' own helpers. -/
namespace Go.Proofs.Ythdggdmaajlaiaa
open Go.RowKit

theorem hFresh_any (n m : Nat) (w : World) (h1 : 1 ≤ n) (h2 : n ≤ 1048576) (g1 : 1 ≤ m) (g2 : m ≤ 1048576) : Calls Try.prog 5 #[.int .i64 n, .int .i64 m] w fun e w' => ∃ i own, e = .returned (.pointer (some ⟨i.H, 0, none⟩)) ∧ Below w.heap.size w w' ∧ (∀ k, own k → w.heap.size ≤ k) ∧ PH own w' i n m [] rt0 .nilIface := by
  have HN := mkHid (hNew_heap n m w h1 h2 g1 g2)
  clear h1 h2 g1 g2
  go_enter Try.func5, Try.ntmps5
  go_wp2_with fail
  refine HN.out.mono ?_
  rintro e w1 ⟨i, own, rfl, hb, ho, hp⟩
  have HB := mkHid hb
  have HO := mkHid ho
  have HH := mkHid hp
  clear hb ho hp
  go_wp2_with fail
  go_ret
  exact ⟨i, own, rfl, HB.out, HO.out, HH.out⟩
section
variable {own : Nat → Prop} {w : World} {i : HId}
def aw1 : List Ob := [⟨1, 1, 0, false, [0, 0]⟩]
def aw2 : List Ob := [⟨1, 1, 0, false, [0, 0]⟩, ⟨2, 0, 1, false, [0]⟩]
def aw3 : List Ob := [⟨1, 1, 0, false, [4294967298, 0]⟩, ⟨2, 0, 1, false, [0]⟩]
theorem aw_make1 (h : PH own w i 100 10 [] rt0 .nilIface) : Calls Try.prog 6 #[.pointer (some ⟨i.H, 0, none⟩), .int .i64 1, .int .i64 1, .int .i64 2] w fun e w' => e = .returned (.tuple #[.int .u64 4294967297, .int .i64 0]) ∧ ∃ own', Mv own own' w w' ∧ PH own' w' i 100 10 aw1 rt0 .nilIface := ph_Make h 1 1 2 (by decide) (by decide) (by decide)
theorem aw_make2 (h : PH own w i 100 10 aw1 rt0 .nilIface) : Calls Try.prog 6 #[.pointer (some ⟨i.H, 0, none⟩), .int .i64 2, .int .i64 0, .int .i64 1] w fun e w' => e = .returned (.tuple #[.int .u64 4294967298, .int .i64 0]) ∧ ∃ own', Mv own own' w w' ∧ PH own' w' i 100 10 aw2 rt0 .nilIface := ph_Make h 2 0 1 (by decide) (by decide) (by decide)
theorem aw_ref (h : PH own w i 100 10 aw2 rt0 .nilIface) : Calls Try.prog 12 #[.pointer (some ⟨i.H, 0, none⟩), .int .u64 4294967297, .int .i64 0, .int .u64 4294967298] w fun e w' => e = .returned (.int .i64 0) ∧ Mv own own w w' ∧ PH own w' i 100 10 aw3 rt0 .nilIface := ph_SetRef h (k := 0) (j := 0) (y := 1) (by decide) (by decide) (by decide)
theorem aw_get (h : PH own w i 100 10 aw3 rt0 .nilIface) : Calls Try.prog 13 #[.pointer (some ⟨i.H, 0, none⟩), .int .u64 4294967297, .int .i64 0] w fun e w' => e = .returned (.tuple #[.int .u64 4294967298, .int .i64 0]) ∧ Below w.heap.size w w' := ph_Ref h (k := 0) (j := 0) (by decide) (by decide)
end
theorem fresh_100 (w : World) : Calls Try.prog 5 #[.int .i64 100, .int .i64 10] w fun e w' => ∃ i own, e = .returned (.pointer (some ⟨i.H, 0, none⟩)) ∧ Below w.heap.size w w' ∧ (∀ k, own k → w.heap.size ≤ k) ∧ PH own w' i 100 10 [] rt0 .nilIface := hFresh_any 100 10 w (by decide) (by decide) (by decide) (by decide)
theorem fresh_4096 (w : World) : Calls Try.prog 5 #[.int .i64 4096, .int .i64 256] w fun e w' => ∃ i own, e = .returned (.pointer (some ⟨i.H, 0, none⟩)) ∧ Below w.heap.size w w' ∧ (∀ k, own k → w.heap.size ≤ k) ∧ PH own w' i 4096 256 [] rt0 .nilIface := hFresh_any 4096 256 w (by decide) (by decide) (by decide) (by decide)
set_option maxHeartbeats 1000000 in
theorem awake9 (w : World) : Calls Try.prog 4 #[] w fun e w' => e = .returned (.bool true) ∧ Below w.heap.size w w' := by
  go_enter Try.func4, Try.ntmps4
  go_wp2_with fail
  refine (fresh_100 _).mono ?_
  rintro e w1 ⟨i, own, rfl, b1, ho, h1⟩
  have B1 := mkHid b1
  have HO := mkHid ho
  have H1 := mkHid h1
  clear b1 ho h1
  go_wp2_with fail
  refine (aw_make1 H1.out).mono ?_
  rintro e w2 ⟨rfl, own2, m2, h2⟩
  have M2 := mkHid m2
  have H2 := mkHid h2
  clear m2 h2
  go_wp2_with fail
  refine (aw_make2 H2.out).mono ?_
  rintro e w3 ⟨rfl, own3, m3, h3⟩
  have M3 := mkHid m3
  have H3 := mkHid h3
  clear m3 h3
  go_wp2_with fail
  refine (aw_ref H3.out).mono ?_
  rintro e w4 ⟨rfl, m4, h4⟩
  have M4 := mkHid m4
  have H4 := mkHid h4
  clear m4 h4
  go_wp2_with fail
  refine (aw_get H4.out).mono ?_
  rintro e w5 ⟨rfl, b5⟩
  have B5 := mkHid b5
  clear b5
  go_wp2_with fail
  go_ret
  have m := (M2.out.trans M3.out).trans M4.out
  have b1 := B1.out
  have hb := (m.below HO.out b1.size).1
  have hs := hb.size
  exact ⟨rfl, b1.trans (hb.trans (B5.out.mono (by have := b1.size; omega)))⟩
end Go.Proofs.Ythdggdmaajlaiaa

/- Rows of words that the statements keep beside a heap. -/
namespace Go.Proofs.Ythdggdmaajlaiaa
open Go.RowKit

/-- The handles of the first ones. -/
def hs1 (i : Nat) : List Nat := (List.range i).map fun j => hnd j 1
theorem hs1_len (i : Nat) : (hs1 i).length = i := by simp [hs1]
theorem hs1_succ (i : Nat) : hs1 (i + 1) = hs1 i ++ [hnd i 1] := by simp [hs1, List.range_succ]
theorem hs1_at {i j : Nat} (h : j < i) : (hs1 i).getD j 0 = hnd j 1 := by simp [hs1, h]
/-- A row of one's own that is none of the heap's. -/
def Rw (own : Nat → Prop) (w : World) (B e : Nat) (u : Value) (xs : List Value) : Prop := w.ownsRow B e 1 u xs.length xs ∧ ∀ k, u.ownBlock = some k → ¬ own k
section
variable {own own' : Nat → Prop} {w w' : World} {B e : Nat} {u : Value} {xs : List Value}
theorem Rw.nil (own : Nat → Prop) (w : World) (B e : Nat) : Rw own w B e (.slice none 0 0) [] := ⟨World.ownsRow_nil _ _ _ _, fun k h => by cases h⟩
theorem Rw.lt (h : Rw own w B e u xs) {k : Nat} (hk : u.ownBlock = some k) : B ≤ k ∧ k < w.heap.size := h.1.lt k hk
theorem Rw.same (h : Rw own w B e u xs) (hb : ∀ k, u.ownBlock = some k → w'.heap[k]? = w.heap[k]? ∧ ¬ own' k) : Rw own' w' B e u xs := by
  refine ⟨⟨h.1.1, ?_⟩, fun k hk => (hb k hk).2⟩
  rcases h.1.2 with h0 | ⟨g, cap, cur, rfl, h1, h2, h3⟩
  · exact Or.inl h0
  · exact Or.inr ⟨g, cap, cur, rfl, h1, by rw [(hb g rfl).1]; exact h2, h3⟩
theorem Rw.mv (h : Rw own w B e u xs) (m : Mv own own' w w') : Rw own' w' B e u xs := h.same fun k hk => ⟨m.chg.block k (h.lt hk).2 (h.2 k hk), fun e => (m.sub k e).elim (h.2 k hk) (fun e => by have := (h.lt hk).2; omega)⟩
theorem Rw.below (h : Rw own w B e u xs) (hb : Below w.heap.size w w') : Rw own w' B e u xs := h.mv (Mv.of_below hb)
theorem Rw.drew (h : Rw own w B e u xs) : Rw own w.drew B e u xs := h.same fun k hk => ⟨rfl, h.2 k hk⟩
theorem Rw.cells (h : Rw own w B e u xs) (h0 : 0 < xs.length) : ∃ g c, u = .slice (some ⟨g, 0, none⟩) xs.length c ∧ xs.length ≤ c ∧ c ≤ maxLen ∧ g < w.heap.size ∧ ¬ own g ∧ ∀ (j : Nat) (v : Value), xs[j]? = some v → w.cell? ⟨g, j, none⟩ = some v := by
  have h2 := h.2
  rcases h.1.2 with ⟨_, h0'⟩ | ⟨g, cap, cur, rfl, hb, hg, hnc, hcm, hcs, hcx⟩
  · omega
  · refine ⟨g, cap, rfl, hnc, hcm, (Array.getElem?_eq_some_iff.1 hg).1, h2 g rfl, fun j v hj => ?_⟩
    have hlt := (List.getElem?_eq_some_iff.1 hj).1
    rw [cell_of_row w g j _ _ _ hg, ← hj, ← hcx, List.getElem?_take_of_lt (by omega)]
    simp
theorem Rw.at_ {g n c : Nat} (h : Rw own w B e (.slice (some ⟨g, 0, none⟩) n c) xs) {j : Nat} {v : Value} (hj : xs[j]? = some v) : w.cell? ⟨g, j, none⟩ = some v := by
  have h0 := (List.getElem?_eq_some_iff.1 hj).1
  obtain ⟨g', c', e', _, _, _, _, h6⟩ := h.cells (by omega)
  cases e'
  exact h6 j v hj
theorem ucells_at {l : List Nat} {j : Nat} (hj : j < l.length) : (ucells l)[j]? = some (.int .u64 ((l.getD j 0 : Nat) : Int)) := by simp [ucells, hj]
theorem Rw.len (h : Rw own w B e u xs) : ∃ a c, u = .slice a xs.length c ∧ (0 < xs.length → ∃ g, a = some ⟨g, 0, none⟩) := by
  rcases h.1.2 with ⟨rfl, h0'⟩ | ⟨g, cap, cur, rfl, hb, hg, hnc, hcm, hcs, hcx⟩
  · exact ⟨none, 0, by rw [h0'], fun h => by omega⟩
  · exact ⟨_, cap, rfl, fun _ => ⟨g, rfl⟩⟩
end
theorem cell_new1 (w : World) (v : Value) (t : TypeId) : (w.alloc (.cells #[v] t)).cell? ⟨w.heap.size, 0, none⟩ = some v := by
  rw [cell_of_row _ _ 0 _ _ _ (heap_alloc_new w (.cells #[v] t))]; rfl
/-- append of one to such a row. -/
theorem wpList_append_rw {P : Program} {w : World} {ops : Array Oper} {rest : List Oper} {o : Oper} {a : Act} {Q : Exit → Act → World → Prop} {own : Nat → Prop} (hgd : o.guard = none) (s x : Operand) (t : TypeId)
    (ho : o.op = .call { callee := .builtin .append, args := #[s, x], argTypes := #[t, t] })
    (B : Nat) (e : TypeId) (i : TypeInfo) (z : Value) (bytes : Nat) (ht : P.underlying t = some (.slice e)) (hi : P.info? e = some i) (hz : i.zero = some z)
    (hsize : i.size = 1) (hby : i.bytes = bytes) (hzs : z.cells.size = 1)
    (v : Value) (xs : List Value) (hs : a.eval s = v) (hown : Rw own w B e v xs)
    (ad : Addr) (y : Value) (hx : a.eval x = .slice (some ad) 1 1) (hy : w.cell? ad = some y) (h1 : y.oneCell' = true)
    (h63 : xs.length + 1 ≤ maxLen) (hbytes : (xs.length + 1) * bytes ≤ 140737488355328) (hbase : B ≤ w.heap.size) (hlt : ∀ k, own k → k < w.heap.size)
    (h : ∀ u' w', Rw own w' B e u' (xs ++ [y]) → Chg (fun k => ¬ own k ∧ B ≤ k) w w' → wpList P ops Q rest (a.put o.dst u') w') : wpList P ops Q (o :: rest) a w := by
  refine wpList_append_lies w hgd s x t ho B e i z 1 bytes ht hi hz hsize hby hzs (by decide) v xs.length xs hs hown.1 ad 1 1 [y] hx rfl (fun j u hj => ?_) (fun u hu => ?_) (by decide) h63 hbytes hbase _ rfl fun g cap w' r1 r2 r3 _ => ?_
  · match j, hj with
    | 0, hj =>
      simp at hj
      subst hj
      have e0 : ad.add 0 = ad := by simp [Addr.add]
      rw [e0]; exact hy
  · simp at hu
    subst hu
    exact h1
  · refine h _ w' ⟨by rw [List.length_append]; exact r1, fun k hk hok => ?_⟩ ⟨r2.os, r2.tape, r2.output, r2.size, fun k hk hn => r2.block k hk fun e2 => hn ⟨fun ho => hown.2 k e2.symm ho, (hown.lt e2.symm).1⟩⟩
    have hkg : g = k := by simpa [Value.ownBlock] using hk
    subst hkg
    rcases r3 with r3 | r3
    · exact hown.2 g r3 hok
    · have := hlt g hok
      omega
end Go.Proofs.Ythdggdmaajlaiaa

/- Check of a plain heap. -/
namespace Go.Proofs.Ythdggdmaajlaiaa
open Go.RowKit

/-- Nothing, or the handle of one of so many. -/
def Okx (n x : Nat) : Prop := x = 0 ∨ ∃ y, y < n ∧ x = hnd y 1
theorem Okx.mono {n m x : Nat} (h : Okx n x) (hm : n ≤ m) : Okx m x := h.imp id fun ⟨y, h1, h2⟩ => ⟨y, by omega, h2⟩
theorem Okx.lt {n x : Nat} (h : Okx n x) (hn : n ≤ 1048576) : x < 18446744073709551616 := by
  rcases h with rfl | ⟨y, h1, rfl⟩
  · decide
  · exact hnd_lt (by omega) (by decide)
theorem liveL_mem {f : Nat → Sl} : ∀ {n x : Nat}, x ∈ liveL f n → ∃ p, p < n ∧ (f p).taken = true ∧ x = hnd p (f p).gen
  | 0, x, h => by simp [liveL] at h
  | n + 1, x, h => by
    unfold liveL at h
    by_cases ht : (f n).taken = true
    · rw [if_pos ht] at h
      rcases List.mem_append.1 h with h | h
      · obtain ⟨p, h1, h2⟩ := liveL_mem h
        exact ⟨p, by omega, h2⟩
      · simp at h
        exact ⟨n, by omega, ht, h⟩
    · rw [if_neg ht] at h
      obtain ⟨p, h1, h2⟩ := liveL_mem h
      exact ⟨p, by omega, h2⟩
theorem objAt_mem : ∀ {l : List Ob} {p q : Nat} {o : Ob}, objAt p l q = some o → ∃ k, k < l.length ∧ o = oat l k
  | [], _, _, _, h => by simp [objAt] at h
  | x :: r, p, q, o, h => by
    unfold objAt at h
    by_cases e : q = p
    · rw [if_pos e] at h
      cases h
      exact ⟨0, by simp, by simp [oat]⟩
    · rw [if_neg e] at h
      obtain ⟨k, h1, h2⟩ := objAt_mem h
      exact ⟨k + 1, by simpa using h1, by rw [h2]; simp [oat]⟩
section
variable {own : Nat → Prop} {w : World} {i : HId} {cap slots : Nat} {Os : List Ob} {rt : List Nat} {wv : Value}
theorem plain_snd (h : PH own w i cap slots Os rt wv) : Snd (plainS cap slots Os rt) := by
  intro x p hl
  obtain ⟨h1, h2⟩ := look_pl_some (Os := Os) hl
  obtain ⟨hx, p', hl', hq, ho⟩ := h.has h1
  rw [← h2] at hl'
  rw [hl] at hl'
  cases hl'
  exact ⟨_, by rw [hq]; exact ho⟩
theorem plain_plc (h : PH own w i cap slots Os rt wv) {k : Nat} (hk : k < Os.length) : plc (plainS cap slots Os rt) (hnd k 1) = some (place Os k) := by
  obtain ⟨hx, p', hl', hq, ho⟩ := h.has hk
  unfold plc
  rw [hl']
  simp [hq]
theorem plain_slots (h : PH own w i cap slots Os rt wv) (hown : ∀ k, k < Os.length → (oat Os k).own = k) : SlotsOk (plainS cap slots Os rt) := by
  intro x hx
  obtain ⟨p, h1, h2, h3⟩ := liveL_mem (show x ∈ liveL (fun i => ⟨0, (rs (plL 0 Os) i).gen, (rs (plL 0 Os) i).taken⟩) (plL 0 Os).length from hx)
  rw [plL_len] at h1
  dsimp only at h3
  rw [plL_rs Os 0 p h1] at h3
  have hh := h.has h1
  rw [show hnd p 1 = x from h3.symm] at hh
  obtain ⟨h4, h5⟩ := id hh
  have hf := h.few
  exact ⟨h4, p, place Os p, oat Os p, by rw [h3]; exact look_pl h1 (by omega), hh, hown p h1⟩
theorem plain_objs (hown : ∀ k, k < Os.length → (oat Os k).own = k) : ObjsOk Os (plL 0 Os) := by
  intro k hk
  rw [hown k hk, plL_len, plL_rs Os 0 k hk]
  exact ⟨hk, rfl, Nat.zero_add _⟩
theorem meetM_lost {s : HS} {m : Mt} {x : Nat} (h : x = 0 ∨ plc s x ≠ none) : (meetM s m x).lost = m.lost := by
  unfold meetM
  by_cases h0 : x = 0
  · rw [if_pos h0]
  · rw [if_neg h0]
    cases hp : plc s x with
    | none => exact absurd hp (h.resolve_left h0)
    | some q => dsimp only; split <;> rfl
theorem meetAll_lost {s : HS} : ∀ (l : List Nat) {m : Mt}, (∀ x, x ∈ l → x = 0 ∨ plc s x ≠ none) → (meetAll s m l).lost = m.lost
  | [], _, _ => rfl
  | x :: l, m, h => by
    show (meetAll s (meetM s m x) l).lost = m.lost
    rw [meetAll_lost l (fun y hy => h y (by simp [hy])), meetM_lost (h x (by simp))]
/-- All refs are handles of objects, or 0. -/
def RefsOk (Os : List Ob) : Prop := ∀ k, k < Os.length → ∀ j, j < (oat Os k).refs → Okx Os.length ((oat Os k).ws.getD j 0)
theorem plain_ok (h : PH own w i cap slots Os rt wv) {x : Nat} (hx : Okx Os.length x) : x = 0 ∨ plc (plainS cap slots Os rt) x ≠ none := by
  rcases hx with hx | ⟨y, h1, rfl⟩
  · exact Or.inl hx
  · exact Or.inr (by rw [plain_plc h h1]; simp)
theorem plain_refs (_h : PH own w i cap slots Os rt wv) (hr : RefsOk Os) (q : Nat) : ∀ x, x ∈ refsAt (plainS cap slots Os rt) q → Okx Os.length x := by
  intro x hx
  unfold refsAt obD at hx
  cases ho : obAt Os [] 0 q with
  | none =>
    rw [show obAt (plainS cap slots Os rt).Lo (plainS cap slots Os rt).Hi (plainS cap slots Os rt).e q = none from ho] at hx
    simp at hx
  | some o =>
    rw [show obAt (plainS cap slots Os rt).Lo (plainS cap slots Os rt).Hi (plainS cap slots Os rt).e q = some o from ho] at hx
    have ho2 : objAt 0 Os q = some o := by
      unfold obAt at ho
      cases h1 : objAt 0 Os q with
      | some y => rw [h1] at ho; exact ho
      | none => rw [h1] at ho; simp [objAt] at ho
    obtain ⟨k, hk, rfl⟩ := objAt_mem ho2
    have hx' : x ∈ (oat Os k).ws.take (oat Os k).refs := hx
    obtain ⟨j, hj, hjx⟩ := List.mem_iff_getElem.1 hx'
    rw [List.length_take] at hj
    have := hr k hk j (by omega)
    rw [List.getElem_take] at hjx
    rw [← hjx]
    rw [List.getD_eq_getElem?_getD, List.getElem?_eq_getElem (by omega)] at this
    exact this
theorem plain_lost (h : PH own w i cap slots Os rt wv) (hr : RefsOk Os) (hrt : ∀ k, Okx Os.length (rt.getD k 0)) : ∀ k, (bfsK (plainS cap slots Os rt) (mRoots (plainS cap slots Os rt)) k).lost = false
  | 0 => by
    show (meetAll (plainS cap slots Os rt) m0 rt).lost = false
    rw [meetAll_lost rt (fun x hx => ?_)]
    · rfl
    · obtain ⟨j, hj, hjx⟩ := List.mem_iff_getElem.1 hx
      have := hrt j
      rw [List.getD_eq_getElem?_getD, List.getElem?_eq_getElem hj] at this
      refine plain_ok h ?_
      rw [← hjx]; exact this
  | k + 1 => by
    show (meetAll _ (bfsK (plainS cap slots Os rt) (mRoots (plainS cap slots Os rt)) k) _).lost = false
    rw [meetAll_lost _ (fun x hx => plain_ok h (plain_refs h hr _ x hx))]
    exact plain_lost h hr hrt k
theorem ph_Check (h : PH own w i cap slots Os rt wv) (hown : ∀ k, k < Os.length → (oat Os k).own = k) (hr : RefsOk Os) (hrt : ∀ k, Okx Os.length (rt.getD k 0)) : Calls Try.prog 11 #[.pointer (some ⟨i.H, 0, none⟩)] w fun e w' => e = .returned (.int .i64 0) ∧ Below w.heap.size w w' :=
  Check_yes h (plain_snd h) (plain_slots h hown) (plain_objs hown) (plain_lost h hr hrt)
end
end Go.Proofs.Ythdggdmaajlaiaa
