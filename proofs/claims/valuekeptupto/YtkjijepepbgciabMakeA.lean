/- Fields in order: plain facts; the library's Clone and SortFunc at a row of fields; the walk of value.Make. -/
import Derived.Test.YtkjijepepbgciabFindV
import Derived.Test.YtkjijepepbgciabGood
import Derived.Test.YtkjijepepbgciabChain
import Derived.Shelf.SlSortCmp.WholeK
import Derived.Test.YtkjijepepbgciabShelf3
import Derived.Deep.Upon
import Derived.Test.YtkjijepepbgciabOpen
import Derived.BigQuiet
import Derived.Deep.QuietTactic
namespace Go.Proofs.Ytkjijepepbgciab
open Go.RowKit Go.Sort

def cfF (x y : Fl) : Int := cmpS x.nm y.nm
/-- Each name above the one ahead of it. -/
def Up (d : List Fl) : Prop := d.Pairwise fun x y => cfF x y < 0

theorem cfF_zero {x y : Fl} : cfF x y = 0 ↔ x.nm = y.nm := by
  constructor
  · intro h
    exact WideShapes.bytes_inj (cmp_zero _ _ h)
  · intro h
    have h1 := cmp_anti x.nm.data.toList x.nm.data.toList
    unfold cfF cmpS
    rw [← h]
    omega
theorem cfF_anti (x y : Fl) : cfF y x = - cfF x y := anti_str _ _
theorem cfF_trans {x y z : Fl} (h1 : cfF x y < 0) (h2 : cfF y z < 0) : cfF x z < 0 := (T3_str x.nm y.nm z.nm).2.1 h1 (by unfold cfF at h2; omega)

theorem swoF : SWO (ltOf cfF) where
  irrefl x := by
    have := (cfF_zero (x := x) (y := x)).2 rfl
    simp [ltOf, this]
  trans x y z h1 h2 := by
    simp [ltOf] at *
    exact cfF_trans h1 h2
  ntrans x y z h1 h2 := by
    simp [ltOf] at *
    have e1 := cfF_anti x y
    have e2 := cfF_anti y z
    have e3 := cfF_anti x z
    have := (T3_str z.nm y.nm x.nm).1 (by unfold cfF at e2 h2; omega) (by unfold cfF at e1 h1; omega)
    unfold cfF at e3 ⊢
    omega

/-- The place of a field: behind the last that is below it, of the first k. -/
def place (x : Fl) (out : List Fl) : Nat → Nat
  | 0 => 0
  | k + 1 => if cfF (out[k]?.getD default) x < 0 then k + 1 else place x out k
def insOne (out : List Fl) (x : Fl) : List Fl := out.take (place x out out.length) ++ x :: out.drop (place x out out.length)
def insAll : List Fl → List Fl → Option (List Fl)
  | out, [] => some out
  | out, x :: r => if out.any (fun y => decide (y.nm = x.nm)) then none else insAll (insOne out x) r

theorem place_le (x : Fl) (out : List Fl) : ∀ k, place x out k ≤ k
  | 0 => Nat.le_refl _
  | k + 1 => by
    have := place_le x out k
    simp only [place]
    split <;> omega
theorem place_above (x : Fl) (out : List Fl) : ∀ k i, place x out k ≤ i → i < k → ¬ cfF (out[i]?.getD default) x < 0
  | 0, i, _, h => absurd h (Nat.not_lt_zero _)
  | k + 1, i, h1, h2 => by
    simp only [place] at h1
    split at h1
    · omega
    · rename_i hn
      by_cases hik : i = k
      · subst hik
        exact hn
      · exact place_above x out k i h1 (by omega)
theorem place_at (x : Fl) (out : List Fl) : ∀ k, 0 < place x out k → cfF (out[place x out k - 1]?.getD default) x < 0
  | 0, h => absurd h (Nat.not_lt_zero _)
  | k + 1, h => by
    simp only [place] at h ⊢
    split at h
    · rename_i hn
      rw [if_pos hn]
      simpa using hn
    · rename_i hn
      rw [if_neg hn]
      exact place_at x out k h

theorem getD_at {out : List Fl} {i : Nat} (h : i < out.length) : out[i]?.getD default = out[i] := by simp [h]

theorem ins_up {out : List Fl} {x : Fl} (h : Up out) (hx : ∀ y ∈ out, y.nm ≠ x.nm) : Up (insOne out x) := by
  have hle := place_le x out out.length
  have hlow : ∀ y ∈ out.take (place x out out.length), cfF y x < 0 := by
    intro y hy
    obtain ⟨i, hi, rfl⟩ := List.getElem_of_mem hy
    have hi2 : i < place x out out.length := by simp at hi; omega
    have h1 := place_at x out out.length (by omega)
    rw [getD_at (by omega)] at h1
    rw [List.getElem_take]
    by_cases he : i = place x out out.length - 1
    · subst he
      exact h1
    · exact cfF_trans ((List.pairwise_iff_getElem.1 h) i (place x out out.length - 1) (by omega) (by omega) (by omega)) h1
  have hhigh : ∀ y ∈ out.drop (place x out out.length), cfF x y < 0 := by
    intro y hy
    obtain ⟨i, hi, rfl⟩ := List.getElem_of_mem hy
    have hi2 : place x out out.length + i < out.length := by simp at hi; omega
    rw [List.getElem_drop]
    have h1 := place_above x out out.length (place x out out.length + i) (by omega) hi2
    rw [getD_at hi2] at h1
    have h2 := hx _ (List.getElem_mem hi2)
    have h3 : ¬ cfF out[place x out out.length + i] x = 0 := fun e => h2 (cfF_zero.1 e)
    have h4 := cfF_anti out[place x out out.length + i] x
    omega
  unfold Up insOne
  rw [List.pairwise_append]
  refine ⟨h.sublist (List.take_sublist _ _), ?_, ?_⟩
  · rw [List.pairwise_cons]
    exact ⟨hhigh, h.sublist (List.drop_sublist _ _)⟩
  · intro a ha b hb
    rcases List.mem_cons.1 hb with rfl | hb
    · exact hlow a ha
    · exact cfF_trans (hlow a ha) (hhigh b hb)
theorem ins_perm (out : List Fl) (x : Fl) : (insOne out x).Perm (x :: out) := by
  unfold insOne
  refine List.perm_middle.trans ?_
  rw [List.take_append_drop]
theorem ins_len (out : List Fl) (x : Fl) : (insOne out x).length = out.length + 1 := by
  have := (ins_perm out x).length_eq
  simpa using this

theorem insAll_up : ∀ (r out res : List Fl), Up out → insAll out r = some res → Up res ∧ res.Perm (out ++ r)
  | [], out, res, h, e => by
    simp [insAll] at e
    subst e
    exact ⟨h, by simp⟩
  | x :: r, out, res, h, e => by
    simp only [insAll] at e
    split at e
    · cases e
    · rename_i hn
      have hx : ∀ y ∈ out, y.nm ≠ x.nm := by simpa using hn
      obtain ⟨h1, h2⟩ := insAll_up r (insOne out x) res (ins_up h hx) e
      refine ⟨h1, h2.trans ?_⟩
      have h3 := (ins_perm out x).append_right r
      exact h3.trans (by simpa using (List.perm_middle (a := x) (l₁ := out) (l₂ := r)).symm)
theorem insAll_none : ∀ (r out : List Fl), insAll out r = none → ¬ ((out ++ r).map Fl.nm).Nodup
  | [], out, e => by simp [insAll] at e
  | x :: r, out, e => by
    simp only [insAll] at e
    split at e
    · rename_i hn
      simp only [List.any_eq_true, decide_eq_true_eq] at hn
      obtain ⟨y, hy, hyx⟩ := hn
      intro hnd
      rw [List.map_append, List.nodup_append] at hnd
      exact hnd.2.2 y.nm (List.mem_map.2 ⟨y, hy, rfl⟩) x.nm (by simp) hyx
    · have h1 := insAll_none r (insOne out x) e
      intro hnd
      apply h1
      have h3 : (insOne out x ++ r).Perm (out ++ x :: r) := ((ins_perm out x).append_right r).trans (by simpa using (List.perm_middle (a := x) (l₁ := out) (l₂ := r)).symm)
      exact ((h3.map Fl.nm).nodup_iff).2 hnd
theorem up_nodup {d : List Fl} (h : Up d) : (d.map Fl.nm).Nodup := by
  rw [List.Nodup, List.pairwise_map]
  refine h.imp ?_
  intro a b hab e
  have := cfF_zero.2 e
  omega
theorem up_eq {d e : List Fl} (h1 : Up d) (h2 : Up e) (hp : d.Perm e) : d = e :=
  List.Perm.eq_of_pairwise (fun a b _ _ hab hba => by have := cfF_anti a b; omega) h1 h2 hp

/-- Of the sorted ones: no two neighbours have one name, and they are those that are put in one by one. -/
theorem sorted_ins {d d' : List Fl} (hp : d'.Perm d) (hu : Up d') : insAll [] d = some d' := by
  cases e : insAll [] d with
  | none =>
    refine absurd ?_ (insAll_none d [] e)
    exact ((hp.map Fl.nm).nodup_iff).1 (up_nodup hu)
  | some res =>
    obtain ⟨h1, h2⟩ := insAll_up d [] res List.Pairwise.nil e
    rw [up_eq h1 hu (by simpa using h2.trans hp.symm)]
/-- .. and where two have one name, none are told. -/
theorem dup_ins {d d' : List Fl} {i j : Nat} (hp : d'.Perm d) (hi : i < d'.length) (hj : j < d'.length) (hij : i < j) (he : d'[i].nm = d'[j].nm) : insAll [] d = none := by
  cases e : insAll [] d with
  | none => rfl
  | some res =>
    obtain ⟨h1, h2⟩ := insAll_up d [] res List.Pairwise.nil e
    have hnd := up_nodup h1
    have h3 : (d'.map Fl.nm).Nodup := ((hp.map Fl.nm).nodup_iff).2 (((h2.map Fl.nm).nodup_iff).1 hnd)
    rw [List.Nodup, List.pairwise_map] at h3
    exact absurd he (List.pairwise_iff_getElem.1 h3 i j hi hj hij)
/-- Neighbours that differ, in a sorted row: each above the one ahead. -/
theorem sorted_up {d : List Fl} (hs : ∀ i j (hi : i < d.length) (hj : j < d.length), i < j → ¬ cfF d[j] d[i] < 0) (hn : ∀ i (hi : i + 1 < d.length), d[i].nm ≠ d[i + 1].nm) : Up d := by
  have h1 : ∀ i (hi : i + 1 < d.length), cfF d[i] d[i + 1] < 0 := by
    intro i hi
    have a := hs i (i + 1) (by omega) hi (by omega)
    have b := cfF_anti d[i] d[i + 1]
    have c : ¬ cfF d[i] d[i + 1] = 0 := fun e => hn i hi (cfF_zero.1 e)
    omega
  refine List.pairwise_iff_getElem.2 fun i j hi hj hij => ?_
  obtain ⟨m, rfl⟩ : ∃ m, j = i + 1 + m := ⟨j - (i + 1), by omega⟩
  induction m with
  | zero => exact h1 i hj
  | succ m ih => exact cfF_trans (ih (by omega) (by omega)) (h1 (i + 1 + m) hj)

def mkErr (d : List Fl) : Int := match insAll [] d with
  | none => 13
  | some out => (docOf out).err
def mkTree (d : List Fl) : GV := match insAll [] d with
  | none => gZ
  | some out => if (docOf out).err = 0 then docOf out else gZ
end Go.Proofs.Ytkjijepepbgciab

namespace Go.Proofs.Ytkjijepepbgciab
open Go.RowKit Go.Sort

set_option maxHeartbeats 1000000 in
theorem cmpF_any (x y : Fl) (W : World) : Calls Try.prog 26 #[.agg x.enc.toArray, .agg y.enc.toArray] W fun e w' => e = .returned (.int .i64 (cfF x y)) ∧ ∃ q os', w' = grow (W.drewN q) os' := by
  have hcon := fun W' => Try.strings_Compare x.nm y.nm W'
  rw [show Lib.compareBytes x.nm.data.toList y.nm.data.toList = cfF x y from rfl] at hcon
  generalize cfF x y = r at hcon ⊢
  unfold Fl.enc
  go_enter Try.func26, Try.ntmps26
  go_wp2_with (go_at_call 27; refine (hcon _).mono ?_; rintro e w' ⟨rfl, rfl⟩)
  go_ret
  exact ⟨rfl, 0, _, by rw [alloc_eq_grow, alloc_eq_grow, grow_grow]; rfl⟩

theorem flat_cells (d : List Fl) : ∀ t, t < d.length * 6 → (fldCells d)[t]? = some ((flatK Fl.enc 6 d.toArray)[t]!) := by
  intro t ht
  rw [get_flatK _ _ _ t (by simpa using ht)]
  have hi : t / 6 < d.length := by omega
  have h := fldCells_at d (t / 6) (t % 6) (by omega) hi
  rw [show t / 6 * 6 + t % 6 = t by omega] at h
  rw [h]
  have e : d.toArray[t / 6]! = d[t / 6] := by simp [hi]
  rw [e, List.getElem?_eq_getElem (by rw [enc_len]; omega)]
  congr 1
  rw [getElem!_pos _ _ (by rw [enc_len]; omega)]

theorem sort_below {enc : Fl → List Value} {k : Nat} {w : World} {blk off m B : Nat} {d : Array Fl} {os : Array Obj} (hB : B ≤ blk) (hg : blk < w.heap.size) : Go.RowKit.Below B w (sortWorldK enc k w blk off m d os) := by
  refine ⟨rfl, rfl, rfl, ?_, fun i hi => ?_⟩
  · exact size_sortWorldK_c enc k w blk off m d os
  · have hs : (putRowK enc k (Sort.ahead w m) blk off d).heap.size = w.heap.size := size_putRowK enc k _ _ _ _
    have h1 : (putRowK enc k (Sort.ahead w m) blk off d).heap[i]? = w.heap[i]? := by
      unfold putRowK putRow mapBlock Sort.ahead
      simp only [Array.getElem?_modify]
      rw [if_neg (by omega)]
    unfold sortWorldK
    rw [heap_grow_old _ _ (by omega), h1]

set_option maxHeartbeats 1000000 in
theorem sortV_any (d : List Fl) (g c B : Nat) (w : World) (hB : B ≤ g) (hown : w.ownsRow B 39 6 (.slice (some ⟨g, 0, none⟩) d.length c) d.length (fldCells d)) (hlen : d.length < 4611686018427387904) :
    Calls Try.prog 25 #[.slice (some ⟨g, 0, none⟩) d.length c, .func (.func 26) #[] #[]] w fun e w' => e = .returned (.tuple #[]) ∧
      ∃ d' : List Fl, d'.Perm d ∧ (∀ i j (hi : i < d'.length) (hj : j < d'.length), i < j → ¬ cfF d'[j] d'[i] < 0) ∧ (∀ k u, (fldCells d')[k]? = some u → w'.cell? ⟨g, k, none⟩ = some u) ∧ Go.RowKit.Below B w w' := by
  have eg : ∀ args w, (callFunc 26 args).run Try.prog w = .ok (.enter 26 args) w := enters_of Try.func26 (by kernel_rfl) rfl
  have hH : HoldsK Fl.enc 6 w g 0 d.toArray := by
    intro j hj
    rw [size_flatK] at hj
    have hj' : j < d.length * 6 := by simpa using hj
    refine ⟨?_, by rw [Nat.zero_add]; exact hown.frozenAt j⟩
    rw [Nat.zero_add, hown.cellAt j hj', flat_cells d j hj']
    rfl
  have hblk : g < w.heap.size := (hown.lt g rfl).2
  have hcon := AnyQ.slices_SortFunc Try.sortF 6 Try.isAgg39 Try.sizeOf39 Fl.enc enc_len enc_one cfF swoF 26 #[] g 0 c d.toArray w eg (fun _ _ _ _ x y => cmpF_any x y _) hH hblk (by simpa using hlen)
  have hcon2 : Calls Try.prog 25 #[.slice (some ⟨g, 0, none⟩) d.toArray.size c, .func (.func 26) #[] #[]] w _ := hcon
  rw [List.size_toArray] at hcon2
  refine hcon2.mono ?_
  rintro e w' ⟨rfl, da, n, os, hp, hs, rfl⟩
  obtain ⟨hp1, _, hp3⟩ := hp
  have hsz : da.size = d.length := by simpa using hp1
  refine ⟨rfl, da.toList, ?_, ?_, ?_, sort_below hB hblk⟩
  · have := hp3
    rw [Array.extract_eq_self_of_le (by omega), Array.extract_eq_self_of_le (by simp)] at this
    simpa using this
  · intro i j hi hj hij
    have hj' : j < da.size := by simpa using hj
    have h := hs i j (Nat.zero_le _) hij (by simpa [hsz] using hj)
    rw [getElem!_pos da j hj', getElem!_pos da i (by omega)] at h
    simpa [ltOf] using h
  · intro k u hk
    have hlt := (List.getElem?_eq_some_iff.1 hk).1
    rw [fldCells_len] at hlt
    have hK := holdsK_sortWorldK_c Fl.enc 6 w g 0 d.toArray da n os hH hblk (by simpa using hp1)
    have h1 := (hK k (by rw [size_flatK]; simpa using hlt)).1
    rw [Nat.zero_add] at h1
    rw [h1]
    have h2 := flat_cells da.toList k hlt
    rw [hk] at h2
    simpa using h2.symm

set_option maxHeartbeats 2000000 in
set_option maxRecDepth 1000000 in
theorem cloneV_any (d : List Fl) (fa : Option Addr) (fc : Nat) (w : World) (hr : FRow w fa d) (hlen : d.length ≤ 1000000000) :
    Calls Try.prog 24 #[.slice fa d.length fc] w fun e w' => ∃ v', e = .returned v' ∧ w'.ownsRow w.heap.size 39 6 v' d.length (fldCells d) ∧ Go.RowKit.Below w.heap.size w w' := by
  obtain ⟨i0, hi, hz0, hz1, hz2⟩ := info_parts infoField
  have hml : maxLen = 9223372036854775807 := rfl
  rcases hr with rfl | ⟨b, o, rfl, hc⟩
  · cases fa with
    | none => 
      refine (AnyE.slices_Clone_nil Try.cloneF 0 fc w).mono ?_
      rintro e w' ⟨rfl, rfl⟩
      exact ⟨_, rfl, World.ownsRow_nil _ _ _ _, RowKit.Below.refl _ _⟩
    | some a =>
      have hsrc : Src Try.prog i0.size 24 (.slice (some a) 0 fc) 0 [] (w.alloc (.cells #[] 39)) := Src.ofSlice _ Try.underlying24 a 0 fc [] (by simp) (fun j u h => by simp at h) (fun u h => by simp at h)
      show Calls Try.prog 24 #[.slice (some a) 0 fc] w _
      have q22 : ∀ (w : World) (a : Option Addr) (n c n' c' : Nat), (binOp .eql 24 (.slice a n c) (.slice none n' c')).run Try.prog w = .ok (.bool a.isNone) w := fun w a n c n' c' => Lib.run_eql_slice_nil w _ _ a n c n' c' Try.underlying24
      go_enter Try.func24, Try.ntmps24
      go_wp2_with (at_builtin; refine wpList_append_nothing rfl _ _ 24 24 rfl 39 i0 Try.underlying24 hi (some ⟨w.heap.size, 0, none⟩) 0 0 (Nat.le_refl _) rfl _ rfl hsrc ?_)
      go_ret
      exact ⟨_, rfl, World.ownsRow_made w #[] 0 (Nat.le_refl _) (Nat.zero_le _) (by simp), (RowKit.Below.refl _ w).alloc (Nat.le_refl _) _⟩
  · refine (AnyE.slices_Clone Try.cloneF i0 _ 6 96 hi hz0 hz1 hz2 rfl (by decide) Try.sizeOf39 b o d.length fc (fldCells d) w (fldCells_len d) (by omega) (by omega) hc (fldCells_one d)).mono ?_
    rintro e w' ⟨v', rfl, h1, _, h2⟩
    exact ⟨v', rfl, h1, h2⟩
end Go.Proofs.Ytkjijepepbgciab

namespace Go.Proofs.Ytkjijepepbgciab
open Go.RowKit Go.Sort

def nodesF (d : List Fl) : Nat := (d.map fun x => x.g.nodes).sum
def massF (d : List Fl) : Nat := (d.map fun x => x.nm.size + x.g.mass).sum

theorem sum_perm {α : Type} {h : α → Nat} {d e : List α} (hp : d.Perm e) : (d.map h).sum = (e.map h).sum := by
  induction hp with
  | nil => rfl
  | cons x _ ih => simp [ih]
  | swap x y l => simp; omega
  | trans _ _ ih1 ih2 => exact ih1.trans ih2
theorem range_map {d : List Fl} {h : Nat → Nat} {k : Fl → Nat} (hk : ∀ i (hi : i < d.length), h i = k d[i]) : (List.range d.length).map h = d.map k := by
  apply List.ext_getElem
  · simp
  · intro i h1 h2
    simp at h1
    simp [hk i h1]
theorem doc_nodes (d : List Fl) : (docOf d).nodes = 1 + nodesF d := by
  simp only [docOf, gD, GV.nodes, nodesF]
  rw [range_map (k := fun x => x.g.nodes) (fun i hi => by rw [gOf_at hi])]
  simp
theorem doc_mass (d : List Fl) : (docOf d).mass = 1 + massF d := by
  simp only [docOf, gD, GV.mass, massF]
  rw [range_map (k := fun x => x.nm.size + x.g.mass) (fun i hi => by rw [gOf_at hi, nmOf_at hi])]
  show 1 + 0 + 0 + _ = _
  omega
theorem ok_perm {w : World} {d e : List Fl} (hp : d.Perm e) (h : ∀ x ∈ e, x.ok w) : ∀ x ∈ d, x.ok w := fun x hx => h x (hp.mem_iff.1 hx)

theorem sortAll (d : List Fl) (a : Option Addr) (c B : Nat) (w : World) (hown : w.ownsRow B 39 6 (.slice a d.length c) d.length (fldCells d)) (hlen : d.length ≤ 1000000000) :
    Calls Try.prog 25 #[.slice a d.length c, .func (.func 26) #[] #[]] w fun e w' => e = .returned (.tuple #[]) ∧
      ∃ d' : List Fl, d'.Perm d ∧ (∀ i j (hi : i < d'.length) (hj : j < d'.length), i < j → ¬ cfF d'[j] d'[i] < 0) ∧ FRow w' a d' ∧ Go.RowKit.Below B w w' := by
  by_cases h0 : d.length = 0
  · have hd : d = [] := List.length_eq_zero_iff.1 h0
    subst hd
    refine (AnyF.slices_SortFunc_none Try.sortF a c _ w).mono ?_
    rintro e w' ⟨rfl, rfl⟩
    exact ⟨rfl, [], List.Perm.refl _, fun i j hi => absurd hi (Nat.not_lt_zero _), Or.inl rfl, RowKit.Below.refl _ _⟩
  · obtain ⟨g, c', e, hB, _⟩ := own_cell hown (by omega)
    cases e
    refine (sortV_any d g c B w hB hown (by omega)).mono ?_
    rintro e w' ⟨rfl, d', h1, h2, h3, h4⟩
    exact ⟨rfl, d', h1, h2, Or.inr ⟨g, 0, rfl, fun k u hk => by rw [Nat.zero_add]; exact h3 k u hk⟩, h4⟩

theorem frow_names {w : World} {a : Option Addr} {d : List Fl} (h : FRow w a d) {i : Nat} (hi : i < d.length) : ∃ b o, a = some ⟨b, o, none⟩ ∧ ∀ j (hj : j < d.length), w.cell? ⟨b, o + j * 6, none⟩ = some (.string d[j].nm) := by
  rcases h with rfl | ⟨b, o, rfl, hc⟩
  · exact absurd hi (Nat.not_lt_zero _)
  · refine ⟨b, o, rfl, fun j hj => ?_⟩
    have e0 := fldCells_at d j 0 (by omega) hj
    rw [Nat.add_zero] at e0
    exact hc _ _ (e0.trans (by simp [Fl.enc]))

theorem own_slice {w : World} {base e size n : Nat} {v : Value} {xs : List Value} (h : w.ownsRow base e size v n xs) : ∃ a c, v = .slice a n c ∧ n ≤ c ∧ c ≤ maxLen := own_nil h

set_option maxHeartbeats 4000000 in
set_option maxRecDepth 1000000 in
theorem Make_any (d : List Fl) (fa : Option Addr) (fc : Nat) (w : World) (hr : FRow w fa d) (hd : ∀ x ∈ d, x.ok w) (hN : nodesF d ≤ 5000) (hlen : d.length ≤ 1000000000) :
    Calls Try.prog 15 #[.slice fa d.length fc] w fun e w' => ∃ v, e = .returned (.tuple #[v, .int .i64 (mkErr d)]) ∧ From w.heap.size w' (mkTree d) v ∧ Top w.heap.size w' v ∧ RowKit.Below w.heap.size w w' := by
  have hml : maxLen = 9223372036854775807 := rfl
  obtain ⟨E, hE⟩ : ∃ E, E = mkErr d := ⟨_, rfl⟩
  obtain ⟨G, hG⟩ : ∃ G, G = mkTree d := ⟨_, rfl⟩
  obtain ⟨n, hn⟩ : ∃ n, n = d.length := ⟨_, rfl⟩
  have HE : Hid (E = mkErr d) := hE
  have HG : Hid (G = mkTree d) := hG
  have HNn : Hid (n = d.length) := hn
  have HR : Hid (FRow w fa d) := hr
  have HD : Hid (∀ x ∈ d, x.ok w) := hd
  have hx0 := (RowKit.Below.refl w.heap.size w).alloc (Nat.le_refl _) (.cells #[.int .i64 0, .int .i64 0, .string ⟨#[]⟩, .slice none 0 0, .slice none 0 0] 26)
  have r0 := Blk5.new w (.int .i64 0) (.int .i64 0) (.string ⟨#[]⟩) (.slice none 0 0) (.slice none 0 0)
  have HX0 : Hid (RowKit.Below w.heap.size w _) := hx0
  have HR0 : Hid (Blk5 (w.alloc (.cells #[.int .i64 0, .int .i64 0, .string ⟨#[]⟩, .slice none 0 0, .slice none 0 0] 26)) w.heap.size (.int .i64 0) (.int .i64 0) (.string ⟨#[]⟩) (.slice none 0 0) (.slice none 0 0)) := r0
  have HCL : Hid (∀ u, RowKit.Below w.heap.size w u → Calls Try.prog 24 #[.slice fa n fc] u fun e w' => ∃ v', e = .returned v' ∧ w'.ownsRow u.heap.size 39 6 v' n (fldCells d) ∧ RowKit.Below u.heap.size u w') := by
    intro u hu
    rw [hn]
    exact cloneV_any d fa fc u (FRow.below hr hu) hlen
  have HSO : Hid (∀ (a : Option Addr) (c B : Nat) (u : World), u.ownsRow B 39 6 (.slice a n c) n (fldCells d) → Calls Try.prog 25 #[.slice a n c, .func (.func 26) #[] #[]] u fun e w' => e = .returned (.tuple #[]) ∧
      ∃ d' : List Fl, d'.Perm d ∧ (∀ i j (hi : i < d'.length) (hj : j < d'.length), i < j → ¬ cfF d'[j] d'[i] < 0) ∧ FRow w' a d' ∧ RowKit.Below B u w') := by
    intro a c B u hu
    rw [hn] at hu ⊢
    exact sortAll d a c B u hu hlen
  have hlen' : n ≤ 1000000000 := by omega
  rw [← hE, ← hG, ← hn]
  clear hE hG hn hr hd hx0 r0 hlen
  go_enter Try.func15, Try.ntmps15
  go_wp2_with fail
  refine (HCL.out _ HX0.out).mono ?_
  rintro e w1 ⟨v1, rfl, hown1, b1⟩
  obtain ⟨a, c, rfl, hc1, hc2⟩ := own_slice hown1
  have hs0 := HX0.out.size
  have B1 : Hid (RowKit.Below w.heap.size w w1) := HX0.out.trans (b1.mono hs0)
  have R1 : Hid (Blk5 w1 w.heap.size (.int .i64 0) (.int .i64 0) (.string ⟨#[]⟩) (.slice none 0 0) (.slice none 0 0)) := HR0.out.below b1
  have HO1 : Hid _ := hown1
  clear hown1 b1
  go_wp2_with fail
  refine (HSO.out a c _ _ HO1.out).mono ?_
  rintro e w2 ⟨rfl, d', hp, hsrt, hrow, b2⟩
  have hnd : n = d'.length := by rw [HNn.out]; exact hp.length_eq.symm
  have B2 : Hid (RowKit.Below w.heap.size w w2) := B1.out.trans (b2.mono hs0)
  have R2 : Hid (Blk5 w2 w.heap.size (.int .i64 0) (.int .i64 0) (.string ⟨#[]⟩) (.slice none 0 0) (.slice none 0 0)) := by
    have hlt := HR0.out.lt
    show w2.heap[w.heap.size]? = _
    rw [b2.block w.heap.size hlt]
    exact R1.out
  have HP : Hid (d'.Perm d) := hp
  have HS : Hid (∀ i j (hi : i < d'.length) (hj : j < d'.length), i < j → 0 ≤ cfF d'[j] d'[i]) := fun i j hi hj hij => by have := hsrt i j hi hj hij; omega
  have HW : Hid (FRow w2 a d') := hrow
  have HND : Hid (n = d'.length) := hnd
  clear hp hsrt hrow hnd b2 HO1 B1 R1
  go_wp2_with fail
  go_loopw [5] (fun i wr => ∃ (j : Nat), i = .int .i64 (j + 1 : Nat) ∧ (j = 0 ∨ j + 1 ≤ n) ∧ Hid (∀ i (hi : i + 1 < d'.length), i < j → d'[i].nm ≠ d'[i + 1].nm) ∧ RowKit.Below w2.heap.size w2 wr) (fun i _ => n - (intOf i).toNat)
  case atStart => exact ⟨0, rfl, by omega, fun i hi h => absurd h (Nat.not_lt_zero _), RowKit.Below.refl _ _⟩
  case round =>
    obtain ⟨j, rfl, hj, HJ, hbw⟩ := hrel
    have hB := B2.out.trans (hbw.mono B2.out.size)
    by_cases hlt : j + 1 < n
    · have hlt' : j + 1 < d'.length := by rw [← HND.out]; exact hlt
      obtain ⟨b, o, rfl, hnm⟩ := frow_names HW.out (i := j) (by omega)
      have e1 := below_keeps hbw _ _ _ (hnm j (by omega))
      have e2 := below_keeps hbw _ _ _ (hnm (j + 1) hlt')
      clear hnm
      obtain ⟨x, hx⟩ : ∃ x, x = d'[j].nm := ⟨_, rfl⟩
      obtain ⟨y, hy⟩ : ∃ y, y = d'[j + 1].nm := ⟨_, rfl⟩
      rw [← hx] at e1
      rw [← hy] at e2
      by_cases heq : x = y
      · have he : (x.toList == y.toList) = true := by rw [heq]; simp
        have hno : insAll [] d = none := dup_ins HP.out (by omega) hlt' (Nat.lt_succ_self j) (by rw [← hx, ← hy]; exact heq)
        have hE : E = 13 := by rw [HE.out]; simp [mkErr, hno]
        have hG : G = gZ := by rw [HG.out]; simp [mkTree, hno]
        subst hE
        subst hG
        obtain ⟨z0, z1, z2, z3, z4⟩ := (Blk5.below R2.out hbw).cells
        obtain ⟨q0, q1, q2, q3, q4⟩ := (Blk5.below R2.out hbw).free
        have HB : Hid (RowKit.Below w.heap.size w wr) := hB
        clear hx hy heq hno hB
        go_wp2_with fail
        go_quiet (fail)
        go_wp2
        refine bodyPost_ret (v := .tuple #[vZ, .int .i64 13]) ?_ rfl ⟨_, rfl, from_Z _ _, top_Z _ _, ?_⟩
        · have hres : Try.f15.results = #[.cell 2 26, .tmp 3] := by kernel_rfl
          simp only [results, hres]
          go_simp
          rfl
        · exact (((((below_drewN HB.out _).setCell (Nat.le_refl _) _).setCell (Nat.le_refl _) _).setCell (Nat.le_refl _) _).setCell (Nat.le_refl _) _).setCell (Nat.le_refl _) _
      · have he : (x.toList == y.toList) = false := beq_false_of_ne (str_ne heq)
        have HNE : Hid (d'[j].nm ≠ d'[j + 1].nm) := by rw [← hx, ← hy]; exact heq
        clear hx hy heq hB
        go_wp2_with fail
        go_quiet (fail)
        go_wp2
        go_roundw
        case rel =>
          refine ⟨j + 1, by go_num, by omega, fun i hi hij => ?_, below_drewN hbw _⟩
          by_cases h : i < j
          · exact HJ.out i hi h
          · obtain rfl : i = j := by omega
            exact HNE.out
        case measure => simp [intOf]; omega
    · have hup : Up d' := sorted_up (fun i j hi hj hij => by have := HS.out i j hi hj hij; omega) (fun i hi => HJ.out i hi (by have := HND.out; omega))
      have hins : insAll [] d = some d' := sorted_ins HP.out hup
      have hE : E = (docOf d').err := by rw [HE.out]; simp [mkErr, hins]
      have hG : G = if (docOf d').err = 0 then docOf d' else gZ := by rw [HG.out]; simp [mkTree, hins]
      have hok := ok_perm HP.out HD.out
      have hnn := HND.out
      have hL : Lies wr (docOf d') (vD a d'.length c) := lies_doc (FRow.below HW.out hbw) (fun x hx => (hok x hx).below hB) (by omega) (by omega)
      rw [← hnn] at hL
      have hNd : (docOf d').nodes ≤ 5001 := by
        rw [doc_nodes, show nodesF d' = nodesF d from sum_perm HP.out]
        omega
      have HL : Hid (Lies wr (docOf d') (.agg #[.int .i64 6, .int .i64 0, .string ⟨#[]⟩, .slice none 0 0, .slice a n c])) := hL
      have HNd : Hid ((docOf d').nodes ≤ 5001) := hNd
      have HEE : Hid (E = (docOf d').err) := hE
      have HGG : Hid (G = if (docOf d').err = 0 then docOf d' else gZ) := hG
      have R3 : Hid (Blk5 wr w.heap.size (.int .i64 0) (.int .i64 0) (.string ⟨#[]⟩) (.slice none 0 0) (.slice none 0 0)) := Blk5.below R2.out hbw
      have HB : Hid (RowKit.Below w.heap.size w wr) := hB
      have hbs := hB.size
      clear hup hins hE hG hok hnn hL hNd hB
      go_wp2_with fail
      have hba := (RowKit.Below.refl wr.heap.size wr).alloc (Nat.le_refl _) (.cells #[.int .i64 6, .int .i64 0, .string ⟨#[]⟩, .slice none 0 0, .slice a n c] 26)
      refine (Good_any (docOf d') _ _ (HL.out.below hba) (by have := HNd.out; omega)).mono ?_
      rintro e w4 ⟨rfl, b4⟩
      have p4 : Blk5 w4 wr.heap.size (.int .i64 6) (.int .i64 0) (.string ⟨#[]⟩) (.slice none 0 0) (.slice a n c) := (Blk5.new wr (.int .i64 6) (.int .i64 0) (.string ⟨#[]⟩) (.slice none 0 0) (.slice a n c)).below b4
      have r4 : Blk5 w4 w.heap.size (.int .i64 0) (.int .i64 0) (.string ⟨#[]⟩) (.slice none 0 0) (.slice none 0 0) := (R3.out.below hba).below b4
      have hb4 : RowKit.Below wr.heap.size wr w4 := hba.trans (b4.mono (by simp))
      have HB4 : Hid (RowKit.Below w.heap.size w w4) := HB.out.trans (hb4.mono hbs)
      have HL4 : Hid _ := HL.out.below hb4
      have hs4 := hb4.size
      have hlt4 := p4.lt
      rw [← HEE.out]
      obtain ⟨z0, z1, z2, z3, z4⟩ := r4.cells
      obtain ⟨q0, q1, q2, q3, q4⟩ := r4.free
      obtain ⟨c0, c1, c2, c3, c4⟩ := p4.cells
      have HR4 : Hid (Blk5 w4 w.heap.size (.int .i64 0) (.int .i64 0) (.string ⟨#[]⟩) (.slice none 0 0) (.slice none 0 0)) := r4
      clear hba b4 hb4 r4 p4
      by_cases h0 : E = 0
      · have hG : G = docOf d' := by rw [HGG.out, ← HEE.out, if_pos h0]
        subst h0
        subst hG
        go_wp2_with fail
        refine (fresh_any (docOf d') _ _ HL4.out (by have := HNd.out; omega)).mono ?_
        rintro e w5 ⟨v5, rfl, hF5, hT5, b5⟩
        obtain ⟨k1, n1, s1, la1, ln1, lc1, fa1, fn1, fc1, rfl⟩ := hF5.lies.agg
        have r5 := HR4.out.below b5
        have hs5 := HB4.out.size
        have hr4 := HR4.out.lt
        clear z0 z1 z2 z3 z4 q0 q1 q2 q3 q4 c0 c1 c2 c3 c4
        obtain ⟨z0, z1, z2, z3, z4⟩ := r5.cells
        obtain ⟨q0, q1, q2, q3, q4⟩ := r5.free
        have HF5 : Hid (From w4.heap.size w5 (docOf d') _) := hF5
        have HT5 : Hid (Top w4.heap.size w5 _) := hT5
        have HB5 : Hid (RowKit.Below w.heap.size w w5) := HB4.out.trans (b5.mono hs5)
        clear hF5 hT5 b5 r5
        go_wp2_with fail
        refine bodyPost_ret (v := .tuple #[.agg #[.int .i64 k1, .int .i64 n1, .string s1, .slice la1 ln1 lc1, .slice fa1 fn1 fc1], .int .i64 0]) ?_ rfl ⟨_, rfl, ?_, ?_, ?_⟩
        · have hres : Try.f15.results = #[.cell 2 26, .tmp 3] := by kernel_rfl
          simp only [results, hres]
          go_simp
        · exact From.le ((((((From.setCell HF5.out hr4 _).setCell hr4 _).setCell hr4 _).setCell hr4 _).setCell hr4 _)) hs5
        · exact Top.le ((((((Top.setCell HT5.out hr4 _).setCell hr4 _).setCell hr4 _).setCell hr4 _).setCell hr4 _)) hs5
        · exact ((((HB5.out.setCell (Nat.le_refl _) _).setCell (Nat.le_refl _) _).setCell (Nat.le_refl _) _).setCell (Nat.le_refl _) _).setCell (Nat.le_refl _) _
      · have hG : G = gZ := by rw [HGG.out, ← HEE.out, if_neg h0]
        subst hG
        go_wp2_with fail
        refine bodyPost_ret (v := .tuple #[vZ, .int .i64 E]) ?_ rfl ⟨_, rfl, from_Z _ _, top_Z _ _, ?_⟩
        · have hres : Try.f15.results = #[.cell 2 26, .tmp 3] := by kernel_rfl
          simp only [results, hres]
          go_simp
          rfl
        · exact ((((HB4.out.setCell (Nat.le_refl _) _).setCell (Nat.le_refl _) _).setCell (Nat.le_refl _) _).setCell (Nat.le_refl _) _).setCell (Nat.le_refl _) _
end Go.Proofs.Ytkjijepepbgciab
