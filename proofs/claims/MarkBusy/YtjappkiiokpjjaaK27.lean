/- Some texts in one: each opens with its own remark. -/
import Derived.Test.YtjappkiiokpjjaaK14
import Derived.Test.YtjappkiiokpjjaaK18
import Derived.Test.YtjappkiiokpjjaaK26
import Derived.Test.YtjappkiiokpjjaaK20
/- A marking while others change the heap: what it keeps (no walk). -/
namespace Go.Proofs.Ytjappkiiokpjjaa
open Go.RowKit

/-- A marking at work, whatever was changed since it began: all from the n0-th on are marked. -/
structure BInv (n0 : Nat) (Os : List Ob) (rt : List Nat) (s : List Ob × List Nat) : Prop where
 like : Like s.1 Os
 stack : ∀ j, j ∈ s.2 → Mkd s.1 j
 closed : ∀ j, Mkd s.1 j → j ∉ s.2 → ∀ y k, y ∈ refsO (oat Os j) → look (plL 0 Os) y = some k → Mkd s.1 k
 roots : ∀ y k, y ∈ rt → look (plL 0 Os) y = some k → Mkd s.1 k
 made : ∀ k, n0 ≤ k → k < Os.length → Mkd s.1 k
theorem MInv.busy {Os : List Ob} {rt : List Nat} {s : List Ob × List Nat} (h : MInv Os rt s) : BInv Os.length Os rt s := ⟨h.like, h.stack, h.closed, h.roots, fun k h1 h2 => by omega⟩
section
variable {n0 : Nat} {Os : List Ob} {rt : List Nat} {s : List Ob × List Nat}
theorem BInv.unit (h : BInv n0 Os rt s) : BInv n0 Os rt (unitX s) := by
 obtain ⟨Ps, K⟩ := s
 rcases List.eq_nil_or_concat K with rfl | ⟨K', k, rfl⟩
 ·exact h
 ·rw [List.concat_eq_append] at h ⊢
  rw [unitX_some]
  have hl := h.like
  have hr : refsO (oat Ps k) = refsO (oat Os k) := Like.refsO hl k
  obtain ⟨b1, b2, b3, b4, b5⟩ := putAll_spec (refsO (oat Ps k)) (Ps, K')
  have hp : plL 0 ((Ps, K') : List Ob × List Nat).1 = plL 0 Os := hl.pl 0
  rw [hp, hr] at b3 b4 b5
  rw [hr] at b1 b2 ⊢
  refine ⟨(like_putAll _ (Ps, K')).trans hl, fun j hj => ?_, fun j hj hn y k' hy hlk => ?_, fun y k' hy hlk => b1 k' (h.roots y k' hy hlk), fun j h1 h2 => b1 j (h.made j h1 h2)⟩
  ·rcases b5 j hj with hj | ⟨y, hy, hlk⟩
   ·exact b1 j (h.stack j (List.mem_append_left _ hj))
   ·exact b3 y j hy hlk
  ·by_cases e : j = k
   ·subst e; exact b3 y k' hy hlk
   ·rcases b4 j hj with hj | ⟨_, hj⟩
    ·refine b1 k' (h.closed j hj (fun hm => ?_) y k' hy hlk)
     rcases List.mem_append.1 hm with hm | hm
     ·exact hn (b2 j hm)
     ·simp at hm; exact e hm
    ·exact absurd hj hn
theorem BInv.step : ∀ (n : Nat) {s : List Ob × List Nat}, BInv n0 Os rt s → BInv n0 Os rt (stepX n s)
 | 0, _, h => h
 | n + 1, s, h => by
  unfold stepX
  split
  ·exact h
  ·exact BInv.step n h.unit
/-- Nothing waits: what is reached is marked. -/
theorem BInv.done (h : BInv n0 Os rt s) (h0 : s.2 = []) {k : Nat} (hr : Rch Os rt k) : Mkd s.1 k := by
 induction hr with
 | root hy hl => exact h.roots _ _ hy hl
 | ref _ hy hl ih => exact h.closed _ ih (by rw [h0]; simp) _ _ hy hl
theorem Like.set {Ps : List Ob} (h : Like Ps Os) {k : Nat} (hk : k < Os.length) (j y : Nat) : Like (Ps.set k ((oat Ps k).put j y)) (Os.set k ((oat Os k).put j y)) := by
 have hk2 : k < Ps.length := by rw [h.1]; exact hk
 refine ⟨by simp [h.1], fun q => ?_⟩
 rw [oat_set _ _ hk2, oat_set _ _ hk]
 obtain ⟨h1, h2, h3, h4⟩ := h.2 k
 by_cases e : q = k
 ·rw [if_pos e, if_pos e]
  exact ⟨h1, h2, h3, by show (oat Ps k).ws.set j y = (oat Os k).ws.set j y; rw [h4]⟩
 ·rw [if_neg e, if_neg e]; exact h.2 q
theorem mkd_set {Ps : List Ob} {k : Nat} (hk : k < Ps.length) (j y q : Nat) : Mkd (Ps.set k ((oat Ps k).put j y)) q ↔ Mkd Ps q := by
 unfold Mkd
 rw [oat_set _ _ hk]
 by_cases e : q = k
 ·rw [if_pos e, e]; rfl
 ·rw [if_neg e]
theorem pl_put {k : Nat} (j y : Nat) : plL 0 (Os.set k ((oat Os k).put j y)) = plL 0 Os := plL_set Os 0 k _ (by simp [Ob.put, osz])
theorem refs_put_mem {o : Ob} {j y x : Nat} (h : x ∈ refsO (o.put j y)) : x ∈ refsO o ∨ (x = y ∧ j < o.refs) := by
 unfold refsO at h ⊢
 have h' : x ∈ (o.ws.set j y).take o.refs := h
 obtain ⟨q, hq, e⟩ := List.mem_iff_getElem.1 h'
 rw [List.length_take, List.length_set] at hq
 rw [List.getElem_take, List.getElem_set] at e
 by_cases e1 : j = q
 ·rw [if_pos e1] at e
  exact Or.inr ⟨e.symm, by omega⟩
 ·rw [if_neg e1] at e
  left
  rw [← e]
  exact List.mem_iff_getElem.2 ⟨q, by rw [List.length_take]; omega, by rw [List.getElem_take]⟩
/-- A word of an object is set, a ref but to what is marked. -/
theorem BInv.put (h : BInv n0 Os rt s) {k : Nat} (hk : k < Os.length) (j y : Nat) (hy : j < (oat Os k).refs → ∀ q, look (plL 0 Os) y = some q → Mkd s.1 q) : BInv n0 (Os.set k ((oat Os k).put j y)) rt (s.1.set k ((oat s.1 k).put j y), s.2) := by
 have hk2 : k < s.1.length := by rw [h.like.1]; exact hk
 refine ⟨h.like.set hk j y, fun q hq => (mkd_set hk2 j y q).2 (h.stack q hq), fun q hm hn x t hx ht => (mkd_set hk2 j y t).2 ?_, fun x t hx ht => (mkd_set hk2 j y t).2 (h.roots x t hx (by rw [pl_put] at ht; exact ht)), fun q h1 h2 => (mkd_set hk2 j y q).2 (h.made q h1 (by simpa using h2))⟩
 rw [pl_put] at ht
 have hm' := (mkd_set hk2 j y q).1 hm
 rw [oat_set _ _ hk] at hx
 by_cases e : q = k
 ·rw [if_pos e] at hx
  rcases refs_put_mem hx with hx | ⟨rfl, hj⟩
  ·exact h.closed q hm' hn x t (by rw [e]; exact hx) ht
  ·exact hy hj t ht
 ·rw [if_neg e] at hx
  exact h.closed q hm' hn x t hx ht
theorem BInv.root (h : BInv n0 Os rt s) (k y : Nat) (hy : ∀ q, look (plL 0 Os) y = some q → Mkd s.1 q) : BInv n0 Os (rt.set k y) s := by
 refine ⟨h.like, h.stack, h.closed, fun x t hx ht => ?_, h.made⟩
 rcases List.mem_or_eq_of_mem_set hx with hx | hx
 ·exact h.roots x t hx ht
 ·rw [hx] at ht; exact hy t ht
/-- Roots or a ref to what is then marked: the change first, the mark behind it. -/
structure BLate (n0 : Nat) (Os : List Ob) (rt : List Nat) (s : List Ob × List Nat) (y : Nat) : Prop where
 like : Like s.1 Os
 stack : ∀ j, j ∈ s.2 → Mkd s.1 j
 closed : ∀ j, Mkd s.1 j → j ∉ s.2 → ∀ x k, x ∈ refsO (oat Os j) → look (plL 0 Os) x = some k → Mkd s.1 k ∨ x = y
 roots : ∀ x k, x ∈ rt → look (plL 0 Os) x = some k → Mkd s.1 k ∨ x = y
 made : ∀ k, n0 ≤ k → k < Os.length → Mkd s.1 k
theorem BLate.link {y : Nat} (h : BLate n0 Os rt s y) : BInv n0 Os rt (putX s y) := by
 obtain ⟨a1, a2, a3, a4, a5⟩ := putX_spec s y
 have hp := h.like.pl 0
 rw [hp] at a3 a4 a5
 refine ⟨(like_putX s y).trans h.like, fun j hj => ?_, fun j hj hn x k hx hl => ?_, fun x k hx hl => ?_, fun k h1 h2 => a1 k (h.made k h1 h2)⟩
 ·rcases a5 j hj with hj | hj
  ·exact a1 j (h.stack j hj)
  ·exact a3 j hj
 ·rcases a4 j hj with hj | ⟨_, hj⟩
  ·rcases h.closed j hj (fun e => hn (a2 j e)) x k hx hl with h1 | h1
   ·exact a1 k h1
   ·exact a3 k (by rw [← h1]; exact hl)
  ·exact absurd hj hn
 ·rcases h.roots x k hx hl with h1 | h1
  ·exact a1 k h1
  ·exact a3 k (by rw [← h1]; exact hl)
theorem BInv.lateRoot (h : BInv n0 Os rt s) (k y : Nat) : BLate n0 Os (rt.set k y) s y := by
 refine ⟨h.like, h.stack, fun j hm hn x t hx ht => Or.inl (h.closed j hm hn x t hx ht), fun x t hx ht => ?_, h.made⟩
 rcases List.mem_or_eq_of_mem_set hx with hx | hx
 ·exact Or.inl (h.roots x t hx ht)
 ·exact Or.inr hx
theorem BInv.latePut (h : BInv n0 Os rt s) {k : Nat} (hk : k < Os.length) (j y : Nat) : BLate n0 (Os.set k ((oat Os k).put j y)) rt (s.1.set k ((oat s.1 k).put j y), s.2) y := by
 have hk2 : k < s.1.length := by rw [h.like.1]; exact hk
 refine ⟨h.like.set hk j y, fun q hq => (mkd_set hk2 j y q).2 (h.stack q hq), fun q hm hn x t hx ht => ?_, fun x t hx ht => Or.inl ((mkd_set hk2 j y t).2 (h.roots x t hx (by rw [pl_put] at ht; exact ht))), fun q h1 h2 => (mkd_set hk2 j y q).2 (h.made q h1 (by simpa using h2))⟩
 rw [pl_put] at ht
 have hm' := (mkd_set hk2 j y q).1 hm
 rw [oat_set _ _ hk] at hx
 by_cases e : q = k
 ·rw [if_pos e] at hx
  rcases refs_put_mem hx with hx | ⟨hx, _⟩
  ·exact Or.inl ((mkd_set hk2 j y t).2 (h.closed q hm' hn x t (by rw [e]; exact hx) ht))
  ·exact Or.inr hx
 ·rw [if_neg e] at hx
  exact Or.inl ((mkd_set hk2 j y t).2 (h.closed q hm' hn x t hx ht))
theorem look_more {o : Ob} {x k : Nat} (h : look (plL 0 (Os ++ [o])) x = some k) (hb : Os.length < 1048576) : look (plL 0 Os) x = some k ∨ k = Os.length := by
 obtain ⟨h1, h2⟩ := look_pl_some h
 rw [List.length_append, List.length_singleton] at h1
 rcases Nat.lt_or_ge k Os.length with hk | hk
 ·left; rw [h2]; exact look_pl hk (by omega)
 ·right; omega
theorem Like.more {Ps : List Ob} (h : Like Ps Os) (o : Ob) : Like (Ps ++ [o]) (Os ++ [o]) := by
 refine ⟨by simp [h.1], fun q => ?_⟩
 rw [oat_snoc, oat_snoc, h.1]
 by_cases e : q = Os.length
 ·rw [if_pos e, if_pos e]; exact ⟨rfl, rfl, rfl, rfl⟩
 ·rw [if_neg e, if_neg e]; exact h.2 q
theorem mcnt_more (Ps : List Ob) (o : Ob) : mcnt Ps ≤ mcnt (Ps ++ [o]) := by unfold mcnt; rw [List.countP_append]; omega
/-- An object more, marked behind. -/
theorem BInv.more (h : BInv n0 Os rt s) (t r z : Nat) (hb : Os.length < 1048576) : BInv n0 (Os ++ [newOb t r z Os.length]) rt (mkO (s.1 ++ [newOb t r z Os.length]) Os.length true, s.2) := by
 have hl := h.like
 have hlen : Os.length < (s.1 ++ [newOb t r z Os.length]).length := by simp [hl.1]
 have hmk : ∀ q, Mkd (mkO (s.1 ++ [newOb t r z Os.length]) Os.length true) q ↔ q = Os.length ∨ Mkd s.1 q := fun q => by
  rw [mkd_mkO hlen]
  unfold Mkd
  rw [oat_snoc, hl.1]
  by_cases e : q = Os.length
  ·simp [e]
  ·rw [if_neg e]
 refine ⟨(like_mkO _ _ _).trans (hl.more _), fun j hj => (hmk j).2 (Or.inr (h.stack j hj)), fun j hm hn x k hx hk => (hmk k).2 ?_, fun x k hx hk => (hmk k).2 ?_, fun k h1 h2 => (hmk k).2 ?_⟩
 ·rcases look_more hk hb with hk' | hk'
  ·rw [oat_snoc] at hx
   by_cases e : j = Os.length
   ·rw [if_pos e] at hx
    have hx0 : x = 0 := by
     have hx' : x ∈ (List.replicate z 0).take r := hx
     exact (List.mem_replicate.1 (List.mem_of_mem_take hx')).2
    rw [hx0] at hk'
    have := (look_pl_some hk').2
    have := hnd_pos k
    omega
   ·rw [if_neg e] at hx
    rcases (hmk j).1 hm with hm | hm
    ·exact absurd hm e
    ·exact Or.inr (h.closed j hm hn x k hx hk')
  ·exact Or.inl hk'
 ·rcases look_more hk hb with hk' | hk'
  ·exact Or.inr (h.roots x k hx hk')
  ·exact Or.inl hk'
 ·rw [List.length_append, List.length_singleton] at h2
  by_cases e : k = Os.length
  ·exact Or.inl e
  ·exact Or.inr (h.made k h1 (by omega))
end
end Go.Proofs.Ytjappkiiokpjjaa

/- A heap that a marker watches: what may be done to it. -/
namespace Go.Proofs.Ytjappkiiokpjjaa
open Go.RowKit

theorem mcnt_put : ∀ (Ps : List Ob) (k j y : Nat), mcnt (Ps.set k ((oat Ps k).put j y)) = mcnt Ps
 | [], _, _, _ => by simp [mcnt]
 | o :: r, 0, j, y => by simp [mcnt, oat, Ob.put, List.countP_cons]
 | o :: r, k + 1, j, y => by
  have := mcnt_put r k j y
  unfold mcnt at this ⊢
  simp only [Sx2, List.countP_cons]
  rw [show oat (o :: r) (k + 1) = oat r k from by simp [oat], this]
section
variable {own oh : Nat → Prop} {w w' : World} {i : HId} {cap slots : Nat} {rt : List Nat} {wv : Value} {M : Nat} {s : List Ob × List Nat} {sv : Value}
theorem mMade (h : Mr own w i cap slots rt wv M true s oh sv) (x k : Nat) (hx : x < 18446744073709551616) (hl : look (plL 0 s.1) x = some k) (hm : (oat s.1 k).mark = false) : Calls Try.prog 132 #[.pointer (some ⟨M, 0, none⟩), .int .u64 (x : Int)] w fun e w' => e = .returned (.tuple #[]) ∧ ∃ own', Mv own own' w w' ∧ MS own' w' i cap slots rt wv M true (mkO s.1 k true, s.2) := by
 have HR := mkHid (mRunning ⟨oh, sv, h⟩)
 have HM := mkHid (mmark_yes h x k hx hl hm)
 have hk := look_lt hl
 have hc : mcnt s.1 ≤ mcnt (mkO s.1 k true) := by rw [mcnt_set s.1 k hk hm]; omega
 have HH := mkHid (fun (u : World) (m : Mv oh oh w u) (p : PH oh u i cap slots (mkO s.1 k true) rt wv) => h.heap m p (by rw [mkO_len]; exact Nat.le_refl _) hc)
 clear h hl hm hk hc
 go_enter Try.func132, Try.ntmps132
 go_wp2_with fail
 refine HR.out.mono ?_
 rintro e w1 ⟨rfl, rfl⟩
 go_wp2_with fail
 refine HM.out.mono ?_
 rintro e w2 ⟨rfl, m2, p2⟩
 obtain ⟨own', m, hr⟩ := HH.out w2 m2 p2
 have HF := mkHid (⟨own', m, ⟨oh, sv, hr⟩⟩ : ∃ own', Mv own own' w1 w2 ∧ MS own' w2 i cap slots rt wv M true (mkO s.1 k true, s.2))
 clear m2 p2 m hr
 go_wp2_with fail
 go_returns
 exact ⟨rfl, HF.out⟩
theorem mLinked (h : MS own w i cap slots rt wv M true s) (x : Nat) (hx : x < 18446744073709551616) : Calls Try.prog 131 #[.pointer (some ⟨M, 0, none⟩), .int .u64 (x : Int)] w fun e w' => e = .returned (.tuple #[]) ∧ ∃ own', Mv own own' w w' ∧ MS own' w' i cap slots rt wv M true (putX s x) := by
 have HR := mkHid (mRunning h)
 have HM := mkHid (mput h x hx)
 clear h
 go_enter Try.func131, Try.ntmps131
 go_wp2_with fail
 refine HR.out.mono ?_
 rintro e w1 ⟨rfl, rfl⟩
 go_wp2_with fail
 refine HM.out.mono ?_
 rintro e w2 ⟨rfl, h2⟩
 have HF := mkHid h2
 clear h2
 go_wp2_with fail
 go_returns
 exact ⟨rfl, HF.out⟩
end
/-- A heap that a marker at work watches; all from the n0-th on are marked. -/
def busyJ (i : HId) (cap slots n0 M : Nat) (own : Nat → Prop) (w : World) (Os : List Ob) (rt : List Nat) (_ : Unit) : Prop := ∃ s, MS own w i cap slots rt (mkW M) M true s ∧ BInv n0 Os rt s
theorem look_zero (Os : List Ob) : look (plL 0 Os) 0 = none := look_miss (fun k _ e => by have := hnd_pos k; omega)
theorem kitBusy (i : HId) (cap slots n0 M : Nat) : Kit i cap slots (fun (s : Unit) _ => s) (fun (s : Unit) _ => s) (busyJ i cap slots n0 M) := by
 refine ⟨?_, ?_, ?_, ?_, ?_, ?_, ?_⟩
 ·rintro own w Os rt u ⟨s, ⟨oh, sv, h⟩, b⟩
  exact ⟨oh, _, s.1, h.ph, b.like⟩
 ·rintro own w Os rt u ⟨s, h, b⟩ k hk
  exact h.lt hk
 ·rintro own w w' Os rt u ⟨s, ⟨oh, sv, h⟩, b⟩ hb
  exact ⟨s, ⟨oh, sv, h.same hb⟩, b⟩
 ·rintro own w Os rt u ⟨s, ⟨oh, sv, h⟩, b⟩ t r z hf hroom hlt
  have hl := b.like
  rw [← hl.tot] at hroom
  rw [← hl.1] at hlt ⊢
  obtain ⟨h1, h2, h3, h4, h5⟩ := h.ph.few
  have hlk : look (plL 0 (s.1 ++ [newOb t r z s.1.length])) (hnd s.1.length 1) = some s.1.length := look_pl (by simp) (by simp; omega)
  refine (ph_Make_core (Q := fun _ w' => ∃ own3, Mv own own3 w w' ∧ MS own3 w' i cap slots rt (mkW M) M true (mkO (s.1 ++ [newOb t r z s.1.length]) s.1.length true, s.2)) h.ph t r z hf hroom hlt fun own' u m p => ?_).mono ?_
  ·obtain ⟨own2, m2, r2⟩ := h.heap m p (by simp) (mcnt_more _ _)
   refine tellMade_mk p _ ((mMade r2 _ s.1.length (hnd_lt (by omega) (by decide)) hlk (by show (oat (s.1 ++ [newOb t r z s.1.length]) s.1.length).mark = false; rw [oat_snoc, if_pos rfl]; rfl)).mono ?_)
   rintro e w' ⟨rfl, own3, m3, h3⟩
   exact ⟨rfl, own3, m2.trans m3, h3⟩
  ·rintro e w' ⟨rfl, _, _, _, _, own3, m3, h3⟩
   refine ⟨rfl, own3, m3, _, h3, ?_⟩
   have := b.more t r z (by rw [← hl.1]; omega)
   rw [← hl.1] at this
   exact this
 ·rintro own w Os rt u ⟨s, ⟨oh, sv, h⟩, b⟩ k j hk hj y hy
  have hl := b.like
  obtain ⟨e1, e2, e3, e4⟩ := hl.2 k
  rw [← e2, ← e4] at hj
  refine (ph_SetWord h.ph (by rw [hl.1]; exact hk) hj y hy).mono ?_
  rintro e w' ⟨rfl, m, p⟩
  obtain ⟨own2, m2, r2⟩ := h.heap m p (by simp) (by rw [mcnt_put]; exact Nat.le_refl _)
  refine ⟨rfl, own2, m2, _, ⟨oh, sv, r2⟩, ?_⟩
  rw [e2]
  exact b.put hk _ y (fun h => by omega)
 ·rintro own w Os rt u ⟨s, ⟨oh, sv, h⟩, b⟩ k j hk hj y hy
  have hl := b.like
  obtain ⟨e1, e2, e3, e4⟩ := hl.2 k
  obtain ⟨h1, h2, h3, h4, h5⟩ := h.ph.few
  have hk2 : k < s.1.length := by rw [hl.1]; exact hk
  rw [← e2] at hj
  rw [← hl.1] at hy
  have hyl := or_lt (by omega) hy
  have hmay := may_or (by omega) hy
  by_cases hy0 : y = 0
  ·subst hy0
   have hc := SetRef_core (Q := fun u w' => w' = u) h.ph (PH.has h.ph hk2) hj 0 hyl hmay fun u _ hu => tellLinked_mk0 hu
   rw [plain_put hk2] at hc
   refine hc.mono ?_
   rintro e w' ⟨rfl, u2, m, p, rfl⟩
   obtain ⟨own2, m2, r2⟩ := h.heap m p (by simp) (by rw [mcnt_put]; exact Nat.le_refl _)
   exact ⟨rfl, own2, m2, _, ⟨oh, sv, r2⟩, b.put hk _ 0 (fun _ q hq => by rw [look_zero] at hq; cases hq)⟩
  ·have hc := SetRef_core (Q := fun _ w' => ∃ own3, Mv own own3 w w' ∧ MS own3 w' i cap slots rt (mkW M) M true (putX (s.1.set k ((oat s.1 k).put j y), s.2) y)) h.ph (PH.has h.ph hk2) hj y hyl hmay fun u2 m hu => by
    have p : PH oh u2 i cap slots (s.1.set k ((oat s.1 k).put j y)) rt (mkW M) := by rw [plain_put hk2] at hu; exact hu
    obtain ⟨own2, m2, r2⟩ := h.heap m p (by simp) (by rw [mcnt_put]; exact Nat.le_refl _)
    refine tellLinked_mk hu _ hy0 ((mLinked ⟨oh, sv, r2⟩ y hyl).mono ?_)
    rintro e w' ⟨rfl, own3, m3, h3⟩
    exact ⟨rfl, own3, m2.trans m3, h3⟩
   refine hc.mono ?_
   rintro e w' ⟨rfl, _, _, _, own3, m3, h3⟩
   exact ⟨rfl, own3, m3, _, h3, (b.latePut hk j y).link⟩
 ·rintro own w Os rt u ⟨s, ⟨oh, sv, h⟩, b⟩ k hk y hy
  have hl := b.like
  obtain ⟨h1, h2, h3, h4, h5⟩ := h.ph.few
  rw [← hl.1] at hy
  have hyl := or_lt (by omega) hy
  have hmay := may_or (by omega) hy
  by_cases hy0 : y = 0
  ·subst hy0
   refine (SetRoot_core (Q := fun u w' => w' = u) h.ph k 0 hk hyl hmay fun u _ hu => tellLinked_mk0 hu).mono ?_
   rintro e w' ⟨rfl, u2, m, p, rfl⟩
   obtain ⟨own2, m2, r2⟩ := h.heap (rt' := rt.set k 0) m p (Nat.le_refl _) (Nat.le_refl _)
   exact ⟨rfl, own2, m2, _, ⟨oh, sv, r2⟩, b.root k 0 (fun q hq => by rw [look_zero] at hq; cases hq)⟩
  ·refine (SetRoot_core (Q := fun _ w' => ∃ own3, Mv own own3 w w' ∧ MS own3 w' i cap slots (rt.set k y) (mkW M) M true (putX s y)) h.ph k y hk hyl hmay fun u2 m hu => ?_).mono ?_
   ·obtain ⟨own2, m2, r2⟩ := h.heap (rt' := rt.set k y) m hu (Nat.le_refl _) (Nat.le_refl _)
    refine tellLinked_mk hu _ hy0 ((mLinked ⟨oh, sv, r2⟩ y hyl).mono ?_)
    rintro e w' ⟨rfl, own3, m3, h3⟩
    exact ⟨rfl, own3, m2.trans m3, h3⟩
   ·rintro e w' ⟨rfl, _, _, _, own3, m3, h3⟩
    exact ⟨rfl, own3, m3, _, h3, (b.lateRoot k y).link⟩
end Go.Proofs.Ytjappkiiokpjjaa

/- What a loop over Play keeps, with one box (no walk). -/
namespace Go.Proofs.Ytjappkiiokpjjaa
open Go.RowKit

/-- What a loop over Play keeps: the box M holds the model. -/
structure Md1 {σ : Type} (J : (Nat → Prop) → World → List Ob → List Nat → σ → Prop) (w wr : World) (M : Nat) (p : List Ob × List Nat × σ) (a ta : Option Addr) (c tc : Nat) (own : Nat → Prop) : Prop where
 below : Below w.heap.size w wr
 low : ∀ k, own k → w.heap.size ≤ k
 no : ¬ own M
 lo : w.heap.size ≤ M
 m : wr.heap[M]? = some (.cells (Value.slice a p.1.length c :: rtV p.2.1).toArray 30 (0, 0))
 j : J own wr p.1 p.2.1 p.2.2
 mz : MZ (fun k => own k ∨ k = M) wr a c p.1
 tz : TZ (fun k => own k ∨ k = M) wr ta tc p.1.length
/-- What Play leaves to it, the boxes M, N being as they were. -/
structure Mn1 {σ : Type} (J : (Nat → Prop) → World → List Ob → List Nat → σ → Prop) (w v w' : World) (M N : Nat) (p : List Ob × List Nat × σ) (a ta : Option Addr) (c tc : Nat) (own : Nat → Prop) : Prop where
 below : Below w.heap.size w w'
 size : v.heap.size ≤ w'.heap.size
 low : ∀ k, own k → w.heap.size ≤ k
 no : ∀ k, two M N k → ¬ own k ∧ w'.heap[k]? = v.heap[k]?
 j : J own w' p.1 p.2.1 p.2.2
 mz : MZ (fun k => own k ∨ two M N k) w' a c p.1
 tz : TZ (fun k => own k ∨ two M N k) w' ta tc p.1.length
section
variable {σ : Type} {i : HId} {cap slots : Nat} {mk ln : σ → Nat → σ} {J : (Nat → Prop) → World → List Ob → List Nat → σ → Prop} {w wr v w' : World} {M N : Nat} {p : List Ob × List Nat × σ} {Os : List Ob} {rt : List Nat} {s : σ} {a ta : Option Addr} {c tc : Nat} {own : Nat → Prop}
theorem Md1.ra (h : Md1 J w wr M p a ta c tc own) : wr.rangeAt M 0 (Value.slice a p.1.length c :: rtV p.2.1) := fun j u hu => by
 rw [cell_of_row wr _ _ _ _ _ h.m, Nat.zero_add]; simpa using hu
theorem Md1.play (K : Kit i cap slots mk ln J) (h : Md1 J w wr M (Os, rt, s) a ta c tc own) (hb : Below wr.heap.size wr v) (N : Nat) (hN : N = M ∨ wr.heap.size ≤ N ∧ N < v.heap.size) (d : Dd) (hd5 : d.d5 < 18446744073709551616) : Calls Try.prog 9 #[.pointer (some ⟨i.H, 0, none⟩), .agg (Value.slice a Os.length c :: rtV rt).toArray, .slice ta Os.length tc, .agg d.c] v fun e w' => ∃ p a' c' ta' tc' own', p = stepP cap slots mk ln d Os rt s ∧ e = .returned (.tuple #[.agg (Value.slice a' p.1.length c' :: rtV p.2.1).toArray, .slice ta' p.1.length tc', .bool true]) ∧ Mn1 J w v w' M N p a' ta' c' tc' own' := by
 have hMl : M < wr.heap.size := (Array.getElem?_eq_some_iff.1 h.m).1
 have hsz := hb.size
 have hlt : ∀ k, own k → k < wr.heap.size := K.lt h.j
 have hNo : ∀ k, two M N k → ¬ own k ∧ k < v.heap.size := by
  rintro k (hk | hk)
  ·rw [hk]; exact ⟨h.no, by omega⟩
  ·rw [hk]
   rcases hN with hN | hN
   ·rw [hN]; exact ⟨h.no, by omega⟩
   ·exact ⟨fun e => by have := hlt _ e; omega, hN.2⟩
 have hj2 : boxJ J (two M N) (fun k => v.heap[k]?) (fun k => own k ∨ two M N k) v Os rt s := ⟨own, K.same h.j fun k hk => hb.block k (hlt k hk), fun k => Iff.rfl, fun k hk => ⟨(hNo k hk).1, (hNo k hk).2, rfl⟩⟩
 have m0 : Mv (fun k => own k ∨ k = M) (fun k => own k ∨ two M N k) wr v := by
  refine ⟨Chg.of_below hb, fun k hk => ?_⟩
  rcases hk with hk | hk | hk
  ·exact Or.inl (Or.inl hk)
  ·exact Or.inl (Or.inr hk)
  ·rw [hk]
   rcases hN with hN | hN
   ·exact Or.inl (Or.inr hN)
   ·exact Or.inr hN.1
 refine (play_any (kitBox K (two M N) (fun k => v.heap[k]?)) hj2 (h.mz.mv m0) (h.tz.mv m0) d hd5).mono ?_
 rintro e w' ⟨a', c', ta', tc', o2, rfl, m, ⟨own', j', e2, x2⟩, mz, tz⟩
 have hiff : o2 = fun k => own' k ∨ two M N k := funext fun k => propext (e2 k)
 subst hiff
 have hnl : w.heap.size ≤ N := by
  have := h.below.size
  have := h.lo
  omega
 refine ⟨_, a', c', ta', tc', own', rfl, rfl, ?_, m.chg.size, fun k hk => ?_, fun k hk => ?_, j', mz, tz⟩
 ·have hbv : Below w.heap.size w v := h.below.trans (hb.mono h.below.size)
  refine hbv.trans ⟨m.chg.os, m.chg.tape, m.chg.output, m.chg.size, fun k hk => m.chg.block k (by have := hbv.size; omega) (fun e => ?_)⟩
  have := h.lo
  rcases e with e | e | e
  ·have := h.low k e; omega
  ·omega
  ·omega
 ·have := h.lo
  rcases m.sub k (Or.inl hk) with (e | e | e) | e
  ·exact h.low k e
  ·omega
  ·omega
  ·have := h.below.size
   omega
 ·exact ⟨(x2 k hk).1, (x2 k hk).2.2⟩
/-- The round's end: the box M holds the new model. -/
theorem Mn1.next (K : Kit i cap slots mk ln J) (h : Mn1 J w v w' M N p a ta c tc own) (lo : w.heap.size ≤ M) {w5 : World} {N2 : Nat} (hN2 : N2 = N ∨ w'.heap.size ≤ N2) (hc : Chg (fun k => k = M ∨ k = N2) w' w5) (hlN : w.heap.size ≤ N2) (hm : w5.heap[M]? = some (.cells (Value.slice a p.1.length c :: rtV p.2.1).toArray 30 (0, 0))) : Md1 J w w5 M p a ta c tc own := by
 have m2 : Mv (fun k => own k ∨ two M N k) (fun k => own k ∨ k = M) w' w5 := by
  refine ⟨⟨hc.os, hc.tape, hc.output, hc.size, fun k hk hn => hc.block k hk (fun e => ?_)⟩, fun k hk => ?_⟩
  ·rcases e with e | e
   ·exact hn (Or.inr (Or.inl e))
   ·rcases hN2 with e2 | e2
    ·exact hn (Or.inr (Or.inr (e.trans e2)))
    ·omega
  ·rcases hk with hk | hk
   ·exact Or.inl (Or.inl hk)
   ·exact Or.inl (Or.inr (Or.inl hk))
 have hnoM := h.no M (Or.inl rfl)
 refine ⟨h.below.trans ⟨hc.os, hc.tape, hc.output, hc.size, fun k hk => hc.block k (by have := h.below.size; omega) (fun e => by omega)⟩, h.low, hnoM.1, lo, hm, K.same h.j fun k hk => hc.block k (K.lt h.j k hk) (fun e => ?_), h.mz.mv m2, h.tz.mv m2⟩
 rcases e with e | e
 ·rw [e] at hk; exact hnoM.1 hk
 ·rcases hN2 with e2 | e2
  ·have := (h.no N (Or.inr rfl)).1
   rw [e, e2] at hk; exact this hk
  ·have := K.lt h.j k hk
   omega
end
end Go.Proofs.Ytjappkiiokpjjaa
