/- Some texts in one: each opens with its own remark. -/
import Derived.Test.YtjappkiiokpjjaaZPlayR
import Derived.Test.YtjappkiiokpjjaaZPlayN
import Derived.Test.YtjappkiiokpjjaaZPlayB
import Derived.Test.YtjappkiiokpjjaaZPlayW
import Derived.Test.YtjappkiiokpjjaaZPlayF
import Derived.Test.YtjappkiiokpjjaaK20
import Derived.Test.YtjappkiiokpjjaaZPlayM
import Derived.Test.YtjappkiiokpjjaaZPlayY
import Derived.Test.YtjappkiiokpjjaaZPlayA
import Derived.Test.YtjappkiiokpjjaaZPlayA2
import Derived.Test.YtjappkiiokpjjaaK18
import Derived.Test.YtjappkiiokpjjaaK11
/- Play, of any heap and any deed. -/
namespace Go.Proofs.Ytjappkiiokpjjaa
open Go.RowKit

section
variable {σ : Type} {i : HId} {cap slots : Nat} {mk ln : σ → Nat → σ} {oq : σ → Prop} {J : (Nat → Prop) → World → List Ob → List Nat → σ → Prop} {own : Nat → Prop} {w : World} {Os : List Ob} {rt : List Nat} {s : σ} {a ta : Option Addr} {c tc : Nat}
theorem asks_any (KK : Kit i cap slots mk ln J oq) (hj : J own w Os rt s) (hm : MZ own w a c Os) (hb : Os.length ≤ 1048576) (hrl : rt.length = 16) (k : Int) (x : Nat) (hor : HOr Os.length x) : Calls Try.prog 41 #[.pointer (some ⟨i.H, 0, none⟩), .agg (Value.slice a Os.length c :: rtV rt).toArray, .int .u64 x, .int .i64 k] w fun e w' => e = .returned (.bool true) ∧ Below w.heap.size w w' := by
  rcases hor with rfl | ⟨q, hq, hxq⟩
  · have hlk : look (plL 0 Os) 0 = none := look_miss (fun k hk e => by have := hnd_pos k; omega)
    by_cases hk0 : k < 0
    · exact asks_noN KK hj hm hb hrl k 0 (by decide) hlk (by omega) hk0
    · by_cases hr : k < 16
      · exact asks_no1 KK hj hm hb hrl k 0 (by decide) hlk ⟨by omega, hr⟩ (by omega)
      · exact asks_no0 KK hj hm hb hrl k 0 (by decide) hlk (by omega) (by omega)
  · by_cases hk0 : k < 0
    · exact asks_neg KK hj hm hb hrl k x q hq hxq (by omega) (by omega) (by omega) hk0
    · have hk1 : 0 ≤ k := by omega
      by_cases h1 : k < 16
      · by_cases h2 : k < ((oat Os q).refs : Int)
        · by_cases h3 : k < ((oat Os q).ws.length : Int) - ((oat Os q).refs : Int)
          · exact asks_111 KK hj hm hb hrl k x q hq hxq ⟨hk1, h1⟩ ⟨hk1, h2⟩ ⟨hk1, h3⟩ hk1
          · exact asks_110 KK hj hm hb hrl k x q hq hxq ⟨hk1, h1⟩ ⟨hk1, h2⟩ (by omega) hk1
        · by_cases h3 : k < ((oat Os q).ws.length : Int) - ((oat Os q).refs : Int)
          · exact asks_101 KK hj hm hb hrl k x q hq hxq ⟨hk1, h1⟩ (by omega) ⟨hk1, h3⟩ hk1
          · exact asks_100 KK hj hm hb hrl k x q hq hxq ⟨hk1, h1⟩ (by omega) (by omega) hk1
      · by_cases h2 : k < ((oat Os q).refs : Int)
        · by_cases h3 : k < ((oat Os q).ws.length : Int) - ((oat Os q).refs : Int)
          · exact asks_011 KK hj hm hb hrl k x q hq hxq (by omega) ⟨hk1, h2⟩ ⟨hk1, h3⟩ hk1
          · exact asks_010 KK hj hm hb hrl k x q hq hxq (by omega) ⟨hk1, h2⟩ (by omega) hk1
        · by_cases h3 : k < ((oat Os q).ws.length : Int) - ((oat Os q).refs : Int)
          · exact asks_001 KK hj hm hb hrl k x q hq hxq (by omega) (by omega) ⟨hk1, h3⟩ hk1
          · exact asks_000 KK hj hm hb hrl k x q hq hxq (by omega) (by omega) (by omega) hk1
theorem play_any (KK : Kit i cap slots mk ln J oq) (hj : J own w Os rt s) (hok : oq s) (hm : MZ own w a c Os) (ht : TZ own w ta tc Os.length) (d : Dd) (hd5 : d.d5 < 18446744073709551616) : Calls Try.prog 9 #[.pointer (some ⟨i.H, 0, none⟩), .agg (Value.slice a Os.length c :: rtV rt).toArray, .slice ta Os.length tc, .agg d.c] w (PlaySay J own w (stepP cap slots mk ln d Os rt s)) := by
  obtain ⟨f1, f2, f3, f4, hrl⟩ := KK.few hj
  have hb : Os.length ≤ 1048576 := by omega
  unfold stepP
  by_cases h0 : d.d0 ≤ 2
  · rw [if_pos h0]
    by_cases hmk : mkOk cap slots Os d = true
    · rw [if_pos hmk]
      unfold mkOk at hmk
      have h := of_decide_eq_true hmk
      exact play_make_yes KK hj hok hm ht hb hrl h0 ⟨h.1, h.2.1, h.2.2.1, h.2.2.2.1, h.2.2.2.2.1⟩ h.2.2.2.2.2.1 h.2.2.2.2.2.2
    · rw [if_neg hmk]
      by_cases hfi : fitsH d.d3 d.d4 d.d2 = true
      · unfold fitsH at hfi
        have h := of_decide_eq_true hfi
        refine play_make_full KK hj hm ht hb hrl h0 h ?_
        unfold mkOk at hmk
        have hn := of_decide_eq_false (Bool.eq_false_iff.2 hmk)
        by_cases hr : tot Os + 1 + d.d2.toNat ≤ cap
        · right
          have : ¬ Os.length < slots := fun hl => hn ⟨h.1, h.2.1, h.2.2.1, h.2.2.2.1, h.2.2.2.2, hr, hl⟩
          omega
        · left; omega
      · exact play_make_arg KK hj hm ht hb hrl h0 (Bool.eq_false_iff.2 hfi)
  · rw [if_neg h0]
    by_cases h1 : d.d0 ≤ 4
    · rw [if_pos h1]
      rcases hlk : look (plL 0 Os) (pickX Os.length d.d1) with _ | k
      · exact play_ref_none KK hj hm ht hb hrl ⟨by omega, h1⟩ hlk
      · obtain ⟨hk, hx⟩ := look_pl_some hlk
        dsimp only
        by_cases hc : 0 ≤ d.d3 ∧ d.d3 < ((oat Os k).refs : Int)
        · rw [if_pos hc]
          exact play_ref_yes KK hj hok hm ht hb hrl ⟨by omega, h1⟩ k hk hx hc
        · rw [if_neg hc]
          exact play_ref_arg KK hj hm ht hb hrl ⟨by omega, h1⟩ k hk hx hc
    · rw [if_neg h1]
      by_cases h2 : d.d0 = 5
      · rw [if_pos h2]
        rcases hlk : look (plL 0 Os) (pickX Os.length d.d1) with _ | k
        · exact play_word_none KK hj hm ht hb hrl h2 hlk
        · obtain ⟨hk, hx⟩ := look_pl_some hlk
          dsimp only
          by_cases hc : 0 ≤ d.d3 ∧ d.d3 < ((oat Os k).ws.length : Int) - ((oat Os k).refs : Int)
          · rw [if_pos hc]
            exact play_word_yes KK hj hm ht hb hrl h2 k hk hx hc hd5
          · rw [if_neg hc]
            exact play_word_arg KK hj hm ht hb hrl h2 k hk hx hc
      · rw [if_neg h2]
        by_cases h3 : d.d0 ≤ 7
        · rw [if_pos h3]
          by_cases hc : 0 ≤ d.d3 ∧ d.d3 < 16
          · rw [if_pos hc]
            exact play_root_yes KK hj hok hm ht hb hrl ⟨by omega, h3⟩ hc
          · rw [if_neg hc]
            exact play_root_arg KK hj hm ht hb hrl ⟨by omega, h3⟩ hc
        · rw [if_neg h3]
          exact play_ask KK hj hm ht hb hrl (by omega) (fun v hv => asks_any KK hv.j hv.mz hb hrl d.d3 _ (pickX_or _ _))
end
end Go.Proofs.Ytjappkiiokpjjaa

/- A row of deeds, one behind the other; deeds in memory (no walk). -/
namespace Go.Proofs.Ytjappkiiokpjjaa
open Go.RowKit

def runP {σ : Type} (cap slots : Nat) (mk ln : σ → Nat → σ) (z : Nat → Dd) (s0 : σ) : Nat → List Ob × List Nat × σ
  | 0 => ([], rt0, s0)
  | j + 1 => stepP cap slots mk ln (z j) (runP cap slots mk ln z s0 j).1 (runP cap slots mk ln z s0 j).2.1 (runP cap slots mk ln z s0 j).2.2
theorem runP_succ {σ : Type} (cap slots : Nat) (mk ln : σ → Nat → σ) (z : Nat → Dd) (s0 : σ) (j : Nat) {Os : List Ob} {rt : List Nat} {s : σ} (h : runP cap slots mk ln z s0 j = (Os, rt, s)) : runP cap slots mk ln z s0 (j + 1) = stepP cap slots mk ln (z j) Os rt s := by
  show stepP _ _ _ _ _ _ _ _ = _
  rw [h]
/-- A row of deeds in memory. -/
def D6 (w : World) (a : Option Addr) (m : Nat) (d : Nat → Dd) : Prop := m = 0 ∨ ∃ b o, a = some ⟨b, o, none⟩ ∧ b < w.heap.size ∧ ∀ i, i < m → (w.cell? ⟨b, o + i * 6, none⟩ = some (.int .i64 (d i).d0) ∧ w.cell? ⟨b, o + i * 6 + 1, none⟩ = some (.int .i64 (d i).d1) ∧ w.cell? ⟨b, o + i * 6 + 2, none⟩ = some (.int .i64 (d i).d2) ∧ w.cell? ⟨b, o + i * 6 + 3, none⟩ = some (.int .i64 (d i).d3) ∧ w.cell? ⟨b, o + i * 6 + 4, none⟩ = some (.int .i64 (d i).d4) ∧ w.cell? ⟨b, o + i * 6 + 5, none⟩ = some (.int .u64 ((d i).d5 : Int))) ∧ (d i).d5 < 18446744073709551616
theorem D6.below {w w' : World} {a : Option Addr} {m : Nat} {d : Nat → Dd} (h : D6 w a m d) (hb : Below w.heap.size w w') : D6 w' a m d := by
  rcases h with h | ⟨b, o, e, hlt, h⟩
  · exact Or.inl h
  · refine Or.inr ⟨b, o, e, Nat.lt_of_lt_of_le hlt hb.size, fun i hi => ⟨?_, (h i hi).2⟩⟩
    obtain ⟨h0, h1, h2, h3, h4, h5⟩ := (h i hi).1
    exact ⟨(hb.cell (p := ⟨b, _, none⟩) hlt).trans h0, (hb.cell (p := ⟨b, _, none⟩) hlt).trans h1, (hb.cell (p := ⟨b, _, none⟩) hlt).trans h2, (hb.cell (p := ⟨b, _, none⟩) hlt).trans h3, (hb.cell (p := ⟨b, _, none⟩) hlt).trans h4, (hb.cell (p := ⟨b, _, none⟩) hlt).trans h5⟩
/-- What a heap that was played with is: its state, the model, the handles told. -/
structure Plyd {σ : Type} (J : (Nat → Prop) → World → List Ob → List Nat → σ → Prop) (own : Nat → Prop) (w : World) (p : List Ob × List Nat × σ) (a ta : Option Addr) (c tc : Nat) : Prop where
  j : J own w p.1 p.2.1 p.2.2
  mz : MZ own w a c p.1
  tz : TZ own w ta tc p.1.length
section
variable {σ : Type} {i : HId} {cap slots : Nat} {mk ln : σ → Nat → σ} {oq : σ → Prop} {J : (Nat → Prop) → World → List Ob → List Nat → σ → Prop} {own : Nat → Prop} {w w' : World} {p : List Ob × List Nat × σ} {a ta : Option Addr} {c tc : Nat}
theorem Plyd.same (K : Kit i cap slots mk ln J oq) (h : Plyd J own w p a ta c tc) {q : Nat → Prop} (hc : Chg q w w') (hq : ∀ k, q k → ¬ own k) (hn : ∀ {b}, q b → ∀ o v, ¬ Im own w b o v) : Plyd J own w' p a ta c tc := by
  have him : ∀ {b o v}, Im own w b o v → Im own w' b o v := fun {b o v} h => by
    have hb : ¬ q b := fun e => hn e o v h
    exact ⟨by rw [World.cell?_of_block (a := ⟨b, o, none⟩) (hc.block b h.2.1 hb)]; exact h.1, Nat.lt_of_lt_of_le h.2.1 hc.size, h.2.2⟩
  have hri : ∀ {a xs}, RI own w a xs → RI own w' a xs := fun {a xs} h => by
    rcases h with h | ⟨b, e, h⟩
    · exact Or.inl h
    · exact Or.inr ⟨b, e, fun j hj => him (h j hj)⟩
  refine ⟨K.same h.j fun k hk => hc.block k (K.lt h.j k hk) (fun e => hq k e hk), ⟨?_, h.mz.2⟩, ⟨hri h.tz.1, h.tz.2⟩⟩
  rcases h.mz.1 with e | ⟨b, D, e, hd⟩
  · exact Or.inl e
  · exact Or.inr ⟨b, D, e, fun j v hj => him (hd.row j v hj), fun k hk => hri (hd.refs k hk), fun k hk => hri (hd.words k hk)⟩
end
end Go.Proofs.Ytjappkiiokpjjaa

/- A Kit beside boxes that stay as they are (no walk). -/
namespace Go.Proofs.Ytjappkiiokpjjaa
open Go.RowKit

/-- A heap beside blocks X that hold what Y says. -/
def boxJ {σ : Type} (J : (Nat → Prop) → World → List Ob → List Nat → σ → Prop) (X : Nat → Prop) (Y : Nat → Option Obj) (own2 : Nat → Prop) (w : World) (Os : List Ob) (rt : List Nat) (s : σ) : Prop :=
  ∃ own, J own w Os rt s ∧ (∀ k, own2 k ↔ own k ∨ X k) ∧ ∀ k, X k → ¬ own k ∧ k < w.heap.size ∧ w.heap[k]? = Y k
section
variable {σ : Type} {i : HId} {cap slots : Nat} {mk ln : σ → Nat → σ} {oq : σ → Prop} {J : (Nat → Prop) → World → List Ob → List Nat → σ → Prop}
theorem box_step {own own' own2 : Nat → Prop} {w w' : World} {X : Nat → Prop} {Y : Nat → Option Obj} {Os' : List Ob} {rt' : List Nat} {s' : σ} (h2 : ∀ k, own2 k ↔ own k ∨ X k) (h3 : ∀ k, X k → ¬ own k ∧ k < w.heap.size ∧ w.heap[k]? = Y k) (m : Mv own own' w w') (hj : J own' w' Os' rt' s') : ∃ o2, Mv own2 o2 w w' ∧ boxJ J X Y o2 w' Os' rt' s' := by
  refine ⟨fun k => own' k ∨ X k, ⟨m.chg.mono fun k _ hk => (h2 k).2 (Or.inl hk), fun k hk => ?_⟩, own', hj, fun k => Iff.rfl, fun k hk => ?_⟩
  · rcases hk with hk | hk
    · rcases m.sub k hk with hk | hk
      · exact Or.inl ((h2 k).2 (Or.inl hk))
      · exact Or.inr hk
    · exact Or.inl ((h2 k).2 (Or.inr hk))
  · obtain ⟨a1, a2, a3⟩ := h3 k hk
    refine ⟨fun e => ?_, Nat.lt_of_lt_of_le a2 m.chg.size, by rw [m.chg.block k a2 a1]; exact a3⟩
    rcases m.sub k e with e | e
    · exact a1 e
    · omega
theorem kitBox (K : Kit i cap slots mk ln J oq) (X : Nat → Prop) (Y : Nat → Option Obj) : Kit i cap slots mk ln (boxJ J X Y) oq := by
  refine ⟨?_, ?_, ?_, ?_, ?_, ?_, ?_⟩
  · rintro own2 w Os rt s ⟨own, h, h2, h3⟩
    exact K.ph h
  · rintro own2 w Os rt s ⟨own, h, h2, h3⟩ k hk
    rcases (h2 k).1 hk with hk | hk
    · exact K.lt h k hk
    · exact (h3 k hk).2.1
  · rintro own2 w w' Os rt s ⟨own, h, h2, h3⟩ hb
    refine ⟨own, K.same h fun k hk => hb k ((h2 k).2 (Or.inl hk)), h2, fun k hk => ?_⟩
    obtain ⟨a1, a2, a3⟩ := h3 k hk
    have e := hb k ((h2 k).2 (Or.inr hk))
    have e1 : w.heap[k]? = some w.heap[k] := Array.getElem?_eq_getElem a2
    rw [e1] at e
    exact ⟨a1, (Array.getElem?_eq_some_iff.1 e).1, by rw [e, ← e1]; exact a3⟩
  · rintro own2 w Os rt s ⟨own, h, h2, h3⟩ hok t r z hf hroom hlt
    refine (K.make h hok t r z hf hroom hlt).mono ?_
    rintro e w' ⟨rfl, own', m, j⟩
    exact ⟨rfl, box_step h2 h3 m j⟩
  · rintro own2 w Os rt s ⟨own, h, h2, h3⟩ k j hk hj y hy
    refine (K.setw h hk hj y hy).mono ?_
    rintro e w' ⟨rfl, own', m, j⟩
    exact ⟨rfl, box_step h2 h3 m j⟩
  · rintro own2 w Os rt s ⟨own, h, h2, h3⟩ hok k j hk hj y hy
    refine (K.setr h hok hk hj y hy).mono ?_
    rintro e w' ⟨rfl, own', m, j⟩
    exact ⟨rfl, box_step h2 h3 m j⟩
  · rintro own2 w Os rt s ⟨own, h, h2, h3⟩ hok k hk y hy
    refine (K.seto h hok hk y hy).mono ?_
    rintro e w' ⟨rfl, own', m, j⟩
    exact ⟨rfl, box_step h2 h3 m j⟩
end
/-- What two boxes are. -/
def two (x y k : Nat) : Prop := k = x ∨ k = y
end Go.Proofs.Ytjappkiiokpjjaa

/- What a loop over Play keeps, with one box (no walk). -/
namespace Go.Proofs.Ytjappkiiokpjjaa
open Go.RowKit

/-- What a loop over Play keeps: the box M holds the model. -/
structure Md1 {σ : Type} (J : (Nat → Prop) → World → List Ob → List Nat → σ → Prop) (w wr : World) (M : Nat) (p : List Ob × List Nat × σ) (a ta : Option Addr) (c tc : Nat) (own : Nat → Prop) : Prop where
  below : Below w.heap.size w wr
  low : ∀ k, own k → w.heap.size ≤ k
  no : ¬ own M
  lo : w.heap.size ≤ M
  m : wr.heap[M]? = some (.cells (Value.slice a p.1.length c :: rtV p.2.1).toArray 30 (0, 0))
  j : J own wr p.1 p.2.1 p.2.2
  mz : MZ (fun k => own k ∨ k = M) wr a c p.1
  tz : TZ (fun k => own k ∨ k = M) wr ta tc p.1.length
/-- What Play leaves to it, the boxes M, N being as they were. -/
structure Mn1 {σ : Type} (J : (Nat → Prop) → World → List Ob → List Nat → σ → Prop) (w v w' : World) (M N : Nat) (p : List Ob × List Nat × σ) (a ta : Option Addr) (c tc : Nat) (o0 own : Nat → Prop) : Prop where
  mv : Mv (fun k => o0 k ∨ two M N k) (fun k => own k ∨ two M N k) v w'
  below : Below w.heap.size w w'
  size : v.heap.size ≤ w'.heap.size
  low : ∀ k, own k → w.heap.size ≤ k
  no : ∀ k, two M N k → ¬ own k ∧ w'.heap[k]? = v.heap[k]?
  j : J own w' p.1 p.2.1 p.2.2
  mz : MZ (fun k => own k ∨ two M N k) w' a c p.1
  tz : TZ (fun k => own k ∨ two M N k) w' ta tc p.1.length
section
variable {σ : Type} {i : HId} {cap slots : Nat} {mk ln : σ → Nat → σ} {oq : σ → Prop} {J : (Nat → Prop) → World → List Ob → List Nat → σ → Prop} {w wr v w' : World} {M N : Nat} {p : List Ob × List Nat × σ} {Os : List Ob} {rt : List Nat} {s : σ} {a ta : Option Addr} {c tc : Nat} {own : Nat → Prop}
theorem Md1.ra (h : Md1 J w wr M p a ta c tc own) : wr.rangeAt M 0 (Value.slice a p.1.length c :: rtV p.2.1) := fun j u hu => by
  rw [cell_of_row wr _ _ _ _ _ h.m, Nat.zero_add]; simpa using hu
theorem Md1.play (K : Kit i cap slots mk ln J oq) (h : Md1 J w wr M (Os, rt, s) a ta c tc own) (hok : oq s) (hb : Below wr.heap.size wr v) (N : Nat) (hN : N = M ∨ wr.heap.size ≤ N ∧ N < v.heap.size) (d : Dd) (hd5 : d.d5 < 18446744073709551616) : Calls Try.prog 9 #[.pointer (some ⟨i.H, 0, none⟩), .agg (Value.slice a Os.length c :: rtV rt).toArray, .slice ta Os.length tc, .agg d.c] v fun e w' => ∃ p a' c' ta' tc' own', p = stepP cap slots mk ln d Os rt s ∧ e = .returned (.tuple #[.agg (Value.slice a' p.1.length c' :: rtV p.2.1).toArray, .slice ta' p.1.length tc', .bool true]) ∧ Mn1 J w v w' M N p a' ta' c' tc' own own' := by
  have hMl : M < wr.heap.size := (Array.getElem?_eq_some_iff.1 h.m).1
  have hsz := hb.size
  have hlt : ∀ k, own k → k < wr.heap.size := K.lt h.j
  have hNo : ∀ k, two M N k → ¬ own k ∧ k < v.heap.size := by
    rintro k (hk | hk)
    · rw [hk]; exact ⟨h.no, by omega⟩
    · rw [hk]
      rcases hN with hN | hN
      · rw [hN]; exact ⟨h.no, by omega⟩
      · exact ⟨fun e => by have := hlt _ e; omega, hN.2⟩
  have hj2 : boxJ J (two M N) (fun k => v.heap[k]?) (fun k => own k ∨ two M N k) v Os rt s := ⟨own, K.same h.j fun k hk => hb.block k (hlt k hk), fun k => Iff.rfl, fun k hk => ⟨(hNo k hk).1, (hNo k hk).2, rfl⟩⟩
  have m0 : Mv (fun k => own k ∨ k = M) (fun k => own k ∨ two M N k) wr v := by
    refine ⟨Chg.of_below hb, fun k hk => ?_⟩
    rcases hk with hk | hk | hk
    · exact Or.inl (Or.inl hk)
    · exact Or.inl (Or.inr hk)
    · rw [hk]
      rcases hN with hN | hN
      · exact Or.inl (Or.inr hN)
      · exact Or.inr hN.1
  refine (play_any (kitBox K (two M N) (fun k => v.heap[k]?)) hj2 hok (h.mz.mv m0) (h.tz.mv m0) d hd5).mono ?_
  rintro e w' ⟨a', c', ta', tc', o2, rfl, m, ⟨own', j', e2, x2⟩, mz, tz⟩
  have hiff : o2 = fun k => own' k ∨ two M N k := funext fun k => propext (e2 k)
  subst hiff
  have hnl : w.heap.size ≤ N := by
    have := h.below.size
    have := h.lo
    omega
  refine ⟨_, a', c', ta', tc', own', rfl, rfl, m, ?_, m.chg.size, fun k hk => ?_, fun k hk => ?_, j', mz, tz⟩
  · have hbv : Below w.heap.size w v := h.below.trans (hb.mono h.below.size)
    refine hbv.trans ⟨m.chg.os, m.chg.tape, m.chg.output, m.chg.size, fun k hk => m.chg.block k (by have := hbv.size; omega) (fun e => ?_)⟩
    have := h.lo
    rcases e with e | e | e
    · have := h.low k e; omega
    · omega
    · omega
  · have := h.lo
    rcases m.sub k (Or.inl hk) with (e | e | e) | e
    · exact h.low k e
    · omega
    · omega
    · have := h.below.size
      omega
  · exact ⟨(x2 k hk).1, (x2 k hk).2.2⟩
/-- The round's end: the box M holds the new model. -/
theorem Mn1.next {o0 : Nat → Prop} (K : Kit i cap slots mk ln J oq) (h : Mn1 J w v w' M N p a ta c tc o0 own) (lo : w.heap.size ≤ M) {w5 : World} {N2 : Nat} (hN2 : N2 = N ∨ w'.heap.size ≤ N2) (hc : Chg (fun k => k = M ∨ k = N2) w' w5) (hlN : w.heap.size ≤ N2) (hm : w5.heap[M]? = some (.cells (Value.slice a p.1.length c :: rtV p.2.1).toArray 30 (0, 0))) : Md1 J w w5 M p a ta c tc own := by
  have m2 : Mv (fun k => own k ∨ two M N k) (fun k => own k ∨ k = M) w' w5 := by
    refine ⟨⟨hc.os, hc.tape, hc.output, hc.size, fun k hk hn => hc.block k hk (fun e => ?_)⟩, fun k hk => ?_⟩
    · rcases e with e | e
      · exact hn (Or.inr (Or.inl e))
      · rcases hN2 with e2 | e2
        · exact hn (Or.inr (Or.inr (e.trans e2)))
        · omega
    · rcases hk with hk | hk
      · exact Or.inl (Or.inl hk)
      · exact Or.inl (Or.inr (Or.inl hk))
  have hnoM := h.no M (Or.inl rfl)
  refine ⟨h.below.trans ⟨hc.os, hc.tape, hc.output, hc.size, fun k hk => hc.block k (by have := h.below.size; omega) (fun e => by omega)⟩, h.low, hnoM.1, lo, hm, K.same h.j fun k hk => hc.block k (K.lt h.j k hk) (fun e => ?_), h.mz.mv m2, h.tz.mv m2⟩
  rcases e with e | e
  · rw [e] at hk; exact hnoM.1 hk
  · rcases hN2 with e2 | e2
    · have := (h.no N (Or.inr rfl)).1
      rw [e, e2] at hk; exact this hk
    · have := K.lt h.j k hk
      omega
end
end Go.Proofs.Ytjappkiiokpjjaa
