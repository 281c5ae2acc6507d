/- Replies come back: what PutReply writes GetReply reads as the same. -/
import Derived.Test.YtfnmmpakejdlgaaDoorZCRead
import Derived.Test.YtfnmmpakejdlgaaDoorZCReply
namespace Go.Proofs.YtfnmmpakejdlgaaDoor
open Go.RowKit

/-- A value that is good, with numbers of 64 bits and as many bytes as its size says. -/
def Fine (g : GV) : Prop := g.err = 0 ∧ g.every GV.nOk = true ∧ g.enc.length = g.size
theorem fine_of {w : World} {g : GV} {v : Value} (h : Lies w g v) (h0 : g.err = 0) : Fine g := ⟨h0, nOk_lies h, enc_size h⟩
theorem Fine.len {g : GV} (h : Fine g) : g.enc.length ≤ 2048 := by
  have := (err_zeroM h.1).2.2.2.2
  rw [h.2.2]
  exact this

/-- Values one behind the other are read one by one. -/
theorem docs_enc (l : List UInt8) : ∀ (gs : List GV), (∀ g ∈ gs, Fine g) → ∀ (p : Nat) (acc : List GV) (rest : List UInt8), p ≤ l.length → l.drop p = gs.flatMap GV.enc ++ rest →
    ∃ qs, docsR l gs.length p acc = (acc ++ qs, p + (gs.flatMap GV.enc).length, 0) ∧ qs.length = gs.length ∧ ∀ i, i < gs.length → (qs.getD i .nil).same (gs.getD i .nil) = true
  | [], _, p, acc, rest, _, _ => ⟨[], by simp [docsR], rfl, fun i hi => absurd hi (Nat.not_lt_zero _)⟩
  | g :: gs, hf, p, acc, rest, hp, hd => by
    have hg := hf g (by simp)
    have hd1 : l.drop p = g.enc ++ (gs.flatMap GV.enc ++ rest) := by rw [hd]; simp
    obtain ⟨g', e1, e2⟩ := val_enc hg.1 hg.2.1 hg.2.2 hp hd1
    obtain ⟨qs, q1, q2, q3⟩ := docs_enc l gs (fun x hx => hf x (by simp [hx])) (p + g.enc.length) (acc ++ [g']) rest (app_le hd1 hp) (drop_app hd1)
    refine ⟨g' :: qs, ?_, by simp [q2], ?_⟩
    · rw [List.length_cons, docsR, e1]
      simp only [ne_eq, not_true_eq_false, if_false]
      rw [q1]
      simp [Nat.add_assoc]
    · intro i hi
      cases i with
      | zero => simpa using e2
      | succ i => simpa using q3 i (by simpa using hi)

theorem flat_range (gs : List GV) : (List.range gs.length).flatMap (fun i => (gs.getD i .nil).enc) = gs.flatMap GV.enc := by
  have e : gs = (List.range gs.length).map fun i => gs.getD i .nil := by
    apply List.ext_getElem
    · simp
    · intro i h1 h2
      simp [h1]
  conv => rhs; rw [e]
  simp [List.flatMap_map]

theorem rep_enc (E N : Nat) (gs : List GV) (hE : E ≤ 255) (hN : N ≤ 2147483647) (hm : gs.length ≤ 64) (hf : ∀ g ∈ gs, Fine g) :
    ∃ qs, repR (repE E N gs.length fun i => gs.getD i .nil) = (E, N, qs, 0) ∧ qs.length = gs.length ∧ ∀ i, i < gs.length → (qs.getD i .nil).same (gs.getD i .nil) = true := by
  obtain ⟨l, hl⟩ : ∃ l, l = repE E N gs.length fun i => gs.getD i .nil := ⟨_, rfl⟩
  have hl2 : l = varint E ++ (varint N ++ (varint gs.length ++ (gs.flatMap GV.enc ++ []))) := by rw [hl, repE, flat_range]; simp
  have d0 : l.drop 0 = varint E ++ (varint N ++ (varint gs.length ++ (gs.flatMap GV.enc ++ []))) := by simpa using hl2
  have d1 := drop_app d0
  have d2 := drop_app d1
  have d3 := drop_app d2
  have p1 := app_le d0 (Nat.zero_le _)
  have p2 := app_le d1 p1
  have p3 := app_le d2 p2
  have n0 : nA l 0 = (E, (varint E).length, 0) := by unfold nA; rw [d0, num_enc (by omega)]
  have x0 : nxt l 0 = 0 + (varint E).length := by unfold nxt; rw [n0]
  have n1 : nA l (nxt l 0) = (N, (varint N).length, 0) := by rw [x0]; unfold nA; rw [d1, num_enc (by omega)]
  have x1 : nxt l (nxt l 0) = 0 + (varint E).length + (varint N).length := by rw [nxt, n1, x0]
  have n2 : nA l (nxt l (nxt l 0)) = (gs.length, (varint gs.length).length, 0) := by rw [x1]; unfold nA; rw [d2, num_enc (by omega)]
  have x2 : nxt l (nxt l (nxt l 0)) = 0 + (varint E).length + (varint N).length + (varint gs.length).length := by rw [nxt, n2, x1]
  obtain ⟨qs, q1, q2, q3⟩ := docs_enc l gs hf _ [] [] p3 d3
  refine ⟨qs, ?_, q2, q3⟩
  rw [← hl]
  unfold repR
  rw [n0, n1, n2, x2]
  simp only [ne_eq, not_true_eq_false, if_false, q1]
  rw [if_neg (by omega)]
  have hlen : l.length = 0 + (varint E).length + (varint N).length + (varint gs.length).length + (gs.flatMap GV.enc).length := by
    rw [hl2]
    simp only [List.length_append, List.length_nil]
    omega
  rw [if_neg (by omega)]
  simp
theorem flat_len_le : ∀ (gs : List GV), (∀ g ∈ gs, Fine g) → (gs.flatMap GV.enc).length ≤ 2048 * gs.length
  | [], _ => by simp
  | g :: gs, hf => by
    have h1 := flat_len_le gs fun x hx => hf x (by simp [hx])
    have h2 := (hf g (by simp)).len
    rw [List.flatMap_cons, List.length_append, List.length_cons]
    omega
theorem varint_short : ∀ (k n : Nat), n < 128 ^ (k + 1) → (varint n).length ≤ k + 1
  | 0, n, h => by rw [varint_last (by simpa using h)]; simp
  | k + 1, n, h => by
    by_cases h1 : 128 ≤ n
    · rw [varint_more h1, List.length_cons]
      have := varint_short k (n / 128) (by rw [Nat.pow_succ] at h; omega)
      omega
    · rw [varint_last h1]
      simp
theorem repE_len (E N : Nat) (gs : List GV) (hE : E ≤ 255) (hN : N ≤ 2147483647) (hm : gs.length ≤ 64) (hf : ∀ g ∈ gs, Fine g) : (repE E N gs.length fun i => gs.getD i .nil).length ≤ 1000000 := by
  have h1 := flat_len_le gs hf
  have h2 := varint_short 4 E (by simp only [Nat.reduceAdd, Nat.reducePow]; omega)
  have h3 := varint_short 4 N (by simp only [Nat.reduceAdd, Nat.reducePow]; omega)
  have h4 := varint_short 4 gs.length (by simp only [Nat.reduceAdd, Nat.reducePow]; omega)
  rw [repE, flat_range]
  simp only [List.length_append]
  omega
end Go.Proofs.YtfnmmpakejdlgaaDoor
