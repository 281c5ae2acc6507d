/- The reader of keys: a text or a name. -/
import Derived.Test.YticbcoklpgfkhaaKyRead
import Derived.Test.YticbcoklpgfkhaaKyScope
namespace Go.Proofs.Yticbcoklpgfkhaa
open Go.RowKit

/-- What a text says behind a byte 0. -/
def zeroR (l : List UInt8) : Option (List UInt8 × List UInt8) := match l with | [] => none | y :: t => if y = 0 then some ([], t) else if y = 255 then (lettersR t).map (fun q => (0 :: q.1, q.2)) else none
theorem letters_step (x : UInt8) (t : List UInt8) : lettersR (x :: t) = if x = 0 then zeroR t else (lettersR t).map (fun q => (x :: q.1, q.2)) := by
  cases t with
  | nil =>
    simp [lettersR, zeroR]
  | cons y t => rw [lettersR, zeroR]
def more (acc : List UInt8) (r : Option (List UInt8 × List UInt8)) : Option (List UInt8 × List UInt8) := r.map fun q => (acc ++ q.1, q.2)
theorem more_cons (acc : List UInt8) (x : UInt8) (r : Option (List UInt8 × List UInt8)) : more acc (r.map (fun q => (x :: q.1, q.2))) = more (acc ++ [x]) r := by
  cases r with
  | none => rfl
  | some q => simp [more]
/-- Where letters stands: what was read lies in new memory. -/
structure LSt (w : World) (R B : Nat) (w' : World) (l acc : List UInt8) (v : Value) : Prop where
  rd : Rk w' R B l
  only : OnlyAt R w w'
  own : w'.ownsRow w.heap.size 5 1 v acc.length (Lib.byteCells acc)
theorem LSt.app {w w1 w2 : World} {R B : Nat} {l acc : List UInt8} {v v' : Value} {x : UInt8} {O : Obj} (hB : B ≤ w.heap.size) (h : LSt w R B w1 l acc v) (ho : w2.ownsRow w.heap.size 5 1 v' (acc.length + 1) (Lib.byteCells acc ++ [.int .u8 (x.toNat : Int)])) (hg : (w1.alloc O).grownBy w2 v.ownBlock) : LSt w R B w2 l (acc ++ [x]) v' := by
  have hne : ∀ k, k < w.heap.size → some k ≠ v.ownBlock := fun k hk e => by have := (own_blk h.own e.symm).2; omega
  have hs := h.only.size
  have ha : ∀ k, k < w1.heap.size → (w1.alloc O).heap[k]? = w1.heap[k]? := ((RowKit.Below.refl w1.heap.size w1).alloc (Nat.le_refl _) O).block
  have hb : ∀ k, k < w.heap.size → w2.heap[k]? = w1.heap[k]? := fun k hk => (hg.block k (by simp; omega) (hne k hk)).trans (ha k (by omega))
  refine ⟨h.rd.keep fun k _ hk => hb k (by omega), ?_, ?_⟩
  · exact ⟨hg.os.trans h.only.os, hg.tape.trans h.only.tape, hg.output.trans h.only.output, Nat.le_trans hs (Nat.le_trans (by simp) hg.size), fun k hk hn => (hb k hk).trans (h.only.block k hk hn)⟩
  · rw [Lib.byteCells_append, List.length_append]
    exact ho
theorem LSt.read {w w1 w2 : World} {R B : Nat} {l l' acc : List UInt8} {v : Value} (hR : R < w.heap.size) (h : LSt w R B w1 l acc v) (hr : Rk w2 R B l') (ho : OnlyAt R w1 w2) : LSt w R B w2 l' acc v :=
  ⟨hr, h.only.trans ho, own_keep1 h.own fun k e => ho.block k (own_blk h.own e).1 (by have := (own_blk h.own e).2; omega)⟩
/-- What letters tells. -/
def LetSay (w : World) (R B : Nat) (r : Option (List UInt8 × List UInt8)) (e : Ending) (w' : World) : Prop :=
  OnlyAt R w w' ∧ match r with | none => e = .returned (.tuple #[.string ⟨#[]⟩, .bool false]) ∧ (∃ l, Rk w' R B l) | some q => e = .returned (.tuple #[.string ⟨q.1.toArray⟩, .bool true]) ∧ Rk w' R B q.2
/-- What holds at each label of letters. -/
def JLet (w : World) (R B : Nat) (l0 : List UInt8) (lb k : Nat) (a' : Act) (w' : World) : Prop :=
  ∃ (t : Array Value) (v : Value) (l acc : List UInt8), a' = { tmps := t, defers := [] } ∧ t.size = 29 ∧ t[0]? = some (.pointer (some ⟨R, 0, none⟩)) ∧ t[4]? = some v ∧ LSt w R B w' l acc v ∧ l.length + acc.length ≤ l0.length ∧
    ((lb = 0 ∧ k = l.length * 10 + 1 ∧ lettersR l0 = more acc (lettersR l)) ∨ (lb = 1 ∧ k = l.length * 10 + 2 ∧ lettersR l0 = more acc (zeroR l)))

set_option maxHeartbeats 4000000 in
set_option maxRecDepth 1000000 in
theorem kletters_any (R B : Nat) (l0 : List UInt8) (w : World) (h : Rk w R B l0) (hB : B ≤ w.heap.size) (hl : l0.length ≤ 1000000) :
    Calls Try.prog 65 #[.pointer (some ⟨R, 0, none⟩)] w fun e w' => LetSay w R B (lettersR l0) e w' := by
  have hml : maxLen = 9223372036854775807 := rfl
  obtain ⟨i0, hi, hz0, hz1, hz2⟩ := info_parts infoU8
  have hRl := h.lt
  have HR := mkHid h
  clear h
  go_enter Try.func65, Try.ntmps65
  go_wp2_with fail
  refine wp_scope_ghost2 (JLet w R B l0) ?_ ?_
  · rintro k IH lb a' w' ⟨t, v, l, acc, rfl, hts, ht0, ht4, hS, hlen, hJ⟩
    obtain ⟨u, rfl⟩ := frame29 t hts
    have e0 : u 0 = .pointer (some ⟨R, 0, none⟩) := by simpa using ht0
    have e4 : u 4 = v := by simpa using ht4
    rw [e0, e4]
    clear e0 e4 hts ht0 ht4
    obtain ⟨va, vc, rfl, _⟩ := own_slice hS.own
    have hs1 := hS.only.size
    rcases hJ with ⟨rfl, rfl, hfin⟩ | ⟨rfl, rfl, hfin⟩
    · refine ⟨_, rfl, ?_⟩
      have H1 := mkHid (one_all R B l w' hS.rd)
      have HS := mkHid hS
      have HF := mkHid hfin
      cases l with
      | nil =>
        clear hS hfin
        go_wp2_with fail
        refine H1.out.mono ?_
        rintro e w2 ⟨rfl, r2, o2⟩
        have HE : Hid (OnlyAt R w w2 ∧ ∃ l, Rk w2 R B l) := ⟨HS.out.only.trans o2, _, r2⟩
        clear r2 o2
        rw [show oneR [] = -1 from rfl]
        go_wp2_with fail
        refine jumps_ret ?_
        go_ret2
        have hn : lettersR l0 = none := by rw [HF.out]; rfl
        unfold LetSay
        rw [hn]
        exact ⟨HE.out.1, rfl, HE.out.2⟩
      | cons x t =>
        obtain ⟨m, hm⟩ : ∃ m, m = x.toNat := ⟨_, rfl⟩
        have hm2 : m < 256 := by rw [hm]; exact x.toNat_lt
        rw [show oneR (x :: t) = (m : Int) by rw [hm]; rfl] at H1
        simp only [List.length_cons] at hlen
        by_cases hx : x = 0
        · have k0 : ((m : Int) == 0) = true := by rw [hm, hx]; rfl
          have HF2 : Hid (lettersR l0 = more acc (zeroR t)) := by
            show _ = _
            rw [hfin, letters_step, if_pos hx]
          clear hS hfin hm hx
          go_wp2_with fail
          refine H1.out.mono ?_
          rintro e w2 ⟨rfl, r2, o2⟩
          have HS2 := mkHid (HS.out.read hRl r2 o2)
          clear r2 o2
          go_wp2_with fail
          go_step3
          refine ⟨_, ?_, _, _, t, acc, rfl, rfl, rfl, rfl, HS2.out, by omega, Or.inr ⟨rfl, rfl, HF2.out⟩⟩
          simp only [List.length_cons]
          omega
        · have k0 : ((m : Int) == 0) = false := by
            simp only [beq_eq_false_iff_ne, ne_eq]
            intro e
            exact hx (UInt8.toNat_inj.1 (by show x.toNat = 0; omega))
          have k1 : ((m : Int) == -1) = false := by simp only [beq_eq_false_iff_ne, ne_eq]; omega
          have HF2 : Hid (lettersR l0 = more (acc ++ [x]) (lettersR t)) := by
            show _ = _
            rw [hfin, letters_step, if_neg hx, more_cons]
          have HM := mkHid hm
          clear hS hfin hm hx
          go_wp2_with fail
          refine H1.out.mono ?_
          rintro e w2 ⟨rfl, r2, o2⟩
          have hS2 := HS.out.read hRl r2 o2
          have HS2 := mkHid hS2
          have HO2 : Hid (World.ownsRow _ w.heap.size 5 1 (.slice va acc.length vc) acc.length (Lib.byteCells acc)) := hS2.own.alloc (.cells #[.int .u8 (m : Int)] 5)
          have hs2 := hS2.only.size
          clear r2 o2 hS2
          go_wp2_with (at_builtin; refine wpList_append_own_at _ rfl _ _ 29 rfl w.heap.size 5 i0 (.int .u8 0) 1 1 Try.underlying29 hi hz0 hz1 hz2 rfl (by decide) _ _ _ rfl HO2.out _ 1 1 [.int .u8 (m : Int)] rfl rfl ?c1 ?c2 ?c3 ?c4 ?c5 ?_)
          case c1 =>
            intro j u hj
            match j, hj with
            | 0, hj => simp at hj; subst hj; simp [Addr.add]
          case c2 => intro u hu; simp at hu; subst hu; rfl
          case c3 => omega
          case c4 => omega
          case c5 => simp; omega
          intro v1 w3 o3 g3 _ at3
          rw [HM.out] at o3 g3
          have HS3 := mkHid (HS2.out.app hB o3 g3)
          clear o3 g3 at3
          go_wp2_with fail
          go_step3
          refine ⟨_, ?_, _, _, t, acc ++ [x], rfl, rfl, rfl, rfl, HS3.out, by simp; omega, Or.inl ⟨rfl, rfl, HF2.out⟩⟩
          simp only [List.length_cons]
          omega
    · refine ⟨_, rfl, ?_⟩
      have H1 := mkHid (one_all R B l w' hS.rd)
      have HS := mkHid hS
      have HF := mkHid hfin
      cases l with
      | nil =>
        clear hS hfin
        go_wp2_with fail
        refine H1.out.mono ?_
        rintro e w2 ⟨rfl, r2, o2⟩
        have HE : Hid (OnlyAt R w w2 ∧ ∃ l, Rk w2 R B l) := ⟨HS.out.only.trans o2, _, r2⟩
        clear r2 o2
        rw [show oneR [] = -1 from rfl]
        go_wp2_with fail
        refine jumps_ret ?_
        go_ret2
        have hn : lettersR l0 = none := by rw [HF.out]; rfl
        unfold LetSay
        rw [hn]
        exact ⟨HE.out.1, rfl, HE.out.2⟩
      | cons x t =>
        obtain ⟨m, hm⟩ : ∃ m, m = x.toNat := ⟨_, rfl⟩
        have hm2 : m < 256 := by rw [hm]; exact x.toNat_lt
        rw [show oneR (x :: t) = (m : Int) by rw [hm]; rfl] at H1
        simp only [List.length_cons] at hlen
        by_cases hx : x = 0
        · have k0 : ((m : Int) == 0) = true := by rw [hm, hx]; rfl
          have HF2 : Hid (lettersR l0 = some (acc, t)) := by
            show _ = _
            rw [hfin, hx]
            simp [zeroR, more]
          clear hS hfin hm hx
          go_wp2_with fail
          refine H1.out.mono ?_
          rintro e w2 ⟨rfl, r2, o2⟩
          have hS2 := HS.out.read hRl r2 o2
          have HS2 := mkHid hS2
          have HCV := own_string hS2.own
          clear r2 o2 hS2
          go_wp2_with fail
          refine jumps_ret ?_
          go_ret2
          unfold LetSay
          rw [HF2.out]
          exact ⟨HS2.out.only, rfl, HS2.out.rd⟩
        · have k0 : ((m : Int) == 0) = false := by
            simp only [beq_eq_false_iff_ne, ne_eq]
            intro e
            exact hx (UInt8.toNat_inj.1 (by show x.toNat = 0; omega))
          by_cases hy : x = 255
          · have k1 : ((m : Int) == 255) = true := by rw [hm, hy]; rfl
            have HF2 : Hid (lettersR l0 = more (acc ++ [0]) (lettersR t)) := by
              show _ = _
              rw [hfin, zeroR, if_neg hx, if_pos hy, more_cons]
            clear hS hfin hm hx hy
            go_wp2_with fail
            refine H1.out.mono ?_
            rintro e w2 ⟨rfl, r2, o2⟩
            have hS2 := HS.out.read hRl r2 o2
            have HS2 := mkHid hS2
            have HO2 : Hid (World.ownsRow _ w.heap.size 5 1 (.slice va acc.length vc) acc.length (Lib.byteCells acc)) := hS2.own.alloc (.cells #[.int .u8 0] 5)
            have hs2 := hS2.only.size
            clear r2 o2 hS2
            go_wp2_with (at_builtin; refine wpList_append_own_at _ rfl _ _ 29 rfl w.heap.size 5 i0 (.int .u8 0) 1 1 Try.underlying29 hi hz0 hz1 hz2 rfl (by decide) _ _ _ rfl HO2.out _ 1 1 [.int .u8 0] rfl rfl ?d1 ?d2 ?d3 ?d4 ?d5 ?_)
            case d1 =>
              intro j u hj
              match j, hj with
              | 0, hj => simp at hj; subst hj; simp [Addr.add]
            case d2 => intro u hu; simp at hu; subst hu; rfl
            case d3 => omega
            case d4 => omega
            case d5 => simp; omega
            intro v1 w3 o3 g3 _ at3
            have HS3 := mkHid (HS2.out.app (x := 0) hB o3 g3)
            clear o3 g3 at3
            go_wp2_with fail
            go_step3
            refine ⟨_, ?_, _, _, t, acc ++ [0], rfl, rfl, rfl, rfl, HS3.out, by simp; omega, Or.inl ⟨rfl, rfl, HF2.out⟩⟩
            simp only [List.length_cons]
            omega
          · have k1 : ((m : Int) == 255) = false := by
              simp only [beq_eq_false_iff_ne, ne_eq]
              intro e
              exact hy (UInt8.toNat_inj.1 (by show x.toNat = 255; omega))
            have HF2 : Hid (lettersR l0 = none) := by
              show _ = _
              rw [hfin, zeroR, if_neg hx, if_neg hy]
              rfl
            clear hS hfin hm hx hy
            go_wp2_with fail
            refine H1.out.mono ?_
            rintro e w2 ⟨rfl, r2, o2⟩
            have HE : Hid (OnlyAt R w w2 ∧ ∃ l, Rk w2 R B l) := ⟨HS.out.only.trans o2, _, r2⟩
            clear r2 o2
            go_wp2_with fail
            refine jumps_ret ?_
            go_ret2
            unfold LetSay
            rw [HF2.out]
            exact ⟨HE.out.1, rfl, HE.out.2⟩
  · intro pass
    have HPA := mkHid pass
    clear pass
    have HS0 : Hid (LSt w R B w l0 [] (.slice none 0 0)) := ⟨HR.out, OnlyAt.refl _ _, ⟨rfl, Or.inl ⟨rfl, rfl⟩⟩⟩
    go_wp2_with fail
    rename_i hK
    go_step3
    refine hK _ _ ?_
    refine use_first (lb := 0) (k := l0.length * 10 + 1) HPA.out rfl ?_
    refine ⟨_, _, l0, [], rfl, rfl, rfl, rfl, HS0.out, by simp, Or.inl ⟨rfl, rfl, ?_⟩⟩
    cases lettersR l0 <;> rfl
end Go.Proofs.Yticbcoklpgfkhaa
