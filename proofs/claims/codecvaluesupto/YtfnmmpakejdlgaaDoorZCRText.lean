/- The document's own take at a text. (Written by mkrtake.py.) -/
import Derived.Test.YtfnmmpakejdlgaaDoorZCRTake
namespace Go.Proofs.YtfnmmpakejdlgaaDoor
open Go.RowKit
set_option maxHeartbeats 4000000 in
set_option maxRecDepth 1000000 in
theorem rtake_text (a : Option Addr) (c p ab : Nat) (l : List UInt8) (r : GV × Nat × Int) (w : World) (x : Nat) (hB : Byts w a l) (hl : l.length ≤ 140737488355328) (hp : p < l.length) (hx : x = (l.getD p 0).toNat) (hk : x = 4) (hlc : l.length ≤ c) (hcm : c ≤ maxLen) (hr : r = txtR l (p + 1)) :
    Calls Tryd.prog 50 #[.slice a l.length c, .int .i64 p, .int .i64 ab] w fun e w' => RTSay w l r p e w' := by
  obtain ⟨Q, hQ⟩ : ∃ Q : Ending → World → Prop, Q = fun e w' => RTSay w l r p e w' := ⟨_, rfl⟩
  have HQ := mkHid hQ
  rw [← hQ]
  clear hQ
  have HR := mkHid hr
  obtain ⟨b, o, rfl⟩ := byts_some hB (by omega)
  have hc0 := byts_cell hB hp
  rw [show (l.getD p 0).toNat = x from hx.symm] at hc0
  obtain ⟨n, hn⟩ : ∃ n, n = l.length := ⟨_, rfl⟩
  have HB := mkHid hB
  have hx256 : x < 256 := by rw [hx]; exact UInt8.toNat_lt _
  rw [← hn] at hp hl ⊢
  have h1 : (p : Int) < (n : Int) := by omega
  have hbl : b < w.heap.size := cell_lt' hc0
  have hbl1 : b < w.heap.size + 1 := by omega
  have hbl2 : b < w.heap.size + 1 + 1 := by omega
  subst hk
  obtain ⟨p1, hp1e⟩ : ∃ p1, p1 = p + 1 := ⟨_, rfl⟩
  have hpi : (p : Int) + 1 = (p1 : Int) := by omega
  rw [← hp1e] at hr
  obtain ⟨t, ht⟩ : ∃ t, t = numR (l.drop p1) 0 0 := ⟨_, rfl⟩
  obtain ⟨m, hm⟩ : ∃ m, m = t.1 := ⟨_, rfl⟩
  obtain ⟨q, hq⟩ : ∃ q, q = p1 + t.2.1 := ⟨_, rfl⟩
  obtain ⟨tr, htr⟩ : ∃ tr, tr = textR l q m := ⟨_, rfl⟩
  obtain ⟨NS, hNS⟩ : ∃ NS : ByteArray, NS = ⟨((l.drop q).take m).toArray⟩ := ⟨_, rfl⟩
  have HR1 : Hid (r = if t.2.2 ≠ 0 then (.nil, 0, t.2.2) else if 2048 < m then (.nil, 0, 2) else if tr ≠ 0 then (.nil, 0, tr) else (gT NS, q + m, 0)) := by
    show r = _
    rw [hr, txtR]
    have e : cntR (l.drop p1) 0 2048 2 = if t.2.2 ≠ 0 then (0, 0, t.2.2) else if 2048 < m then (0, 0, 2) else (m, t.2.1, 0) := by
      unfold cntR
      rw [← ht, hm]
      simp
    rw [e]
    by_cases h1 : t.2.2 ≠ 0
    · rw [if_pos h1, if_pos h1, if_pos h1]
    · rw [if_neg h1, if_neg h1]
      by_cases h2 : 2048 < m
      · rw [if_pos h2, if_pos h2]
        rfl
      · rw [if_neg h2, if_neg h2, htr, hNS, hq]
        rfl
  have HN : Hid (∀ u, RowKit.Below w.heap.size w u → Calls Tryd.prog 21 #[.slice (some ⟨b, o, none⟩) n c, .int .i64 p1] u fun e w' => e = .returned (.tuple #[.int .u64 (m : Int), .int .i64 ((if t.2.2 = 0 then q else 0 : Nat) : Int), .int .i64 t.2.2]) ∧ w' = u) := by
    intro u hu
    rw [hm, hq, ht, hn]
    exact rNumber_any (some ⟨b, o, none⟩) c p1 l u (HB.out.below hu) (by omega) (by omega)
  have hlt : m < 18446744073709551616 := by rw [hm, ht]; exact numR_lt _ _ _ (by omega)
  have HLE0 : Hid (t.2.2 = 0 → q ≤ l.length ∧ p1 < q) := by
    intro h
    rw [hq]
    rw [ht] at h ⊢
    have h1 := numR_le l p1 (by omega) h
    have h2 := numR_pos _ _ _ h
    exact ⟨h1, by omega⟩
  have HCH : Hid (∀ u, RowKit.Below w.heap.size w u → q ≤ l.length → m ≤ 2048 → Calls Tryd.prog 63 #[.slice (some ⟨b, o, none⟩) n c, .int .i64 q, .int .u64 m] u fun e w' => (tr = 0 ∧ q + m ≤ l.length ∧ e = .returned (.tuple #[.string NS, .int .i64 ((q + m : Nat) : Int), .int .i64 0]) ∨ tr ≠ 0 ∧ e = .returned (.tuple #[.string ⟨#[]⟩, .int .i64 0, .int .i64 tr])) ∧ RowKit.Below u.heap.size u w') := by
    intro u hu h1 h2
    rw [htr, hNS, hn]
    exact rchunk_any (some ⟨b, o, none⟩) c q m l u (HB.out.below hu) h1 (by omega) (by omega) (by omega) hlc hcm
  have HSZ : Hid (q + m ≤ l.length → m ≤ 2048 → NS.size ≤ 140737488355328) := by
    intro h1 h2
    rw [hNS]
    show ((l.drop q).take m).toArray.size ≤ _
    simp
    omega
  have HP1 := mkHid hp1e
  have HB3 : Hid (RowKit.Below w.heap.size w (((w.alloc (.cells #[.int .i64 0, .int .i64 0, .string ⟨#[]⟩, .slice none 0 0, .slice none 0 0] 29)).alloc (.cells #[.int .i64 0, .int .i64 0, .string ⟨#[]⟩, .slice none 0 0, .slice none 0 0] 29)).alloc (.cells #[.int .i64 4, .int .i64 0, .string ⟨#[]⟩, .slice none 0 0, .slice none 0 0] 29))) := by
    show RowKit.Below _ _ _
    repeat (first | exact RowKit.Below.refl _ _ | refine RowKit.Below.alloc ?_ (by simp; omega) _ | refine RowKit.Below.alloc ?_ (by simp) _ | refine RowKit.Below.alloc ?_ (Nat.le_refl _) _)
  have HZ6 : Hid (Blk5 (((w.alloc (.cells #[.int .i64 0, .int .i64 0, .string ⟨#[]⟩, .slice none 0 0, .slice none 0 0] 29)).alloc (.cells #[.int .i64 0, .int .i64 0, .string ⟨#[]⟩, .slice none 0 0, .slice none 0 0] 29)).alloc (.cells #[.int .i64 4, .int .i64 0, .string ⟨#[]⟩, .slice none 0 0, .slice none 0 0] 29)) w.heap.size (.int .i64 0) (.int .i64 0) (.string ⟨#[]⟩) (.slice none 0 0) (.slice none 0 0)) := ((Blk5.new w _ _ _ _ _).below ((RowKit.Below.refl _ _).alloc (Nat.le_refl _) _)).below ((RowKit.Below.refl _ _).alloc (Nat.le_refl _) _)
  have HZ9 : Hid (Blk5 (((w.alloc (.cells #[.int .i64 0, .int .i64 0, .string ⟨#[]⟩, .slice none 0 0, .slice none 0 0] 29)).alloc (.cells #[.int .i64 0, .int .i64 0, .string ⟨#[]⟩, .slice none 0 0, .slice none 0 0] 29)).alloc (.cells #[.int .i64 4, .int .i64 0, .string ⟨#[]⟩, .slice none 0 0, .slice none 0 0] 29)) (w.heap.size + 1) (.int .i64 0) (.int .i64 0) (.string ⟨#[]⟩) (.slice none 0 0) (.slice none 0 0)) := by
    have h := (Blk5.new (w.alloc (.cells #[.int .i64 0, .int .i64 0, .string ⟨#[]⟩, .slice none 0 0, .slice none 0 0] 29)) (.int .i64 0) (.int .i64 0) (.string ⟨#[]⟩) (.slice none 0 0) (.slice none 0 0)).below ((RowKit.Below.refl _ _).alloc (Nat.le_refl _) (.cells #[.int .i64 4, .int .i64 0, .string ⟨#[]⟩, .slice none 0 0, .slice none 0 0] 29))
    show Blk5 _ _ _ _ _ _ _
    simpa using h
  have HZ10 : Hid (Blk5 (((w.alloc (.cells #[.int .i64 0, .int .i64 0, .string ⟨#[]⟩, .slice none 0 0, .slice none 0 0] 29)).alloc (.cells #[.int .i64 0, .int .i64 0, .string ⟨#[]⟩, .slice none 0 0, .slice none 0 0] 29)).alloc (.cells #[.int .i64 4, .int .i64 0, .string ⟨#[]⟩, .slice none 0 0, .slice none 0 0] 29)) (w.heap.size + 1 + 1) (.int .i64 4) (.int .i64 0) (.string ⟨#[]⟩) (.slice none 0 0) (.slice none 0 0)) := by
    have h := Blk5.new ((w.alloc (.cells #[.int .i64 0, .int .i64 0, .string ⟨#[]⟩, .slice none 0 0, .slice none 0 0] 29)).alloc (.cells #[.int .i64 0, .int .i64 0, .string ⟨#[]⟩, .slice none 0 0, .slice none 0 0] 29)) (.int .i64 4) (.int .i64 0) (.string ⟨#[]⟩) (.slice none 0 0) (.slice none 0 0)
    show Blk5 _ _ _ _ _ _ _
    simpa using h
  clear hr hx hB HR hn hp1e ht hm hq htr hNS
  by_cases he : t.2.2 = 0
  · have HN2 : Hid (∀ u, RowKit.Below w.heap.size w u → Calls Tryd.prog 21 #[.slice (some ⟨b, o, none⟩) n c, .int .i64 p1] u fun e w' => e = .returned (.tuple #[.int .u64 (m : Int), .int .i64 (q : Int), .int .i64 0]) ∧ w' = u) := by
      intro u hu
      have h := HN.out u hu
      rw [if_pos he, he] at h
      exact h
    obtain ⟨hql, hqp⟩ := HLE0.out he
    by_cases hbig : 2048 < m
    · have HR : Hid (r = (.nil, 0, 2)) := by
        show r = _
        rw [HR1.out, if_neg (by simpa using he), if_pos hbig]
      have hbi : (2048 : Int) < (m : Int) := by omega
      clear he HN HLE0 HR1 HCH HZ6 HZ9 HZ10
      go_enter Tryd.func50, Tryd.ntmps50
      go_wp2_with fail
      refine (HN2.out _ HB3.out).mono ?_
      rintro e w1 ⟨rfl, rfl⟩
      go_wp2_with fail
      refine bodyPost_ret (v := .tuple #[.agg #[.int .i64 0, .int .i64 0, .string ⟨#[]⟩, .slice none 0 0, .slice none 0 0], .int .i64 0, .int .i64 2]) ?_ rfl ?_
      · have hres : Tryd.f50.results = #[.cell 6 29, .tmp 7, .tmp 8] := by kernel_rfl
        simp only [results, hres]
        go_simp
      · rw [HQ.out, HR.out]
        refine ⟨?_, Or.inr ⟨by decide, rfl⟩⟩
        repeat (first | exact RowKit.Below.refl _ _ | refine RowKit.Below.alloc ?_ (by simp; omega) _ | refine RowKit.Below.alloc ?_ (by simp) _ | refine RowKit.Below.alloc ?_ (Nat.le_refl _) _)
    · have hbi : ¬ ((2048 : Int) < (m : Int)) := by omega
      have HR2 : Hid (r = if tr ≠ 0 then (.nil, 0, tr) else (gT NS, q + m, 0)) := by
        show r = _
        rw [HR1.out, if_neg (by simpa using he), if_neg hbig]
      clear he HN HLE0 HR1
      go_enter Tryd.func50, Tryd.ntmps50
      go_wp2_with fail
      refine (HN2.out _ HB3.out).mono ?_
      rintro e w1 ⟨rfl, rfl⟩
      go_wp2_with fail
      refine (HCH.out _ HB3.out hql (by omega)).mono ?_
      rintro e w2 ⟨h2, b2⟩
      have z6 := HZ6.out.below b2
      have z9 := HZ9.out.below b2
      have z10 := HZ10.out.below b2
      obtain ⟨a0, a1, a2, a3, a4⟩ := z6.cells
      obtain ⟨b0, b1', b2', b3', b4'⟩ := z9.cells
      obtain ⟨c0, c1, c2, c3, c4⟩ := z10.cells
      obtain ⟨f0, f1, f2, f3, f4⟩ := z6.free
      obtain ⟨g0, g1, g2, g3, g4⟩ := z10.free
      have B2 := mkHid (HB3.out.trans (b2.mono HB3.out.size))
      have n1 : w.heap.size ≠ w.heap.size + 1 := by omega
      have n2 : w.heap.size ≠ w.heap.size + 1 + 1 := by omega
      have n3 : w.heap.size + 1 + 1 ≠ w.heap.size := by omega
      have n4 : w.heap.size + 1 + 1 ≠ w.heap.size + 1 := by omega
      have n5 : w.heap.size + 1 ≠ w.heap.size := by omega
      have n6 : w.heap.size + 1 ≠ w.heap.size + 1 + 1 := by omega
      rcases h2 with ⟨ht0, hqm, rfl⟩ | ⟨ht0, rfl⟩
      · have HR : Hid (r = (gT NS, q + m, 0)) := by
          show r = _
          rw [HR2.out, if_neg (by simpa using ht0)]
        have HS := mkHid (HSZ.out hqm (by omega))
        have HQM := mkHid hqm
        clear b2 z6 z9 z10 ht0 hqm
        go_wp2_with fail
        refine bodyPost_ret (v := .tuple #[.agg #[.int .i64 4, .int .i64 0, .string NS, .slice none 0 0, .slice none 0 0], .int .i64 ((q + m : Nat) : Int), .int .i64 0]) ?_ rfl ?_
        · have hres : Tryd.f50.results = #[.cell 6 29, .tmp 7, .tmp 8] := by kernel_rfl
          simp only [results, hres]
          go_simp
        · rw [HQ.out, HR.out]
          refine ⟨?_, Or.inl ⟨rfl, _, _, _, _, _, _, _, _, _, rfl, HQM.out, by have := HP1.out; show p < q + m; omega, lies_any (by unfold Int64; omega) (by unfold Int64; omega) HS.out⟩⟩
          exact (((((B2.out.setCell (p := ⟨w.heap.size + 1 + 1, 2, none⟩) (by show w.heap.size ≤ w.heap.size + 1 + 1; omega) _).setCell (p := ⟨w.heap.size, 0, none⟩) (Nat.le_refl _) _).setCell (p := ⟨w.heap.size, 1, none⟩) (Nat.le_refl _) _).setCell (p := ⟨w.heap.size, 2, none⟩) (Nat.le_refl _) _).setCell (p := ⟨w.heap.size, 3, none⟩) (Nat.le_refl _) _).setCell (p := ⟨w.heap.size, 4, none⟩) (Nat.le_refl _) _
      · have HR : Hid (r = (.nil, 0, tr)) := by
          show r = _
          rw [HR2.out, if_pos ht0]
        have HT0 := mkHid ht0
        have htb : (tr == 0) = false := by simp; exact ht0
        clear b2 z6 z9 z10 ht0
        go_wp2_with fail
        refine bodyPost_ret (v := .tuple #[.agg #[.int .i64 0, .int .i64 0, .string ⟨#[]⟩, .slice none 0 0, .slice none 0 0], .int .i64 0, .int .i64 tr]) ?_ rfl ?_
        · have hres : Tryd.f50.results = #[.cell 6 29, .tmp 7, .tmp 8] := by kernel_rfl
          simp only [results, hres]
          go_simp
        · rw [HQ.out, HR.out]
          refine ⟨?_, Or.inr ⟨HT0.out, rfl⟩⟩
          exact (((((B2.out.setCell (p := ⟨w.heap.size + 1 + 1, 2, none⟩) (by show w.heap.size ≤ w.heap.size + 1 + 1; omega) _).setCell (p := ⟨w.heap.size, 0, none⟩) (Nat.le_refl _) _).setCell (p := ⟨w.heap.size, 1, none⟩) (Nat.le_refl _) _).setCell (p := ⟨w.heap.size, 2, none⟩) (Nat.le_refl _) _).setCell (p := ⟨w.heap.size, 3, none⟩) (Nat.le_refl _) _).setCell (p := ⟨w.heap.size, 4, none⟩) (Nat.le_refl _) _
  · have HN2 : Hid (∀ u, RowKit.Below w.heap.size w u → Calls Tryd.prog 21 #[.slice (some ⟨b, o, none⟩) n c, .int .i64 p1] u fun e w' => e = .returned (.tuple #[.int .u64 (m : Int), .int .i64 0, .int .i64 t.2.2]) ∧ w' = u) := by
      intro u hu
      have h := HN.out u hu
      rw [if_neg he] at h
      exact h
    have HR : Hid (r = (.nil, 0, t.2.2)) := by
      show r = _
      rw [HR1.out, if_pos he]
    have HE := mkHid he
    obtain ⟨er, her⟩ : ∃ er, er = t.2.2 := ⟨_, rfl⟩
    have heb : (er == 0) = false := by simp; rw [her]; exact he
    rw [← her] at HN2
    have HER := mkHid her
    clear he HN HLE0 HR1 her HCH
    go_enter Tryd.func50, Tryd.ntmps50
    go_wp2_with fail
    refine (HN2.out _ HB3.out).mono ?_
    rintro e w1 ⟨rfl, rfl⟩
    go_wp2_with fail
    refine bodyPost_ret (v := .tuple #[.agg #[.int .i64 0, .int .i64 0, .string ⟨#[]⟩, .slice none 0 0, .slice none 0 0], .int .i64 0, .int .i64 er]) ?_ rfl ?_
    · have hres : Tryd.f50.results = #[.cell 6 29, .tmp 7, .tmp 8] := by kernel_rfl
      simp only [results, hres]
      go_simp
    · rw [HQ.out, HR.out, HER.out]
      refine ⟨?_, Or.inr ⟨HE.out, rfl⟩⟩
      repeat (first | exact RowKit.Below.refl _ _ | refine RowKit.Below.alloc ?_ (by simp; omega) _ | refine RowKit.Below.alloc ?_ (by simp) _ | refine RowKit.Below.alloc ?_ (Nat.le_refl _) _)
end Go.Proofs.YtfnmmpakejdlgaaDoor
