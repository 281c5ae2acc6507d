/- The document's own take: as takeR has it. (Written by mkrtake.py.) -/
import Derived.Test.YtfnmmpakejdlgaaDoorK13
import Derived.Test.YtfnmmpakejdlgaaDoorK14
import Derived.Test.YtfnmmpakejdlgaaDoorZCUpto0
namespace Go.Proofs.YtfnmmpakejdlgaaDoor
open Go.RowKit

/-- What take tells. -/
def RTSay (w : World) (l : List UInt8) (r : GV × Nat × Int) (p : Nat) (e : Ending) (w' : World) : Prop :=
  RowKit.Below w.heap.size w w' ∧ ((r.2.2 = 0 ∧ ∃ kk n s la ln lc fa fn fc, e = .returned (.tuple #[.agg #[.int .i64 kk, .int .i64 n, .string s, .slice la ln lc, .slice fa fn fc], .int .i64 (r.2.1 : Int), .int .i64 0]) ∧ r.2.1 ≤ l.length ∧ p < r.2.1 ∧ From w.heap.size w' r.1 (.agg #[.int .i64 kk, .int .i64 n, .string s, .slice la ln lc, .slice fa fn fc])) ∨ (r.2.2 ≠ 0 ∧ e = .returned (.tuple #[.agg #[.int .i64 0, .int .i64 0, .string ⟨#[]⟩, .slice none 0 0, .slice none 0 0], .int .i64 0, .int .i64 r.2.2])))
theorem numR_le (l : List UInt8) (p : Nat) (hp : p ≤ l.length) (h : (numR (l.drop p) 0 0).2.2 = 0) : p + (numR (l.drop p) 0 0).2.1 ≤ l.length := by
  have key : ∀ (t : List UInt8) (k acc : Nat), (numR t k acc).2.2 = 0 → (numR t k acc).2.1 ≤ k + t.length := by
    intro t
    induction t with
    | nil => intro k acc h; exact absurd h (by simp [numR])
    | cons c t ih =>
      intro k acc h
      rw [numR] at h ⊢
      split at h
      · exact absurd h (by decide)
      · rename_i h3
        rw [if_neg h3]
        split at h
        · rename_i h4
          rw [if_pos h4]
          have := ih _ _ h
          simp
          omega
        · rename_i h4
          rw [if_neg h4]
          simp
  have := key _ _ _ h
  rw [List.length_drop] at this
  omega
theorem lies_any {w : World} {k n : Int} {s : ByteArray} (hk : Int64 k) (hn : Int64 n) (hs : s.size ≤ 140737488355328) : Lies w (.mk k n s 0 (fun _ => .nil) 0 (fun _ => ⟨#[]⟩) (fun _ => .nil)) (.agg #[.int .i64 k, .int .i64 n, .string s, .slice none 0 0, .slice none 0 0]) :=
  ⟨none, 0, none, 0, rfl, hk, hn, hs, Nat.le_refl _, by unfold maxLen; omega, Nat.le_refl _, by unfold maxLen; omega, fun i hi => absurd hi (Nat.not_lt_zero _), fun i hi => absurd hi (Nat.not_lt_zero _)⟩
set_option maxHeartbeats 4000000 in
set_option maxRecDepth 1000000 in
theorem rtake_end (a : Option Addr) (c p ab : Nat) (l : List UInt8) (r : GV × Nat × Int) (w : World)  (_hl : l.length ≤ 140737488355328) (hp : p = l.length) (hr : r = (.nil, 0, 17)) :
    Calls Tryd.prog 50 #[.slice a l.length c, .int .i64 p, .int .i64 ab] w fun e w' => RTSay w l r p e w' := by
  obtain ⟨Q, hQ⟩ : ∃ Q : Ending → World → Prop, Q = fun e w' => RTSay w l r p e w' := ⟨_, rfl⟩
  have HQ := mkHid hQ
  rw [← hQ]
  clear hQ
  have HR := mkHid hr
  obtain ⟨n, hn⟩ : ∃ n, n = l.length := ⟨_, rfl⟩
  rw [← hn] at hp ⊢
  have h1 : ¬ ((p : Int) < (n : Int)) := by omega
  clear hr hn
  go_enter Tryd.func50, Tryd.ntmps50
  go_wp2_with fail
  refine bodyPost_ret (v := .tuple #[.agg #[.int .i64 0, .int .i64 0, .string ⟨#[]⟩, .slice none 0 0, .slice none 0 0], .int .i64 0, .int .i64 17]) ?_ rfl ?_
  · have hres : Tryd.f50.results = #[.cell 6 29, .tmp 7, .tmp 8] := by kernel_rfl
    simp only [results, hres]
    go_simp
  · rw [HQ.out, HR.out]
    refine ⟨?_, Or.inr ⟨by decide, rfl⟩⟩
    repeat (first | exact RowKit.Below.refl _ _ | refine RowKit.Below.alloc ?_ (by simp; omega) _ | refine RowKit.Below.alloc ?_ (by simp) _ | refine RowKit.Below.alloc ?_ (Nat.le_refl _) _)
set_option maxHeartbeats 4000000 in
set_option maxRecDepth 1000000 in
theorem rtake_bad (a : Option Addr) (c p ab : Nat) (l : List UInt8) (r : GV × Nat × Int) (w : World) (x : Nat) (hB : Byts w a l) (hl : l.length ≤ 140737488355328) (hp : p < l.length) (hx : x = (l.getD p 0).toNat) (hk : x = 0 ∨ 6 < x) (hr : r = (.nil, 0, 4)) :
    Calls Tryd.prog 50 #[.slice a l.length c, .int .i64 p, .int .i64 ab] w fun e w' => RTSay w l r p e w' := by
  obtain ⟨Q, hQ⟩ : ∃ Q : Ending → World → Prop, Q = fun e w' => RTSay w l r p e w' := ⟨_, rfl⟩
  have HQ := mkHid hQ
  rw [← hQ]
  clear hQ
  have HR := mkHid hr
  obtain ⟨b, o, rfl⟩ := byts_some hB (by omega)
  have hc0 := byts_cell hB hp
  rw [show (l.getD p 0).toNat = x from hx.symm] at hc0
  obtain ⟨n, hn⟩ : ∃ n, n = l.length := ⟨_, rfl⟩
  have HB := mkHid hB
  have hx256 : x < 256 := by rw [hx]; exact UInt8.toNat_lt _
  rw [← hn] at hp hl ⊢
  have h1 : (p : Int) < (n : Int) := by omega
  have hbl : b < w.heap.size := cell_lt' hc0
  have hbl1 : b < w.heap.size + 1 := by omega
  have hbl2 : b < w.heap.size + 1 + 1 := by omega
  clear hr hn hx hB
  rcases hk with hk | hk
  · have k1 : (x : Int) < 1 := by omega
    go_enter Tryd.func50, Tryd.ntmps50
    go_wp2_with fail
    refine bodyPost_ret (v := .tuple #[.agg #[.int .i64 0, .int .i64 0, .string ⟨#[]⟩, .slice none 0 0, .slice none 0 0], .int .i64 0, .int .i64 4]) ?_ rfl ?_
    · have hres : Tryd.f50.results = #[.cell 6 29, .tmp 7, .tmp 8] := by kernel_rfl
      simp only [results, hres]
      go_simp
    · rw [HQ.out, HR.out]
      refine ⟨?_, Or.inr ⟨by decide, rfl⟩⟩
      repeat (first | exact RowKit.Below.refl _ _ | refine RowKit.Below.alloc ?_ (by simp; omega) _ | refine RowKit.Below.alloc ?_ (by simp) _ | refine RowKit.Below.alloc ?_ (Nat.le_refl _) _)
  · have k1 : ¬ ((x : Int) < 1) := by omega
    have k2 : (6 : Int) < (x : Int) := by omega
    go_enter Tryd.func50, Tryd.ntmps50
    go_wp2_with fail
    refine bodyPost_ret (v := .tuple #[.agg #[.int .i64 0, .int .i64 0, .string ⟨#[]⟩, .slice none 0 0, .slice none 0 0], .int .i64 0, .int .i64 4]) ?_ rfl ?_
    · have hres : Tryd.f50.results = #[.cell 6 29, .tmp 7, .tmp 8] := by kernel_rfl
      simp only [results, hres]
      go_simp
    · rw [HQ.out, HR.out]
      refine ⟨?_, Or.inr ⟨by decide, rfl⟩⟩
      repeat (first | exact RowKit.Below.refl _ _ | refine RowKit.Below.alloc ?_ (by simp; omega) _ | refine RowKit.Below.alloc ?_ (by simp) _ | refine RowKit.Below.alloc ?_ (Nat.le_refl _) _)
set_option maxHeartbeats 4000000 in
set_option maxRecDepth 1000000 in
theorem rtake_deep (a : Option Addr) (c p ab : Nat) (l : List UInt8) (r : GV × Nat × Int) (w : World) (x : Nat) (hB : Byts w a l) (hl : l.length ≤ 140737488355328) (hp : p < l.length) (hx : x = (l.getD p 0).toNat) (hk : x = 5 ∨ x = 6) (hab : 8 ≤ ab) (hab2 : ab ≤ 100) (hr : r = (.nil, 0, 3)) :
    Calls Tryd.prog 50 #[.slice a l.length c, .int .i64 p, .int .i64 ab] w fun e w' => RTSay w l r p e w' := by
  obtain ⟨Q, hQ⟩ : ∃ Q : Ending → World → Prop, Q = fun e w' => RTSay w l r p e w' := ⟨_, rfl⟩
  have HQ := mkHid hQ
  rw [← hQ]
  clear hQ
  have HR := mkHid hr
  obtain ⟨b, o, rfl⟩ := byts_some hB (by omega)
  have hc0 := byts_cell hB hp
  rw [show (l.getD p 0).toNat = x from hx.symm] at hc0
  obtain ⟨n, hn⟩ : ∃ n, n = l.length := ⟨_, rfl⟩
  have HB := mkHid hB
  have hx256 : x < 256 := by rw [hx]; exact UInt8.toNat_lt _
  rw [← hn] at hp hl ⊢
  have h1 : (p : Int) < (n : Int) := by omega
  have hbl : b < w.heap.size := cell_lt' hc0
  have hbl1 : b < w.heap.size + 1 := by omega
  have hbl2 : b < w.heap.size + 1 + 1 := by omega
  have k1 : ¬ ((x : Int) < 1) := by omega
  have k2 : ¬ ((6 : Int) < (x : Int)) := by omega
  have k3 : (5 : Int) ≤ (x : Int) := by omega
  have k4 : (8 : Int) ≤ (ab : Int) := by omega
  clear hr hn hx hB hk
  go_enter Tryd.func50, Tryd.ntmps50
  go_wp2_with fail
  refine bodyPost_ret (v := .tuple #[.agg #[.int .i64 0, .int .i64 0, .string ⟨#[]⟩, .slice none 0 0, .slice none 0 0], .int .i64 0, .int .i64 3]) ?_ rfl ?_
  · have hres : Tryd.f50.results = #[.cell 6 29, .tmp 7, .tmp 8] := by kernel_rfl
    simp only [results, hres]
    go_simp
  · rw [HQ.out, HR.out]
    refine ⟨?_, Or.inr ⟨by decide, rfl⟩⟩
    repeat (first | exact RowKit.Below.refl _ _ | refine RowKit.Below.alloc ?_ (by simp; omega) _ | refine RowKit.Below.alloc ?_ (by simp) _ | refine RowKit.Below.alloc ?_ (Nat.le_refl _) _)
set_option maxHeartbeats 4000000 in
set_option maxRecDepth 1000000 in
theorem rtake_null (a : Option Addr) (c p ab : Nat) (l : List UInt8) (r : GV × Nat × Int) (w : World) (x : Nat) (hB : Byts w a l) (hl : l.length ≤ 140737488355328) (hp : p < l.length) (hx : x = (l.getD p 0).toNat) (hk : x = 1) (hr : r = (gN, p + 1, 0)) :
    Calls Tryd.prog 50 #[.slice a l.length c, .int .i64 p, .int .i64 ab] w fun e w' => RTSay w l r p e w' := by
  obtain ⟨Q, hQ⟩ : ∃ Q : Ending → World → Prop, Q = fun e w' => RTSay w l r p e w' := ⟨_, rfl⟩
  have HQ := mkHid hQ
  rw [← hQ]
  clear hQ
  have HR := mkHid hr
  obtain ⟨b, o, rfl⟩ := byts_some hB (by omega)
  have hc0 := byts_cell hB hp
  rw [show (l.getD p 0).toNat = x from hx.symm] at hc0
  obtain ⟨n, hn⟩ : ∃ n, n = l.length := ⟨_, rfl⟩
  have HB := mkHid hB
  have hx256 : x < 256 := by rw [hx]; exact UInt8.toNat_lt _
  rw [← hn] at hp hl ⊢
  have h1 : (p : Int) < (n : Int) := by omega
  have hbl : b < w.heap.size := cell_lt' hc0
  have hbl1 : b < w.heap.size + 1 := by omega
  have hbl2 : b < w.heap.size + 1 + 1 := by omega
  subst hk
  clear hr hx hB
  have HN := mkHid hn
  clear hn
  go_enter Tryd.func50, Tryd.ntmps50
  go_wp2_with fail
  refine bodyPost_ret (v := .tuple #[.agg #[.int .i64 1, .int .i64 0, .string ⟨#[]⟩, .slice none 0 0, .slice none 0 0], .int .i64 ((p + 1 : Nat) : Int), .int .i64 0]) ?_ rfl ?_
  · have hres : Tryd.f50.results = #[.cell 6 29, .tmp 7, .tmp 8] := by kernel_rfl
    simp only [results, hres]
    go_simp
  · rw [HQ.out, HR.out]
    refine ⟨?_, Or.inl ⟨rfl, _, _, _, _, _, _, _, _, _, rfl, by have := HN.out; show p + 1 ≤ _; omega, by show p < p + 1; omega, lies_any (by unfold Int64; omega) (by unfold Int64; omega) (Nat.zero_le _)⟩⟩
    repeat (first | exact RowKit.Below.refl _ _ | refine RowKit.Below.alloc ?_ (by simp; omega) _ | refine RowKit.Below.alloc ?_ (by simp) _ | refine RowKit.Below.alloc ?_ (Nat.le_refl _) _)
set_option maxHeartbeats 4000000 in
set_option maxRecDepth 1000000 in
theorem rtake_bool (a : Option Addr) (c p ab : Nat) (l : List UInt8) (r : GV × Nat × Int) (w : World) (x : Nat) (hB : Byts w a l) (hl : l.length ≤ 140737488355328) (hp : p < l.length) (hx : x = (l.getD p 0).toNat) (hk : x = 2) (hr : r = boolR l (p + 1)) :
    Calls Tryd.prog 50 #[.slice a l.length c, .int .i64 p, .int .i64 ab] w fun e w' => RTSay w l r p e w' := by
  obtain ⟨Q, hQ⟩ : ∃ Q : Ending → World → Prop, Q = fun e w' => RTSay w l r p e w' := ⟨_, rfl⟩
  have HQ := mkHid hQ
  rw [← hQ]
  clear hQ
  have HR := mkHid hr
  obtain ⟨b, o, rfl⟩ := byts_some hB (by omega)
  have hc0 := byts_cell hB hp
  rw [show (l.getD p 0).toNat = x from hx.symm] at hc0
  obtain ⟨n, hn⟩ : ∃ n, n = l.length := ⟨_, rfl⟩
  have HB := mkHid hB
  have hx256 : x < 256 := by rw [hx]; exact UInt8.toNat_lt _
  rw [← hn] at hp hl ⊢
  have h1 : (p : Int) < (n : Int) := by omega
  have hbl : b < w.heap.size := cell_lt' hc0
  have hbl1 : b < w.heap.size + 1 := by omega
  have hbl2 : b < w.heap.size + 1 + 1 := by omega
  subst hk
  obtain ⟨p1, hp1e⟩ : ∃ p1, p1 = p + 1 := ⟨_, rfl⟩
  have hpi : (p : Int) + 1 = (p1 : Int) := by omega
  rw [← hp1e] at hr
  by_cases hend : p1 = n
  · have HR2 : Hid (r = (.nil, 0, 17)) := by
      show r = _
      rw [hr, boolR, if_pos (by omega)]
    have h2 : ¬ ((p1 : Int) < (n : Int)) := by omega
    clear hr hx hB HR hn hp1e
    have HR := HR2
    go_enter Tryd.func50, Tryd.ntmps50
    go_wp2_with fail
    refine bodyPost_ret (v := .tuple #[.agg #[.int .i64 0, .int .i64 0, .string ⟨#[]⟩, .slice none 0 0, .slice none 0 0], .int .i64 0, .int .i64 17]) ?_ rfl ?_
    · have hres : Tryd.f50.results = #[.cell 6 29, .tmp 7, .tmp 8] := by kernel_rfl
      simp only [results, hres]
      go_simp
    · rw [HQ.out, HR.out]
      refine ⟨?_, Or.inr ⟨by decide, rfl⟩⟩
      repeat (first | exact RowKit.Below.refl _ _ | refine RowKit.Below.alloc ?_ (by simp; omega) _ | refine RowKit.Below.alloc ?_ (by simp) _ | refine RowKit.Below.alloc ?_ (Nat.le_refl _) _)
  · have hp1 : p1 < l.length := by omega
    have hc1 := byts_cell HB.out hp1
    obtain ⟨y, hy⟩ : ∃ y, y = byteN l p1 := ⟨_, rfl⟩
    rw [show (l.getD p1 0).toNat = y from hy.symm] at hc1
    have hy256 : y < 256 := by rw [hy, byteN]; exact UInt8.toNat_lt _
    have h2 : (p1 : Int) < (n : Int) := by omega
    have HR1 : Hid (r = if 1 < y then (.nil, 0, 4) else (gB y, p1 + 1, 0)) := by
      show r = _
      rw [hr, boolR, if_neg (by omega), ← hy]
    have HN := mkHid hn
    have HP1 := mkHid hp1e
    clear hr hx hB HR hn hend hy hp1 hp1e
    by_cases hy1 : 1 < y
    · have HR : Hid (r = (.nil, 0, 4)) := by
        show r = _
        rw [HR1.out, if_pos hy1]
      go_enter Tryd.func50, Tryd.ntmps50
      go_wp2_with fail
      refine bodyPost_ret (v := .tuple #[.agg #[.int .i64 0, .int .i64 0, .string ⟨#[]⟩, .slice none 0 0, .slice none 0 0], .int .i64 0, .int .i64 4]) ?_ rfl ?_
      · have hres : Tryd.f50.results = #[.cell 6 29, .tmp 7, .tmp 8] := by kernel_rfl
        simp only [results, hres]
        go_simp
      · rw [HQ.out, HR.out]
        refine ⟨?_, Or.inr ⟨by decide, rfl⟩⟩
        repeat (first | exact RowKit.Below.refl _ _ | refine RowKit.Below.alloc ?_ (by simp; omega) _ | refine RowKit.Below.alloc ?_ (by simp) _ | refine RowKit.Below.alloc ?_ (Nat.le_refl _) _)
    · have HR : Hid (r = (gB y, p1 + 1, 0)) := by
        show r = _
        rw [HR1.out, if_neg hy1]
      go_enter Tryd.func50, Tryd.ntmps50
      go_wp2_with fail
      refine bodyPost_ret (v := .tuple #[.agg #[.int .i64 2, .int .i64 y, .string ⟨#[]⟩, .slice none 0 0, .slice none 0 0], .int .i64 ((p1 + 1 : Nat) : Int), .int .i64 0]) ?_ rfl ?_
      · have hres : Tryd.f50.results = #[.cell 6 29, .tmp 7, .tmp 8] := by kernel_rfl
        simp only [results, hres]
        go_simp
      · rw [HQ.out, HR.out]
        refine ⟨?_, Or.inl ⟨rfl, _, _, _, _, _, _, _, _, _, rfl, by have := HN.out; show p1 + 1 ≤ _; omega, by have := HP1.out; show p < p1 + 1; omega, lies_any (by unfold Int64; omega) (by unfold Int64; omega) (Nat.zero_le _)⟩⟩
        repeat (first | exact RowKit.Below.refl _ _ | refine RowKit.Below.alloc ?_ (by simp; omega) _ | refine RowKit.Below.alloc ?_ (by simp) _ | refine RowKit.Below.alloc ?_ (Nat.le_refl _) _)
set_option maxHeartbeats 4000000 in
set_option maxRecDepth 1000000 in
theorem rtake_int (a : Option Addr) (c p ab : Nat) (l : List UInt8) (r : GV × Nat × Int) (w : World) (x : Nat) (hB : Byts w a l) (hl : l.length ≤ 140737488355328) (hp : p < l.length) (hx : x = (l.getD p 0).toNat) (hk : x = 3) (hr : r = intR l (p + 1)) :
    Calls Tryd.prog 50 #[.slice a l.length c, .int .i64 p, .int .i64 ab] w fun e w' => RTSay w l r p e w' := by
  obtain ⟨Q, hQ⟩ : ∃ Q : Ending → World → Prop, Q = fun e w' => RTSay w l r p e w' := ⟨_, rfl⟩
  have HQ := mkHid hQ
  rw [← hQ]
  clear hQ
  have HR := mkHid hr
  obtain ⟨b, o, rfl⟩ := byts_some hB (by omega)
  have hc0 := byts_cell hB hp
  rw [show (l.getD p 0).toNat = x from hx.symm] at hc0
  obtain ⟨n, hn⟩ : ∃ n, n = l.length := ⟨_, rfl⟩
  have HB := mkHid hB
  have hx256 : x < 256 := by rw [hx]; exact UInt8.toNat_lt _
  rw [← hn] at hp hl ⊢
  have h1 : (p : Int) < (n : Int) := by omega
  have hbl : b < w.heap.size := cell_lt' hc0
  have hbl1 : b < w.heap.size + 1 := by omega
  have hbl2 : b < w.heap.size + 1 + 1 := by omega
  subst hk
  obtain ⟨p1, hp1e⟩ : ∃ p1, p1 = p + 1 := ⟨_, rfl⟩
  have hpi : (p : Int) + 1 = (p1 : Int) := by omega
  rw [← hp1e] at hr
  obtain ⟨t, ht⟩ : ∃ t, t = numR (l.drop p1) 0 0 := ⟨_, rfl⟩
  have HR1 : Hid (r = if t.2.2 ≠ 0 then (.nil, 0, t.2.2) else (gI (unfR t.1), p1 + t.2.1, 0)) := by
    show r = _
    rw [hr, intR, ← ht]
  have HN : Hid (∀ u, RowKit.Below w.heap.size w u → Calls Tryd.prog 21 #[.slice (some ⟨b, o, none⟩) n c, .int .i64 p1] u fun e w' => e = .returned (.tuple #[.int .u64 (t.1 : Int), .int .i64 ((if t.2.2 = 0 then p1 + t.2.1 else 0 : Nat) : Int), .int .i64 t.2.2]) ∧ w' = u) := by
    intro u hu
    rw [ht, hn]
    exact rNumber_any (some ⟨b, o, none⟩) c p1 l u (HB.out.below hu) (by omega) (by omega)
  have hlt : t.1 < 18446744073709551616 := by rw [ht]; exact numR_lt _ _ _ (by omega)
  have HLE0 : Hid (t.2.2 = 0 → p1 + t.2.1 ≤ l.length ∧ 0 < t.2.1) := by
    intro h
    rw [ht] at h ⊢
    exact ⟨numR_le l p1 (by omega) h, numR_pos _ _ _ h⟩
  have HP1 := mkHid hp1e
  have HB3 : Hid (RowKit.Below w.heap.size w (((w.alloc (.cells #[.int .i64 0, .int .i64 0, .string ⟨#[]⟩, .slice none 0 0, .slice none 0 0] 29)).alloc (.cells #[.int .i64 0, .int .i64 0, .string ⟨#[]⟩, .slice none 0 0, .slice none 0 0] 29)).alloc (.cells #[.int .i64 3, .int .i64 0, .string ⟨#[]⟩, .slice none 0 0, .slice none 0 0] 29))) := by
    show RowKit.Below _ _ _
    repeat (first | exact RowKit.Below.refl _ _ | refine RowKit.Below.alloc ?_ (by simp; omega) _ | refine RowKit.Below.alloc ?_ (by simp) _ | refine RowKit.Below.alloc ?_ (Nat.le_refl _) _)
  clear hr hx hB HR hn hp1e ht
  by_cases he : t.2.2 = 0
  · obtain ⟨m, hm⟩ : ∃ m, m = t.1 := ⟨_, rfl⟩
    obtain ⟨q, hq⟩ : ∃ q, q = p1 + t.2.1 := ⟨_, rfl⟩
    obtain ⟨h, hh⟩ : ∃ h, h = m / 2 := ⟨_, rfl⟩
    have HN2 : Hid (∀ u, RowKit.Below w.heap.size w u → Calls Tryd.prog 21 #[.slice (some ⟨b, o, none⟩) n c, .int .i64 p1] u fun e w' => e = .returned (.tuple #[.int .u64 (m : Int), .int .i64 (q : Int), .int .i64 0]) ∧ w' = u) := by
      intro u hu
      have h := HN.out u hu
      rw [if_pos he, he, ← hm, ← hq] at h
      exact h
    have HLE : Hid (q ≤ l.length) := by
      show q ≤ _
      have := (HLE0.out he).1
      omega
    have HPQ : Hid (p < q) := by
      show p < q
      have := (HLE0.out he).2
      have := HP1.out
      omega
    have hd : (m : Int) / 2 = (h : Int) := by omega
    have hlt2 : h < 9223372036854775808 := by omega
    by_cases ho : m % 2 = 1
    · have HR : Hid (r = (gI (-(h : Int) - 1), q, 0)) := by
        show r = _
        rw [HR1.out, if_neg (by simpa using he), ← hm, ← hq, unfR, if_pos ho, ← hh]
      have hmo : (m : Int) % 2 = 1 := by omega
      clear hm hq hh he HN HLE0 HR1 ho hlt
      go_enter Tryd.func50, Tryd.ntmps50
      go_wp2_with fail
      refine (HN2.out _ HB3.out).mono ?_
      rintro e w1 ⟨rfl, rfl⟩
      go_wp2_with fail
      refine bodyPost_ret (v := .tuple #[.agg #[.int .i64 3, .int .i64 (-(h : Int) - 1), .string ⟨#[]⟩, .slice none 0 0, .slice none 0 0], .int .i64 ((q : Nat) : Int), .int .i64 0]) ?_ rfl ?_
      · have hres : Tryd.f50.results = #[.cell 6 29, .tmp 7, .tmp 8] := by kernel_rfl
        simp only [results, hres]
        go_simp
      · rw [HQ.out, HR.out]
        refine ⟨?_, Or.inl ⟨rfl, _, _, _, _, _, _, _, _, _, rfl, HLE.out, HPQ.out, lies_any (by unfold Int64; omega) (by unfold Int64; omega) (Nat.zero_le _)⟩⟩
        repeat (first | exact RowKit.Below.refl _ _ | refine RowKit.Below.alloc ?_ (by simp; omega) _ | refine RowKit.Below.alloc ?_ (by simp) _ | refine RowKit.Below.alloc ?_ (Nat.le_refl _) _)
    · have HR : Hid (r = (gI (h : Int), q, 0)) := by
        show r = _
        rw [HR1.out, if_neg (by simpa using he), ← hm, ← hq, unfR, if_neg ho, ← hh]
      have hmo : (m : Int) % 2 = 0 := by omega
      clear hm hq hh he HN HLE0 HR1 ho hlt
      go_enter Tryd.func50, Tryd.ntmps50
      go_wp2_with fail
      refine (HN2.out _ HB3.out).mono ?_
      rintro e w1 ⟨rfl, rfl⟩
      go_wp2_with fail
      refine bodyPost_ret (v := .tuple #[.agg #[.int .i64 3, .int .i64 (h : Int), .string ⟨#[]⟩, .slice none 0 0, .slice none 0 0], .int .i64 ((q : Nat) : Int), .int .i64 0]) ?_ rfl ?_
      · have hres : Tryd.f50.results = #[.cell 6 29, .tmp 7, .tmp 8] := by kernel_rfl
        simp only [results, hres]
        go_simp
      · rw [HQ.out, HR.out]
        refine ⟨?_, Or.inl ⟨rfl, _, _, _, _, _, _, _, _, _, rfl, HLE.out, HPQ.out, lies_any (by unfold Int64; omega) (by unfold Int64; omega) (Nat.zero_le _)⟩⟩
        repeat (first | exact RowKit.Below.refl _ _ | refine RowKit.Below.alloc ?_ (by simp; omega) _ | refine RowKit.Below.alloc ?_ (by simp) _ | refine RowKit.Below.alloc ?_ (Nat.le_refl _) _)
  · have HN2 : Hid (∀ u, RowKit.Below w.heap.size w u → Calls Tryd.prog 21 #[.slice (some ⟨b, o, none⟩) n c, .int .i64 p1] u fun e w' => e = .returned (.tuple #[.int .u64 (t.1 : Int), .int .i64 0, .int .i64 t.2.2]) ∧ w' = u) := by
      intro u hu
      have h := HN.out u hu
      rw [if_neg he] at h
      exact h
    have HR : Hid (r = (.nil, 0, t.2.2)) := by
      show r = _
      rw [HR1.out, if_pos he]
    have HE := mkHid he
    obtain ⟨er, her⟩ : ∃ er, er = t.2.2 := ⟨_, rfl⟩
    have heb : (er == 0) = false := by simp; rw [her]; exact he
    rw [← her] at HN2
    have HER := mkHid her
    clear he HN HLE0 HR1 her
    go_enter Tryd.func50, Tryd.ntmps50
    go_wp2_with fail
    refine (HN2.out _ HB3.out).mono ?_
    rintro e w1 ⟨rfl, rfl⟩
    go_wp2_with fail
    refine bodyPost_ret (v := .tuple #[.agg #[.int .i64 0, .int .i64 0, .string ⟨#[]⟩, .slice none 0 0, .slice none 0 0], .int .i64 0, .int .i64 er]) ?_ rfl ?_
    · have hres : Tryd.f50.results = #[.cell 6 29, .tmp 7, .tmp 8] := by kernel_rfl
      simp only [results, hres]
      go_simp
    · rw [HQ.out, HR.out, HER.out]
      refine ⟨?_, Or.inr ⟨HE.out, rfl⟩⟩
      repeat (first | exact RowKit.Below.refl _ _ | refine RowKit.Below.alloc ?_ (by simp; omega) _ | refine RowKit.Below.alloc ?_ (by simp) _ | refine RowKit.Below.alloc ?_ (Nat.le_refl _) _)
end Go.Proofs.YtfnmmpakejdlgaaDoor
