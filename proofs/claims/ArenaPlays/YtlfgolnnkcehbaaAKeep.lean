/- Keep. -/
import Derived.Test.YtlfgolnnkcehbaaAAllocOk
import Derived.BigRegion
namespace Go.Proofs.Ytlfgolnnkcehbaa
open Go.RowKit

/-- copy of a part of a row of words within it, as a step of a region that draws. -/
theorem step_copy {P : Program} {ops : Array Oper} {o : Oper} {a : Act} {w : World} {K : Act → World → Prop} {Q : Exit → Act → World → Prop} {E : Prop}
    (hg : o.guard = none) (d s : Operand) (t : TypeId) (hop : o.op = Op.call { callee := Callee.builtin Builtin.copy, args := #[d, s], argTypes := #[t, t] })
    (e : TypeId) (h1 : P.underlying t = some (.slice e)) (hsz : (P.info? e).map (·.size) = some 1)
    (W tw p q n dl dc sc : Nat) (ws : List Nat) (hd : a.eval d = .slice (some ⟨W, p, none⟩) dl dc) (hs : a.eval s = .slice (some ⟨W, q, none⟩) n sc) (hw : Wds w W tw ws) (hdl : n ≤ dl) (hpl : p + n ≤ ws.length) (hql : q + n ≤ ws.length)
    (hK : ∀ w', w' = w.setCells W p (wvals ((ws.drop q).take n)) → K (a.put o.dst (goInt n)) w') :
    if Region.wanted o (yielded ops a.tmps) = true then Oper.wp P o a w K Q else E := by
  have hw' : Region.wanted o (yielded ops a.tmps) = true := by simp [Region.wanted, hg]
  rw [if_pos hw']
  have hlen : (wvals ((ws.drop q).take n)).length = n := by simp [wvals]; omega
  have hrun := run_copy_cells (P := P) w t t o.type e W p dl dc ⟨W, q, none⟩ n sc (wvals ((ws.drop q).take n)) h1 hsz (by rw [hlen]; exact (Nat.min_eq_left hdl).symm) (fun j v hv => by
      have hj := (List.getElem?_eq_some_iff.1 hv).1
      rw [hlen] at hj
      rw [show (⟨W, q, none⟩ : Addr).add j = ⟨W, q + j, none⟩ by unfold Addr.add; split <;> simp_all, hw.cell (by omega), ← hv]
      simp [wvals, hj, show q + j < ws.length by omega]) (fun j hj => by rw [hlen] at hj; rw [hw.cell (by omega)]; rfl) (fun j hj => hw.free _) (fun v hv => by
      obtain ⟨x, _, rfl⟩ := List.mem_map.1 hv
      rfl)
  rw [hlen] at hrun
  unfold Oper.wp
  simp [execOp, hop, resolve, invoke, builtin, hd, hs, hrun, Result.andThen]
  exact hK _ rfl

variable {w : World} {A W B ta tw tb : Nat} {ws bs : List Nat} {top low high : Nat} {op : Bool}
/-- The words behind Keep. -/
def keepW (ws : List Nat) (low high n : Nat) : List Nat := lay ws low ((ws.drop high).take n)
def KeepSay (w : World) (A W B ta tw tb : Nat) (ws bs : List Nat) (top low high : Nat) (op : Bool) (e : Ending) (w' : World) : Prop :=
  Chg (mine A W B) w w' ∧ ((op = false ∧ e = .returned (.tuple #[.int .i64 0, .int .i64 0, .int .i64 16]) ∧ Ar w' A W B ta tw tb ws bs top low high op) ∨ (op = true ∧ high = top ∧ e = .returned (.tuple #[.int .i64 0, .int .i64 0, .int .i64 17]) ∧ Ar w' A W B ta tw tb ws bs top low high op) ∨ (op = true ∧ high < top ∧ e = .returned (.tuple #[.int .i64 high, .int .i64 low, .int .i64 0]) ∧ Ar w' A W B ta tw tb (keepW ws low high (1 + sizeAt ws high)) (setB (cleared bs high) low) top (low + (1 + sizeAt ws high)) (high + 1 + sizeAt ws high) op))
theorem info_w : (Try.prog.info? 33).map (·.size) = some 1 := by kernel_rfl
set_option maxHeartbeats 4000000 in
theorem Keep_any (h : Ar w A W B ta tw tb ws bs top low high op) (hfit : high < top → high + 1 + sizeAt ws high ≤ top) :
    Calls Try.prog 13 #[.pointer (some ⟨A, 0, none⟩)] w fun e w' => KeepSay w A W B ta tw tb ws bs top low high op e w' := by
  have H := mkHid (take_any h hfit)
  have htl := h.topLe
  have hlh := h.lowLe
  have hfew := h.few
  have hlen := h.len
  have HF := mkHid hfit
  clear h hfit
  go_enter Try.func13, Try.ntmps13
  go_wp2_with fail
  refine H.out.mono ?_
  rintro e w1 ⟨hc, ⟨h1, rfl, h3⟩ | ⟨h1, h2, rfl, h3⟩ | ⟨h1, h2, rfl, h3⟩⟩
  · have HC := mkHid hc
    have H1 := mkHid h1
    have H3 := mkHid h3
    clear hc h1 h3
    go_wp2_with fail
    go_ret3
    exact ⟨HC.out, Or.inl ⟨H1.out, rfl, H3.out⟩⟩
  · have HC := mkHid hc
    have H1 := mkHid h1
    have H2 := mkHid h2
    have H3 := mkHid h3
    clear hc h1 h2 h3
    go_wp2_with fail
    go_ret3
    exact ⟨HC.out, Or.inr (Or.inl ⟨H1.out, H2.out, rfl, H3.out⟩)⟩
  · have hz := HF.out h2
    obtain ⟨n, hn⟩ : ∃ n, n = 1 + sizeAt ws high := ⟨_, rfl⟩
    have hhn : high + 1 + sizeAt ws high = high + n := by omega
    rw [hhn] at h3 hz
    obtain ⟨c0, c1, c2, c3, c4, c5⟩ := h3.cells
    rw [show ((high + n : Nat) : Int) = (high : Int) + (n : Int) by omega] at c4
    have hn1 : 1 ≤ n := by omega
    have HFACT : Hid (∀ w4 : World, w4 = w1.drew.setCells W low (wvals ((ws.drop high).take n)) → Hid (Raw w4 A W B ta tw tb (keepW ws low high n) (cleared bs high) top low (high + n) op) ∧ Hid (Chg (mine A W B) w w4)) := by
      intro w4 hw4
      have hxl : ((ws.drop high).take n).length = n := by simp; omega
      refine ⟨by rw [hw4]; exact h3.drew.raw.lay _ low (fun x hx => by
        obtain ⟨i, hi, rfl⟩ := List.getElem_of_mem (List.mem_of_mem_drop (List.mem_of_mem_take hx))
        have := h3.wlt i
        rwa [List.getD_eq_getElem?_getD, List.getElem?_eq_getElem hi] at this) (by omega), ?_⟩
      rw [hw4]
      exact Chg.setCells (Or.inr (Or.inl rfl)) _ _ hc.drew
    have HW1 : Hid (Wds w1 W tw ws) := h3.words
    have hq1 : (0 : Int) ≤ (low : Int) := by omega
    have hq2 : (low : Int) ≤ (ws.length : Int) := by omega
    have hq3 : (0 : Int) ≤ (high : Int) := by omega
    have hq4 : (high : Int) ≤ (high : Int) + (n : Int) := by omega
    have hq5 : (high : Int) + (n : Int) ≤ (ws.length : Int) := by omega
    have hq6 : ¬ (ws.length = low) := by omega
    have hq7 : ¬ (ws.length = high) := by omega
    have hq8 : ((high : Int) + (n : Int)).toNat = high + n := by omega
    have hq9 : high + n - high = n := by omega
    have hw1 : IntKind.i64.wrap ((high : Int) + (n : Int) - (high : Int)) = (n : Int) := by rw [IntKind.wrap_i64]; omega
    have hw2 : IntKind.i64.wrap ((low : Int) + (n : Int)) = (low : Int) + (n : Int) := by rw [IntKind.wrap_i64]; omega
    have hcl : Hid ((cleared bs high).length = bs.length) := by show _ = _; simp [cleared]
    have HN := mkHid hn
    have H1 := mkHid h1
    have H2 := mkHid h2
    have H3 := mkHid h3
    have HZ := mkHid hz
    have HLEN := mkHid hlen
    clear hc h1 h2 h3 hn hhn hz HF hlen
    go_wp2_with fail
    go_region_law (refine step_copy rfl (.tmp 22) (.tmp 32) 41 rfl 33 Try.underlying41 info_w W tw low high n (ws.length - low) (ws.length - low) (ws.length - high) ws (by simp [Act.eval, Act.put]) (by simp [Act.eval, Act.put]) HW1.out (by omega) (by omega) (by omega) ?_; intro w4 hw4; obtain ⟨HR4, HC4⟩ := HFACT.out w4 hw4; clear hw4)
    all_goals
      obtain ⟨y0, y1, y2, y3, y4, y5⟩ := HR4.out.cells
      rw [show ((high + n : Nat) : Int) = (high : Int) + (n : Int) by omega] at y4
      have yf := HR4.out.free 3
      have hR5 := HR4.out.setLow (low + n)
      rw [show ((low + n : Nat) : Int) = (low : Int) + (n : Int) by omega] at hR5
      have HR5 := mkHid hR5.drew
      have HC5 := mkHid ((HC4.out.setCell (b := A) (Or.inl (Or.inl rfl)) 3 (.int .i64 ((low : Int) + (n : Int)))).drew)
      obtain ⟨_, z1, _, _, _, _⟩ := hR5.drew.cells
      clear hR5
      go_wp2_with fail
      go_region_with fail
      all_goals
        go_wp2_with fail
        refine (add_any low B tb (cleared bs high).length (cleared bs high) _ (by rw [hcl.out]; have := HLEN.out; have := HZ.out; omega) (by rw [hcl.out]; have := HLEN.out; omega) HR5.out.bits HR5.out.blt).mono ?_
        rintro e w6 ⟨rfl, hc6, hb6⟩
        have HR6 := mkHid (HR5.out.setBits hc6 (low / 64) ((cleared bs high).getD (low / 64) 0 ||| 2 ^ (low % 64)) (by
          have h2 : 2 ^ (low % 64) < 2 ^ 64 := Nat.pow_lt_pow_right (by omega) (by omega)
          exact Nat.or_lt_two_pow (n := 64) (HR5.out.blt _) h2) hb6)
        have HC6 := mkHid (HC5.out.trans (hc6.mono fun k _ e => Or.inr (Or.inr e)))
        clear hc6 hb6
        go_wp2_with fail
        go_ret3
        refine ⟨HC6.out, Or.inr (Or.inr ⟨H1.out, H2.out, rfl, ?_⟩)⟩
        rw [← HN.out, show high + 1 + sizeAt ws high = high + n by have := HN.out; omega]
        exact HR6.out.ar (by unfold keepW; rw [lay_len]; exact htl) (by omega) HZ.out
end Go.Proofs.Ytlfgolnnkcehbaa
