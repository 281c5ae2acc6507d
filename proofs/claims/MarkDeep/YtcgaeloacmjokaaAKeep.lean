/- Keep. -/
import Derived.Test.YtcgaeloacmjokaaAAllocOk
import Derived.BigRegion
namespace Go.Proofs.Ytcgaeloacmjokaa
open Go.RowKit

/-- copy of a part of a row of words within it, as a step of a region that draws. -/
theorem step_copy {P : Program} {ops : Array Oper} {o : Oper} {a : Act} {w : World} {K : Act → World → Prop} {Q : Exit → Act → World → Prop} {E : Prop}
    (hg : o.guard = none) (d s : Operand) (t : TypeId) (hop : o.op = Op.call { callee := Callee.builtin Builtin.copy, args := #[d, s], argTypes := #[t, t] })
    (e : TypeId) (h1 : P.underlying t = some (.slice e)) (hsz : (P.info? e).map (·.size) = some 1)
    (W tw p q n dl dc sc : Nat) (ws : List Nat) (hd : a.eval d = .slice (some ⟨W, p, none⟩) dl dc) (hs : a.eval s = .slice (some ⟨W, q, none⟩) n sc) (hw : Wds w W tw ws) (hdl : n ≤ dl) (hpl : p + n ≤ ws.length) (hql : q + n ≤ ws.length)
    (hK : ∀ w', w' = w.setCells W p (wvals ((ws.drop q).take n)) → K (a.put o.dst (goInt n)) w') :
    if Region.wanted o (yielded ops a.tmps) = true then Oper.wp P o a w K Q else E := by
  have hw' : Region.wanted o (yielded ops a.tmps) = true := by simp [Region.wanted, hg]
  rw [if_pos hw']
  have hlen : (wvals ((ws.drop q).take n)).length = n := by simp [wvals]; omega
  have hrun := run_copy_cells (P := P) w t t o.type e W p dl dc ⟨W, q, none⟩ n sc (wvals ((ws.drop q).take n)) h1 hsz (by rw [hlen]; exact (Nat.min_eq_left hdl).symm) (fun j v hv => by
      have hj := (List.getElem?_eq_some_iff.1 hv).1
      rw [hlen] at hj
      rw [show (⟨W, q, none⟩ : Addr).add j = ⟨W, q + j, none⟩ by unfold Addr.add; split <;> simp_all, hw.cell (by omega), ← hv]
      simp [wvals, hj, show q + j < ws.length by omega]) (fun j hj => by rw [hlen] at hj; rw [hw.cell (by omega)]; rfl) (fun j hj => hw.free _) (fun v hv => by
      obtain ⟨x, _, rfl⟩ := List.mem_map.1 hv
      rfl)
  rw [hlen] at hrun
  unfold Oper.wp
  simp [execOp, hop, resolve, invoke, builtin, hd, hs, hrun, Result.andThen]
  exact hK _ rfl

variable {w : World} {A W B ta tw tb : Nat} {ws bs : List Nat} {top low high : Nat} {op : Bool}
/-- The words behind Keep. -/
def keepW (ws : List Nat) (low high n : Nat) : List Nat := lay ws low ((ws.drop high).take n)
def KeepSay (w : World) (A W B ta tw tb : Nat) (ws bs : List Nat) (top low high : Nat) (op : Bool) (e : Ending) (w' : World) : Prop :=
  Chg (mine A W B) w w' ∧ ((op = false ∧ e = .returned (.tuple #[.int .i64 0, .int .i64 0, .int .i64 16]) ∧ Ar w' A W B ta tw tb ws bs top low high op) ∨ (op = true ∧ high = top ∧ e = .returned (.tuple #[.int .i64 0, .int .i64 0, .int .i64 17]) ∧ Ar w' A W B ta tw tb ws bs top low high op) ∨ (op = true ∧ high < top ∧ e = .returned (.tuple #[.int .i64 high, .int .i64 low, .int .i64 0]) ∧ Ar w' A W B ta tw tb (keepW ws low high (1 + sizeAt ws high)) (setB (cleared bs high) low) top (low + (1 + sizeAt ws high)) (high + 1 + sizeAt ws high) op))
theorem info_w : (Try.prog.info? 24).map (·.size) = some 1 := by kernel_rfl
end Go.Proofs.Ytcgaeloacmjokaa
