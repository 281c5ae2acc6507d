/- bytes.Compare of two rows of bytes. -/
import Derived.Test.YtfnmmpakejdlgaaDoorK6
import Derived.Lib.Bytealg
import Derived.Lib.BytesEntry
import Derived.Laws.Externs
import Derived.Deep.Upon
namespace Go.Proofs.YtfnmmpakejdlgaaDoor
open Go.RowKit

/-- A row's bytes, read at once. -/
theorem bytesOf_row {w : World} {a : Option Addr} {c : Nat} {l : List UInt8} (hB : Byts w a l) : (Extern.Bytes.bytesOf (.slice a l.length c)).run Tryd.prog w = .ok ⟨l.toArray⟩ w := by
  cases a with
  | none =>
    cases l with
    | nil => rfl
    | cons x l =>
      obtain ⟨_, _, e, _⟩ := hB 0 (by simp)
      cases e
  | some x =>
    have h := Lib.run_loadBytesX (P := Tryd.prog) w (l.map fun b => (b.toNat : Int)) x .empty (fun j y hj => by
      have hjl : j < l.length := by simpa using (List.getElem?_eq_some_iff.1 hj).1
      obtain ⟨b, o, e, hc⟩ := hB j hjl
      cases e
      have hadd : (⟨b, o, none⟩ : Addr).add j = ⟨b, o + j, none⟩ := by
        unfold Addr.add
        split
        · rename_i h0; subst h0; rfl
        · rfl
      rw [hadd, hc]
      have hy : ((l[j]'hjl).toNat : Int) = y := by simpa [hjl] using hj
      rw [hy])
    have hb : Lib.bytesOf (l.map fun b => (b.toNat : Int)) = l := by
      unfold Lib.bytesOf
      rw [List.map_map]
      refine (List.map_congr_left fun b _ => ?_).trans (List.map_id l)
      simp
    rw [hb, List.length_map] at h
    have he : (⟨ByteArray.empty.data ++ l.toArray⟩ : ByteArray) = ⟨l.toArray⟩ := by
      apply ByteArray.ext
      show (#[] : Array UInt8) ++ l.toArray = l.toArray
      simp
    rw [he] at h
    exact h

theorem run_compareRows {w : World} {a a' : Option Addr} {c c' : Nat} {l l' : List UInt8} (h : Byts w a l) (h' : Byts w a' l') :
    (Extern.BytealgCompare.compare #[.slice a l.length c, .slice a' l'.length c']).run Tryd.prog w = .ok (.int .i64 (Lib.compareBytes l l')) w := by
  change Sem.run Tryd.prog (do pure (goInt (Extern.BytealgCompare.cmp (← Extern.Bytes.bytesOf (.slice a l.length c)) (← Extern.Bytes.bytesOf (.slice a' l'.length c'))))) w = _
  simp only [Sem.run_bind, Sem.run_pure, bytesOf_row h, bytesOf_row h', Result.andThen]
  rw [Lib.cmp_eq]
  rfl

set_option maxHeartbeats 1000000 in
set_option maxRecDepth 1000000 in
theorem bytesCompare_any (a a' : Option Addr) (c c' : Nat) (l l' : List UInt8) (w : World) (h : Byts w a l) (h' : Byts w a' l') :
    Calls Tryd.prog 78 #[.slice a l.length c, .slice a' l'.length c'] w fun e w' => e = .returned (.int .i64 (Lib.compareBytes l l')) ∧ w' = w := by
  have H := mkHid (run_compareRows (c := c) (c' := c') h h')
  obtain ⟨n, hn⟩ : ∃ n, n = l.length := ⟨_, rfl⟩
  obtain ⟨n', hn'⟩ : ∃ n', n' = l'.length := ⟨_, rfl⟩
  rw [← hn, ← hn'] at H
  rw [← hn, ← hn']
  clear hn hn' h h'
  go_enter Tryd.func78, Tryd.ntmps78
  go_wp2
  rw [run_callFunc_extern Tryd.func82 (by kernel_rfl) (by kernel_rfl) (by kernel_rfl) (e := Extern.BytealgCompare.compare) (by kernel_rfl), H.out]
  simp only [Result.andThen]
  rw [Oper.upon_value]
  go_wp2
  go_ret
  exact ⟨rfl, rfl⟩
end Go.Proofs.YtfnmmpakejdlgaaDoor
