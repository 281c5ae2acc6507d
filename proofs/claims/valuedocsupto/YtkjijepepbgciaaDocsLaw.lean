/- The walk of the statement ValueDocs. -/
import Derived.Test.YtkjijepepbgciaaSameM
import Derived.Test.YtkjijepepbgciaaDocsP
import Derived.Test.YtkjijepepbgciaaDocsW
namespace Go.Proofs.Ytkjijepepbgciaa
open Go.RowKit

theorem i64_and1023 (n : Int) : bits .and .i64 n 1023 = n % 1024 := by
  have h127 : (BitVec.ofInt 64 1023).toNat = 2 ^ 10 - 1 := by decide
  have key : (BitVec.ofInt 64 n &&& BitVec.ofInt 64 1023).toNat = (n % ((2 ^ 64 : Nat) : Int)).toNat % 2 ^ 10 := by
    rw [BitVec.toNat_and, BitVec.toNat_ofInt, h127, Nat.and_two_pow_sub_one_eq_mod]
  show IntKind.i64.wrap ((BitVec.ofInt 64 n &&& BitVec.ofInt 64 1023).toNat : Nat) = n % 1024
  rw [key, IntKind.wrap_i64]
  omega

set_option maxHeartbeats 4000000 in
set_option maxRecDepth 1000000 in
theorem zero_any (v : Value) (w : World) (hL : Lies w gZ v) :
    Calls Try.prog 38 #[v] w fun e w' => e = .returned (.bool true) ∧ RowKit.Below w.heap.size w w' := by
  have HL : Hid (Lies w gZ v) := hL
  obtain ⟨k1, n1, s1, la1, ln1, lc1, fa1, fn1, fc1, rfl⟩ := hL.agg
  clear hL
  have HBX : Hid (RowKit.Below w.heap.size w _) := (RowKit.Below.refl w.heap.size w).alloc (Nat.le_refl _) (.cells #[.int .i64 k1, .int .i64 n1, .string s1, .slice la1 ln1 lc1, .slice fa1 fn1 fc1] 29)
  go_enter Try.func38, Try.ntmps38
  go_wp2_with fail
  have h := Same_any gZ gZ _ _ _ (HL.out.below HBX.out) (lies_Z _)
  rw [show gZ.same gZ = true from same_refl (lies_Z w)] at h
  refine h.mono ?_
  rintro e w1 ⟨rfl, b1⟩
  have B1 : RowKit.Below w.heap.size w w1 := HBX.out.trans (b1.mono HBX.out.size)
  clear b1 h
  go_wp2_with fail
  go_ret
  exact ⟨rfl, B1⟩

theorem lies_len {w : World} {n : Nat} {nm : Nat → ByteArray} {f : Nat → GV} {k m : Int} {s : ByteArray} {la fa : Option Addr} {ln lc fn fc : Nat} (h : Lies w (gD n nm f) (.agg #[.int .i64 k, .int .i64 m, .string s, .slice la ln lc, .slice fa fn fc])) : fn = n := by
  obtain ⟨_, _, _, _, e, _⟩ := h
  cases e
  rfl

theorem sizeF_take {d : List Fl} {j : Nat} (hj : j < d.length) : sizeF (d.take (j + 1)) = sizeF (d.take j) + (1 + (d[j]'hj).nm.size + (d[j]'hj).g.size) := by
  unfold sizeF
  rw [List.take_succ_eq_append_getElem hj, List.map_append, List.sum_append]
  simp [fldSize]
theorem sizeF_le {d : List Fl} : ∀ j, sizeF (d.take j) ≤ sizeF d := by
  intro j
  have : sizeF d = sizeF (d.take j) + sizeF (d.drop j) := by
    unfold sizeF
    rw [← List.sum_append, ← List.map_append, List.take_append_drop]
  omega
theorem sizeF_perm {d e : List Fl} (h : d.Perm e) : sizeF d = sizeF e := by
  unfold sizeF
  exact sum_perm h

theorem bytes_of {g : GV} (h : g.err = 0) : g.bytes = g.size := by rw [GV.bytes, if_pos h]
theorem docsLaw_any (d : List Fl) (fa : Option Addr) (fc : Nat) (turn : Int) (w : World) (hr : FRow w fa d) (hd : ∀ x ∈ d, x.ok w) (hlen : d.length ≤ 2000000) :
    Calls Try.prog 8 #[.slice fa d.length fc, .int .i64 turn] w fun e w' => e = .returned (.bool true) ∧ RowKit.Below w.heap.size w w' := by
  have hVF : ∀ u, RowKit.Below w.heap.size w u → Calls Try.prog 32 #[.slice fa d.length fc] u fun e w' => e = .returned (.bool (decide (5000 ≤ nodesF d))) ∧ RowKit.Below u.heap.size u w' := by
    intro u hu
    have h := VastFields_any fa d.length fc (nmOf d) (gOf d) u (by omega) ((FRow.below hr hu).flds (fun x hx => (hd x hx).below hu))
    rw [sum_nodesF] at h
    exact h
  by_cases hB : 5000 ≤ nodesF d
  · rw [decide_eq_true hB] at hVF
    exact docs_vast fa fc d.length turn w hVF
  · rw [decide_eq_false hB] at hVF
    have hdn : nodesF d ≤ 5000 := by omega
    have hMK : ∀ u, RowKit.Below w.heap.size w u → Calls Try.prog 33 #[.slice fa d.length fc] u fun e w' => ∃ v, e = .returned (.tuple #[v, .int .i64 (mkErr d)]) ∧ Lies w' (mkTree d) v ∧ RowKit.Below u.heap.size u w' := by
      intro u hu
      refine (Make_any d fa fc u (FRow.below hr hu) (fun x hx => (hd x hx).below hu) hdn (by omega)).mono ?_
      rintro e w' ⟨v, h1, h2, _, h3⟩
      exact ⟨v, h1, h2.lies, h3⟩
    by_cases hE : mkErr d = 0
    · obtain ⟨out, o1, o2, o3, o4, o5⟩ := ins_some hE
      obtain ⟨s1, s2, s3⟩ := doc_parts o4
      rw [hE, o5] at hMK
      have hsz : (docOf out).size = 2 + sizeF d := by rw [s3, sizeF_perm o3]
      have hno : (docOf out).nodes ≤ 5001 := by
        rw [doc_nodes, show nodesF out = nodesF d from sum_perm o3]
        omega
      have hle := (err_zero o4).2.2.2.2
      have hnt : (turn % 1024).toNat < 1024 := by omega
      refine docs_walk d fa fc turn w d.length (turn % 1024).toNat (2 + sizeF d) (docOf out) (rotL d (turn % 1024).toNat) (fun j => sizeF (d.take j)) rfl hlen (by rw [i64_and1023]; omega) hnt hr rfl ?_ (rotL_len d _) hVF hMK ?_ ?_ ?_ ?_ ?_ ?_ ?_ ?_ ?_ ?_ ?_ ?_
      · intro j hj
        rw [rotL_succ]
        simp [hj]
      · intro u a c hu hrow
        obtain ⟨m1, m2⟩ := mk_perm hE (rot_perm d (turn % 1024).toNat)
        have h := Make_any (rotL d (turn % 1024).toNat d.length) a c u hrow (fun x hx => (hd x (rot_mem (Nat.le_refl _) x hx)).below hu) (by rw [show nodesF (rotL d (turn % 1024).toNat d.length) = nodesF d from sum_perm (rot_perm d _)]; exact hdn) (by rw [rotL_len]; omega)
        rw [rotL_len, m1, m2, o5] at h
        refine h.mono ?_
        rintro e w' ⟨v, h1, h2, _, h3⟩
        exact ⟨v, h1, h2.lies, h3⟩
      · intro u v hv
        have h := Size_any (docOf out) v u hv (by omega)
        rw [bytes_of o4, o4, hsz] at h
        exact h
      · intro u k m s la ln lc fa fn fc h
        rw [lies_len h]
        exact o3.length_eq
      · intro u v x hx hv
        have h := Find_any (docOf out) x.nm v u hv (by omega)
        rw [find_out o2 (o3.mem_iff.2 hx)] at h
        refine h.mono ?_
        rintro e w' ⟨v', h1, h2, _, h3⟩
        exact ⟨v', h1, h2, h3⟩
      · intro u x hx hu
        have hxe := (s2 x (o3.mem_iff.2 hx)).2
        have h := Size_any x.g x.val u ((hd x hx).1.below hu) (by
          have h1 : x.g.nodes ≤ nodesF d := mem_le_sum (List.mem_map.2 ⟨x, hx, rfl⟩)
          omega)
        rw [bytes_of hxe, hxe] at h
        exact h
      · intro x hx
        exact (hd x hx).1
      · intro x hx
        have h := s2 x (o3.mem_iff.2 hx)
        exact ⟨h.1, (err_zero h.2).2.2.2.2⟩
      · simp
      · rfl
      · intro j hj
        exact sizeF_take hj
      · intro j _
        have := sizeF_le (d := d) j
        show sizeF (d.take j) ≤ 2048
        omega
      · intro u va vb T h1 h2
        have h := sameLawM T T va vb u h1 h2
        rw [same_refl h1] at h
        exact h
    · rw [ins_none hE] at hMK
      exact docs_zero fa fc d.length turn (mkErr d) gZ w hE hVF hMK (fun u v h => zero_any v u h)
end Go.Proofs.Ytkjijepepbgciaa
