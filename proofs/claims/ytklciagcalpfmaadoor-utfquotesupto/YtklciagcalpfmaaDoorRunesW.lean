/- Contract of utf.Runes: of a text of characters (not too long) a new row of them, of any other nil and the error 11; nothing that was there is changed. -/
import Derived.Test.YtklciagcalpfmaaDoorCount
namespace Go.Proofs.YtklciagcalpfmaaDoor
open Go.RowKit

theorem infoRune : (Tryd.prog.info? 21).map (fun i => (i.zero, i.size, i.bytes)) = some (some (.int .i32 0), 1, 4) := by kernel_rfl
def runeCellsOf (rs : List Nat) : List Value := rs.map fun r : Nat => Value.int .i32 (r : Int)

theorem iter_kept {w w' : World} {v : Value} {n : Nat} {xs : List Value} {base k pos : Nat} {s : ByteArray} (hown : w.ownsRow base 21 1 v n xs) (hg : w.grownBy w' v.ownBlock) (hit : w.heap[k]? = some (.stringIter s pos)) : w'.heap[k]? = some (.stringIter s pos) := by
  have hk : k < w.heap.size := (Array.getElem?_eq_some_iff.1 hit).1
  rw [hg.block k hk ?_]
  · exact hit
  · intro e
    rcases hown.2 with ⟨rfl, _⟩ | ⟨g, cap, cur, rfl, _, hgc, _⟩
    · simp [Value.ownBlock] at e
    · simp [Value.ownBlock] at e
      subst e
      rw [hit] at hgc
      cases hgc

theorem own_iter {w : World} {base : Nat} {e : TypeId} {size : Nat} {v : Value} {n : Nat} {xs : List Value} (h : w.ownsRow base e size v n xs) {k pos : Nat} {s : ByteArray} (hk : w.heap[k]? = some (.stringIter s pos)) (p : Nat) : (w.iterAt k s p).ownsRow base e size v n xs := by
  refine ⟨h.1, ?_⟩
  rcases h.2 with hn | ⟨g, cap, cur, hv, hbg, hg, rest⟩
  · exact .inl hn
  · have hkg : g ≠ k := by
      intro e1
      rw [e1, hk] at hg
      cases hg
    exact .inr ⟨g, cap, cur, hv, hbg, (Lib.iterAt_other w k g s p hkg).trans hg, rest⟩

set_option maxHeartbeats 4000000 in
set_option maxRecDepth 1000000 in
theorem runes_good (s : ByteArray) (rs : List Nat) (w : World) (hs : s.size ≤ 4194304) (ho : allOk rs) (he : s.data.toList = bytesOf rs) :
    Calls Tryd.prog 16 #[.string s] w fun e w' => ∃ v, e = .returned (.tuple #[v, .int .i64 0]) ∧ w'.ownsRow w.heap.size 21 1 v rs.length (runeCellsOf rs) ∧ Below w.heap.size w w' := by
  have hs0 : s.size ≤ maxLen := by unfold maxLen; omega
  have hrl := len_le rs
  rw [← he, size_list] at hrl
  have HE : Hid (s.data.toList = bytesOf rs) := he
  have HO : Hid (allOk rs) := ho
  clear he ho
  obtain ⟨i0, hi, hz0, hz1, hz2⟩ := info_parts infoRune
  go_enter Tryd.func16, Tryd.ntmps16
  go_wp2_with fail
  refine (count_good s rs _ hs0 HO.out HE.out).mono ?_
  rintro e w1 ⟨rfl, b1⟩
  go_wp2_with (at_make; refine wpList_make_own _ rfl _ _ 31 rfl w.heap.size 21 i0 (.int .i32 0) 1 Tryd.underlying31 hi hz0 hz1 _ _ _ rs.length rfl rfl (by omega) (by rw [hz2]; omega) (by unfold maxLen; omega) b1.size ?_; intro w2 hown2 hgrow2)
  have hB2 : Below w.heap.size w w2 := b1.grown hgrow2 b1.size (fun k e => by cases e)
  have hz2' : w.heap.size ≤ w2.heap.size := hB2.size
  clear b1 hgrow2
  go_loopw [6] (fun v wr => ∃ (pos : Nat) (dn rest : List Nat), wr.ownsRow w.heap.size 21 1 v dn.length (runeCellsOf dn) ∧ rs = dn ++ rest ∧ wr.heap[w2.heap.size]? = some (.stringIter s pos) ∧ Below w.heap.size w wr ∧ s.data.toList.drop pos = bytesOf rest) (fun _ wr => s.size - wr.iterPos w2.heap.size)
  case atStart =>
    refine ⟨0, [], rs, hown2.alloc _, rfl, ?_, hB2.alloc hz2' _, by simpa using HE.out⟩
    have := World.iter_heap w2 s 0
    simpa using this
  case round =>
    obtain ⟨pos, dn, rest, hown, hrs, hit, hbw, hrest⟩ := hrel
    have HRS : Hid (rs = dn ++ rest) := hrs
    have HREST : Hid (s.data.toList.drop pos = bytesOf rest) := hrest
    have hdl : dn.length + rest.length ≤ s.size := by
      have := congrArg List.length hrs
      rw [List.length_append] at this
      omega
    clear hrs hrest
    have hsz : w2.heap.size < wr.heap.size := (Array.getElem?_eq_some_iff.1 hit).1
    cases rest with
    | nil =>
      have hp := rest_end s pos HREST.out
      have hnx : ∀ ty, (Instr.next (.pointer (some ⟨w2.heap.size, 0, none⟩)) true ty).run Tryd.prog wr = _ := fun ty => Lib.run_next_end_at wr w2.heap.size s pos ty hit hp
      have hrd : rs = dn := by rw [HRS.out, List.append_nil]
      have HRD : Hid (rs = dn) := hrd
      have HOWN : Hid (wr.ownsRow w.heap.size 21 1 _ dn.length (runeCellsOf dn)) := hown
      clear hrd hown
      go_wp2_with fail
      go_ret2
      refine ⟨_, rfl, ?_, hbw⟩
      rw [HRD.out]
      exact HOWN.out
    | cons r rest =>
      have hok : okRune r := HO.out r (by rw [HRS.out]; simp)
      obtain ⟨hp, hdec, hbr, hdr⟩ := at_char s pos r (bytesOf rest) hok HREST.out
      have hwp := encode_pos r
      have hnx : ∀ ty, (Instr.next (.pointer (some ⟨w2.heap.size, 0, none⟩)) true ty).run Tryd.prog wr = .ok (.tuple #[.bool true, .int .i64 pos, .int .i32 r]) (wr.iterAt w2.heap.size s (pos + (Lib.encodeRune (r : Int)).length)) := fun ty => by
        have := Lib.run_next_any_at (P := Tryd.prog) wr w2.heap.size s pos ty hit hp
        rw [hdec] at this
        exact this
      have hit2 := Lib.iterAt_heap wr w2.heap.size s pos (pos + (Lib.encodeRune (r : Int)).length) hit
      have hbw2 := Lib.below_iterAt hbw (k := w2.heap.size) hz2' s (pos + (Lib.encodeRune (r : Int)).length)
      have hown2' := own_iter hown hit (pos + (Lib.encodeRune (r : Int)).length)
      have HDR : Hid (s.data.toList.drop (pos + (Lib.encodeRune (r : Int)).length) = bytesOf rest) := hdr
      have hws : (wr.iterAt w2.heap.size s (pos + (Lib.encodeRune (r : Int)).length)).heap.size = wr.heap.size := Lib.iterAt_size _ _ _ _
      clear hdec hdr hbr hown
      simp only [List.length_cons] at hdl
      have HWS : Hid (_ = wr.heap.size) := hws
      clear hws
      go_wp2_with (at_builtin; refine wpList_append_own _ rfl _ _ 31 rfl w.heap.size 21 i0 (.int .i32 0) 1 4 Tryd.underlying31 hi hz0 hz1 hz2 rfl (by decide) _ _ _ rfl (hown2'.alloc _) _ 1 1 [.int .i32 r] rfl rfl ?c1 ?c2 ?c3 ?c4 ?c5 ?_)
      case c1 =>
        intro j u hj
        match j, hj with
        | 0, hj => simp at hj; subst hj; simp [Addr.add]
      case c2 => intro u hu; simp at hu; subst hu; rfl
      case c3 => unfold maxLen; omega
      case c4 => omega
      case c5 => have := HWS.out; simp; omega
      intro v' w3 hown3 hgrow3 _
      have hit3 : w3.heap[w2.heap.size]? = some (.stringIter s (pos + (Lib.encodeRune (r : Int)).length)) := by
        refine iter_kept (hown2'.alloc _) hgrow3 ?_
        rw [Below.heap_alloc _ _ _ (by have := HWS.out; omega)]
        exact hit2
      have hbw3 : Below w.heap.size w w3 := by
        refine (hbw2.alloc (by have := HWS.out; omega) _).grown hgrow3 (by have := HWS.out; simp; omega) ?_
        intro k hk
        exact (hown2'.lt k hk).1
      have HOWN : Hid (w3.ownsRow w.heap.size 21 1 v' (dn.length + 1) (runeCellsOf dn ++ [Value.int IntKind.i32 (r : Int)])) := hown3
      clear hown3 hgrow3 hown2' hit2 hbw2 hnx
      go_wp2_with fail
      go_roundw
      case rel =>
        refine ⟨pos + (Lib.encodeRune (r : Int)).length, dn ++ [r], rest, ?_, ?_, hit3, hbw3, HDR.out⟩
        · have := HOWN.out
          rw [List.length_append, List.length_singleton]
          simpa [runeCellsOf] using this
        · rw [HRS.out]; simp
      case measure =>
        simp only [World.iterPos, hit3, hit]
        omega

set_option maxHeartbeats 1000000 in
theorem runes_bad (s : ByteArray) (w : World) (hs : s.size ≤ maxLen) (hv : validB s = false) :
    Calls Tryd.prog 16 #[.string s] w fun e w' => e = .returned (.tuple #[.slice none 0 0, .int .i64 11]) ∧ Below w.heap.size w w' := by
  go_enter Tryd.func16, Tryd.ntmps16
  go_wp2_with fail
  refine (count_bad s _ hs hv).mono ?_
  rintro e w1 ⟨rfl, b1⟩
  go_wp2_with fail
  go_ret2
  exact ⟨rfl, b1⟩
end Go.Proofs.YtklciagcalpfmaaDoor
