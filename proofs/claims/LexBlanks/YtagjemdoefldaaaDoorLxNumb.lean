/- Contract of lex.numberOf at a number's text. Conditions: the library's variables for a wrong form and for a number too great can be read, and its table of powers of ten is as it is laid. -/
import Derived.Test.YtagjemdoefldaaaDoorLxNum
import Derived.Test.YtagjemdoefldaaaDoorShelf3
import Derived.Lib.LaidTab
namespace Go.Proofs.YtagjemdoefldaaaDoor
open Go.RowKit Go.Sort

def RngOk (w : World) : Prop := 3 < w.heap.size ∧ ∃ ev, w.cell? ⟨3, 0, none⟩ = some ev ∧ (ev = .nilIface ∨ ∃ te pe, ev = .iface te pe)
def TabOk (w : World) : Prop := Lib.TabIs Tryd.prog w "internal/strconv.uint64pow10" .u64 Lib.pow10Tab
def LexOk (w : World) : Prop := SynOk w ∧ RngOk w ∧ TabOk w

theorem RngOk.mono {w w' : World} (h : RngOk w) (hb : Below w.heap.size w w') : RngOk w' := by
  obtain ⟨h1, ev, h2, h3⟩ := h
  exact ⟨Nat.lt_of_lt_of_le h1 hb.size, ev, (hb.cell (show (⟨3, 0, none⟩ : Addr).block < w.heap.size from h1)).trans h2, h3⟩

theorem TabOk.mono {w w' : World} (h : TabOk w) (hb : Below w.heap.size w w') : TabOk w' := by
  unfold TabOk Lib.TabIs World.var? at *
  cases hg : Tryd.prog.globalNamed "internal/strconv.uint64pow10" with
  | none => rw [hg] at h; cases h
  | some g =>
    rw [hg] at h
    simp only [Option.bind_some] at h ⊢
    have hlt : g < w.heap.size := by
      rcases Nat.lt_or_ge g w.heap.size with h' | h'
      · exact h'
      · rw [Array.getElem?_eq_none h'] at h; simp at h
    rw [hb.block g hlt]
    exact h

theorem LexOk.mono {w w' : World} (h : LexOk w) (hb : Below w.heap.size w w') : LexOk w' := ⟨h.1.mono hb, h.2.1.mono hb, h.2.2.mono hb⟩

def numRet : Option Int → Ending
  | some v => .returned (.tuple #[.int .i64 v, .int .i64 0])
  | none => .returned (.tuple #[.int .i64 0, .int .i64 12])

theorem below_grow (w : World) (k : Nat) (os : Array Obj) : Below w.heap.size w (grow (w.drewN k) os) :=
  ⟨rfl, rfl, rfl, by show w.heap.size ≤ (w.heap ++ os).size; rw [Array.size_append]; omega, fun j hj => by
    show (w.heap ++ os)[j]? = w.heap[j]?
    rw [Array.getElem?_append_left hj]⟩

set_option maxHeartbeats 4000000 in
set_option maxRecDepth 1000000 in
theorem numberOf_any (s : ByteArray) (minus : Bool) (d : List UInt8) (w : World) (hs : s.data.toList = numText minus d) (hd : ∀ c ∈ d, isD c = true) (hne : d ≠ []) (hsz : s.size ≤ 281474976710656) (hw : LexOk w) :
    Calls Tryd.prog 39 #[.string s] w fun e w' => e = numRet (numR minus d) ∧ Below w.heap.size w w' := by
  have hp := num_parse minus d hd hne
  rw [← hs] at hp
  rcases hp with ⟨hr, hn⟩ | ⟨v, hr, v0, v1, hv⟩
  · rw [hn]
    obtain ⟨_, ev, hc, hev⟩ := hw.2.1
    have hcall := Tryd.strconv_ParseInt_10_at64_range s hsz hr ev w hc hev
    generalize Lib.intSat 64 s.data.toList = z at hcall
    clear hr hn hev hc
    go_enter Tryd.func39, Tryd.ntmps39
    go_wp2_with fail
    refine hcall.mono ?_
    clear hcall
    rintro e w1 ⟨N, rfl, _, _, b1⟩
    go_wp2_with fail
    go_ret2
    exact ⟨rfl, b1⟩
  · have hcall := Tryd.strconv_ParseInt_10_at64_ok s (by omega) v hr w
    have hfmt : ∀ w1, Below w.heap.size w w1 → Calls Tryd.prog 28 #[.int .i64 v, .int .i64 10] w1 fun e w' => e = .returned (.string ⟨(Lib.itoa v).toArray⟩) ∧ ∃ k os, w' = grow (w1.drewN k) os := fun w1 b1 => Tryd.strconv_FormatInt_10 v v0 v1 w1 (hw.2.2.mono b1)
    have hbel : ∀ w1, (w1 = w ∨ ∃ t, w1 = Lib.bytesWorld w 5 t) → Below w.heap.size w w1 := by
      rintro w1 (rfl | ⟨t, rfl⟩)
      · exact Below.refl _ _
      · exact Lib.bytesWorld_below _ _ _
    have hl1 : (⟨(Lib.itoa v).toArray⟩ : ByteArray).toList = Lib.itoa v := by rw [ByteArray.toList_eq]
    have hl2 : s.toList = s.data.toList := ByteArray.toList_eq _
    rcases hv with ⟨hi, hn⟩ | ⟨hi, hn⟩
    · have hq : ((⟨(Lib.itoa v).toArray⟩ : ByteArray).toList == s.toList) = true := by rw [hl1, hl2, hi, beq_self_eq_true]
      have hq2 : ((⟨(Lib.itoa v).toArray⟩ : ByteArray).toList != s.toList) = false := by rw [bne, hq]; rfl
      rw [hn]
      generalize (⟨(Lib.itoa v).toArray⟩ : ByteArray) = T at hq hq2 hfmt
      have HB : Hid _ := hbel
      have HF : Hid _ := hfmt
      clear hr hi hn hl1 hl2 hbel hfmt
      go_enter Tryd.func39, Tryd.ntmps39
      go_wp2_with fail
      refine hcall.mono ?_
      clear hcall
      rintro e w1 ⟨rfl, hb⟩
      have b1 := HB.out w1 hb
      clear hb
      go_wp2_with fail
      refine (HF.out w1 b1).mono ?_
      rintro e w2 ⟨rfl, k, os, rfl⟩
      go_wp2_with fail
      go_ret2
      exact ⟨rfl, b1.trans ((below_grow w1 k os).mono b1.size)⟩
    · have hq : ((⟨(Lib.itoa v).toArray⟩ : ByteArray).toList == s.toList) = false := by
        rw [hl1, hl2]
        exact beq_eq_false_iff_ne.2 hi
      have hq2 : ((⟨(Lib.itoa v).toArray⟩ : ByteArray).toList != s.toList) = true := by rw [bne, hq]; rfl
      rw [hn]
      generalize (⟨(Lib.itoa v).toArray⟩ : ByteArray) = T at hq hq2 hfmt
      have HB : Hid _ := hbel
      have HF : Hid _ := hfmt
      clear hr hi hn hl1 hl2 hbel hfmt
      go_enter Tryd.func39, Tryd.ntmps39
      go_wp2_with fail
      refine hcall.mono ?_
      clear hcall
      rintro e w1 ⟨rfl, hb⟩
      have b1 := HB.out w1 hb
      clear hb
      go_wp2_with fail
      refine (HF.out w1 b1).mono ?_
      rintro e w2 ⟨rfl, k, os, rfl⟩
      go_wp2_with fail
      go_ret2
      exact ⟨rfl, b1.trans ((below_grow w1 k os).mono b1.size)⟩
end Go.Proofs.YtagjemdoefldaaaDoor
