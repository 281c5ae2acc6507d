/- The walk of the statement PathBack. -/
import Derived.Test.YtjngbogbbglbnabZPaApart
import Derived.Test.YtjngbogbbglbnabK4
namespace Go.Proofs.Ytjngbogbbglbnab
open Go.RowKit

theorem get_no {g : GV} {p : ByteArray} {v : Value} {w : World} (hL : Lies w g v) (hN : g.nodes ≤ 16384) (hp : p.size ≤ 140737488355328) (h : getR g p = none) :
    Calls Try.prog 11 #[v, .string p] w fun e w' => (∃ v', e = .returned (.tuple #[v', .bool false]) ∧ Lies w' gZ v') ∧ Below w.heap.size w w' :=
  (get_any g p v w hL hN hp).mono fun e w' hh => by
    obtain ⟨⟨v', h1, h2⟩, h3⟩ := hh
    rw [h] at h1 h2
    exact ⟨⟨v', h1, h2.lies⟩, h3⟩
theorem get_yes {g o : GV} {p : ByteArray} {v : Value} {w : World} (hL : Lies w g v) (hN : g.nodes ≤ 16384) (hp : p.size ≤ 140737488355328) (h : getR g p = some o) :
    Calls Try.prog 11 #[v, .string p] w fun e w' => (∃ v', e = .returned (.tuple #[v', .bool true]) ∧ Lies w' o v') ∧ Below w.heap.size w w' :=
  (get_any g p v w hL hN hp).mono fun e w' hh => by
    obtain ⟨⟨v', h1, h2⟩, h3⟩ := hh
    rw [h] at h1 h2
    exact ⟨⟨v', h1, h2.lies⟩, h3⟩
theorem get_some {g : GV} {p : ByteArray} {v : Value} {w : World} {r : Bool} (hL : Lies w g v) (hN : g.nodes ≤ 16384) (hp : p.size ≤ 140737488355328) (h : (getR g p).isSome = r) :
    Calls Try.prog 11 #[v, .string p] w fun e w' => (∃ v', e = .returned (.tuple #[v', .bool r]) ∧ Lies w' (optSay (getR g p)) v') ∧ Below w.heap.size w w' :=
  (get_any g p v w hL hN hp).mono fun e w' hh => by
    obtain ⟨⟨v', h1, h2⟩, h3⟩ := hh
    rw [h] at h1
    exact ⟨⟨v', h1, h2.lies⟩, h3⟩
theorem steps_yes {p : ByteArray} {l : List ByteArray} (w : World) (hp : p.size ≤ 140737488355328) (h : stepsR p.data.toList = some l) :
    Calls Try.prog 16 #[.string p] w fun e w' => (∃ a c, e = .returned (.tuple #[.slice a l.length c, .int .i64 0]) ∧ l.length ≤ c ∧ c ≤ maxLen ∧ Strs w' a l) ∧ Below w.heap.size w w' :=
  (Steps_any p w hp).mono fun e w' hh => by
    obtain ⟨h1, h2⟩ := hh
    rcases h1 with ⟨h3, _⟩ | ⟨l', a, c, h3, h4, h5, h6, h7⟩
    · rw [h] at h3; cases h3
    · rw [h] at h3
      injection h3 with h3
      subst h3
      exact ⟨⟨a, c, h4, h5, h6, h7⟩, h2⟩
theorem same_yes6 {g : GV} {v v' : Value} {w : World} (h : Lies w g v) (h' : Lies w g v') :
    Calls Try.prog 14 #[v, v'] w fun e w' => e = .returned (.bool true) ∧ Below w.heap.size w w' := by
  have := same6_any g g v v' w h h'
  rw [same_self h] at this
  exact this
theorem back_last {l : List ByteArray} {p : List UInt8} (h : stepsR p = some l) : 0 < (l.getD (l.length - 1) ⟨#[]⟩).size := by
  have hne := steps_some h
  have hp := List.length_pos_iff.2 hne
  have hm : l.getD (l.length - 1) ⟨#[]⟩ ∈ l := by
    rw [List.getD_eq_getElem?_getD, List.getElem?_eq_getElem (by omega)]
    exact List.getElem_mem _
  have := (isStep_len ((steps_all h).1 _ hm)).1
  rw [size_list] at this
  omega

end Go.Proofs.Ytjngbogbbglbnab
