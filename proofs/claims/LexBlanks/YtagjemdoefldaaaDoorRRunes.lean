/- Contract of tidemarkref1.Runes: of a text of characters a new row of them and true, of any other nil and false. -/
import Derived.Test.YtagjemdoefldaaaDoorRunesW
import Derived.Test.YtagjemdoefldaaaDoorNext
namespace Go.Proofs.YtagjemdoefldaaaDoor
open Go.RowKit

/-- Characters that open a row of characters open it as such. -/
theorem split_bytes : ∀ (dn rs : List Nat) (t : List UInt8), allOk dn → allOk rs → bytesOf rs = bytesOf dn ++ t → ∃ rs', rs = dn ++ rs' ∧ t = bytesOf rs'
  | [], rs, t, _, _, h => ⟨rs, rfl, by simpa [bytesOf_nil] using h.symm⟩
  | r :: dn, [], t, _, _, h => by
    have := congrArg List.length h
    have hp := encode_pos r
    simp [bytesOf_nil, bytesOf_cons] at this
    omega
  | r :: dn, q :: rs, t, ho, hq, h => by
    have hr := decode_encode r (ho r (by simp)) (bytesOf dn ++ t)
    have hq' := decode_encode q (hq q (by simp)) (bytesOf rs)
    rw [bytesOf_cons, bytesOf_cons, List.append_assoc] at h
    rw [h, hr] at hq'
    have e : r = q := by simpa using congrArg Prod.fst hq'
    subst e
    have h' := List.append_cancel_left h
    obtain ⟨rs', e1, e2⟩ := split_bytes dn rs t (fun x hx => ho x (by simp [hx])) (fun x hx => hq x (by simp [hx])) h'
    exact ⟨rs', by rw [e1]; rfl, e2⟩

theorem no_char (s : ByteArray) (dn : List Nat) (p : Nat) (hp : p < s.size) (ho : allOk dn) (he : s.data.toList = bytesOf dn ++ s.data.toList.drop p) (hn : ∀ r, ¬ CharAt s p r) : validB s = false := by
  cases hv : validB s with
  | false => rfl
  | true =>
    exfalso
    obtain ⟨rs, hro, hre⟩ := valid_runes s hv
    rw [hre] at he
    obtain ⟨rs', e1, e2⟩ := split_bytes dn rs _ ho hro he
    cases rs' with
    | nil =>
      have := congrArg List.length e2
      rw [← hre] at this
      simp [bytesOf_nil] at this
      omega
    | cons r rs' =>
      refine hn r ⟨hro r (by rw [e1]; simp), bytesOf rs', ?_⟩
      rw [← hre] at e2
      exact e2

def RRunesSay (s : ByteArray) (w : World) (e : Ending) (w' : World) : Prop :=
  (∃ rs v, allOk rs ∧ s.data.toList = bytesOf rs ∧ e = .returned (.tuple #[v, .bool true]) ∧ w'.ownsRow w.heap.size 21 1 v rs.length (runeCellsOf rs) ∧ Below w.heap.size w w') ∨
  (validB s = false ∧ e = .returned (.tuple #[.slice none 0 0, .bool false]) ∧ Below w.heap.size w w')

set_option maxHeartbeats 4000000 in
set_option maxRecDepth 1000000 in
theorem rrunes_any (s : ByteArray) (w : World) (hs : s.size ≤ 4194304) :
    Calls Tryd.prog 46 #[.string s] w fun e w' => RRunesSay s w e w' := by
  obtain ⟨i0, hi, hz0, hz1, hz2⟩ := info_parts infoRune
  go_enter Tryd.func46, Tryd.ntmps46
  go_wp2_with fail
  go_loopw [4, 5] (fun v a wr => ∃ (p : Nat) (dn : List Nat), a = .int .i64 p ∧ p ≤ s.size ∧ wr.ownsRow w.heap.size 21 1 v dn.length (runeCellsOf dn) ∧ Below w.heap.size w wr ∧ allOk dn ∧ dn.length ≤ p ∧ s.data.toList = bytesOf dn ++ s.data.toList.drop p) (fun _ a _ => s.size - (intOf a).toNat)
  case atStart =>
    exact ⟨0, [], rfl, by omega, World.ownsRow_nil _ _ _ _, Below.refl _ _, fun r h => by simp at h, by simp, by simp [bytesOf_nil]⟩
  case round =>
    obtain ⟨p, dn, rfl, hps, hown, hbw, hok, hdl, hpre⟩ := hrel
    have HPRE : Hid (s.data.toList = bytesOf dn ++ s.data.toList.drop p) := hpre
    have HOK : Hid (allOk dn) := hok
    clear hpre hok
    by_cases hlt : p < s.size
    · have hnext := next_any s p wr (by omega) hlt
      go_wp2_with fail
      refine hnext.mono ?_
      rintro e w1 ⟨hsay, rfl⟩
      rcases hsay with ⟨r, hch, rfl⟩ | ⟨hno, v, n, rfl⟩
      · have hwp := encode_pos r
        have hrk := hch.1
        obtain ⟨rest, hd⟩ := hch.2
        obtain ⟨_, _, _, hdr⟩ := at_char s p r rest hrk hd
        have hr1 : r ≤ 1114111 := by unfold okRune at hrk; omega
        have hple : p + (Lib.encodeRune (r : Int)).length ≤ s.size := by
          have := congrArg List.length hd
          simp at this
          omega
        have HD : Hid (s.data.toList.drop p = Lib.encodeRune (r : Int) ++ rest) := hd
        have HDR : Hid (s.data.toList.drop (p + (Lib.encodeRune (r : Int)).length) = rest) := hdr
        have HRK : Hid (okRune r) := hrk
        obtain ⟨q, hq⟩ : ∃ q, p + (Lib.encodeRune (r : Int)).length = q := ⟨_, rfl⟩
        rw [hq]
        rw [hq] at hple
        have HQ : Hid (p + (Lib.encodeRune (r : Int)).length = q) := hq
        have hpq : p + 1 ≤ q := by omega
        clear hd hdr hrk hq hch hnext hwp
        have hz2' : w.heap.size ≤ w1.heap.size := hbw.size
        go_wp2_with (at_builtin; refine wpList_append_own _ rfl _ _ 75 rfl w.heap.size 21 i0 (.int .i32 0) 1 4 Tryd.underlying75 hi hz0 hz1 hz2 rfl (by decide) _ _ _ rfl (hown.alloc _) _ 1 1 [.int .i32 r] rfl rfl ?c1 ?c2 ?c3 ?c4 ?c5 ?_)
        case c1 =>
          intro j u hj
          match j, hj with
          | 0, hj => simp at hj; subst hj; simp [Addr.add]
        case c2 => intro u hu; simp at hu; subst hu; rfl
        case c3 => unfold maxLen; omega
        case c4 => omega
        case c5 => simp; omega
        intro v' w3 hown3 hgrow3 _
        have hbw3 : Below w.heap.size w w3 := by
          refine (hbw.alloc (by omega) _).grown hgrow3 (by simp; omega) ?_
          intro k hk
          exact (hown.lt k hk).1
        have HOWN : Hid (w3.ownsRow w.heap.size 21 1 v' (dn.length + 1) (runeCellsOf dn ++ [Value.int IntKind.i32 (r : Int)])) := hown3
        clear hown3 hgrow3
        go_wp2_with fail
        go_roundw
        case rel =>
          refine ⟨q, dn ++ [r], rfl, hple, ?_, hbw3, ?_, ?_, ?_⟩
          · have := HOWN.out
            rw [List.length_append, List.length_singleton]
            simpa [runeCellsOf] using this
          · intro x hx
            rcases List.mem_append.1 hx with hx | hx
            · exact HOK.out x hx
            · simp at hx; subst hx; exact HRK.out
          · simp; omega
          · rw [bytesOf_append, bytesOf_cons, bytesOf_nil, List.append_nil, List.append_assoc, ← HQ.out, HDR.out, ← HD.out]
            exact HPRE.out
        case measure => simp [intOf]; omega
      · have HNO : Hid (∀ r, ¬ CharAt s p r) := hno
        clear hno
        go_wp2_with fail
        go_ret2
        exact Or.inr ⟨no_char s dn p hlt HOK.out HPRE.out HNO.out, rfl, hbw⟩
    · have hpe : p = s.size := by omega
      have HOWN : Hid (wr.ownsRow w.heap.size 21 1 _ dn.length (runeCellsOf dn)) := hown
      clear hown
      go_wp2_with fail
      go_ret2
      refine Or.inl ⟨dn, _, HOK.out, ?_, rfl, HOWN.out, hbw⟩
      have := HPRE.out
      rw [List.drop_eq_nil_of_le (by rw [size_list]; omega), List.append_nil] at this
      exact this
end Go.Proofs.YtagjemdoefldaaaDoor
