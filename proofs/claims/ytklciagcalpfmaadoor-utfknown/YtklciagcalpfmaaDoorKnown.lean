/- The walk of the statement UtfKnown: the call returns true; nothing that was there is changed. -/
import Derived.Test.YtklciagcalpfmaaDoorNice
import Derived.Test.YtklciagcalpfmaaDoorCutw
namespace Go.Proofs.YtklciagcalpfmaaDoor
open Go.RowKit

theorem known_q : qText ⟨#[97, 34, 10, 127]⟩ = ⟨#[34, 97, 92, 34, 92, 110, 92, 117, 48, 48, 55, 102, 34]⟩ ∧ qErr ⟨#[97, 34, 10, 127]⟩ = 0 := by
  refine ⟨by decide +kernel, by decide +kernel⟩
theorem known_c : cmpV ⟨#[97]⟩ ⟨#[97, 98]⟩ = -1 ∧ cmpE ⟨#[97]⟩ ⟨#[97, 98]⟩ = 0 := by
  refine ⟨by decide +kernel, by decide +kernel⟩
theorem known_v : validB ⟨#[192, 128]⟩ = false ∧ validB ⟨#[237, 160, 128]⟩ = false := by
  refine ⟨by decide +kernel, by decide +kernel⟩

theorem known_u1 (w : World) : Calls Tryd.prog 11 #[.string ⟨#[34, 92, 117, 48, 48, 101, 52, 92, 47, 34]⟩] w fun e w' => e = .returned (.tuple #[.string ⟨#[195, 164, 47]⟩, .int .i64 0]) ∧ Below w.heap.size w w' :=
  unquote_nice ⟨#[34, 92, 117, 48, 48, 101, 52, 92, 47, 34]⟩ ([195, 164, 47], 0) w (by decide) (by decide) (by decide) (by decide +kernel) (by decide +kernel)
theorem known_u2 (w : World) : Calls Tryd.prog 11 #[.string ⟨#[34, 92, 117, 100, 56, 51, 100, 92, 117, 100, 101, 48, 48, 34]⟩] w fun e w' => e = .returned (.tuple #[.string ⟨#[240, 159, 152, 128]⟩, .int .i64 0]) ∧ Below w.heap.size w w' :=
  unquote_nice ⟨#[34, 92, 117, 100, 56, 51, 100, 92, 117, 100, 101, 48, 48, 34]⟩ ([240, 159, 152, 128], 0) w (by decide) (by decide) (by decide) (by decide +kernel) (by decide +kernel)
theorem known_u3 (w : World) : Calls Tryd.prog 11 #[.string ⟨#[34, 92, 117, 100, 56, 51, 100, 34]⟩] w fun e w' => e = .returned (.tuple #[.string ⟨#[]⟩, .int .i64 11]) ∧ Below w.heap.size w w' :=
  unquote_nice ⟨#[34, 92, 117, 100, 56, 51, 100, 34]⟩ ([], 11) w (by decide) (by decide) (by decide) (by decide +kernel) (by decide +kernel)
theorem known_u4 (w : World) : Calls Tryd.prog 11 #[.string ⟨#[34, 97]⟩] w fun e w' => e = .returned (.tuple #[.string ⟨#[]⟩, .int .i64 4]) ∧ Below w.heap.size w w' :=
  unquote_nice ⟨#[34, 97]⟩ ([], 4) w (by decide) (by decide) (by decide) (by decide +kernel) (by decide +kernel)
theorem known_u5 (w : World) : Calls Tryd.prog 11 #[.string ⟨#[34, 92, 113, 34]⟩] w fun e w' => e = .returned (.tuple #[.string ⟨#[]⟩, .int .i64 4]) ∧ Below w.heap.size w w' :=
  unquote_nice ⟨#[34, 92, 113, 34]⟩ ([], 4) w (by decide) (by decide) (by decide) (by decide +kernel) (by decide +kernel)

theorem known_x (w : World) : Calls Tryd.prog 13 #[.string ⟨#[97, 195, 164, 98]⟩, .int .i64 1, .int .i64 2] w fun e w' => e = .returned (.tuple #[.string ⟨#[195, 164]⟩, .int .i64 0]) ∧ Below w.heap.size w w' := by
  have ho : allOk [97, 228, 98] := by
    intro r hr
    simp at hr
    unfold okRune
    omega
  refine (cut_good ⟨#[97, 195, 164, 98]⟩ [97, 228, 98] 1 2 w (by decide) ho (by decide) (by decide) (by decide)).mono ?_
  rintro e w' ⟨p, rfl, hp, hb⟩
  have hp2 : p = ⟨#[195, 164]⟩ := by
    have e1 : bytesOf ((List.take 2 [97, 228, 98]).drop 1) = [195, 164] := by decide
    rw [e1] at hp
    obtain ⟨⟨l⟩⟩ := p
    simp at hp
    rw [hp]
  rw [hp2]
  exact ⟨rfl, hb⟩

set_option maxHeartbeats 8000000 in
set_option maxRecDepth 1000000 in
theorem known_any (w : World) : Calls Tryd.prog 3 #[] w fun e w' => e = .returned (.bool true) ∧ Below w.heap.size w w' := by
  have o1 : allOk [97, 228, 8364] := by
    intro r hr
    simp at hr
    unfold okRune
    omega
  have o2 : allOk [97] := by
    intro r hr
    simp at hr
    unfold okRune
    omega
  have HO1 : Hid (allOk [97, 228, 8364]) := o1
  have HO2 : Hid (allOk [97]) := o2
  clear o1 o2
  go_enter Tryd.func3, Tryd.ntmps3
  go_wp2_with fail
  refine (count_good _ [97, 228, 8364] _ (by decide) HO1.out (by decide)).mono ?_
  rintro e w1 ⟨rfl, b1⟩
  go_wp2_with fail
  refine (quote_any _ _ (by decide)).mono ?_
  rw [known_q.1, known_q.2]
  rintro e w2 ⟨rfl, b2⟩
  go_wp2_with fail
  refine (known_u1 _).mono ?_
  rintro e w3 ⟨rfl, b3⟩
  go_wp2_with fail
  refine (known_u2 _).mono ?_
  rintro e w4 ⟨rfl, b4⟩
  go_wp2_with fail
  refine (known_u3 _).mono ?_
  rintro e w5 ⟨rfl, b5⟩
  go_wp2_with fail
  refine (known_u4 _).mono ?_
  rintro e w6 ⟨rfl, b6⟩
  go_wp2_with fail
  refine (known_u5 _).mono ?_
  rintro e w7 ⟨rfl, b7⟩
  go_wp2_with fail
  refine (compare_any _ _ _ (by decide) (by decide)).mono ?_
  rw [known_c.1, known_c.2]
  rintro e w8 ⟨rfl, b8⟩
  go_wp2_with fail
  refine (known_x _).mono ?_
  rintro e w9 ⟨rfl, b9⟩
  go_wp2_with fail
  refine (cut_arg _ [97] 1 0 _ (by decide) HO2.out (by decide) (by decide)).mono ?_
  rintro e w10 ⟨rfl, b10⟩
  go_wp2_with fail
  refine (awake_any _).mono ?_
  rintro e w11 ⟨rfl, b11⟩
  go_wp2_with fail
  refine (valid_any _ _ (by decide)).mono ?_
  rw [known_v.1]
  rintro e w12 ⟨rfl, b12⟩
  go_wp2_with fail
  refine (valid_any _ _ (by decide)).mono ?_
  rw [known_v.2]
  rintro e w13 ⟨rfl, b13⟩
  go_wp2_with fail
  go_ret
  exact ⟨rfl, b1.trans ((b2.trans ((b3.trans ((b4.trans ((b5.trans ((b6.trans ((b7.trans ((b8.trans ((b9.trans ((b10.trans ((b11.trans ((b12.trans ((b13).mono b12.size)).mono b11.size)).mono b10.size)).mono b9.size)).mono b8.size)).mono b7.size)).mono b6.size)).mono b5.size)).mono b4.size)).mono b3.size)).mono b2.size)).mono b1.size)⟩
end Go.Proofs.YtklciagcalpfmaaDoor
