/- The statement CodecNests, of any values and any name. -/
import Derived.Test.YtfnmmpakejdlgabDoorZCNestW
import Derived.Test.YtfnmmpakejdlgabDoorZCMath
import Derived.Test.YtfnmmpakejdlgabDoorZCAwake
import Derived.Test.YtfnmmpakejdlgabDoorZWalked
import Derived.Test.YtfnmmpakejdlgabDoorZFindV
import Derived.Test.YtfnmmpakejdlgabDoorZCHelpD
import Derived.Test.YtfnmmpakejdlgabDoorZCRead
namespace Go.Proofs.YtfnmmpakejdlgabDoor
open Go.RowKit

theorem list_parts {n : Nat} {l : Nat → GV} (h : (gL n l).err = 0) (i : Nat) (hi : i < n) : (l i).err = 0 := by
  obtain ⟨h1, h2, h3, h4, h5⟩ := err_zeroM h
  refine err_ofM (every_l h1 i hi) (every_l h2 i hi) (every_l h3 i hi) ?_ ?_
  · have := fold_max_mem (c := fun i => (l i).depth) hi
    simp only [gL, GV.depth, if_true] at h4
    omega
  · rw [gL, GV.size_l5] at h5
    exact Nat.le_trans (fold_mem (c := fun i => (l i).size) hi) h5
theorem doc_list {n : Nat} {l : Nat → GV} {nm : ByteArray} (h : (gD 1 (fun _ => nm) (fun _ => gL n l)).err = 0) : (gL n l).err = 0 := by
  obtain ⟨h1, h2, h3, h4, h5⟩ := err_zeroM h
  refine err_ofM (every_f h1 0 (by omega)) (every_f h2 0 (by omega)) (every_f h3 0 (by omega)) ?_ ?_
  · have := fold_max_mem (c := fun _ => (gL n l).depth) (n := 1) (i := 0) (by omega)
    simp only [gD, GV.depth, show ((6 : Int) = 5) = False by decide, if_true, if_false] at h4
    omega
  · rw [gD, GV.size_l6] at h5
    exact Nat.le_trans (Nat.le_trans (Nat.le_add_left _ _) (fold_mem (c := fun _ => textN nm + (gL n l).size) (n := 1) (a := 1 + digitsN 1) (i := 0) (by omega))) h5
theorem find_one {g : GV} {nm : ByteArray} {x : GV} (h : g.same (gD 1 (fun _ => nm) (fun _ => x)) = true) : ∃ y, g.find nm = some y ∧ y.same x = true := by
  cases g with
  | nil => simp [GV.same] at h
  | mk k n s ln l fn nm' f =>
    simp [gD, GV.same] at h
    obtain ⟨⟨⟨⟨⟨⟨h1, h2⟩, h3⟩, h4⟩, h5⟩, _⟩, h6⟩ := h
    subst h1 h5
    have h7 := h6 0 (by omega)
    refine ⟨f 0, ?_, h7.2⟩
    simp [GV.find, findAt, h7.1]
theorem same_nodes : ∀ (a b : GV), a.same b = true → a.nodes = b.nodes := by
  intro a
  induction a with
  | nil => intro b h; simp [GV.same] at h
  | mk k n s ln l fn nm f ihl ihf =>
    intro b h
    cases b with
    | nil => simp [GV.same] at h
    | mk k' n' s' ln' l' fn' nm' f' =>
      simp [GV.same] at h
      obtain ⟨⟨⟨⟨⟨⟨h1, h2⟩, h3⟩, h4⟩, h5⟩, h6⟩, h7⟩ := h
      subst h4 h5
      have e1 : ((List.range ln).map fun i => (l i).nodes).sum = ((List.range ln).map fun i => (l' i).nodes).sum := sum_congr fun i hi => ihl i _ (h6 i hi)
      have e2 : ((List.range fn).map fun i => (f i).nodes).sum = ((List.range fn).map fun i => (f' i).nodes).sum := sum_congr fun i hi => ihf i _ (h7 i hi).2
      simp only [GV.nodes, e1, e2]

theorem nest_any (a : Option Addr) (n c : Nat) (l : Nat → GV) (name : ByteArray) (w : World) (hV : Vals w a n l) (hnc : n ≤ c) (hcm : c ≤ maxLen) (hs : name.size ≤ 140737488355328) (hT : Tabs w) :
    Calls Tryd.prog 4 #[.slice a n c, .string name] w fun e w' => e = .returned (.bool true) ∧ RowKit.Below w.heap.size w w' := by
  have hVA : ∀ u : World, RowKit.Below w.heap.size w u → Calls Tryd.prog 6 #[.slice a n c] u fun e w' => e = .returned (.bool (decide (5000 ≤ sumN l n))) ∧ RowKit.Below u.heap.size u w' := fun u hu => Vast_any a n c l u (by omega) (hV.below hu)
  by_cases hv : 5000 ≤ sumN l n
  · rw [decide_eq_true hv] at hVA
    exact nest_vast a n c name w awake3_any hVA
  · rw [decide_eq_false hv] at hVA
    have hLl : ∀ u : World, RowKit.Below w.heap.size w u → Lies u (gL n l) (.agg #[.int .i64 5, .int .i64 0, .string ⟨#[]⟩, .slice a n c, .slice none 0 0]) := fun u hu => lies_L (hV.below hu) hnc hcm
    have hnl : (gL n l).nodes = 1 + sumN l n := by simp [gL, GV.nodes, sumN]
    have hnd : (gD 1 (fun _ => name) (fun _ => gL n l)).nodes = 1 + (gL n l).nodes := by simp [gD, GV.nodes]
    have hDD : ∀ u : World, RowKit.Below w.heap.size w u → Calls Tryd.prog 13 #[.string name, .agg #[.int .i64 5, .int .i64 0, .string ⟨#[]⟩, .slice a n c, .slice none 0 0]] u fun e w' => ∃ v, e = .returned v ∧ Lies w' (gD 1 (fun _ => name) (fun _ => gL n l)) v ∧ RowKit.Below u.heap.size u w' := by
      intro u hu
      refine (D_any name _ _ u (hLl u hu) hs).mono ?_
      rintro e w' ⟨a', e', f', b'⟩
      exact ⟨_, e', lies_D f' (Nat.le_refl _) (by unfold maxLen; omega), b'⟩
    have hPD := fun (u : World) (v : Value) (hL : Lies u (gD 1 (fun _ => name) (fun _ => gL n l)) v) => put_two (g := gD 1 (fun _ => name) (fun _ => gL n l)) u v hL (by omega)
    have hGD := fun (u : World) (v : Value) (hL : Lies u (gD 1 (fun _ => name) (fun _ => gL n l)) v) => Good_any _ v u hL (by omega)
    have hLd : ∃ u v, Lies u (gD 1 (fun _ => name) (fun _ => gL n l)) v := by
      have h1 := flds1 (w := w) (t := 0) (s := name) (hLl w (RowKit.Below.refl _ _)) hs rfl
      exact ⟨_, _, lies_D h1 (Nat.le_refl 1) (by unfold maxLen; omega)⟩
    obtain ⟨u0, v0, hL0⟩ := hLd
    have hES := enc_size hL0
    have hnk := nOk_lies hL0
    have hGT : (gD 1 (fun _ => name) (fun _ => gL n l)).err = 0 → ∀ (u : World) (a : Option Addr) (c : Nat), RowKit.Below w.heap.size w u → Byts u a (gD 1 (fun _ => name) (fun _ => gL n l)).enc → (gD 1 (fun _ => name) (fun _ => gL n l)).enc.length ≤ c → c ≤ maxLen → Calls Tryd.prog 7 #[.slice a (gD 1 (fun _ => name) (fun _ => gL n l)).enc.length c] u fun e w' => RowKit.Below u.heap.size u w' ∧ ∃ v, e = .returned (.tuple #[v, .int .i64 0]) ∧ Lies w' (getR (gD 1 (fun _ => name) (fun _ => gL n l)).enc).1 v := by
      intro h0 u a' c' hu hb h1 h2
      obtain ⟨x1, x2⟩ := get_enc h0 hnk hES
      obtain ⟨z1, z2, z3, z4, z5⟩ := err_zeroM h0
      refine (get_of a' c' _ u hb (by omega) h1 h2 (hT.below hu)).mono ?_
      rintro e w' ⟨hb, ⟨_, v', e', o⟩ | ⟨h, _⟩⟩
      · exact ⟨hb, v', e', o⟩
      · exact absurd x1 h
    have hFN : (gD 1 (fun _ => name) (fun _ => gL n l)).err = 0 → ∀ (u : World) (v : Value), Lies u (getR (gD 1 (fun _ => name) (fun _ => gL n l)).enc).1 v → Calls Tryd.prog 15 #[v, .string name] u fun e w' => ∃ v', e = .returned (.tuple #[v', .bool true]) ∧ Lies w' (optSay ((getR (gD 1 (fun _ => name) (fun _ => gL n l)).enc).1.find name)) v' ∧ RowKit.Below u.heap.size u w' := by
      intro h0 u v hv'
      obtain ⟨x1, x2⟩ := get_enc h0 hnk hES
      obtain ⟨y, hy, _⟩ := find_one x2
      refine (Find_any _ name v u hv' (by rw [same_nodes _ _ x2]; omega)).mono ?_
      rintro e w' ⟨v', e', h1, _, h2⟩
      rw [hy] at e'
      exact ⟨v', e', h1.lies, h2⟩
    have hSM : (gD 1 (fun _ => name) (fun _ => gL n l)).err = 0 → ∀ (u : World) (v : Value), RowKit.Below w.heap.size w u → Lies u (optSay ((getR (gD 1 (fun _ => name) (fun _ => gL n l)).enc).1.find name)) v → Calls Tryd.prog 11 #[v, .agg #[.int .i64 5, .int .i64 0, .string ⟨#[]⟩, .slice a n c, .slice none 0 0]] u fun e w' => e = .returned (.bool true) ∧ RowKit.Below u.heap.size u w' := by
      intro h0 u v hu hv'
      obtain ⟨x1, x2⟩ := get_enc h0 hnk hES
      obtain ⟨y, hy, hy2⟩ := find_one x2
      rw [hy] at hv'
      have h := same3_any y _ v _ u hv' (hLl u hu)
      rw [hy2] at h
      exact h
    by_cases hl0 : (gL n l).err = 0
    · have hL := hLl w (RowKit.Below.refl _ _)
      have hEL := enc_size hL
      obtain ⟨z1, z2, z3, z4, z5⟩ := err_zeroM hl0
      have hle : n ≤ 5000 := by
        have : n ≤ sumN l n := nodes_len (l := l) (n := n)
        omega
      refine nest_good a n c l name (gL n l).enc (gL n l).enc.length _ _ _ _ _ w hV hle hnc hcm rfl (by omega) (enc_pos0 hL) ⟨5 :: varint n, by simp [gL, GV.enc]; decide⟩ awake3_any hVA ?_ ?_ (fun u base m v bs h => own_string h) hDD hPD hGD hGT hFN hSM
      · intro u hu
        refine (put_two u _ (hLl u hu) (by omega)).mono ?_
        rintro e w' ⟨hb, ⟨_, v', e', o⟩ | ⟨h, _⟩⟩
        · exact ⟨hb, v', e', o⟩
        · exact absurd hl0 h
      · intro u i v hi hu hv'
        have hni : (l i).nodes ≤ sumN l n := sum_mem (f := fun i => (l i).nodes) hi
        refine (put_two u v hv' (by omega)).mono ?_
        rintro e w' ⟨hb, ⟨_, v', e', o⟩ | ⟨h, _⟩⟩
        · exact ⟨hb, v', e', o⟩
        · exact absurd (list_parts hl0 i hi) h
    · refine nest_bad a n c name _ _ _ _ _ _ w hl0 awake3_any hVA ?_ hDD hPD hGD hGT hFN hSM
      intro u hu
      refine (put_two u _ (hLl u hu) (by omega)).mono ?_
      rintro e w' ⟨hb, ⟨h, _⟩ | ⟨_, h⟩⟩
      · exact absurd h hl0
      · exact ⟨hb, h⟩
end Go.Proofs.YtfnmmpakejdlgabDoor
