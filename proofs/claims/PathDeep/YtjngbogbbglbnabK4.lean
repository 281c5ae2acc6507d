/- Some texts in one: each opens with its own remark. -/
import Derived.Test.YtjngbogbbglbnabSiz
import Derived.Test.YtjngbogbbglbnabRowb
import Derived.Lib.UnsafeStr
import Derived.Test.YtjngbogbbglbnabSame2
import Derived.Test.YtjngbogbbglbnabPut56
import Derived.Test.YtjngbogbbglbnabK3
/- A value's bytes, as a list. -/
namespace Go.Proofs.Ytjngbogbbglbnab
open Go.RowKit

/-- Digits by base 128, the lowest first. -/
def varint (n : Nat) : List UInt8 := if h : 128 ≤ n then UInt8.ofNat (n % 128 + 128) :: varint (n / 128) else [UInt8.ofNat n]
termination_by n
decreasing_by omega

theorem varint_more {n : Nat} (h : 128 ≤ n) : varint n = UInt8.ofNat (n % 128 + 128) :: varint (n / 128) := by
  rw [varint, dif_pos h]
theorem varint_last {n : Nat} (h : ¬ 128 ≤ n) : varint n = [UInt8.ofNat n] := by
  rw [varint, dif_neg h]

def encS (s : ByteArray) : List UInt8 := varint s.size ++ s.data.toList

theorem take_succ_byte (s : ByteArray) (j : Nat) (h : j < s.size) : s.data.toList.take (j + 1) = s.data.toList.take j ++ [s.data.toList[j]'(by simpa using h)] := List.take_succ_eq_append_getElem _

def byteOf (k : Int) : UInt8 := UInt8.ofNat (k % 256).toNat
theorem byteOf_wrap (k : Int) : IntKind.u8.wrap k = ((byteOf k).toNat : Int) := by
  have h : IntKind.u8.wrap k = k % 256 := by simp [IntKind.wrap, IntKind.bits, IntKind.signed]
  have h2 : (k % 256).toNat < 256 := by omega
  rw [h]
  unfold byteOf
  simp
  omega

/-- A value's bytes. -/
def GV.enc : GV → List UInt8
  | .nil => []
  | .mk k n s ln l fn nm f => byteOf k ::
    (if k = 2 then [byteOf n] else if k = 3 then varint (zig n).toNat else if k = 4 then encS s
    else if k = 5 then varint ln ++ (List.range ln).flatMap (fun i => (l i).enc)
    else if k = 6 then varint fn ++ (List.range fn).flatMap (fun i => encS (nm i) ++ (f i).enc)
    else [])

theorem flat_snoc {α : Type} (c : Nat → List α) (j : Nat) : (List.range (j + 1)).flatMap c = (List.range j).flatMap c ++ c j := by
  rw [List.range_succ, List.flatMap_append]
  simp
end Go.Proofs.Ytjngbogbbglbnab

/- The walks of the document's own 'zig' and 'Varint'. -/
namespace Go.Proofs.Ytjngbogbbglbnab
open Go.RowKit

theorem infoU8 : (Try.prog.info? 5).map (fun i => (i.zero, i.size, i.bytes)) = some (some (.int .u8 0), 1, 1) := by kernel_rfl

set_option maxHeartbeats 1000000 in
theorem rzig_any (n : Int) (w : World) (h : Int64 n) : Calls Try.prog 68 #[.int .i64 n] w fun e w' => e = .returned (.int .u64 (zig n)) ∧ w' = w := by
  obtain ⟨h1, h2⟩ := h
  by_cases hn : n < 0
  · go_enter Try.func68, Try.ntmps68
    go_wp2_with fail
    go_ret
    refine ⟨?_, rfl⟩
    unfold zig
    rw [if_pos (by omega)]
    exact congrArg (fun x : Int => Ending.returned (Value.int .u64 x)) (show 2 * -(n + 1) + 1 = -2 * n - 1 by omega)
  · go_enter Try.func68, Try.ntmps68
    go_wp2_with fail
    go_ret
    refine ⟨?_, rfl⟩
    unfold zig
    rw [if_neg (by omega)]
    rfl

theorem vstep {m d : Nat} (h : m < 2 ^ (64 - d)) (hd : d ≤ 64) (h128 : 128 ≤ m) : d + 1 ≤ 64 ∧ m / 128 < 2 ^ (64 - (d + 1)) := by
  have h8 : 8 ≤ 64 - d := by
    by_cases hh : 64 - d ≤ 7
    · have := Nat.pow_le_pow_right (n := 2) (by omega) hh
      omega
    · omega
  have e : 64 - d = (64 - (d + 1)) + 1 := by omega
  rw [e, Nat.pow_succ] at h
  exact ⟨by omega, by omega⟩

theorem varint_len : ∀ (k n : Nat), n < 128 ^ (k + 1) → (varint n).length ≤ k + 1
  | 0, n, h => by rw [varint_last (by omega)]; simp
  | k + 1, n, h => by
    by_cases h128 : 128 ≤ n
    · rw [varint_more h128]
      have : n / 128 < 128 ^ (k + 1) := by
        rw [Nat.pow_succ] at h
        exact Nat.div_lt_of_lt_mul (by omega)
      have := varint_len k (n / 128) this
      simp
      omega
    · rw [varint_last h128]
      simp

theorem varint_ten {n : Nat} (h : n < 18446744073709551616) : (varint n).length ≤ 10 := varint_len 9 n (by omega)
theorem varint_pos (n : Nat) : 0 < (varint n).length := by
  by_cases h : 128 ≤ n
  · rw [varint_more h]; simp
  · rw [varint_last h]; simp

set_option maxHeartbeats 4000000 in
set_option maxRecDepth 1000000 in
theorem rvarint_any (n : Nat) (w : World) (hn : n < 18446744073709551616) :
    Calls Try.prog 67 #[.int .u64 n] w fun e w' => ∃ v, e = .returned v ∧ w'.ownsRow w.heap.size 5 1 v (varint n).length (Lib.byteCells (varint n)) ∧ Below w.heap.size w w' := by
  obtain ⟨i0, hi, hz0, hz1, hz2⟩ := info_parts infoU8
  have hml : maxLen = 9223372036854775807 := rfl
  go_enter Try.func67, Try.ntmps67
  go_wp2_with fail
  go_loopw [0, 3] (fun x v wr => ∃ (n' : Nat) (dn : List UInt8), x = .int .u64 n' ∧ n' < 18446744073709551616 ∧ dn.length ≤ 64 ∧ Hid (n' < 2 ^ (64 - dn.length)) ∧ Hid (varint n = dn ++ varint n') ∧ wr.ownsRow w.heap.size 5 1 v dn.length (Lib.byteCells dn) ∧ Below w.heap.size w wr) (fun x _ _ => (intOf x).toNat)
  case atStart => exact ⟨n, [], rfl, hn, by simp, (by show n < _; simpa using hn), rfl, World.ownsRow_nil _ _ _ _, Below.refl _ _⟩
  case round =>
    obtain ⟨n', dn, rfl, hn', hdl, HL, HV, hown, hbw⟩ := hrel
    have hbs := hbw.size
    by_cases h128 : 128 ≤ n'
    · have HS := vstep HL.out hdl h128
      have HS2 : Hid (n' / 128 < 2 ^ (64 - (dn.length + 1))) := HS.2
      have hd1 := HS.1
      clear HS
      have HM : Hid (varint n' = UInt8.ofNat (n' % 128 + 128) :: varint (n' / 128)) := varint_more h128
      obtain ⟨q, hq⟩ : ∃ q, n' / 128 = q := ⟨_, rfl⟩
      obtain ⟨r, hr⟩ : ∃ r, n' % 128 = r := ⟨_, rfl⟩
      have hq1 : (n' : Int) / 128 = (q : Int) := by omega
      have hr1 : Int.tmod (n' : Int) 128 = (r : Int) := by rw [Int.tmod_eq_emod_of_nonneg (by omega)]; omega
      have hr3 : (n' : Int) % 128 = (r : Int) := by omega
      have hr2 : r < 128 := by omega
      have hq2 : q < n' := by omega
      rw [hq, hr] at HM
      rw [hq] at HS2
      clear hq hr
      have HB : Hid (Lib.byteCells [UInt8.ofNat (r + 128)] = [.int .u8 ((r : Int) + 128)]) := by
        show Lib.byteCells _ = _
        simp only [Lib.byteCells, List.map_cons, List.map_nil]
        have : (UInt8.ofNat (r + 128)).toNat = r + 128 := by simp; omega
        rw [this]
        rfl
      go_wp2_with (at_builtin; refine wpList_append_own _ rfl _ _ 77 rfl w.heap.size 5 i0 (.int .u8 0) 1 1 Try.underlying77 hi hz0 hz1 hz2 rfl (by decide) _ _ _ rfl (hown.alloc _) _ 1 1 [.int .u8 ((r : Int) + 128)] rfl rfl ?c1 ?c2 ?c3 ?c4 ?c5 ?_)
      case c1 =>
        intro j u hj
        match j, hj with
        | 0, hj => simp at hj; subst hj; simp [Addr.add]
      case c2 => intro u hu; simp at hu; subst hu; rfl
      case c3 => omega
      case c4 => omega
      case c5 => simp; omega
      intro v' w3 hown3 hgrow3 _
      have hbw3 : Below w.heap.size w w3 := by
        refine (hbw.alloc (by omega) _).grown hgrow3 (by simp; omega) ?_
        intro k hk
        exact (hown.lt k hk).1
      have HOWN : Hid (w3.ownsRow w.heap.size 5 1 v' (dn.length + 1) (Lib.byteCells dn ++ [.int .u8 ((r : Int) + 128)])) := hown3
      clear hown3 hgrow3
      go_wp2_with fail
      go_roundw
      case rel =>
        refine ⟨q, dn ++ [UInt8.ofNat (r + 128)], rfl, by omega, by simp; omega, (by show q < _; simpa using HS2.out), ?_, ?_, hbw3⟩
        · show _ = _
          rw [HV.out, HM.out]
          simp
        · rw [Lib.byteCells_append, HB.out, List.length_append]
          exact HOWN.out
      case measure => simp [intOf]; omega
    · have HM : Hid (varint n' = [UInt8.ofNat n']) := varint_last h128
      have HB : Hid (Lib.byteCells [UInt8.ofNat n'] = [.int .u8 (n' : Int)]) := by
        show Lib.byteCells _ = _
        simp only [Lib.byteCells, List.map_cons, List.map_nil]
        have : (UInt8.ofNat n').toNat = n' := by simp; omega
        rw [this]
      go_wp2_with (at_builtin; refine wpList_append_own _ rfl _ _ 77 rfl w.heap.size 5 i0 (.int .u8 0) 1 1 Try.underlying77 hi hz0 hz1 hz2 rfl (by decide) _ _ _ rfl (hown.alloc _) _ 1 1 [.int .u8 (n' : Int)] rfl rfl ?c1 ?c2 ?c3 ?c4 ?c5 ?_)
      case c1 =>
        intro j u hj
        match j, hj with
        | 0, hj => simp at hj; subst hj; simp [Addr.add]
      case c2 => intro u hu; simp at hu; subst hu; rfl
      case c3 => omega
      case c4 => omega
      case c5 => simp; omega
      intro v' w3 hown3 hgrow3 _
      have hbw3 : Below w.heap.size w w3 := by
        refine (hbw.alloc (by omega) _).grown hgrow3 (by simp; omega) ?_
        intro k hk
        exact (hown.lt k hk).1
      have HOWN : Hid (w3.ownsRow w.heap.size 5 1 v' (dn.length + 1) (Lib.byteCells dn ++ [.int .u8 (n' : Int)])) := hown3
      clear hown3 hgrow3
      go_wp2_with fail
      go_ret
      refine ⟨_, rfl, ?_, hbw3⟩
      rw [HV.out, HM.out, Lib.byteCells_append, HB.out, List.length_append]
      exact HOWN.out
end Go.Proofs.Ytjngbogbbglbnab

/- Small facts about trees, for the keys. (No walk.) -/
namespace Go.Proofs.Ytjngbogbbglbnab
open Go.RowKit

theorem mkHid {p : Prop} (h : p) : Hid p := h
def GV.nOk : GV → Bool
  | .nil => false
  | .mk _ n _ _ _ _ _ _ => decide (-9223372036854775808 ≤ n ∧ n ≤ 9223372036854775807)
theorem every_top {p : GV → Bool} {g : GV} (h : g.every p = true) : p g = true := by
  cases g with
  | nil => exact h
  | mk k n s ln l fn nm f => simp only [GV.every, Bool.and_eq_true] at h; exact h.1
theorem every_l {p : GV → Bool} {n s ln l fn nm f} (h : (GV.mk 5 n s ln l fn nm f).every p = true) (i : Nat) (hi : i < ln) : (l i).every p = true := by
  simp only [GV.every, Bool.and_eq_true, if_true] at h
  exact List.all_eq_true.1 h.2 i (by simpa using hi)
theorem every_f {p : GV → Bool} {n s ln l fn nm f} (h : (GV.mk 6 n s ln l fn nm f).every p = true) (i : Nat) (hi : i < fn) : (f i).every p = true := by
  simp only [GV.every, Bool.and_eq_true, if_true] at h
  exact List.all_eq_true.1 h.2 i (by simpa using hi)
theorem empty_eq {s : ByteArray} (h : s.toList.isEmpty = true) : s = ⟨#[]⟩ := by
  have h1 := empty_size h
  have h2 : s = ByteArray.empty := by simpa using h1
  rw [h2]
  rfl
theorem kind_of {k n s ln l fn nm f} (h : (GV.mk k n s ln l fn nm f).formed = true) : k = 1 ∨ k = 2 ∨ k = 3 ∨ k = 4 ∨ k = 5 ∨ k = 6 := by
  unfold GV.formed at h
  by_cases h1 : k = 1
  · exact Or.inl h1
  by_cases h2 : k = 2
  · exact Or.inr (Or.inl h2)
  by_cases h3 : k = 3
  · exact Or.inr (Or.inr (Or.inl h3))
  by_cases h4 : k = 4
  · exact Or.inr (Or.inr (Or.inr (Or.inl h4)))
  by_cases h5 : k = 5
  · exact Or.inr (Or.inr (Or.inr (Or.inr (Or.inl h5))))
  by_cases h6 : k = 6
  · exact Or.inr (Or.inr (Or.inr (Or.inr (Or.inr h6))))
  · simp [h1, h2, h3, h4, h5, h6] at h
/-- What lies in memory has numbers of 64 bits. -/
theorem nOk_lies {w : World} : ∀ {g : GV} {v : Value}, Lies w g v → g.every GV.nOk = true := by
  intro g
  induction g with
  | nil => intro v h; exact False.elim h
  | mk k n s ln l fn nm f ihl ihf =>
    intro v h
    obtain ⟨la, lc, fa, fc, rfl, hk, hn, hs, h4, h5, h6, h7, hl, hf⟩ := h
    simp only [GV.every, Bool.and_eq_true]
    refine ⟨decide_eq_true hn, ?_⟩
    split
    · refine List.all_eq_true.2 fun i hi => ?_
      obtain ⟨_, _, _, _, h, _⟩ := hl i (by simpa using hi)
      exact ihl i h
    · split
      · refine List.all_eq_true.2 fun i hi => ?_
        obtain ⟨_, _, _, _, _, _, h, _⟩ := hf i (by simpa using hi)
        exact ihf i h
      · rfl
theorem err_zeroM {g : GV} (h : g.err = 0) : g.every GV.formed = true ∧ g.every GV.readable = true ∧ g.every GV.limited = true ∧ g.depth ≤ 8 ∧ g.size ≤ 2048 := by
  unfold GV.err at h
  split at h
  · omega
  · split at h
    · omega
    · split at h
      · omega
      · split at h
        · omega
        · split at h
          · omega
          · rename_i a b c d e
            exact ⟨by simpa using a, by simpa using b, by simpa using c, by omega, by omega⟩
theorem err_ofM {g : GV} (h1 : g.every GV.formed = true) (h2 : g.every GV.readable = true) (h3 : g.every GV.limited = true) (h4 : g.depth ≤ 8) (h5 : g.size ≤ 2048) : g.err = 0 := by
  simp [GV.err, h1, h2, h3, show ¬ 8 < g.depth by omega, show ¬ 2048 < g.size by omega]
def pnm (parts : List (ByteArray × GV)) (i : Nat) : ByteArray := (parts[i]?.map Prod.fst).getD ⟨#[]⟩
def pg (parts : List (ByteArray × GV)) (i : Nat) : GV := (parts[i]?.map Prod.snd).getD .nil
/-- A List or a Doc of these parts. -/
def partsG (doc : Bool) (parts : List (ByteArray × GV)) : GV :=
  if doc = true then .mk 6 0 ⟨#[]⟩ 0 (fun _ => .nil) parts.length (pnm parts) (pg parts) else .mk 5 0 ⟨#[]⟩ parts.length (pg parts) 0 (fun _ => ⟨#[]⟩) (fun _ => .nil)
theorem pg_map (fs : List Fl) : pg (fs.map fun f => (f.nm, f.g)) = gOf fs := by
  funext i
  simp [pg, gOf]
  cases fs[i]? <;> rfl
theorem pnm_map (fs : List Fl) : pnm (fs.map fun f => (f.nm, f.g)) = nmOf fs := by
  funext i
  simp [pnm, nmOf]
  cases fs[i]? <;> rfl
end Go.Proofs.Ytjngbogbbglbnab

/- What PathBack and PathSums want besides: a good value has few parts; the last step; pushed, a List has one more. (No walk.) -/
namespace Go.Proofs.Ytjngbogbbglbnab
open Go.RowKit

theorem sum_none {f : Nat → Nat} : ((List.range 0).map f).sum = 0 := rfl
/-- A formed value has no more parts than bytes. -/
theorem nodes_size : ∀ g : GV, g.every GV.formed = true → g.nodes ≤ g.size := by
  intro g
  induction g with
  | nil => intro h; exact absurd (every_top h) (by simp [GV.formed])
  | mk k n s ln l fn nm f ihl ihf =>
    intro h
    have hF := every_top h
    rcases kind_of hF with rfl | rfl | rfl | rfl | rfl | rfl
    · simp [GV.formed] at hF
      obtain ⟨⟨_, rfl⟩, rfl⟩ := hF
      simp [GV.nodes, GV.size]
    · simp [GV.formed] at hF
      obtain ⟨⟨_, rfl⟩, rfl⟩ := hF
      simp [GV.nodes, GV.size]
    · simp [GV.formed] at hF
      obtain ⟨⟨_, rfl⟩, rfl⟩ := hF
      simp [GV.nodes, GV.size]
    · simp [GV.formed] at hF
      obtain ⟨⟨_, rfl⟩, rfl⟩ := hF
      simp [GV.nodes, GV.size]
    · simp [GV.formed] at hF
      obtain ⟨_, rfl⟩ := hF
      rw [GV.size_l5, foldl_add]
      have := sum_le (f := fun i => (l i).nodes) (g := fun i => (l i).size) (n := ln) fun i hi => ihl i (every_l h i hi)
      simp only [GV.nodes, sum_none]
      omega
    · simp [GV.formed] at hF
      obtain ⟨_, rfl⟩ := hF
      rw [GV.size_l6, foldl_add]
      have := sum_le (f := fun i => (f i).nodes) (g := fun i => textN (nm i) + (f i).size) (n := fn) fun i hi => Nat.le_trans (ihf i (every_f h i hi)) (Nat.le_add_left _ _)
      simp only [GV.nodes, sum_none]
      omega
theorem good_few {g : GV} (h : g.err = 0) : g.nodes ≤ 2048 :=
  Nat.le_trans (nodes_size g ((err_iff g).1 h).1) ((err_iff g).1 h).2.2.2.2

theorem unset_in {g u : GV} {p : ByteArray} (h : unsetR g p = .ok u) : ∃ l, stepsR p.data.toList = some l ∧ l ≠ [] ∧ g.err = 0 := by
  unfold unsetR at h
  cases hb : begR g p 0 (fun _ => .nil) with
  | error e => rw [hb] at h; cases h
  | ok l =>
    obtain ⟨h1, h2, _⟩ := beg_ok hb
    exact ⟨l, h2, steps_some h2, h1⟩
theorem unset_err {g : GV} {p : ByteArray} {e : Int} (h : unsetR g p = .error e) : getR g p = none := by
  cases hg : getR g p with
  | none => rfl
  | some o =>
    obtain ⟨u, hu, _⟩ := unset_got hg
    rw [hu] at h
    cases h
/-- Unset: the value stays where nothing was; else it is good, and nothing is there, if the last step is a name. -/
theorem unset_is {g u : GV} {p : ByteArray} (h : unsetR g p = .ok u) : u.err = 0 ∧ (getR g p = none → u = g) ∧ ∀ o, getR g p = some o → setR g p o = .ok g ∧ o.err = 0 := by
  obtain ⟨l, h2, hne, h1⟩ := unset_in h
  cases hg : getR g p with
  | none =>
    rcases unset_none hg with hu | ⟨e, hu⟩
    · rw [hu] at h
      injection h with h
      subst h
      exact ⟨h1, fun _ => rfl, fun o ho => absurd ho (by simp)⟩
    · rw [hu] at h
      cases h
  | some o =>
    obtain ⟨u', hu, hue, _⟩ := unset_got hg
    rw [hu] at h
    injection h with h
    subst h
    refine ⟨hue, fun hn => absurd hn (by simp), fun o' ho => ?_⟩
    injection ho with ho
    subst ho
    exact ⟨set_back hg, lead_good l g _ h1 (by rw [← get_good h1 h2]; exact hg)⟩
/-- A step begins with a digit, or is a name. -/
theorem step_first {s : ByteArray} (h : isStepB s.data.toList = true) : ∃ c r, s.data.toList = c :: r ∧ ((48 ≤ c.toNat ∧ c.toNat ≤ 57) ∨ isNameB s.data.toList = true) := by
  have hl := (isStep_len h).1
  cases hs : s.data.toList with
  | nil => rw [hs] at hl; exact absurd hl (by decide)
  | cons c r =>
    refine ⟨c, r, rfl, ?_⟩
    rw [hs] at h
    unfold isStepB at h
    rw [Bool.or_eq_true] at h
    rcases h with h | h
    · left
      simp [isPlaceB, isD] at h
      exact ⟨h.2.1.1, h.2.1.2⟩
    · exact Or.inr h
theorem unset_last {g u : GV} {p : ByteArray} {l : List ByteArray} (h : unsetR g p = .ok u) (hl : stepsR p.data.toList = some l) (is : (getR g p).isSome = true) :
    ∃ c r, (l.getD (l.length - 1) ⟨#[]⟩).data.toList = c :: r ∧ ((48 ≤ c.toNat ∧ c.toNat ≤ 57) ∨ getR u p = none) := by
  have hne := steps_some hl
  have hlast : l.getD (l.length - 1) ⟨#[]⟩ = l.getLast hne := by
    rw [List.getLast_eq_getElem, List.getD_eq_getElem?_getD, List.getElem?_eq_getElem (by have := List.length_pos_iff.2 hne; omega)]
    rfl
  obtain ⟨o, hg⟩ := Option.isSome_iff_exists.1 is
  obtain ⟨u', hu, _, hn⟩ := unset_got hg
  obtain rfl : u' = u := by rw [hu] at h; injection h
  rw [hlast]
  obtain ⟨c, r, h1, h2⟩ := step_first ((steps_all hl).1 _ (List.getLast_mem hne))
  exact ⟨c, r, h1, h2.imp (fun h => h) (fun h => hn l hne hl h)⟩

theorem nOk_num {g : GV} (h : g.every GV.nOk = true) : Int64 g.num := by
  cases g with
  | nil => exact absurd (every_top h) (by simp [GV.nOk])
  | mk k n s ln l fn nm f =>
    have := every_top h
    simp only [GV.nOk, decide_eq_true_eq] at this
    exact this
theorem lead_every {q : GV → Bool} : ∀ (l : List ByteArray) (g o : GV), g.every q = true → g.lead l = some o → o.every q = true
  | [], g, o, h, hl => by
    rw [lead_nil] at hl
    injection hl with hl
    rw [← hl]; exact h
  | s :: r, g, o, h, hl => by
    obtain ⟨i, h1, h2⟩ := lead_hit hl
    exact lead_every r _ o (every_part h (loc_hit h1)) h2
theorem lies_num {w : World} {g : GV} {v : Value} (h : Lies w g v) : ∀ l y, g.lead l = some y → Int64 y.num :=
  fun l y hy => nOk_num (lead_every l g y (nOk_lies h) hy)

/-- Pushed, a List has one more. -/
theorem push_in {g x y : GV} {p : ByteArray} (h : pushR g p x = .ok y) : ∃ o, getR g p = some o ∧ o.kind = 5 ∧ getR y p = some (o.more x) ∧ y.err = 0 ∧ o.err = 0 := by
  unfold pushR at h
  cases hb : begR g p 1 (fun _ => x) with
  | error e => rw [hb] at h; cases h
  | ok l =>
    rw [hb] at h
    dsimp only at h
    obtain ⟨h1, h2, _⟩ := beg_ok hb
    cases hl : ledR g l 5 with
    | error e => rw [hl] at h; cases h
    | ok o =>
      rw [hl] at h
      dsimp only at h
      obtain ⟨h3, h4⟩ := led_in hl
      obtain ⟨h5, h6⟩ := told_in h
      refine ⟨o, by rw [get_good h1 h2]; exact h3, h4, ?_, h6, lead_good l g o h1 h3⟩
      rw [get_good h6 h2]
      exact lead_put l g y _ (steps_some h2) (err_every h1) (steps_all h2).1 h5
end Go.Proofs.Ytjngbogbbglbnab
