/- Some texts in one: each opens with its own remark. -/
import Derived.Test.YtagjemdoefldaaaDoorK6
import Derived.Test.YtagjemdoefldaaaDoorK2
import Derived.Test.YtagjemdoefldaaaDoorZNext
import Derived.Laws.IdiomStrings
import Derived.Laws.BytesArg
import Derived.Test.YtagjemdoefldaaaDoorK5
/- What utf.Unquote tells of the rest of a text that begins with a backslash. -/
namespace Go.Proofs.YtagjemdoefldaaaDoor
open Go.RowKit

set_option maxRecDepth 100000 in
theorem letters_none (c : UInt8) (h : c.toNat ≠ 34 ∧ c.toNat ≠ 92 ∧ c.toNat ≠ 98 ∧ c.toNat ≠ 102 ∧ c.toNat ≠ 110 ∧ c.toNat ≠ 114 ∧ c.toNat ≠ 116 ∧ c.toNat ≠ 47) : Lib.indexByte [34, 92, 98, 102, 110, 114, 116, 47] c = -1 := by
  have key : ∀ n : Nat, n < 256 → (n = 34 ∨ n = 92 ∨ n = 98 ∨ n = 102 ∨ n = 110 ∨ n = 114 ∨ n = 116 ∨ n = 47) ∨ Lib.indexByte [34, 92, 98, 102, 110, 114, 116, 47] (UInt8.ofNat n) = -1 := by decide
  have := (key c.toNat (UInt8.toNat_lt c)).resolve_left (by omega)
  rwa [UInt8.ofNat_toNat] at this

theorem tail_cons2 (s : ByteArray) (p : Nat) (h : p + 1 < s.size) : (s.extract p s.size).data.toList = s.data.toList.getD p 0 :: s.data.toList.getD (p + 1) 0 :: s.data.toList.drop (p + 2) := by
  rw [tail_cons s p (by omega), drop_getD _ (p + 1) (by rw [size_list]; omega)]

/-- A backslash at the end. -/
theorem uq_lone (s : ByteArray) (p : Nat) (acc : List UInt8) (h : p < s.size) (hb : byteAt s p = 92) (h1 : s.size ≤ p + 1) : uq (s.extract p s.size) acc = ([], 4) := by
  rw [uq_slash s p acc h hb]
  unfold uEsc
  rw [if_neg (by rw [uOk_not s p (Or.inl (by omega))]; decide), if_neg]
  intro hs
  have := shortOk_size _ hs
  rw [extract_size s p (by omega)] at this
  omega

/-- A backslash and a letter. -/
theorem uq_letter (s : ByteArray) (p : Nat) (c v : UInt8) (i : Nat) (acc : List UInt8) (h : p + 1 < s.size) (hb : byteAt s p = 92) (hc : byteAt s (p + 1) = c.toNat) (hn : c ≠ 117) (hi : Lib.indexByte [34, 92, 98, 102, 110, 114, 116, 47] c = (i : Int)) (hv : ([34, 92, 8, 12, 10, 13, 9, 47] : List UInt8).getD i 0 = v) (hv7 : v.toNat < 128) :
    uq (s.extract p s.size) acc = uq (s.extract (p + 2) s.size) (acc ++ [v]) := by
  have e1 : s.data.toList.getD p 0 = 92 := UInt8.toNat_inj.1 hb
  have e2 : s.data.toList.getD (p + 1) 0 = c := UInt8.toNat_inj.1 hc
  have hl := tail_cons2 s p h
  rw [e1, e2] at hl
  obtain ⟨h1, h2, h3⟩ := letter_part v.toNat c i _ _ hl hn hi (by rw [hv])
  rw [uq_slash s p acc (by omega) hb]
  unfold uEsc
  rw [if_neg (by rw [h1]; decide), if_pos h2, h3, enc1 _ hv7, extract_rest s p 2 (by omega)]
  simp

/-- A backslash and a byte that is no letter. -/
theorem uq_wrong (s : ByteArray) (p : Nat) (acc : List UInt8) (h : p + 1 < s.size) (hb : byteAt s p = 92) (hn : byteAt s (p + 1) ≠ 34 ∧ byteAt s (p + 1) ≠ 92 ∧ byteAt s (p + 1) ≠ 98 ∧ byteAt s (p + 1) ≠ 102 ∧ byteAt s (p + 1) ≠ 110 ∧ byteAt s (p + 1) ≠ 114 ∧ byteAt s (p + 1) ≠ 116 ∧ byteAt s (p + 1) ≠ 47) (hu : uOkC (s.extract p s.size) = false) :
    uq (s.extract p s.size) acc = ([], 4) := by
  rw [uq_slash s p acc (by omega) hb]
  unfold uEsc
  have hs : shortOk (s.extract p s.size) = false := by
    unfold shortOk shortIdx
    rw [tail_cons2 s p h]
    have : Lib.indexByte [34, 92, 98, 102, 110, 114, 116, 47] ((s.data.toList.getD p 0 :: s.data.toList.getD (p + 1) 0 :: s.data.toList.drop (p + 2)).getD 1 0) = -1 := letters_none _ hn
    rw [this]
    simp
  rw [if_neg (by rw [hu]; decide), if_neg (by rw [hs]; decide)]

/-- A number that is a character. -/
theorem uq_num (s : ByteArray) (p n : Nat) (acc : List UInt8) (h : p + 6 ≤ s.size) (hb : byteAt s p = 92) (hu : uOkC (s.extract p s.size) = true) (hr : uRC (s.extract p s.size) = (n : Int)) (hn : n < 55296 ∨ 57343 < n) :
    uq (s.extract p s.size) acc = uq (s.extract (p + 6) s.size) (acc ++ Lib.encodeRune (n : Int)) := by
  rw [uq_slash s p acc (by omega) hb]
  unfold uEsc
  rw [if_pos hu, hr, if_pos (by omega), extract_rest s p 6 h]

/-- Two halves. -/
theorem uq_pair (s : ByteArray) (p n m : Nat) (acc : List UInt8) (h : p + 12 ≤ s.size) (hb : byteAt s p = 92) (hu : uOkC (s.extract p s.size) = true) (hr : uRC (s.extract p s.size) = (n : Int)) (hn : 55296 ≤ n ∧ n ≤ 56319) (hu2 : uOkC (s.extract (p + 6) s.size) = true) (hr2 : uRC (s.extract (p + 6) s.size) = (m : Int)) (hm : 56320 ≤ m ∧ m ≤ 57343) :
    uq (s.extract p s.size) acc = uq (s.extract (p + 12) s.size) (acc ++ Lib.encodeRune (65536 + ((n : Int) - 55296) * 1024 + ((m : Int) - 56320))) := by
  rw [uq_slash s p acc (by omega) hb]
  unfold uEsc
  rw [if_pos hu, hr, if_neg (by omega), extract_rest s p 6 (by omega), hr2, hu2, if_neg, extract_rest s (p + 6) 6 (by omega)]
  rintro (h | h | h | h)
  · omega
  · cases h
  · omega
  · omega

/-- A half alone. -/
theorem uq_half (s : ByteArray) (p n : Nat) (acc : List UInt8) (h : p + 6 ≤ s.size) (hb : byteAt s p = 92) (hu : uOkC (s.extract p s.size) = true) (hr : uRC (s.extract p s.size) = (n : Int)) (hn : 55296 ≤ n ∧ n ≤ 57343) (hw : 56320 ≤ n ∨ uOkC (s.extract (p + 6) s.size) = false ∨ (∃ m : Nat, uRC (s.extract (p + 6) s.size) = (m : Int) ∧ (m < 56320 ∨ 57343 < m))) :
    uq (s.extract p s.size) acc = ([], 11) := by
  rw [uq_slash s p acc (by omega) hb]
  unfold uEsc
  rw [if_pos hu, hr, if_neg (by omega), extract_rest s p 6 (by omega), if_pos]
  rcases hw with h | h | ⟨m, h, h' | h'⟩
  · exact Or.inl (by omega)
  · exact Or.inr (Or.inl h)
  · exact Or.inr (Or.inr (Or.inl (by rw [h]; omega)))
  · exact Or.inr (Or.inr (Or.inr (by rw [h]; omega)))
end Go.Proofs.YtagjemdoefldaaaDoor

/- Contract of utf.Count: of a text of characters how many they are, of any other the error 11; nothing that was there is changed. -/
namespace Go.Proofs.YtagjemdoefldaaaDoor
open Go.RowKit

theorem rest_end (s : ByteArray) (pos : Nat) (h : s.data.toList.drop pos = bytesOf []) : ¬ pos < s.size := by
  have := congrArg List.length h
  rw [List.length_drop, size_list, bytesOf_nil, List.length_nil] at this
  omega

end Go.Proofs.YtagjemdoefldaaaDoor

/- Contract of utf.Runes: of a text of characters (not too long) a new row of them, of any other nil and the error 11; nothing that was there is changed. -/
namespace Go.Proofs.YtagjemdoefldaaaDoor
open Go.RowKit

theorem infoRune : (Tryd.prog.info? 21).map (fun i => (i.zero, i.size, i.bytes)) = some (some (.int .i32 0), 1, 4) := by kernel_rfl
def runeCellsOf (rs : List Nat) : List Value := rs.map fun r : Nat => Value.int .i32 (r : Int)

theorem iter_kept {w w' : World} {v : Value} {n : Nat} {xs : List Value} {base k pos : Nat} {s : ByteArray} (hown : w.ownsRow base 21 1 v n xs) (hg : w.grownBy w' v.ownBlock) (hit : w.heap[k]? = some (.stringIter s pos)) : w'.heap[k]? = some (.stringIter s pos) := by
  have hk : k < w.heap.size := (Array.getElem?_eq_some_iff.1 hit).1
  rw [hg.block k hk ?_]
  · exact hit
  · intro e
    rcases hown.2 with ⟨rfl, _⟩ | ⟨g, cap, cur, rfl, _, hgc, _⟩
    · simp [Value.ownBlock] at e
    · simp [Value.ownBlock] at e
      subst e
      rw [hit] at hgc
      cases hgc

theorem own_iter {w : World} {base : Nat} {e : TypeId} {size : Nat} {v : Value} {n : Nat} {xs : List Value} (h : w.ownsRow base e size v n xs) {k pos : Nat} {s : ByteArray} (hk : w.heap[k]? = some (.stringIter s pos)) (p : Nat) : (w.iterAt k s p).ownsRow base e size v n xs := by
  refine ⟨h.1, ?_⟩
  rcases h.2 with hn | ⟨g, cap, cur, hv, hbg, hg, rest⟩
  · exact .inl hn
  · have hkg : g ≠ k := by
      intro e1
      rw [e1, hk] at hg
      cases hg
    exact .inr ⟨g, cap, cur, hv, hbg, (Lib.iterAt_other w k g s p hkg).trans hg, rest⟩

end Go.Proofs.YtagjemdoefldaaaDoor

/- Contract of tidemarkref1.Runes: of a text of characters a new row of them and true, of any other nil and false. -/
namespace Go.Proofs.YtagjemdoefldaaaDoor
open Go.RowKit

/-- Characters that open a row of characters open it as such. -/
theorem split_bytes : ∀ (dn rs : List Nat) (t : List UInt8), allOk dn → allOk rs → bytesOf rs = bytesOf dn ++ t → ∃ rs', rs = dn ++ rs' ∧ t = bytesOf rs'
  | [], rs, t, _, _, h => ⟨rs, rfl, by simpa [bytesOf_nil] using h.symm⟩
  | r :: dn, [], t, _, _, h => by
    have := congrArg List.length h
    have hp := encode_pos r
    simp [bytesOf_nil, bytesOf_cons] at this
    omega
  | r :: dn, q :: rs, t, ho, hq, h => by
    have hr := decode_encode r (ho r (by simp)) (bytesOf dn ++ t)
    have hq' := decode_encode q (hq q (by simp)) (bytesOf rs)
    rw [bytesOf_cons, bytesOf_cons, List.append_assoc] at h
    rw [h, hr] at hq'
    have e : r = q := by simpa using congrArg Prod.fst hq'
    subst e
    have h' := List.append_cancel_left h
    obtain ⟨rs', e1, e2⟩ := split_bytes dn rs t (fun x hx => ho x (by simp [hx])) (fun x hx => hq x (by simp [hx])) h'
    exact ⟨rs', by rw [e1]; rfl, e2⟩

theorem no_char (s : ByteArray) (dn : List Nat) (p : Nat) (hp : p < s.size) (ho : allOk dn) (he : s.data.toList = bytesOf dn ++ s.data.toList.drop p) (hn : ∀ r, ¬ CharAt s p r) : validB s = false := by
  cases hv : validB s with
  | false => rfl
  | true =>
    exfalso
    obtain ⟨rs, hro, hre⟩ := valid_runes s hv
    rw [hre] at he
    obtain ⟨rs', e1, e2⟩ := split_bytes dn rs _ ho hro he
    cases rs' with
    | nil =>
      have := congrArg List.length e2
      rw [← hre] at this
      simp [bytesOf_nil] at this
      omega
    | cons r rs' =>
      refine hn r ⟨hro r (by rw [e1]; simp), bytesOf rs', ?_⟩
      rw [← hre] at e2
      exact e2

def RRunesSay (s : ByteArray) (w : World) (e : Ending) (w' : World) : Prop :=
  (∃ rs v, allOk rs ∧ s.data.toList = bytesOf rs ∧ e = .returned (.tuple #[v, .bool true]) ∧ w'.ownsRow w.heap.size 21 1 v rs.length (runeCellsOf rs) ∧ Below w.heap.size w w') ∨
  (validB s = false ∧ e = .returned (.tuple #[.slice none 0 0, .bool false]) ∧ Below w.heap.size w w')

set_option maxHeartbeats 4000000 in
set_option maxRecDepth 1000000 in
theorem rrunes_any (s : ByteArray) (w : World) (hs : s.size ≤ 4194304) :
    Calls Tryd.prog 46 #[.string s] w fun e w' => RRunesSay s w e w' := by
  obtain ⟨i0, hi, hz0, hz1, hz2⟩ := info_parts infoRune
  go_enter Tryd.func46, Tryd.ntmps46
  go_wp2_with fail
  go_loopw [4, 5] (fun v a wr => ∃ (p : Nat) (dn : List Nat), a = .int .i64 p ∧ p ≤ s.size ∧ wr.ownsRow w.heap.size 21 1 v dn.length (runeCellsOf dn) ∧ Below w.heap.size w wr ∧ allOk dn ∧ dn.length ≤ p ∧ s.data.toList = bytesOf dn ++ s.data.toList.drop p) (fun _ a _ => s.size - (intOf a).toNat)
  case atStart =>
    exact ⟨0, [], rfl, by omega, World.ownsRow_nil _ _ _ _, Below.refl _ _, fun r h => by simp at h, by simp, by simp [bytesOf_nil]⟩
  case round =>
    obtain ⟨p, dn, rfl, hps, hown, hbw, hok, hdl, hpre⟩ := hrel
    have HPRE : Hid (s.data.toList = bytesOf dn ++ s.data.toList.drop p) := hpre
    have HOK : Hid (allOk dn) := hok
    clear hpre hok
    by_cases hlt : p < s.size
    · have hnext := next_any s p wr (by omega) hlt
      go_wp2_with fail
      refine hnext.mono ?_
      rintro e w1 ⟨hsay, rfl⟩
      rcases hsay with ⟨r, hch, rfl⟩ | ⟨hno, v, n, rfl⟩
      · have hwp := encode_pos r
        have hrk := hch.1
        obtain ⟨rest, hd⟩ := hch.2
        obtain ⟨_, _, _, hdr⟩ := at_char s p r rest hrk hd
        have hr1 : r ≤ 1114111 := by unfold okRune at hrk; omega
        have hple : p + (Lib.encodeRune (r : Int)).length ≤ s.size := by
          have := congrArg List.length hd
          simp at this
          omega
        have HD : Hid (s.data.toList.drop p = Lib.encodeRune (r : Int) ++ rest) := hd
        have HDR : Hid (s.data.toList.drop (p + (Lib.encodeRune (r : Int)).length) = rest) := hdr
        have HRK : Hid (okRune r) := hrk
        obtain ⟨q, hq⟩ : ∃ q, p + (Lib.encodeRune (r : Int)).length = q := ⟨_, rfl⟩
        rw [hq]
        rw [hq] at hple
        have HQ : Hid (p + (Lib.encodeRune (r : Int)).length = q) := hq
        have hpq : p + 1 ≤ q := by omega
        clear hd hdr hrk hq hch hnext hwp
        have hz2' : w.heap.size ≤ w1.heap.size := hbw.size
        go_wp2_with (at_builtin; refine wpList_append_own _ rfl _ _ 75 rfl w.heap.size 21 i0 (.int .i32 0) 1 4 Tryd.underlying75 hi hz0 hz1 hz2 rfl (by decide) _ _ _ rfl (hown.alloc _) _ 1 1 [.int .i32 r] rfl rfl ?c1 ?c2 ?c3 ?c4 ?c5 ?_)
        case c1 =>
          intro j u hj
          match j, hj with
          | 0, hj => simp at hj; subst hj; simp [Addr.add]
        case c2 => intro u hu; simp at hu; subst hu; rfl
        case c3 => unfold maxLen; omega
        case c4 => omega
        case c5 => simp; omega
        intro v' w3 hown3 hgrow3 _
        have hbw3 : Below w.heap.size w w3 := by
          refine (hbw.alloc (by omega) _).grown hgrow3 (by simp; omega) ?_
          intro k hk
          exact (hown.lt k hk).1
        have HOWN : Hid (w3.ownsRow w.heap.size 21 1 v' (dn.length + 1) (runeCellsOf dn ++ [Value.int IntKind.i32 (r : Int)])) := hown3
        clear hown3 hgrow3
        go_wp2_with fail
        go_roundw
        case rel =>
          refine ⟨q, dn ++ [r], rfl, hple, ?_, hbw3, ?_, ?_, ?_⟩
          · have := HOWN.out
            rw [List.length_append, List.length_singleton]
            simpa [runeCellsOf] using this
          · intro x hx
            rcases List.mem_append.1 hx with hx | hx
            · exact HOK.out x hx
            · simp at hx; subst hx; exact HRK.out
          · simp; omega
          · rw [bytesOf_append, bytesOf_cons, bytesOf_nil, List.append_nil, List.append_assoc, ← HQ.out, HDR.out, ← HD.out]
            exact HPRE.out
        case measure => simp [intOf]; omega
      · have HNO : Hid (∀ r, ¬ CharAt s p r) := hno
        clear hno
        go_wp2_with fail
        go_ret2
        exact Or.inr ⟨no_char s dn p hlt HOK.out HPRE.out HNO.out, rfl, hbw⟩
    · have hpe : p = s.size := by omega
      have HOWN : Hid (wr.ownsRow w.heap.size 21 1 _ dn.length (runeCellsOf dn)) := hown
      clear hown
      go_wp2_with fail
      go_ret2
      refine Or.inl ⟨dn, _, HOK.out, ?_, rfl, HOWN.out, hbw⟩
      have := HPRE.out
      rw [List.drop_eq_nil_of_le (by rw [size_list]; omega), List.append_nil] at this
      exact this
end Go.Proofs.YtagjemdoefldaaaDoor

/- Contract of tidemarkref1.One: a character's bytes in new memory; of a number that is none nil and false. -/
namespace Go.Proofs.YtagjemdoefldaaaDoor
open Go.RowKit

def OneSays (z : Int) (w : World) (e : Ending) (w' : World) : Prop :=
  (Lib.validRune z = true ∧ ∃ v, e = .returned (.tuple #[v, .bool true]) ∧ w'.ownsRow w.heap.size 5 1 v (Lib.encodeRune z).length (Lib.byteCells (Lib.encodeRune z)) ∧ Below w.heap.size w w') ∨
  (Lib.validRune z = false ∧ e = .returned (.tuple #[.slice none 0 0, .bool false]) ∧ w' = w)

theorem one_own (w : World) (bs : List UInt8) (cs : Array Value) (n : Nat) (hn : bs.length = n) (hm : n ≤ 4) (hc : cs.toList = Lib.byteCells bs) :
    (w.alloc (.cells cs 5)).ownsRow w.heap.size 5 1 (.slice (some ⟨w.heap.size, 0, none⟩) n n) bs.length (Lib.byteCells bs) := by
  subst hn
  rw [← hc]
  exact World.ownsRow_lit w cs bs.length (Nat.le_refl _) (by unfold maxLen; omega) (by rw [← Array.length_toList, hc, Lib.byteCells_length]; omega)

set_option maxHeartbeats 400000 in
set_option maxRecDepth 1000000 in
theorem one_neg (z : Int) (h0 : -2147483648 ≤ z) (hneg : z < 0) (w : World) : Calls Tryd.prog 58 #[.int .i64 z] w fun e w' => OneSays z w e w' := by
  have hv : Lib.validRune z = false := by simp [Lib.validRune]; omega
  go_enter Tryd.func58, Tryd.ntmps58
  go_wp2_with fail
  go_ret2
  exact Or.inr ⟨hv, rfl, rfl⟩

set_option maxHeartbeats 400000 in
set_option maxRecDepth 1000000 in
theorem one_big (r : Nat) (h0 : 1114111 < r) (h1 : r ≤ 2147483647) (w : World) : Calls Tryd.prog 58 #[.int .i64 (r : Int)] w fun e w' => OneSays (r : Int) w e w' := by
  have hv : Lib.validRune (r : Int) = false := by simp [Lib.validRune]; omega
  go_enter Tryd.func58, Tryd.ntmps58
  go_wp2_with fail
  go_ret2
  exact Or.inr ⟨hv, rfl, rfl⟩

set_option maxHeartbeats 400000 in
set_option maxRecDepth 1000000 in
theorem one_sur (r : Nat) (h0 : 55296 ≤ r) (h1 : r ≤ 57343) (w : World) : Calls Tryd.prog 58 #[.int .i64 (r : Int)] w fun e w' => OneSays (r : Int) w e w' := by
  have hv : Lib.validRune (r : Int) = false := by simp [Lib.validRune]; omega
  go_enter Tryd.func58, Tryd.ntmps58
  go_wp2_with fail
  go_ret2
  exact Or.inr ⟨hv, rfl, rfl⟩

set_option maxHeartbeats 400000 in
set_option maxRecDepth 1000000 in
theorem one1 (r : Nat) (h1 : r < 128) (w : World) : Calls Tryd.prog 58 #[.int .i64 (r : Int)] w fun e w' => e = .returned (.tuple #[.slice (some ⟨w.heap.size, 0, none⟩) 1 1, .bool true]) ∧ w' = w.alloc (.cells #[.int .u8 (r : Int)] 5) := by
  go_enter Tryd.func58, Tryd.ntmps58
  go_wp2_with fail
  go_ret2
  exact ⟨rfl, rfl⟩

set_option maxHeartbeats 400000 in
set_option maxRecDepth 1000000 in
theorem one2 (r a b : Nat) (h0 : 128 ≤ r) (h1 : r < 2048) (hb : (r : Int) / 64 = (b : Int)) (hb1 : b < 32) (ha : (r : Int) % 64 = (a : Int)) (_ha1 : a < 64) (w : World) : Calls Tryd.prog 58 #[.int .i64 (r : Int)] w fun e w' => e = .returned (.tuple #[.slice (some ⟨w.heap.size, 0, none⟩) 2 2, .bool true]) ∧ w' = w.alloc (.cells #[.int .u8 (192 + (b : Int)), .int .u8 (128 + (a : Int))] 5) := by
  go_enter Tryd.func58, Tryd.ntmps58
  go_wp2_with fail
  go_ret2
  exact ⟨rfl, rfl⟩

set_option maxHeartbeats 400000 in
set_option maxRecDepth 1000000 in
theorem one3 (r q c b a : Nat) (h0 : 2048 ≤ r) (h1 : r < 55296) (hq : (r : Int) / 64 = (q : Int)) (hq1 : q < 1024) (hc : (r : Int) / 4096 = (c : Int)) (hc1 : c < 16) (hb : (q : Int) % 64 = (b : Int)) (_hb1 : b < 64) (ha : (r : Int) % 64 = (a : Int)) (_ha1 : a < 64) (w : World) : Calls Tryd.prog 58 #[.int .i64 (r : Int)] w fun e w' => e = .returned (.tuple #[.slice (some ⟨w.heap.size, 0, none⟩) 3 3, .bool true]) ∧ w' = w.alloc (.cells #[.int .u8 (224 + (c : Int)), .int .u8 (128 + (b : Int)), .int .u8 (128 + (a : Int))] 5) := by
  go_enter Tryd.func58, Tryd.ntmps58
  go_wp2_with fail
  go_ret2
  exact ⟨rfl, rfl⟩

set_option maxHeartbeats 400000 in
set_option maxRecDepth 1000000 in
theorem one3b (r q c b a : Nat) (h0 : 57343 < r) (h1 : r < 65536) (hq : (r : Int) / 64 = (q : Int)) (hq1 : q < 1024) (hc : (r : Int) / 4096 = (c : Int)) (hc1 : c < 16) (hb : (q : Int) % 64 = (b : Int)) (_hb1 : b < 64) (ha : (r : Int) % 64 = (a : Int)) (_ha1 : a < 64) (w : World) : Calls Tryd.prog 58 #[.int .i64 (r : Int)] w fun e w' => e = .returned (.tuple #[.slice (some ⟨w.heap.size, 0, none⟩) 3 3, .bool true]) ∧ w' = w.alloc (.cells #[.int .u8 (224 + (c : Int)), .int .u8 (128 + (b : Int)), .int .u8 (128 + (a : Int))] 5) := by
  go_enter Tryd.func58, Tryd.ntmps58
  go_wp2_with fail
  go_ret2
  exact ⟨rfl, rfl⟩

set_option maxHeartbeats 400000 in
set_option maxRecDepth 1000000 in
theorem one4 (r q p d c b a : Nat) (h0 : 65536 ≤ r) (h1 : r ≤ 1114111) (hq : (r : Int) / 64 = (q : Int)) (hq1 : q < 32768) (hp : (r : Int) / 4096 = (p : Int)) (hp1 : p < 512) (hd : (r : Int) / 262144 = (d : Int)) (hd1 : d < 8) (hc : (p : Int) % 64 = (c : Int)) (_hc1 : c < 64) (hb : (q : Int) % 64 = (b : Int)) (_hb1 : b < 64) (ha : (r : Int) % 64 = (a : Int)) (_ha1 : a < 64) (w : World) : Calls Tryd.prog 58 #[.int .i64 (r : Int)] w fun e w' => e = .returned (.tuple #[.slice (some ⟨w.heap.size, 0, none⟩) 4 4, .bool true]) ∧ w' = w.alloc (.cells #[.int .u8 (240 + (d : Int)), .int .u8 (128 + (c : Int)), .int .u8 (128 + (b : Int)), .int .u8 (128 + (a : Int))] 5) := by
  go_enter Tryd.func58, Tryd.ntmps58
  go_wp2_with fail
  go_ret2
  exact ⟨rfl, rfl⟩

theorem one_says (r n : Nat) (w : World) (cs : Array Value) (hk : okRune r) (hm : n ≤ 4) (hn : (Lib.encodeRune (r : Int)).length = n) (hc : cs.toList = Lib.byteCells (Lib.encodeRune (r : Int))) (e : Ending) (w' : World)
    (h : e = .returned (.tuple #[.slice (some ⟨w.heap.size, 0, none⟩) n n, .bool true]) ∧ w' = w.alloc (.cells cs 5)) : OneSays (r : Int) w e w' := by
  obtain ⟨rfl, rfl⟩ := h
  refine Or.inl ⟨?_, _, rfl, one_own w _ cs n hn hm hc, (Below.refl _ w).alloc (Nat.le_refl _) _⟩
  unfold okRune at hk
  simp [Lib.validRune]
  omega

theorem one_any (z : Int) (w : World) (h0 : -2147483648 ≤ z) (h1 : z ≤ 2147483647) :
    Calls Tryd.prog 58 #[.int .i64 z] w fun e w' => OneSays z w e w' := by
  by_cases hneg : z < 0
  · exact one_neg z h0 hneg w
  obtain ⟨r, rfl⟩ : ∃ r : Nat, z = (r : Int) := ⟨z.toNat, by omega⟩
  by_cases hbig : 1114111 < r
  · exact one_big r hbig (by omega) w
  by_cases hsur : 55296 ≤ r ∧ r ≤ 57343
  · exact one_sur r hsur.1 hsur.2 w
  have hk : okRune r := by unfold okRune; omega
  by_cases c1 : r < 128
  · refine (one1 r c1 w).mono fun e w' h => one_says r 1 w _ hk (by omega) (by rw [enc1 r c1]; rfl) ?_ e w' h
    rw [enc1 r c1]
    simp [Lib.byteCells]
    omega
  by_cases c2 : r < 2048
  · refine (one2 r (r % 64) (r / 64) (by omega) c2 (by omega) (by omega) (by omega) (by omega) w).mono fun e w' h => one_says r 2 w _ hk (by omega) (by rw [enc2 r (by omega) (by omega)]; rfl) ?_ e w' h
    rw [enc2 r (by omega) (by omega)]
    simp [Lib.byteCells]
    omega
  by_cases c3 : r < 65536
  · have he := enc3 r (by omega)
    by_cases c4 : r < 55296
    · refine (one3 r (r / 64) (r / 4096) (r / 64 % 64) (r % 64) (by omega) c4 (by omega) (by omega) (by omega) (by omega) (by omega) (by omega) (by omega) (by omega) w).mono fun e w' h => one_says r 3 w _ hk (by omega) (by rw [he]; rfl) ?_ e w' h
      rw [he]
      simp [Lib.byteCells]
      omega
    · refine (one3b r (r / 64) (r / 4096) (r / 64 % 64) (r % 64) (by omega) c3 (by omega) (by omega) (by omega) (by omega) (by omega) (by omega) (by omega) (by omega) w).mono fun e w' h => one_says r 3 w _ hk (by omega) (by rw [he]; rfl) ?_ e w' h
      rw [he]
      simp [Lib.byteCells]
      omega
  · have he := enc4 r (by omega) (by omega)
    refine (one4 r (r / 64) (r / 4096) (r / 262144) (r / 4096 % 64) (r / 64 % 64) (r % 64) (by omega) (by omega) (by omega) (by omega) (by omega) (by omega) (by omega) (by omega) (by omega) (by omega) (by omega) (by omega) (by omega) (by omega) w).mono fun e w' h => one_says r 4 w _ hk (by omega) (by rw [he]; rfl) ?_ e w' h
    rw [he]
    simp [Lib.byteCells]
    omega
end Go.Proofs.YtagjemdoefldaaaDoor

/- Contract of utf.Text: of characters their bytes, of numbers among which one is no character the empty text and the error 11; nothing that was there is changed. -/
namespace Go.Proofs.YtagjemdoefldaaaDoor
open Go.RowKit

def RowIs (k : IntKind) (w : World) (a : Option Addr) (zs : List Int) : Prop :=
  zs.length = 0 ∨ ∃ b off, a = some ⟨b, off, none⟩ ∧ b < w.heap.size ∧ ∀ i, i < zs.length → w.cell? ⟨b, off + i, none⟩ = some (.int k (zs.getD i 0))

theorem RowIs.mono {k : IntKind} {w w' : World} {a : Option Addr} {zs : List Int} {B : Nat} (h : RowIs k w a zs) (hb : Below B w w') (hB : w.heap.size ≤ B) : RowIs k w' a zs := by
  rcases h with h | ⟨b, off, ha, hlt, hc⟩
  · exact Or.inl h
  · exact Or.inr ⟨b, off, ha, Nat.lt_of_lt_of_le hlt hb.size, fun i hi => by rw [hb.cell (p := ⟨b, off + i, none⟩) (Nat.lt_of_lt_of_le hlt hB)]; exact hc i hi⟩

def okAll (zs : List Int) : Bool := zs.all Lib.validRune
def encAll (zs : List Int) : List UInt8 := zs.flatMap Lib.encodeRune
def tText (zs : List Int) : ByteArray := if okAll zs = true then ⟨(encAll zs).toArray⟩ else ⟨#[]⟩
def tErr (zs : List Int) : Int := if okAll zs = true then 0 else 11

theorem encAll_snoc (zs : List Int) (z : Int) : encAll (zs ++ [z]) = encAll zs ++ Lib.encodeRune z := by simp [encAll]

end Go.Proofs.YtagjemdoefldaaaDoor

/- Contract of tidemarkref1.Text: of characters their bytes and true; of numbers among which one is none the empty text and false. -/
namespace Go.Proofs.YtagjemdoefldaaaDoor
open Go.RowKit

theorem infoU8 : (Tryd.prog.info? 5).map (fun i => (i.zero, i.size, i.bytes)) = some (some (.int .u8 0), 1, 1) := by kernel_rfl

/-- 'string(b)' of a row of bytes of one's own. -/
theorem own_string {w : World} {base n : Nat} {v : Value} {bs : List UInt8} (h : w.ownsRow base 5 1 v n (Lib.byteCells bs)) :
    (convert 39 9 v).run Tryd.prog w = .ok (.string ⟨bs.toArray⟩) w := by
  have hn : bs.length = n := by have := h.1; rw [Lib.byteCells_length] at this; omega
  subst hn
  rcases h.2 with ⟨rfl, h0⟩ | ⟨g, cap, cur, rfl, hg⟩
  · cases bs with
    | nil => exact run_convert_bytes_nil w 39 5 Tryd.underlying39 Tryd.underlying5 0 0 9 Tryd.underlying9
    | cons b bs => simp at h0
  · refine run_convert_bytes_back w 39 9 5 ⟨g, 0, none⟩ cap bs Tryd.underlying39 Tryd.underlying5 Tryd.underlying9 ?_
    intro j hj
    exact h.cells (g := g) rfl j _ (by simp [Lib.byteCells, List.getElem?_eq_getElem hj])

theorem own_below {w w' : World} {B e size n : Nat} {v : Value} {xs : List Value} (h : w.ownsRow B e size v n xs) (hb : Below w.heap.size w w') : w'.ownsRow B e size v n xs := by
  refine ⟨h.1, ?_⟩
  rcases h.2 with hn | ⟨g, cap, cur, hv, hbg, hg, rest⟩
  · exact .inl hn
  · exact .inr ⟨g, cap, cur, hv, hbg, (hb.block g (Array.getElem?_eq_some_iff.1 hg).1).trans hg, rest⟩

/-- The cells of a row of one's own that is not empty. -/
theorem own_cells {w : World} {base n : Nat} {v : Value} {xs : List Value} (h : w.ownsRow base 5 1 v n xs) (hn : 0 < n) :
    ∃ g c, v = .slice (some ⟨g, 0, none⟩) n c ∧ g < w.heap.size ∧ base ≤ g ∧ ∀ j u, xs[j]? = some u → w.cell? ((⟨g, 0, none⟩ : Addr).add j) = some u := by
  rcases h.2 with ⟨_, h0⟩ | ⟨g, cap, cur, rfl, hb, hg, hg2⟩
  · omega
  · exact ⟨g, cap, rfl, (Array.getElem?_eq_some_iff.1 hg).1, hb, h.cells (g := g) rfl⟩

end Go.Proofs.YtagjemdoefldaaaDoor

/- Contract of tidemarkref1.Quote: a text's bytes one by one, each as its part, between two quotes. -/
namespace Go.Proofs.YtagjemdoefldaaaDoor
open Go.RowKit

def bq (c : UInt8) : List UInt8 := if c.toNat < 128 then partOf (c.toNat : Int) else [c]
def qb (l : List UInt8) : List UInt8 := l.flatMap bq

theorem qb_snoc (l : List UInt8) (c : UInt8) : qb (l ++ [c]) = qb l ++ bq c := by simp [qb]
theorem bq_len (c : UInt8) : (bq c).length ≤ 6 := by
  unfold bq
  split
  · exact partOf_len _
  · simp
theorem qb_len (l : List UInt8) : (qb l).length ≤ 6 * l.length := by
  induction l with
  | nil => simp [qb]
  | cons c l ih =>
    have h : qb (c :: l) = bq c ++ qb l := rfl
    have := bq_len c
    rw [h, List.length_append, List.length_cons]
    omega

/-- The bytes of a character. -/
theorem enc_high (r : Nat) (h0 : 128 ≤ r) (h1 : okRune r) : ∀ c ∈ Lib.encodeRune (r : Int), 128 ≤ c.toNat := by
  unfold okRune at h1
  intro c hc
  by_cases h2 : r ≤ 2047
  · rw [enc2 r h0 h2] at hc
    simp only [List.mem_cons, List.not_mem_nil, or_false] at hc
    rcases hc with rfl | rfl <;> rw [u8_of _ (by omega)] <;> omega
  · by_cases h3 : r ≤ 65535
    · rw [enc3 r (by omega)] at hc
      simp only [List.mem_cons, List.not_mem_nil, or_false] at hc
      rcases hc with rfl | rfl | rfl <;> rw [u8_of _ (by omega)] <;> omega
    · rw [enc4 r (by omega) (by omega)] at hc
      simp only [List.mem_cons, List.not_mem_nil, or_false] at hc
      rcases hc with rfl | rfl | rfl | rfl <;> rw [u8_of _ (by omega)] <;> omega

theorem qb_high (l : List UInt8) (h : ∀ c ∈ l, 128 ≤ c.toNat) : qb l = l := by
  induction l with
  | nil => rfl
  | cons c l ih =>
    have h1 : qb (c :: l) = bq c ++ qb l := rfl
    have h2 : bq c = [c] := by
      unfold bq
      rw [if_neg (by have := h c (by simp); omega)]
    rw [h1, h2, ih (fun x hx => h x (by simp [hx]))]
    rfl

theorem qb_char (r : Nat) (h : okRune r) : qb (Lib.encodeRune (r : Int)) = partOf (r : Int) := by
  by_cases h1 : r < 128
  · rw [enc1 r h1]
    have h2 : qb [r.toUInt8] = bq r.toUInt8 := by simp [qb]
    rw [h2]
    unfold bq
    rw [u8_of r (by omega), if_pos h1]
  · rw [qb_high _ (enc_high r (by omega) h), partOf_plainR r ⟨by omega, by omega, by omega, by omega⟩]

theorem qb_runes (rs : List Nat) (h : allOk rs) : qb (bytesOf rs) = partsOf rs := by
  induction rs with
  | nil => rfl
  | cons r rs ih =>
    rw [bytesOf_cons, partsOf_cons]
    have : ∀ a b : List UInt8, qb (a ++ b) = qb a ++ qb b := fun a b => by simp [qb]
    rw [this, qb_char r (h r (by simp)), ih (fun x hx => h x (by simp [hx]))]
end Go.Proofs.YtagjemdoefldaaaDoor
