/- Some texts in one: each opens with its own remark. -/
import Derived.Test.YtfnmmpakejdlgaaDoorZNextV
import Derived.Test.YtfnmmpakejdlgaaDoorK5
import Derived.Laws.BitsAllLaws
/- Contract of tidemarkref1.Runes: of a text of characters a new row of them and true, of any other nil and false. -/
namespace Go.Proofs.YtfnmmpakejdlgaaDoor
open Go.RowKit

theorem infoRune : (Tryd.prog.info? 21).map (fun i => (i.zero, i.size, i.bytes)) = some (some (.int .i32 0), 1, 4) := by kernel_rfl
def runeCellsOf (rs : List Nat) : List Value := rs.map fun r : Nat => Value.int .i32 (r : Int)


/-- Characters that open a row of characters open it as such. -/
theorem split_bytes : ∀ (dn rs : List Nat) (t : List UInt8), allOk dn → allOk rs → bytesOf rs = bytesOf dn ++ t → ∃ rs', rs = dn ++ rs' ∧ t = bytesOf rs'
  | [], rs, t, _, _, h => ⟨rs, rfl, by simpa [bytesOf_nil] using h.symm⟩
  | r :: dn, [], t, _, _, h => by
    have := congrArg List.length h
    have hp := encode_pos r
    simp [bytesOf_nil, bytesOf_cons] at this
    omega
  | r :: dn, q :: rs, t, ho, hq, h => by
    have hr := decode_encode r (ho r (by simp)) (bytesOf dn ++ t)
    have hq' := decode_encode q (hq q (by simp)) (bytesOf rs)
    rw [bytesOf_cons, bytesOf_cons, List.append_assoc] at h
    rw [h, hr] at hq'
    have e : r = q := by simpa using congrArg Prod.fst hq'
    subst e
    have h' := List.append_cancel_left h
    obtain ⟨rs', e1, e2⟩ := split_bytes dn rs t (fun x hx => ho x (by simp [hx])) (fun x hx => hq x (by simp [hx])) h'
    exact ⟨rs', by rw [e1]; rfl, e2⟩

theorem no_char (s : ByteArray) (dn : List Nat) (p : Nat) (hp : p < s.size) (ho : allOk dn) (he : s.data.toList = bytesOf dn ++ s.data.toList.drop p) (hn : ∀ r, ¬ CharAt s p r) : validB s = false := by
  cases hv : validB s with
  | false => rfl
  | true =>
    exfalso
    obtain ⟨rs, hro, hre⟩ := valid_runes s hv
    rw [hre] at he
    obtain ⟨rs', e1, e2⟩ := split_bytes dn rs _ ho hro he
    cases rs' with
    | nil =>
      have := congrArg List.length e2
      rw [← hre] at this
      simp [bytesOf_nil] at this
      omega
    | cons r rs' =>
      refine hn r ⟨hro r (by rw [e1]; simp), bytesOf rs', ?_⟩
      rw [← hre] at e2
      exact e2

def RRunesSay (s : ByteArray) (w : World) (e : Ending) (w' : World) : Prop :=
  (∃ rs v, allOk rs ∧ s.data.toList = bytesOf rs ∧ e = .returned (.tuple #[v, .bool true]) ∧ w'.ownsRow w.heap.size 21 1 v rs.length (runeCellsOf rs) ∧ Below w.heap.size w w') ∨
  (validB s = false ∧ e = .returned (.tuple #[.slice none 0 0, .bool false]) ∧ Below w.heap.size w w')

set_option maxHeartbeats 4000000 in
set_option maxRecDepth 1000000 in
theorem rrunes_any (s : ByteArray) (w : World) (hs : s.size ≤ 4194304) :
    Calls Tryd.prog 74 #[.string s] w fun e w' => RRunesSay s w e w' := by
  obtain ⟨i0, hi, hz0, hz1, hz2⟩ := info_parts infoRune
  go_enter Tryd.func74, Tryd.ntmps74
  go_wp2_with fail
  go_loopw [4, 5] (fun v a wr => ∃ (p : Nat) (dn : List Nat), a = .int .i64 p ∧ p ≤ s.size ∧ wr.ownsRow w.heap.size 21 1 v dn.length (runeCellsOf dn) ∧ Below w.heap.size w wr ∧ allOk dn ∧ dn.length ≤ p ∧ s.data.toList = bytesOf dn ++ s.data.toList.drop p) (fun _ a _ => s.size - (intOf a).toNat)
  case atStart =>
    exact ⟨0, [], rfl, by omega, World.ownsRow_nil _ _ _ _, Below.refl _ _, fun r h => by simp at h, by simp, by simp [bytesOf_nil]⟩
  case round =>
    obtain ⟨p, dn, rfl, hps, hown, hbw, hok, hdl, hpre⟩ := hrel
    have HPRE : Hid (s.data.toList = bytesOf dn ++ s.data.toList.drop p) := hpre
    have HOK : Hid (allOk dn) := hok
    clear hpre hok
    by_cases hlt : p < s.size
    · have hnext := next_any s p wr (by omega) hlt
      go_wp2_with fail
      refine hnext.mono ?_
      rintro e w1 ⟨hsay, rfl⟩
      rcases hsay with ⟨r, hch, rfl⟩ | ⟨hno, v, n, rfl⟩
      · have hwp := encode_pos r
        have hrk := hch.1
        obtain ⟨rest, hd⟩ := hch.2
        obtain ⟨_, _, _, hdr⟩ := at_char s p r rest hrk hd
        have hr1 : r ≤ 1114111 := by unfold okRune at hrk; omega
        have hple : p + (Lib.encodeRune (r : Int)).length ≤ s.size := by
          have := congrArg List.length hd
          simp at this
          omega
        have HD : Hid (s.data.toList.drop p = Lib.encodeRune (r : Int) ++ rest) := hd
        have HDR : Hid (s.data.toList.drop (p + (Lib.encodeRune (r : Int)).length) = rest) := hdr
        have HRK : Hid (okRune r) := hrk
        obtain ⟨q, hq⟩ : ∃ q, p + (Lib.encodeRune (r : Int)).length = q := ⟨_, rfl⟩
        rw [hq]
        rw [hq] at hple
        have HQ : Hid (p + (Lib.encodeRune (r : Int)).length = q) := hq
        have hpq : p + 1 ≤ q := by omega
        clear hd hdr hrk hq hch hnext hwp
        have hz2' : w.heap.size ≤ w1.heap.size := hbw.size
        go_wp2_with (at_builtin; refine wpList_append_own _ rfl _ _ 105 rfl w.heap.size 21 i0 (.int .i32 0) 1 4 Tryd.underlying105 hi hz0 hz1 hz2 rfl (by decide) _ _ _ rfl (hown.alloc _) _ 1 1 [.int .i32 r] rfl rfl ?c1 ?c2 ?c3 ?c4 ?c5 ?_)
        case c1 =>
          intro j u hj
          match j, hj with
          | 0, hj => simp at hj; subst hj; simp [Addr.add]
        case c2 => intro u hu; simp at hu; subst hu; rfl
        case c3 => unfold maxLen; omega
        case c4 => omega
        case c5 => simp; omega
        intro v' w3 hown3 hgrow3 _
        have hbw3 : Below w.heap.size w w3 := by
          refine (hbw.alloc (by omega) _).grown hgrow3 (by simp; omega) ?_
          intro k hk
          exact (hown.lt k hk).1
        have HOWN : Hid (w3.ownsRow w.heap.size 21 1 v' (dn.length + 1) (runeCellsOf dn ++ [Value.int IntKind.i32 (r : Int)])) := hown3
        clear hown3 hgrow3
        go_wp2_with fail
        go_roundw
        case rel =>
          refine ⟨q, dn ++ [r], rfl, hple, ?_, hbw3, ?_, ?_, ?_⟩
          · have := HOWN.out
            rw [List.length_append, List.length_singleton]
            simpa [runeCellsOf] using this
          · intro x hx
            rcases List.mem_append.1 hx with hx | hx
            · exact HOK.out x hx
            · simp at hx; subst hx; exact HRK.out
          · simp; omega
          · rw [bytesOf_append, bytesOf_cons, bytesOf_nil, List.append_nil, List.append_assoc, ← HQ.out, HDR.out, ← HD.out]
            exact HPRE.out
        case measure => simp [intOf]; omega
      · have HNO : Hid (∀ r, ¬ CharAt s p r) := hno
        clear hno
        go_wp2_with fail
        go_ret2
        exact Or.inr ⟨no_char s dn p hlt HOK.out HPRE.out HNO.out, rfl, hbw⟩
    · have hpe : p = s.size := by omega
      have HOWN : Hid (wr.ownsRow w.heap.size 21 1 _ dn.length (runeCellsOf dn)) := hown
      clear hown
      go_wp2_with fail
      go_ret2
      refine Or.inl ⟨dn, _, HOK.out, ?_, rfl, HOWN.out, hbw⟩
      have := HPRE.out
      rw [List.drop_eq_nil_of_le (by rw [size_list]; omega), List.append_nil] at this
      exact this
set_option maxHeartbeats 1000000 in
set_option maxRecDepth 1000000 in
theorem rvalid_any (s : ByteArray) (w : World) (hs : s.size ≤ 4194304) :
    Calls Tryd.prog 62 #[.string s] w fun e w' => e = .returned (.bool (validB s)) ∧ Below w.heap.size w w' := by
  go_enter Tryd.func62, Tryd.ntmps62
  go_wp2_with fail
  refine (rrunes_any s w hs).mono ?_
  rintro e w1 (⟨rs, v, ho, he, rfl, _, b1⟩ | ⟨hf, rfl, b1⟩)
  · have HV : Hid (validB s = true) := runes_valid s rs ho he
    clear ho he
    go_wp2_with fail
    go_ret
    refine ⟨?_, b1⟩
    rw [HV.out]
    rfl
  · have HV : Hid (validB s = false) := hf
    clear hf
    go_wp2_with fail
    go_ret
    refine ⟨?_, b1⟩
    rw [HV.out]
    rfl
end Go.Proofs.YtfnmmpakejdlgaaDoor

/- The reader's number: a varint read, or a fault thrown. -/
namespace Go.Proofs.YtfnmmpakejdlgaaDoor
open Go.RowKit

/-- As Q; by a goto to label l: J l. -/
def Exit.jumps (J : Nat → Act → World → Prop) (Q : Exit → Act → World → Prop) : Exit → Act → World → Prop
  | .goto l, a, w => J l a w
  | e, a, w => Q e a w

/-- A scope in which the run jumps to labels: what holds at each jump, and a measure that every pass lowers. -/
theorem wp_scope_all {P : Program} {a : Act} {w : World} {Q : Exit → Act → World → Prop} {c : Code} (J : Nat → Act → World → Prop) (μ : Nat → Act → World → Nat)
    (pass : ∀ l a w, J l a w → ∃ rest, findLabel c l = some (Code.skip.seq rest) ∧ rest.wp P (Exit.jumps (fun l' a' w' => J l' a' w' ∧ μ l' a' w' < μ l a w) Q) a w)
    (first : (∀ l a w, J l a w → ∃ rest, findLabel c l = some (Code.skip.seq rest) ∧ rest.wp P (Exit.jumps J Q) a w) → c.wp P (Exit.jumps J Q) a w) : (Code.scope c).wp P Q a w := by
  have hfirst := first fun l a w h => by
    obtain ⟨rest, h1, h2⟩ := pass l a w h
    refine ⟨rest, h1, Code.wp_mono (fun e a w hq => ?_) h2⟩
    cases e with
    | goto l' => exact hq.1
    | normal => exact hq
    | exit id => exact hq
    | ret => exact hq
    | panic ch => exact hq
    | outgrown => exact hq
  intro b k cs
  have key : ∀ n l a w, μ l a w = n → J l a w → ∃ rest, findLabel c l = some rest ∧ ∃ e a' w', Q e a' w' ∧ Arrives P (lone (b.at a (.code rest :: .inScope c :: k)) cs w) b k cs e a' w' := by
    intro n
    induction n using Nat.strongRecOn with
    | _ n ih =>
      intro l a w hn hJ
      obtain ⟨rest, hf, hw0⟩ := pass l a w hJ
      have hw := wp_seq (wp_skip (Q := Exit.then (rest.wp P (Exit.jumps (fun l' a' w' => J l' a' w' ∧ μ l' a' w' < μ l a w) Q)) (Exit.jumps (fun l' a' w' => J l' a' w' ∧ μ l' a' w' < μ l a w) Q)) hw0)
      refine ⟨_, hf, ?_⟩
      obtain ⟨e, a₁, w₁, hq, harr⟩ := hw b (.inScope c :: k) cs
      cases e with
      | normal => exact ⟨.normal, a₁, w₁, hq, Steps.trans harr (.one step_inScope)⟩
      | exit id => exact ⟨.exit id, a₁, w₁, hq, fun k' hk => harr k' (by simp [exitTo, hk])⟩
      | goto l' =>
        obtain ⟨hJ', hlt⟩ := hq
        obtain ⟨rest', hf', e₂, a₂, w₂, hq₂, harr₂⟩ := ih _ (by omega) l' a₁ w₁ rfl hJ'
        have hg : gotoIn l' (.inScope c :: k) = some (.code rest' :: .inScope c :: k) := by simp [gotoIn, hf']
        exact ⟨e₂, a₂, w₂, hq₂, .of_steps (harr _ hg) harr₂⟩
      | ret => exact ⟨_, a₁, w₁, hq, harr⟩
      | panic ch => exact ⟨_, a₁, w₁, hq, harr⟩
      | outgrown => exact ⟨_, a₁, w₁, hq, harr⟩
  obtain ⟨e, a₁, w₁, hq, harr⟩ := hfirst b (.inScope c :: k) cs
  cases e with
  | normal => exact ⟨.normal, a₁, w₁, hq, .head step_scope (Steps.trans harr (.one step_inScope))⟩
  | exit id => exact ⟨.exit id, a₁, w₁, hq, fun k' hk => .head step_scope (harr k' (by simp [exitTo, hk]))⟩
  | goto l' =>
    obtain ⟨rest', hf', e₂, a₂, w₂, hq₂, harr₂⟩ := key _ l' a₁ w₁ rfl hq
    have hg : gotoIn l' (.inScope c :: k) = some (.code rest' :: .inScope c :: k) := by simp [gotoIn, hf']
    exact ⟨e₂, a₂, w₂, hq₂, .of_steps (.head step_scope (harr _ hg)) harr₂⟩
  | ret => exact ⟨_, a₁, w₁, hq, .of_steps (.one step_scope) harr⟩
  | panic ch => exact ⟨_, a₁, w₁, hq, .of_steps (.one step_scope) harr⟩
  | outgrown => exact ⟨_, a₁, w₁, hq, .of_steps (.one step_scope) harr⟩

theorem jumps_ret {J : Nat → Act → World → Prop} {Q : Exit → Act → World → Prop} {a : Act} {w : World} (h : Q .ret a w) : Exit.jumps J Q .ret a w := h
theorem jumps_panic {J : Nat → Act → World → Prop} {Q : Exit → Act → World → Prop} {a : Act} {w : World} {ch : List PanicEntry} (h : Q (.panic ch) a w) : Exit.jumps J Q (.panic ch) a w := h
theorem jumps_goto {J : Nat → Act → World → Prop} {Q : Exit → Act → World → Prop} {a : Act} {w : World} {l : Nat} (h : J l a w) : Exit.jumps J Q (.goto l) a w := h

/-- The digits so far, with one more. -/
def nOr (acc : Nat) (c : UInt8) (k : Nat) : Nat := acc ||| (c.toNat % 128) <<< (7 * k) % 18446744073709551616
/-- A number from its digits on: it, how many bytes it has, the fault. -/
def numR : List UInt8 → Nat → Nat → Nat × Nat × Int
  | [], _, _ => (0, 0, 17)
  | c :: l, k, acc => if (k = 9 ∧ 1 < c.toNat) ∨ (0 < k ∧ c.toNat = 0) then (0, 0, 4) else if 128 ≤ c.toNat then numR l (k + 1) (nOr acc c k) else (nOr acc c k, k + 1, 0)

theorem nOr_lt {acc : Nat} {c : UInt8} {k : Nat} (h : acc < 18446744073709551616) : nOr acc c k < 18446744073709551616 := by
  unfold nOr
  exact Nat.or_lt_two_pow (n := 64) h (Nat.mod_lt _ (by omega))

/-- What number tells. -/
def NumSay (R : Nat) (a : Option Addr) (c : Nat) (l : List UInt8) (p : Nat) (w : World) (e : Ending) (w' : World) : Prop :=
  OnlyAt R w w' ∧ (((numR (l.drop p) 0 0).2.2 = 0 ∧ e = .returned (.int .u64 ((numR (l.drop p) 0 0).1 : Int)) ∧ Rd w' R a l.length c (p + (numR (l.drop p) 0 0).2.1) ∧ p + (numR (l.drop p) 0 0).2.1 ≤ l.length) ∨ ((numR (l.drop p) 0 0).2.2 ≠ 0 ∧ e = .panicked (thr (numR (l.drop p) 0 0).2.2)))

set_option maxHeartbeats 4000000 in
set_option maxRecDepth 1000000 in
theorem number_any (R : Nat) (a : Option Addr) (c p : Nat) (l : List UInt8) (w : World) (hR : Rd w R a l.length c p) (hB : Byts w a l) (hA : Apart R a l) (hp : p ≤ l.length) (hl : l.length ≤ 140737488355328) :
    Calls Tryd.prog 40 #[.pointer (some ⟨R, 0, none⟩)] w fun e w' => NumSay R a c l p w e w' := by
  have hml : maxLen = 9223372036854775807 := rfl
  have HR := mkHid hR
  have HB := mkHid hB
  have HA := mkHid hA
  obtain ⟨r, hr⟩ : ∃ r, r = numR (l.drop p) 0 0 := ⟨_, rfl⟩
  have HP : Hid (∀ e w', OnlyAt R w w' → ((r.2.2 = 0 ∧ e = .returned (.int .u64 (r.1 : Int)) ∧ Rd w' R a l.length c (p + r.2.1) ∧ p + r.2.1 ≤ l.length) ∨ (r.2.2 ≠ 0 ∧ e = .panicked (thr r.2.2))) → NumSay R a c l p w e w') := by
    intro e w' h1 h2
    unfold NumSay
    rw [← hr]
    exact ⟨h1, h2⟩
  have HRR := mkHid hr
  clear hr hR hB hA
  obtain ⟨Q, hQ⟩ : ∃ Q : Ending → World → Prop, Q = fun e w' => NumSay R a c l p w e w' := ⟨_, rfl⟩
  have HP2 : Hid (∀ e w', OnlyAt R w w' → ((r.2.2 = 0 ∧ e = .returned (.int .u64 (r.1 : Int)) ∧ Rd w' R a l.length c (p + r.2.1) ∧ p + r.2.1 ≤ l.length) ∨ (r.2.2 ≠ 0 ∧ e = .panicked (thr r.2.2))) → Q e w') := by
    rw [hQ]
    exact HP.out
  rw [← hQ]
  clear hQ HP
  go_enter Tryd.func40, Tryd.ntmps40
  go_wp2_with fail
  refine wp_scope_all (fun lb a' w' => (lb = 0 ∧ ∃ (k acc : Nat) (u4 u6 u7 u8 u9 u10 u11 u12 u13 u14 u15 u16 u17 u18 u19 u20 u21 u22 u23 u24 u25 u26 u27 u28 u29 u30 u31 u32 u33 u34 : Value), a' = { tmps := #[.pointer (some ⟨R, 0, none⟩), undef, .int .u64 0, .int .u64 acc, u4, .int .i64 (7 * k : Nat), u6, u7, u8, u9, u10, u11, u12, u13, u14, u15, u16, u17, u18, u19, u20, u21, u22, u23, u24, u25, u26, u27, u28, u29, u30, u31, u32, u33, u34], defers := [] } ∧ OnlyAt R w w' ∧ Rd w' R a l.length c (p + k) ∧ p + k ≤ l.length ∧ k ≤ 9 ∧ acc < 18446744073709551616 ∧ r = numR (l.drop (p + k)) k acc) ∨ (lb = 1 ∧ ∃ (u0 u1 u2 u3 u4 u5 u6 u7 u8 u9 u10 u11 u12 u13 u14 u15 u16 u17 u18 u19 u20 u21 u22 u23 u24 u25 u26 u27 u28 u29 u30 u31 u32 u33 u34 : Value), a' = { tmps := #[u0, u1, u2, u3, u4, u5, u6, u7, u8, u9, u10, u11, u12, u13, u14, u15, u16, u17, u18, u19, u20, u21, u22, u23, u24, u25, u26, u27, u28, u29, u30, u31, u32, u33, u34], defers := [] } ∧ OnlyAt R w w' ∧ r.2.2 = 4)) (fun lb a' _ => if lb = 0 then 80 - (intOf (a'.tmps.getD 5 undef)).toNat else 0) ?_ ?_
  · rintro lb a' w' (⟨rfl, k, acc, u4, u6, u7, u8, u9, u10, u11, u12, u13, u14, u15, u16, u17, u18, u19, u20, u21, u22, u23, u24, u25, u26, u27, u28, u29, u30, u31, u32, u33, u34, rfl, h1, h2, h3, h4, h5, h6⟩ | ⟨rfl, u0, u1, u2, u3, u4, u5, u6, u7, u8, u9, u10, u11, u12, u13, u14, u15, u16, u17, u18, u19, u20, u21, u22, u23, u24, u25, u26, u27, u28, u29, u30, u31, u32, u33, u34, rfl, h1, h2⟩)
    · refine ⟨_, rfl, ?_⟩
      have HO := mkHid h1
      have HD := mkHid h2
      have HN := mkHid h6
      clear h1 h2 h6
      by_cases hlt : p + k < l.length
      · obtain ⟨x, hx⟩ : ∃ x : Nat, x = (l[p + k]'hlt).toNat := ⟨_, rfl⟩
        have hx2 : x < 256 := by rw [hx]; exact (l[p + k]'hlt).toNat_lt
        have HC : Hid (∀ (u : World), Rd u R a l.length c (p + k) → Byts u a l → Calls Tryd.prog 59 #[.pointer (some ⟨R, 0, none⟩)] u fun e w' => e = .returned (.int .u8 (x : Int)) ∧ Rd w' R a l.length c (p + k + 1) ∧ OnlyAt R u w') := by
          intro u h1 h2
          rw [hx]
          exact one_ok R a c (p + k) l u h1 h2 hlt (by omega)
        have HX := mkHid hx
        clear hx
        obtain ⟨y, hy⟩ : ∃ y : Nat, y = x % 128 := ⟨_, rfl⟩
        have hy2 : y < 128 := by omega
        obtain ⟨P7, hP7⟩ : ∃ P7, P7 = 7 * k := ⟨_, rfl⟩
        have hP63 : P7 ≤ 63 := by omega
        have hand : bits .and .u8 (x : Int) 127 = (y : Int) := by
          have h : bits .and .u8 (x : Int) 127 = (x : Int) % 128 := bits_mask .u8 8 (by decide) wraps_u8 7 (by decide) (x : Int) (by omega) (by omega)
          rw [h]
          omega
        obtain ⟨z, hz⟩ : ∃ z : Nat, z = (y <<< P7) % 18446744073709551616 := ⟨_, rfl⟩
        have hz2 : z < 18446744073709551616 := by rw [hz]; exact Nat.mod_lt _ (by omega)
        have hsh : IntKind.u64.wrap ((y : Int) * 2 ^ P7) = (z : Int) := by
          rw [hz, Nat.shiftLeft_eq, IntKind.wrap_u64, show (y : Int) * 2 ^ P7 = ((y * 2 ^ P7 : Nat) : Int) by simp]
          omega
        obtain ⟨acc2, ha2⟩ : ∃ a2 : Nat, a2 = nOr acc (l[p + k]'hlt) k := ⟨_, rfl⟩
        have ha3 : acc2 < 18446744073709551616 := by rw [ha2]; exact nOr_lt h5
        have hor : bits .or .u64 (acc : Int) (z : Int) = (acc2 : Int) := by
          rw [u64_or_nat acc z h5 hz2, ha2, hz, nOr, hy, hP7, HX.out]
        have HNR : Hid (r = if (k = 9 ∧ 1 < x) ∨ (0 < k ∧ x = 0) then (0, 0, 4) else if 128 ≤ x then numR (l.drop (p + k + 1)) (k + 1) acc2 else (acc2, k + 1, 0)) := by
          show r = _
          rw [HN.out, List.drop_eq_getElem_cons hlt, numR, HX.out, ha2]
        rw [← hP7]
        have HY := mkHid hy
        have HP7 := mkHid hP7
        have HZ := mkHid hz
        have HA2 := mkHid ha2
        have HK7 : Hid (P7 + 7 = 7 * (k + 1)) := by show _ = _; omega
        by_cases hk9 : k = 9
        · have e63 : ((P7 : Int) == 63) = true := by simp; omega
          have hP0 : 0 < P7 := by omega
          by_cases hx1 : 1 < x
          · have HBAD : Hid ((k = 9 ∧ 1 < x) ∨ (0 < k ∧ x = 0)) := Or.inl ⟨hk9, hx1⟩
            clear hy hP7 hz ha2 hx2 hk9
            go_wp2_with fail
            refine (HC.out _ HD.out (HB.out.only HO.out HA.out)).mono ?_
            rintro e w1 ⟨rfl, d1, o1⟩
            have D1 := mkHid d1
            have O1 := mkHid (HO.out.trans o1)
            clear d1 o1
            go_wp2_with fail
            go_step3
            refine ⟨Or.inr ⟨rfl, _, _, _, _, _, _, _, _, _, _, _, _, _, _, _, _, _, _, _, _, _, _, _, _, _, _, _, _, _, _, _, _, _, _, _, rfl, O1.out, ?_⟩, ?_⟩
            · rw [HNR.out, if_pos HBAD.out]
            · have := HP7.out
              simp [intOf]
              omega
          · by_cases hx0 : x = 0
            · have HBAD : Hid ((k = 9 ∧ 1 < x) ∨ (0 < k ∧ x = 0)) := Or.inr ⟨by omega, hx0⟩
              have ex0 : ((x : Int) == 0) = true := by simp; omega
              clear hy hP7 hz ha2 hx2 hk9 hx0
              go_wp2_with fail
              refine (HC.out _ HD.out (HB.out.only HO.out HA.out)).mono ?_
              rintro e w1 ⟨rfl, d1, o1⟩
              have D1 := mkHid d1
              have O1 := mkHid (HO.out.trans o1)
              clear d1 o1
              go_wp2_with fail
              go_step3
              refine ⟨Or.inr ⟨rfl, _, _, _, _, _, _, _, _, _, _, _, _, _, _, _, _, _, _, _, _, _, _, _, _, _, _, _, _, _, _, _, _, _, _, _, rfl, O1.out, ?_⟩, ?_⟩
              · rw [HNR.out, if_pos HBAD.out]
              · have := HP7.out
                simp [intOf]
                omega
            · have HBAD : Hid (¬ ((k = 9 ∧ 1 < x) ∨ (0 < k ∧ x = 0))) := by
                show ¬ _
                omega
              have ex0 : ((x : Int) == 0) = false := by simp; omega
              have h128 : ¬ 128 ≤ x := by omega
              clear hy hP7 hz ha2 hx2 hk9 hx0
              go_wp2_with fail
              refine (HC.out _ HD.out (HB.out.only HO.out HA.out)).mono ?_
              rintro e w1 ⟨rfl, d1, o1⟩
              have D1 := mkHid d1
              have O1 := mkHid (HO.out.trans o1)
              clear d1 o1
              go_wp2_with fail
              refine HP2.out _ _ O1.out (Or.inl ?_)
              rw [HNR.out, if_neg HBAD.out, if_neg h128]
              exact ⟨rfl, rfl, D1.out, by show p + (k + 1) ≤ _; omega⟩
        · have e63 : ((P7 : Int) == 63) = false := by simp; omega
          by_cases hk0 : k = 0
          · have HBAD : Hid (¬ ((k = 9 ∧ 1 < x) ∨ (0 < k ∧ x = 0))) := by
              show ¬ _
              omega
            have hP0 : ¬ 0 < P7 := by omega
            have hk8 : k < 9 := by omega
            clear hy hP7 hz ha2 hx2 hk9 hk0
            go_wp2_with fail
            refine (HC.out _ HD.out (HB.out.only HO.out HA.out)).mono ?_
            rintro e w1 ⟨rfl, d1, o1⟩
            have D1 := mkHid d1
            have O1 := mkHid (HO.out.trans o1)
            clear d1 o1
            by_cases h128 : 128 ≤ x
            · go_wp2_with fail
              go_step3
              rw [show (P7 : Int) + 7 = ((7 * (k + 1) : Nat) : Int) by have := HK7.out; omega]
              refine ⟨Or.inl ⟨rfl, k + 1, acc2, _, _, _, _, _, _, _, _, _, _, _, _, _, _, _, _, _, _, _, _, _, _, _, _, _, _, _, _, _, _, rfl, O1.out, ?_, ?_, ?_, ha3, ?_⟩, ?_⟩
              · exact D1.out
              · omega
              · have := HP7.out
                omega
              · rw [HNR.out, if_neg HBAD.out, if_pos h128]
                rfl
              · have := HP7.out
                simp [intOf]
                omega
            · go_wp2_with fail
              refine HP2.out _ _ O1.out (Or.inl ?_)
              rw [HNR.out, if_neg HBAD.out, if_neg h128]
              exact ⟨rfl, rfl, D1.out, by show p + (k + 1) ≤ _; omega⟩
          · have hP0 : 0 < P7 := by omega
            have hk8 : k < 9 := by omega
            by_cases hx0 : x = 0
            · have HBAD : Hid ((k = 9 ∧ 1 < x) ∨ (0 < k ∧ x = 0)) := Or.inr ⟨by omega, hx0⟩
              have ex0 : ((x : Int) == 0) = true := by simp; omega
              clear hy hP7 hz ha2 hx2 hk9 hk0 hx0
              go_wp2_with fail
              refine (HC.out _ HD.out (HB.out.only HO.out HA.out)).mono ?_
              rintro e w1 ⟨rfl, d1, o1⟩
              have D1 := mkHid d1
              have O1 := mkHid (HO.out.trans o1)
              clear d1 o1
              go_wp2_with fail
              go_step3
              refine ⟨Or.inr ⟨rfl, _, _, _, _, _, _, _, _, _, _, _, _, _, _, _, _, _, _, _, _, _, _, _, _, _, _, _, _, _, _, _, _, _, _, _, rfl, O1.out, ?_⟩, ?_⟩
              · rw [HNR.out, if_pos HBAD.out]
              · have := HP7.out
                simp [intOf]
                omega
            · have HBAD : Hid (¬ ((k = 9 ∧ 1 < x) ∨ (0 < k ∧ x = 0))) := by
                show ¬ _
                omega
              have ex0 : ((x : Int) == 0) = false := by simp; omega
              clear hy hP7 hz ha2 hx2 hk9 hk0 hx0
              go_wp2_with fail
              refine (HC.out _ HD.out (HB.out.only HO.out HA.out)).mono ?_
              rintro e w1 ⟨rfl, d1, o1⟩
              have D1 := mkHid d1
              have O1 := mkHid (HO.out.trans o1)
              clear d1 o1
              by_cases h128 : 128 ≤ x
              · go_wp2_with fail
                go_step3
                rw [show (P7 : Int) + 7 = ((7 * (k + 1) : Nat) : Int) by have := HK7.out; omega]
                refine ⟨Or.inl ⟨rfl, k + 1, acc2, _, _, _, _, _, _, _, _, _, _, _, _, _, _, _, _, _, _, _, _, _, _, _, _, _, _, _, _, _, _, rfl, O1.out, ?_, ?_, ?_, ha3, ?_⟩, ?_⟩
                · exact D1.out
                · omega
                · have := HP7.out
                  omega
                · rw [HNR.out, if_neg HBAD.out, if_pos h128]
                  rfl
                · have := HP7.out
                  simp [intOf]
                  omega
              · go_wp2_with fail
                refine HP2.out _ _ O1.out (Or.inl ?_)
                rw [HNR.out, if_neg HBAD.out, if_neg h128]
                exact ⟨rfl, rfl, D1.out, by show p + (k + 1) ≤ _; omega⟩
      · have hpk : p + k = l.length := by omega
        have HE : Hid (∀ (u : World), Rd u R a l.length c (p + k) → Calls Tryd.prog 59 #[.pointer (some ⟨R, 0, none⟩)] u fun e w' => e = .panicked (thr 17) ∧ OnlyAt R u w') := fun u h => one_end R a c (p + k) l u h hpk (by omega)
        have HN2 : Hid (r = (0, 0, 17)) := by
          show r = _
          rw [HN.out, List.drop_eq_nil_of_le (by omega), numR]
        clear hpk hlt
        go_wp2_with fail
        refine (HE.out _ HD.out).mono ?_
        rintro e w1 ⟨rfl, o1⟩
        have O1 := mkHid (HO.out.trans o1)
        clear o1
        go_wp2_with fail
        refine jumps_panic ⟨rfl, HP2.out _ _ O1.out (Or.inr ?_)⟩
        rw [HN2.out]
        exact ⟨by decide, rfl⟩
    · refine ⟨_, rfl, ?_⟩
      go_wp2_with fail
      exact jumps_panic ⟨rfl, HP2.out _ _ h1 (Or.inr ⟨by omega, by rw [h2]; rfl⟩)⟩
  · intro pass
    go_wp2_with fail
    rename_i hK
    go_step3
    refine hK _ _ ?_
    obtain ⟨rest, hf, hw⟩ := pass 0 _ w (Or.inl ⟨rfl, 0, 0, _, _, _, _, _, _, _, _, _, _, _, _, _, _, _, _, _, _, _, _, _, _, _, _, _, _, _, _, _, _, rfl, OnlyAt.refl R w, HR.out, hp, by omega, by omega, HRR.out⟩)
    cases hf
    exact hw
end Go.Proofs.YtfnmmpakejdlgaaDoor
