/- Keys: a value's bytes, and the steps of what reads them. (No walk.) -/
import Derived.Test.YticbcoklpgfkhaaKyBase
namespace Go.Proofs.Yticbcoklpgfkhaa
open Go.RowKit

/-- A text, or a name, in a key. -/
def lettersK : List UInt8 → List UInt8
  | [] => [0, 0]
  | x :: t => if x = 0 then 0 :: 255 :: lettersK t else x :: lettersK t
/-- Eight bytes, the highest first. -/
def be8 (m : Nat) : List UInt8 := [UInt8.ofNat (m / 72057594037927936 % 256), UInt8.ofNat (m / 281474976710656 % 256), UInt8.ofNat (m / 1099511627776 % 256), UInt8.ofNat (m / 4294967296 % 256), UInt8.ofNat (m / 16777216 % 256), UInt8.ofNat (m / 65536 % 256), UInt8.ofNat (m / 256 % 256), UInt8.ofNat (m % 256)]
def ofBe (l : List UInt8) : Nat := l.foldl (fun a x => a * 256 + x.toNat) 0
def numK (n : Int) : List UInt8 := be8 (n + 9223372036854775808).toNat
/-- A value's key. -/
def GV.key : GV → List UInt8
  | .nil => []
  | .mk k n s ln l fn nm f => byteOf (10 * k) ::
    (if k = 2 then [byteOf n] else if k = 3 then numK n else if k = 4 then lettersK s.data.toList
    else if k = 5 then (List.range ln).flatMap (fun i => 1 :: (l i).key) ++ [0]
    else if k = 6 then (List.range fn).flatMap (fun i => 1 :: (lettersK (nm i).data.toList ++ (f i).key)) ++ [0]
    else [])

/-- What a text, or a name, says, and what is left. -/
def lettersR : List UInt8 → Option (List UInt8 × List UInt8)
  | [] => none
  | [_] => none
  | x :: y :: t => if x = 0 then (if y = 0 then some ([], t) else if y = 255 then (lettersR t).map (fun q => (0 :: q.1, q.2)) else none) else (lettersR (y :: t)).map (fun q => (x :: q.1, q.2))

/-- A List or a Doc that is not yet at its end. -/
structure Fr where
  doc : Bool
  nm : List UInt8
  parts : List (ByteArray × GV)
/-- Where the reader stands. -/
inductive KS where
  | kind (st : List Fr) (l : List UInt8)
  | next (st : List Fr) (l : List UInt8)
  | whole (g : GV) (st : List Fr) (l : List UInt8)
  | done (r : Option (GV × List UInt8))
def intK (t : List UInt8) : GV := gI ((ofBe (t.take 8) : Int) - 9223372036854775808)
def kindK (st : List Fr) (x : UInt8) (t : List UInt8) : KS :=
  if x = 10 then .whole gN st t
  else if x = 20 then (match t with | [] => .whole (gB (-1)) st [] | y :: t' => .whole (gB (y.toNat : Int)) st t')
  else if x = 30 then (if 8 ≤ t.length then .whole (intK t) st (t.drop 8) else .done none)
  else if x = 40 then (match lettersR t with | none => .done none | some q => .whole (gT ⟨q.1.toArray⟩) st q.2)
  else if x = 50 then .next (⟨false, [], []⟩ :: st) t
  else if x = 60 then .next (⟨true, [], []⟩ :: st) t
  else .done none
def nextK (f : Fr) (st : List Fr) (x : UInt8) (t : List UInt8) : KS :=
  if x = 0 then .whole (partsG f.doc f.parts) st t
  else if x = 1 then (if f.doc = true then (match lettersR t with | none => .done none | some q => .kind (⟨true, q.1, f.parts⟩ :: st) q.2) else .kind (f :: st) t)
  else .done none
def stepK : KS → KS
  | .kind _ [] => .done none
  | .kind st (x :: t) => kindK st x t
  | .next [] _ => .done none
  | .next (_ :: _) [] => .done none
  | .next (f :: st) (x :: t) => nextK f st x t
  | .whole g [] l => .done (some (g, l))
  | .whole g (f :: st) l => .next (⟨f.doc, f.nm, f.parts ++ [(⟨f.nm.toArray⟩, g)]⟩ :: st) l
  | .done r => .done r
def runK : Nat → KS → KS
  | 0, s => s
  | n + 1, s => runK n (stepK s)
/-- The steps lead from the one to the other. -/
def Leads (s s' : KS) : Prop := ∃ n, runK n s = s'
theorem Leads.refl (s : KS) : Leads s s := ⟨0, rfl⟩
theorem runK_add : ∀ (a b : Nat) (s : KS), runK (a + b) s = runK b (runK a s)
  | 0, b, s => by simp [runK]
  | a + 1, b, s => by rw [Nat.succ_add, runK, runK_add a b, runK]
theorem Leads.trans {a b c : KS} (h : Leads a b) (g : Leads b c) : Leads a c := by
  obtain ⟨n, rfl⟩ := h
  obtain ⟨m, rfl⟩ := g
  exact ⟨n + m, runK_add n m a⟩
theorem Leads.step {a b : KS} (h : Leads a b) : Leads a (stepK b) := h.trans ⟨1, rfl⟩
theorem runK_done (r : Option (GV × List UInt8)) : ∀ n, runK n (.done r) = .done r
  | 0 => rfl
  | n + 1 => by rw [runK]; exact runK_done r n
theorem Leads.one {s : KS} {r r' : Option (GV × List UInt8)} (h : Leads s (.done r)) (g : Leads s (.done r')) : r = r' := by
  obtain ⟨n, hn⟩ := h
  obtain ⟨m, hm⟩ := g
  have e1 : runK (n + m) s = .done r := by rw [runK_add, hn, runK_done]
  have e2 : runK (n + m) s = .done r' := by rw [Nat.add_comm, runK_add, hm, runK_done]
  rw [e1] at e2
  injection e2

theorem letters_back : ∀ (s rest : List UInt8), lettersR (lettersK s ++ rest) = some (s, rest)
  | [], rest => by simp [lettersK, lettersR]
  | x :: t, rest => by
    have ih := letters_back t rest
    unfold lettersK
    by_cases hx : x = 0
    · rw [if_pos hx, hx]
      simp [lettersR, ih]
    · rw [if_neg hx]
      cases ht : lettersK t ++ rest with
      | nil =>
        rw [ht] at ih
        simp [lettersR] at ih
      | cons y u =>
        rw [ht] at ih
        rw [List.cons_append, ht, lettersR, if_neg hx, ih]
        rfl
theorem letters_inv : ∀ (l : List UInt8) (s rest : List UInt8), lettersR l = some (s, rest) → l = lettersK s ++ rest
  | [], s, rest, h => by simp [lettersR] at h
  | [_], s, rest, h => by simp [lettersR] at h
  | x :: y :: t, s, rest, h => by
    rw [lettersR] at h
    by_cases hx : x = 0
    · rw [if_pos hx] at h
      by_cases hy : y = 0
      · rw [if_pos hy] at h
        injection h with h
        injection h with h1 h2
        subst h1 h2 hx hy
        rfl
      · rw [if_neg hy] at h
        by_cases hz : y = 255
        · rw [if_pos hz] at h
          cases hq : lettersR t with
          | none => simp [hq] at h
          | some q =>
            rw [hq] at h
            have ih := letters_inv t q.1 q.2 hq
            simp only [Option.map_some, Option.some.injEq, Prod.mk.injEq] at h
            obtain ⟨h1, h2⟩ := h
            rw [← h1, ← h2, hx, hz, ih]
            simp [lettersK]
        · rw [if_neg hz] at h
          exact absurd h (by simp)
    · rw [if_neg hx] at h
      cases hq : lettersR (y :: t) with
      | none => simp [hq] at h
      | some q =>
        rw [hq] at h
        have ih := letters_inv (y :: t) q.1 q.2 hq
        simp only [Option.map_some, Option.some.injEq, Prod.mk.injEq] at h
        obtain ⟨h1, h2⟩ := h
        rw [← h1, ← h2, lettersK, if_neg hx, List.cons_append, ← ih]
theorem u8_of_toNat (x : UInt8) : UInt8.ofNat x.toNat = x := by simp
theorem be8_ofBe {l : List UInt8} (h : l.length = 8) : be8 (ofBe l) = l := by
  match l, h with
  | [a, b, c, d, e, f, g, i], _ =>
    have ha := a.toNat_lt
    have hb := b.toNat_lt
    have hc := c.toNat_lt
    have hd := d.toNat_lt
    have he := e.toNat_lt
    have hf := f.toNat_lt
    have hg := g.toNat_lt
    have hi := i.toNat_lt
    have e0 : ofBe [a, b, c, d, e, f, g, i] = a.toNat * 72057594037927936 + b.toNat * 281474976710656 + c.toNat * 1099511627776 + d.toNat * 4294967296 + e.toNat * 16777216 + f.toNat * 65536 + g.toNat * 256 + i.toNat := by
      simp [ofBe]
      omega
    rw [e0]
    unfold be8
    congr 1
    · rw [show (a.toNat * 72057594037927936 + b.toNat * 281474976710656 + c.toNat * 1099511627776 + d.toNat * 4294967296 + e.toNat * 16777216 + f.toNat * 65536 + g.toNat * 256 + i.toNat) / 72057594037927936 % 256 = a.toNat by omega, u8_of_toNat]
    congr 1
    · rw [show (a.toNat * 72057594037927936 + b.toNat * 281474976710656 + c.toNat * 1099511627776 + d.toNat * 4294967296 + e.toNat * 16777216 + f.toNat * 65536 + g.toNat * 256 + i.toNat) / 281474976710656 % 256 = b.toNat by omega, u8_of_toNat]
    congr 1
    · rw [show (a.toNat * 72057594037927936 + b.toNat * 281474976710656 + c.toNat * 1099511627776 + d.toNat * 4294967296 + e.toNat * 16777216 + f.toNat * 65536 + g.toNat * 256 + i.toNat) / 1099511627776 % 256 = c.toNat by omega, u8_of_toNat]
    congr 1
    · rw [show (a.toNat * 72057594037927936 + b.toNat * 281474976710656 + c.toNat * 1099511627776 + d.toNat * 4294967296 + e.toNat * 16777216 + f.toNat * 65536 + g.toNat * 256 + i.toNat) / 4294967296 % 256 = d.toNat by omega, u8_of_toNat]
    congr 1
    · rw [show (a.toNat * 72057594037927936 + b.toNat * 281474976710656 + c.toNat * 1099511627776 + d.toNat * 4294967296 + e.toNat * 16777216 + f.toNat * 65536 + g.toNat * 256 + i.toNat) / 16777216 % 256 = e.toNat by omega, u8_of_toNat]
    congr 1
    · rw [show (a.toNat * 72057594037927936 + b.toNat * 281474976710656 + c.toNat * 1099511627776 + d.toNat * 4294967296 + e.toNat * 16777216 + f.toNat * 65536 + g.toNat * 256 + i.toNat) / 65536 % 256 = f.toNat by omega, u8_of_toNat]
    congr 1
    · rw [show (a.toNat * 72057594037927936 + b.toNat * 281474976710656 + c.toNat * 1099511627776 + d.toNat * 4294967296 + e.toNat * 16777216 + f.toNat * 65536 + g.toNat * 256 + i.toNat) / 256 % 256 = g.toNat by omega, u8_of_toNat]
    congr 1
    · rw [show (a.toNat * 72057594037927936 + b.toNat * 281474976710656 + c.toNat * 1099511627776 + d.toNat * 4294967296 + e.toNat * 16777216 + f.toNat * 65536 + g.toNat * 256 + i.toNat) % 256 = i.toNat by omega, u8_of_toNat]
theorem ofBe_be8 {m : Nat} (h : m < 18446744073709551616) : ofBe (be8 m) = m := by
  have e : ∀ n : Nat, (UInt8.ofNat (n % 256)).toNat = n % 256 := fun n => by simp
  unfold be8 ofBe
  simp only [List.foldl_cons, List.foldl_nil, e]
  omega
theorem ofBe_lt {l : List UInt8} (h : l.length = 8) : ofBe l < 18446744073709551616 := by
  match l, h with
  | [a, b, c, d, e, f, g, i], _ =>
    have ha := a.toNat_lt
    have hb := b.toNat_lt
    have hc := c.toNat_lt
    have hd := d.toNat_lt
    have he := e.toNat_lt
    have hf := f.toNat_lt
    have hg := g.toNat_lt
    have hi := i.toNat_lt
    simp [ofBe]
    omega
theorem be8_len (m : Nat) : (be8 m).length = 8 := rfl
theorem numK_len (n : Int) : (numK n).length = 8 := rfl
theorem numK_back {n : Int} (h : Int64 n) : (ofBe (numK n) : Int) - 9223372036854775808 = n := by
  have h1 := h.1
  have h2 := h.2
  unfold numK
  rw [ofBe_be8 (by omega)]
  omega
theorem numK_inv {l : List UInt8} (h : l.length = 8) : numK ((ofBe l : Int) - 9223372036854775808) = l := by
  unfold numK
  rw [show ((ofBe l : Int) - 9223372036854775808 + 9223372036854775808).toNat = ofBe l by omega]
  exact be8_ofBe h
end Go.Proofs.Yticbcoklpgfkhaa
