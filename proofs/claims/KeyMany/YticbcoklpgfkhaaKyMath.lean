/- Keys come back: what the reader's steps lead to. (No walk.) -/
import Derived.Test.YticbcoklpgfkhaaKySpec
namespace Go.Proofs.Yticbcoklpgfkhaa
open Go.RowKit

theorem byteK {k : Int} (h : 0 ≤ k ∧ k ≤ 25) : (byteOf (10 * k)).toNat = (10 * k).toNat := by
  unfold byteOf
  have : ((10 * k) % 256).toNat < 256 := by omega
  simp
  omega
theorem byte_back8 (x : UInt8) : byteOf (x.toNat : Int) = x := by
  have h := x.toNat_lt
  unfold byteOf
  rw [show ((x.toNat : Int) % 256).toNat = x.toNat by omega]
  simp
theorem k10s : byteOf 10 = 10 ∧ byteOf 20 = 20 ∧ byteOf 30 = 30 ∧ byteOf 40 = 40 ∧ byteOf 50 = 50 ∧ byteOf 60 = 60 := by decide
theorem k10 : byteOf (10 * 1) = 10 ∧ byteOf (10 * 2) = 20 ∧ byteOf (10 * 3) = 30 ∧ byteOf (10 * 4) = 40 ∧ byteOf (10 * 5) = 50 ∧ byteOf (10 * 6) = 60 := by decide

/-- A part more, at the end. -/
theorem pg_snoc {ps : List (ByteArray × GV)} {x : ByteArray × GV} {i : Nat} : pg (ps ++ [x]) i = if i < ps.length then pg ps i else if i = ps.length then x.2 else .nil := by
  unfold pg
  by_cases h : i < ps.length
  · rw [if_pos h, List.getElem?_append_left h]
  · rw [if_neg h, List.getElem?_append_right (by omega)]
    by_cases h2 : i = ps.length
    · rw [if_pos h2, h2]
      simp
    · rw [if_neg h2, List.getElem?_eq_none (by simp; omega)]
      rfl
theorem pnm_snoc {ps : List (ByteArray × GV)} {x : ByteArray × GV} {i : Nat} : pnm (ps ++ [x]) i = if i < ps.length then pnm ps i else if i = ps.length then x.1 else ⟨#[]⟩ := by
  unfold pnm
  by_cases h : i < ps.length
  · rw [if_pos h, List.getElem?_append_left h]
  · rw [if_neg h, List.getElem?_append_right (by omega)]
    by_cases h2 : i = ps.length
    · rw [if_pos h2, h2]
      simp
    · rw [if_neg h2, List.getElem?_eq_none (by simp; omega)]
      rfl

/-- A value is read, whatever is open. -/
def ReadsK (g : GV) : Prop := ∀ (st : List Fr) (rest : List UInt8), ∃ g', Leads (.kind st (g.key ++ rest)) (.whole g' st rest) ∧ g'.same g = true

theorem reads_parts_l (st : List Fr) (rest : List UInt8) (ln : Nat) (l : Nat → GV) (ih : ∀ i, i < ln → ReadsK (l i)) : ∀ (m j : Nat) (ps : List (ByteArray × GV)), j + m = ln → ps.length = j → (∀ i, i < j → (pg ps i).same (l i) = true) →
    ∃ ps', Leads (.next (⟨false, [], ps⟩ :: st) ((List.range' j m).flatMap (fun i => 1 :: (l i).key) ++ 0 :: rest)) (.whole (partsG false ps') st rest) ∧ ps'.length = ln ∧ ∀ i, i < ln → (pg ps' i).same (l i) = true
  | 0, j, ps, hj, hl, hp => by
    have hj' : j = ln := by omega
    subst hj'
    exact ⟨ps, ⟨1, by simp [runK, stepK, nextK]⟩, hl, hp⟩
  | m + 1, j, ps, hj, hl, hp => by
    obtain ⟨g', hr, hs⟩ := ih j (by omega) (⟨false, [], ps⟩ :: st) ((List.range' (j + 1) m).flatMap (fun i => 1 :: (l i).key) ++ 0 :: rest)
    obtain ⟨ps', h1, h2, h3⟩ := reads_parts_l st rest ln l ih m (j + 1) (ps ++ [(⟨#[]⟩, g')]) (by omega) (by simp [hl]) (fun i hi => by
      rw [pg_snoc]
      by_cases h : i < ps.length
      · rw [if_pos h]
        exact hp i (by omega)
      · have e : i = j := by omega
        rw [if_neg h, if_pos (by omega), e]
        exact hs)
    refine ⟨ps', ?_, h2, h3⟩
    rw [List.range'_succ, List.flatMap_cons, List.cons_append, List.cons_append, List.append_assoc]
    refine Leads.trans (b := .kind (⟨false, [], ps⟩ :: st) ((l j).key ++ ((List.range' (j + 1) m).flatMap (fun i => 1 :: (l i).key) ++ 0 :: rest))) ⟨1, by simp [runK, stepK, nextK]⟩ (hr.trans (Leads.trans ⟨1, rfl⟩ h1))
theorem reads_parts_f (st : List Fr) (rest : List UInt8) (fn : Nat) (nm : Nat → ByteArray) (f : Nat → GV) (ih : ∀ i, i < fn → ReadsK (f i)) : ∀ (m j : Nat) (n0 : List UInt8) (ps : List (ByteArray × GV)), j + m = fn → ps.length = j → (∀ i, i < j → pnm ps i = nm i ∧ (pg ps i).same (f i) = true) →
    ∃ ps', Leads (.next (⟨true, n0, ps⟩ :: st) ((List.range' j m).flatMap (fun i => 1 :: (lettersK (nm i).data.toList ++ (f i).key)) ++ 0 :: rest)) (.whole (partsG true ps') st rest) ∧ ps'.length = fn ∧ ∀ i, i < fn → pnm ps' i = nm i ∧ (pg ps' i).same (f i) = true
  | 0, j, n0, ps, hj, hl, hp => by
    have hj' : j = fn := by omega
    subst hj'
    exact ⟨ps, ⟨1, by simp [runK, stepK, nextK]⟩, hl, hp⟩
  | m + 1, j, n0, ps, hj, hl, hp => by
    obtain ⟨g', hr, hs⟩ := ih j (by omega) (⟨true, (nm j).data.toList, ps⟩ :: st) ((List.range' (j + 1) m).flatMap (fun i => 1 :: (lettersK (nm i).data.toList ++ (f i).key)) ++ 0 :: rest)
    obtain ⟨ps', h1, h2, h3⟩ := reads_parts_f st rest fn nm f ih m (j + 1) (nm j).data.toList (ps ++ [(⟨(nm j).data.toList.toArray⟩, g')]) (by omega) (by simp [hl]) (fun i hi => by
      rw [pg_snoc, pnm_snoc]
      by_cases h : i < ps.length
      · rw [if_pos h, if_pos h]
        exact hp i (by omega)
      · have e : i = j := by omega
        rw [if_neg h, if_pos (by omega), if_neg h, if_pos (by omega), e]
        exact ⟨by simp, hs⟩)
    refine ⟨ps', ?_, h2, h3⟩
    rw [List.range'_succ, List.flatMap_cons, List.cons_append, List.cons_append, List.append_assoc, List.append_assoc]
    refine Leads.trans (b := .kind (⟨true, (nm j).data.toList, ps⟩ :: st) ((f j).key ++ ((List.range' (j + 1) m).flatMap (fun i => 1 :: (lettersK (nm i).data.toList ++ (f i).key)) ++ 0 :: rest))) ⟨1, ?_⟩ (hr.trans (Leads.trans ⟨1, rfl⟩ h1))
    simp [runK, stepK, nextK, letters_back]

theorem reads_key : ∀ g : GV, g.every GV.formed = true → g.every GV.nOk = true → ReadsK g := by
  intro g
  induction g with
  | nil => intro h; simp [GV.every, GV.formed] at h
  | mk k n s ln l fn nm f ihl ihf =>
    intro hf hn st rest
    have hft := every_top hf
    have hnt := every_top hn
    obtain ⟨k1, k2, k3, k4, k5, k6⟩ := k10s
    obtain ⟨_, _, k3', k4', _, _⟩ := k10
    rcases kind_of hft with rfl | rfl | rfl | rfl | rfl | rfl
    · simp [GV.formed] at hft
      obtain ⟨⟨⟨e1, e2⟩, e3⟩, e4⟩ := hft
      refine ⟨gN, ⟨1, ?_⟩, ?_⟩
      · simp [runK, stepK, GV.key, k1, kindK]
      · have e5 := empty_eq (s := s) (by simpa using e2)
        subst e1 e3 e4 e5
        simp [gN, GV.same]
    · simp [GV.formed] at hft
      obtain ⟨⟨⟨e1, e2⟩, e3⟩, e4⟩ := hft
      have e5 := empty_eq (s := s) (by simpa using e2)
      subst e3 e4 e5
      have hb : ((byteOf n).toNat : Int) = n := by rcases e1 with rfl | rfl <;> decide
      refine ⟨gB ((byteOf n).toNat : Int), ⟨1, ?_⟩, ?_⟩
      · simp [runK, stepK, GV.key, k2, kindK]
      · rw [hb]
        simp [gB, GV.same]
    · simp [GV.formed] at hft
      obtain ⟨⟨e2, e3⟩, e4⟩ := hft
      have e5 := empty_eq (s := s) (by simpa using e2)
      subst e3 e4 e5
      have h64 : Int64 n := by
        simp [GV.nOk] at hnt
        exact hnt
      have hk : (GV.mk 3 n ⟨#[]⟩ 0 l 0 nm f).key = 30 :: numK n := by simp [GV.key, k3]
      have hl8 : 8 ≤ (numK n ++ rest).length := by rw [List.length_append, numK_len]; omega
      have ht : (numK n ++ rest).take 8 = numK n := by rw [← numK_len n]; exact List.take_left
      have hd : (numK n ++ rest).drop 8 = rest := by rw [← numK_len n]; exact List.drop_left
      refine ⟨gI n, ⟨1, ?_⟩, by simp [gI, GV.same]⟩
      rw [hk, List.cons_append, runK, runK, stepK, kindK.eq_def, if_neg (by decide), if_neg (by decide), if_pos rfl, if_pos hl8, hd, intK, ht, numK_back h64]
    · simp [GV.formed] at hft
      obtain ⟨⟨e1, e3⟩, e4⟩ := hft
      subst e1 e3 e4
      have hk : (GV.mk 4 0 s 0 l 0 nm f).key = 40 :: lettersK s.data.toList := by simp [GV.key, k4]
      refine ⟨gT s, ⟨1, ?_⟩, by simp [gT, GV.same]⟩
      rw [hk, List.cons_append, runK, runK, stepK, kindK.eq_def, if_neg (by decide), if_neg (by decide), if_neg (by decide), if_pos rfl, letters_back]
    · simp [GV.formed] at hft
      obtain ⟨⟨e1, e2⟩, e4⟩ := hft
      have e5 := empty_eq (s := s) (by simpa using e2)
      subst e1 e4 e5
      have hk : (GV.mk 5 0 ⟨#[]⟩ ln l 0 nm f).key ++ rest = 50 :: ((List.range' 0 ln).flatMap (fun i => 1 :: (l i).key) ++ 0 :: rest) := by simp [GV.key, k5, List.range_eq_range']
      obtain ⟨ps', h1, h2, h3⟩ := reads_parts_l st rest ln l (fun i hi => ihl i (every_l hf i hi) (every_l hn i hi)) ln 0 [] (by omega) rfl (fun i hi => absurd hi (Nat.not_lt_zero _))
      refine ⟨partsG false ps', ?_, ?_⟩
      · rw [hk]
        refine Leads.trans ⟨1, ?_⟩ h1
        simp [runK, stepK, kindK]
      · simp [partsG, GV.same, h2]
        exact h3
    · simp [GV.formed] at hft
      obtain ⟨⟨⟨_, e1⟩, e2⟩, e4⟩ := hft
      have e5 := empty_eq (s := s) (by simpa using e2)
      subst e1 e4 e5
      have hk : (GV.mk 6 0 ⟨#[]⟩ 0 l fn nm f).key ++ rest = 60 :: ((List.range' 0 fn).flatMap (fun i => 1 :: (lettersK (nm i).data.toList ++ (f i).key)) ++ 0 :: rest) := by simp [GV.key, k6, List.range_eq_range']
      obtain ⟨ps', h1, h2, h3⟩ := reads_parts_f st rest fn nm f (fun i hi => ihf i (every_f hf i hi) (every_f hn i hi)) fn 0 [] [] (by omega) rfl (fun i hi => absurd hi (Nat.not_lt_zero _))
      refine ⟨partsG true ps', ?_, ?_⟩
      · rw [hk]
        refine Leads.trans ⟨1, ?_⟩ h1
        simp [runK, stepK, kindK]
      · simp [partsG, GV.same, h2]
        exact h3

/-- The parts' bytes. -/
def partsB (doc : Bool) (ps : List (ByteArray × GV)) : List UInt8 := ps.flatMap fun x => 1 :: ((if doc = true then lettersK x.1.data.toList else []) ++ x.2.key)
def headB (f : Fr) : List UInt8 := (if f.doc = true then 60 else 50) :: partsB f.doc f.parts
def openB : List Fr → List UInt8
  | [] => []
  | f :: st => openB st ++ headB f ++ 1 :: (if f.doc = true then lettersK f.nm else [])
theorem parts_key (doc : Bool) (ps : List (ByteArray × GV)) : (partsG doc ps).key = (if doc = true then 60 else 50) :: (partsB doc ps ++ [0]) := by
  obtain ⟨_, _, _, _, k5, k6⟩ := k10
  have e : ∀ F : ByteArray × GV → List UInt8, (List.range ps.length).flatMap (fun i => F (pnm ps i, pg ps i)) = ps.flatMap F := by
    intro F
    have h : (List.range ps.length).map (fun i => (pnm ps i, pg ps i)) = ps := by
      apply List.ext_getElem
      · simp
      · intro i h1 h2
        simp [pnm, pg, h2]
    calc (List.range ps.length).flatMap (fun i => F (pnm ps i, pg ps i)) = ((List.range ps.length).map (fun i => (pnm ps i, pg ps i))).flatMap F := by rw [List.flatMap_map]
      _ = ps.flatMap F := by rw [h]
  cases doc with
  | true =>
    have := e fun x => 1 :: (lettersK x.1.data.toList ++ x.2.key)
    simp only [partsG, if_true, GV.key, k6, partsB]
    simp only [this]
    rfl
  | false =>
    have := e fun x => 1 :: x.2.key
    simp only [partsG, Bool.false_eq_true, if_false, GV.key, k5, partsB]
    simp only [this, List.nil_append]
    rfl
/-- What was read are the bytes. -/
def InvK (l0 : List UInt8) : KS → Prop
  | .kind st l => openB st ++ l = l0
  | .next [] _ => True
  | .next (f :: st) l => openB st ++ headB f ++ l = l0 ∨ l = []
  | .whole g st l => openB st ++ g.key ++ l = l0 ∨ (g = gB (-1) ∧ l = [])
  | .done none => True
  | .done (some q) => q.1.key ++ q.2 = l0 ∨ (q.1 = gB (-1) ∧ q.2 = [])
theorem inv_kind {l0 : List UInt8} {st : List Fr} {x : UInt8} {t : List UInt8} (h : openB st ++ x :: t = l0) : InvK l0 (kindK st x t) := by
  obtain ⟨k1, k2, k3', k4, k5, k6⟩ := k10s
  obtain ⟨_, _, k3, _⟩ := k10
  unfold kindK
  by_cases h1 : x = 10
  · rw [if_pos h1]
    left
    rw [← h, h1]
    simp [gN, GV.key, k1]
  rw [if_neg h1]
  by_cases h2 : x = 20
  · rw [if_pos h2]
    cases t with
    | nil => exact Or.inr ⟨rfl, rfl⟩
    | cons y t =>
      left
      rw [← h, h2]
      simp [gB, GV.key, k2, byte_back8]
  rw [if_neg h2]
  by_cases h3 : x = 30
  · rw [if_pos h3]
    by_cases h8 : 8 ≤ t.length
    · rw [if_pos h8]
      left
      rw [← h, h3]
      have e : numK ((ofBe (t.take 8) : Int) - 9223372036854775808) = t.take 8 := numK_inv (by simp; omega)
      have e2 : (intK t).key = 30 :: t.take 8 := by
        unfold intK gI
        rw [GV.key, k3, if_neg (by decide), if_pos rfl, e]
      rw [e2]
      simp
    · rw [if_neg h8]
      trivial
  rw [if_neg h3]
  by_cases h4 : x = 40
  · rw [if_pos h4]
    cases hq : lettersR t with
    | none => trivial
    | some q =>
      left
      rw [← h, h4, letters_inv t q.1 q.2 hq]
      simp [gT, GV.key, k4]
  rw [if_neg h4]
  by_cases h5 : x = 50
  · rw [if_pos h5]
    left
    rw [← h, h5]
    simp [headB, partsB]
  rw [if_neg h5]
  by_cases h6 : x = 60
  · rw [if_pos h6]
    left
    rw [← h, h6]
    simp [headB, partsB]
  rw [if_neg h6]
  trivial
theorem inv_next {l0 : List UInt8} {f : Fr} {st : List Fr} {x : UInt8} {t : List UInt8} (h : openB st ++ headB f ++ x :: t = l0) : InvK l0 (nextK f st x t) := by
  unfold nextK
  by_cases h1 : x = 0
  · rw [if_pos h1]
    left
    rw [← h, h1, parts_key]
    simp [headB]
  rw [if_neg h1]
  by_cases h2 : x = 1
  · rw [if_pos h2]
    cases hd : f.doc with
    | true =>
      rw [if_pos rfl]
      cases hq : lettersR t with
      | none => trivial
      | some q =>
        show openB (⟨true, q.1, f.parts⟩ :: st) ++ q.2 = l0
        rw [← h, h2, letters_inv t q.1 q.2 hq]
        simp [openB, headB, hd]
    | false =>
      rw [if_neg (by decide)]
      show openB (f :: st) ++ t = l0
      rw [← h, h2]
      simp [openB, hd]
  rw [if_neg h2]
  trivial
theorem inv_step {l0 : List UInt8} {s : KS} (h : InvK l0 s) : InvK l0 (stepK s) := by
  cases s with
  | done r => exact h
  | whole g st l =>
    cases st with
    | nil => simpa [stepK, InvK, openB] using h
    | cons f st =>
      rcases h with h | ⟨rfl, rfl⟩
      · left
        rw [← h]
        simp [headB, partsB, openB, List.append_assoc]
      · exact Or.inr rfl
  | next st l =>
    cases st with
    | nil => trivial
    | cons f st =>
      cases l with
      | nil => trivial
      | cons x t =>
        rcases h with h | h
        · exact inv_next h
        · exact absurd h (by simp)
  | kind st l =>
    cases l with
    | nil => trivial
    | cons x t => exact inv_kind h
theorem inv_run {l0 : List UInt8} : ∀ (n : Nat) {s : KS}, InvK l0 s → InvK l0 (runK n s)
  | 0, _, h => h
  | n + 1, _, h => inv_run n (inv_step h)
/-- What is told are the bytes (or a Bool without its byte). -/
theorem leads_key {l0 : List UInt8} {g : GV} {rest : List UInt8} (h : Leads (.kind [] l0) (.done (some (g, rest)))) : g.key ++ rest = l0 ∨ (g = gB (-1) ∧ rest = []) := by
  obtain ⟨n, hn⟩ := h
  have := inv_run (l0 := l0) n (s := .kind [] l0) rfl
  rw [hn] at this
  exact this
/-- A key is read as its value. -/
theorem key_leads {g : GV} (hf : g.every GV.formed = true) (hn : g.every GV.nOk = true) (rest : List UInt8) : ∃ g', Leads (.kind [] (g.key ++ rest)) (.done (some (g', rest))) ∧ g'.same g = true := by
  obtain ⟨g', h1, h2⟩ := reads_key g hf hn [] rest
  exact ⟨g', h1.step, h2⟩
end Go.Proofs.Yticbcoklpgfkhaa
