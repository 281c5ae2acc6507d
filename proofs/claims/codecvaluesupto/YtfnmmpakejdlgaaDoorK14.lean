/- Some texts in one: each opens with its own remark. -/
import Derived.Test.YtfnmmpakejdlgaaDoorK9
import Derived.Test.YtfnmmpakejdlgaaDoorK12
/- The document's own Number. -/
namespace Go.Proofs.YtfnmmpakejdlgaaDoor
open Go.RowKit

set_option maxHeartbeats 4000000 in
set_option maxRecDepth 1000000 in
theorem rNumber_any (a : Option Addr) (c p : Nat) (l : List UInt8) (w : World) (hB : Byts w a l) (hp : p ≤ l.length) (hl : l.length ≤ 140737488355328) :
    Calls Tryd.prog 21 #[.slice a l.length c, .int .i64 p] w fun e w' => e = .returned (.tuple #[.int .u64 ((numR (l.drop p) 0 0).1 : Int), .int .i64 ((if (numR (l.drop p) 0 0).2.2 = 0 then p + (numR (l.drop p) 0 0).2.1 else 0 : Nat) : Int), .int .i64 (numR (l.drop p) 0 0).2.2]) ∧ w' = w := by
  have hml : maxLen = 9223372036854775807 := rfl
  have hres : Tryd.f21.results = #[.tmp 4, .tmp 5, .tmp 6] := by kernel_rfl
  have HRES := mkHid hres
  clear hres
  obtain ⟨r, hr⟩ : ∃ r, r = numR (l.drop p) 0 0 := ⟨_, rfl⟩
  obtain ⟨n, hn⟩ : ∃ n, n = l.length := ⟨_, rfl⟩
  have HRR := mkHid hr
  have HB := mkHid hB
  have HN := mkHid hn
  rw [← hr, ← hn]
  rw [← hn] at hp hl
  obtain ⟨ANS, hANS⟩ : ∃ ANS, ANS = Ending.returned (.tuple #[.int .u64 (r.1 : Int), .int .i64 ((if r.2.2 = 0 then p + r.2.1 else 0 : Nat) : Int), .int .i64 r.2.2]) := ⟨_, rfl⟩
  have HANS := mkHid hANS
  rw [← hANS]
  clear hr hn hB hANS
  go_enter Tryd.func21, Tryd.ntmps21
  go_wp2_with fail
  go_loopw [7, 8] (fun v i wr => ∃ (k acc : Nat), i = .int .i64 k ∧ k ≤ 9 ∧ p + k ≤ n ∧ acc < 18446744073709551616 ∧ v = .int .u64 acc ∧ Hid (r = numR (l.drop (p + k)) k acc) ∧ wr = w) (fun _ i _ => 20 - (intOf i).toNat)
  case atStart => exact ⟨0, 0, rfl, by omega, by omega, by omega, rfl, HRR.out, rfl⟩
  case round =>
    obtain ⟨k, acc, rfl, hk, hpk, hacc, rfl, HNk, rfl⟩ := hrel
    by_cases hlt : p + k < n
    · have hlt' : p + k < l.length := by rw [← HN.out]; exact hlt
      obtain ⟨b, o, rfl, hc⟩ := HB.out (p + k) hlt'
      obtain ⟨x, hx⟩ : ∃ x : Nat, x = (l[p + k]'hlt').toNat := ⟨_, rfl⟩
      have hx2 : x < 256 := by rw [hx]; exact (l[p + k]'hlt').toNat_lt
      rw [← hx] at hc
      have HX := mkHid hx
      obtain ⟨y, hy⟩ : ∃ y : Nat, y = x % 128 := ⟨_, rfl⟩
      have hy2 : y < 128 := by omega
      obtain ⟨P7, hP7⟩ : ∃ P7, P7 = 7 * k := ⟨_, rfl⟩
      have hP63 : P7 ≤ 63 := by omega
      have h7k : 7 * (k : Int) = (P7 : Int) := by omega
      have hand : bits .and .u8 (x : Int) 127 = (y : Int) := by
        have h : bits .and .u8 (x : Int) 127 = (x : Int) % 128 := bits_mask .u8 8 (by decide) wraps_u8 7 (by decide) (x : Int) (by omega) (by omega)
        rw [h]
        omega
      obtain ⟨z, hz⟩ : ∃ z : Nat, z = (y <<< P7) % 18446744073709551616 := ⟨_, rfl⟩
      have hz2 : z < 18446744073709551616 := by rw [hz]; exact Nat.mod_lt _ (by omega)
      have hsh : IntKind.u64.wrap ((y : Int) * 2 ^ P7) = (z : Int) := by
        rw [hz, Nat.shiftLeft_eq, IntKind.wrap_u64, show (y : Int) * 2 ^ P7 = ((y * 2 ^ P7 : Nat) : Int) by simp]
        omega
      obtain ⟨acc2, ha2⟩ : ∃ a2 : Nat, a2 = nOr acc (l[p + k]'hlt') k := ⟨_, rfl⟩
      have ha3 : acc2 < 18446744073709551616 := by rw [ha2]; exact nOr_lt hacc
      have hor : bits .or .u64 (acc : Int) (z : Int) = (acc2 : Int) := by
        rw [u64_or_nat acc z hacc hz2, ha2, hz, nOr, hy, hP7, HX.out]
      have HNR : Hid (r = if (k = 9 ∧ 1 < x) ∨ (0 < k ∧ x = 0) then (0, 0, 4) else if 128 ≤ x then numR (l.drop (p + k + 1)) (k + 1) acc2 else (acc2, k + 1, 0)) := by
        show r = _
        rw [HNk.out, List.drop_eq_getElem_cons hlt', numR, HX.out, ha2]
      clear hy hP7 hz ha2 hx
      by_cases hk9 : k = 9
      · have e9 : ((k : Int) == 9) = true := by simp; omega
        have hk0 : 0 < k := by omega
        by_cases hx1 : 1 < x
        · have HBAD : Hid ((k = 9 ∧ 1 < x) ∨ (0 < k ∧ x = 0)) := Or.inl ⟨hk9, hx1⟩
          clear hk9
          go_wp2_with fail
          refine bodyPost_ret (v := .tuple #[.int .u64 0, .int .i64 0, .int .i64 4]) ?_ rfl ⟨?_, rfl⟩
          · simp only [results, HRES.out]
            go_simp
          · rw [HANS.out, HNR.out, if_pos HBAD.out]
            rfl
        · have h128 : x < 128 := by omega
          by_cases hx0 : x = 0
          · have HBAD : Hid ((k = 9 ∧ 1 < x) ∨ (0 < k ∧ x = 0)) := Or.inr ⟨by omega, hx0⟩
            have ex0 : ((x : Int) == 0) = true := by simp; omega
            clear hk9 hx0
            go_wp2_with fail
            refine bodyPost_ret (v := .tuple #[.int .u64 0, .int .i64 0, .int .i64 4]) ?_ rfl ⟨?_, rfl⟩
            · simp only [results, HRES.out]
              go_simp
            · rw [HANS.out, HNR.out, if_pos HBAD.out]
              rfl
          · have HBAD : Hid (¬ ((k = 9 ∧ 1 < x) ∨ (0 < k ∧ x = 0))) := by
              show ¬ _
              omega
            have ex0 : ((x : Int) == 0) = false := by simp; omega
            clear hk9 hx0
            go_wp2_with fail
            refine bodyPost_ret (v := .tuple #[.int .u64 acc2, .int .i64 ((p : Int) + k + 1), .int .i64 0]) ?_ rfl ⟨?_, rfl⟩
            · simp only [results, HRES.out]
              go_simp
            · rw [HANS.out, HNR.out, if_neg HBAD.out, if_neg (by omega)]
              simp
              omega
      · have e9 : ((k : Int) == 9) = false := by simp; omega
        have hk8 : k < 9 := by omega
        by_cases hk0 : 0 < k
        · by_cases hx0 : x = 0
          · have HBAD : Hid ((k = 9 ∧ 1 < x) ∨ (0 < k ∧ x = 0)) := Or.inr ⟨by omega, hx0⟩
            have ex0 : ((x : Int) == 0) = true := by simp; omega
            have h128 : x < 128 := by omega
            clear hk9 hx0
            go_wp2_with fail
            refine bodyPost_ret (v := .tuple #[.int .u64 0, .int .i64 0, .int .i64 4]) ?_ rfl ⟨?_, rfl⟩
            · simp only [results, HRES.out]
              go_simp
            · rw [HANS.out, HNR.out, if_pos HBAD.out]
              rfl
          · have HBAD : Hid (¬ ((k = 9 ∧ 1 < x) ∨ (0 < k ∧ x = 0))) := by
              show ¬ _
              omega
            have ex0 : ((x : Int) == 0) = false := by simp; omega
            clear hk9 hx0
            by_cases h128 : x < 128
            · go_wp2_with fail
              refine bodyPost_ret (v := .tuple #[.int .u64 acc2, .int .i64 ((p : Int) + k + 1), .int .i64 0]) ?_ rfl ⟨?_, rfl⟩
              · simp only [results, HRES.out]
                go_simp
              · rw [HANS.out, HNR.out, if_neg HBAD.out, if_neg (by omega)]
                simp
                omega
            · go_wp2_with fail
              go_roundw
              case rel =>
                refine ⟨k + 1, acc2, by go_num, by omega, by omega, ha3, rfl, ?_, trivial⟩
                show r = _
                rw [HNR.out, if_neg HBAD.out, if_pos (by omega)]
                rfl
              case measure => simp [intOf]; omega
        · have HBAD : Hid (¬ ((k = 9 ∧ 1 < x) ∨ (0 < k ∧ x = 0))) := by
            show ¬ _
            omega
          clear hk9
          by_cases hx0 : x = 0
          · have ex0 : ((x : Int) == 0) = true := by simp; omega
            have h128 : x < 128 := by omega
            clear hx0
            go_wp2_with fail
            refine bodyPost_ret (v := .tuple #[.int .u64 acc2, .int .i64 ((p : Int) + k + 1), .int .i64 0]) ?_ rfl ⟨?_, rfl⟩
            · simp only [results, HRES.out]
              go_simp
            · rw [HANS.out, HNR.out, if_neg HBAD.out, if_neg (by omega)]
              simp
              omega
          · have ex0 : ((x : Int) == 0) = false := by simp; omega
            clear hx0
            by_cases h128 : x < 128
            · go_wp2_with fail
              refine bodyPost_ret (v := .tuple #[.int .u64 acc2, .int .i64 ((p : Int) + k + 1), .int .i64 0]) ?_ rfl ⟨?_, rfl⟩
              · simp only [results, HRES.out]
                go_simp
              · rw [HANS.out, HNR.out, if_neg HBAD.out, if_neg (by omega)]
                simp
                omega
            · go_wp2_with fail
              go_roundw
              case rel =>
                refine ⟨k + 1, acc2, by go_num, by omega, by omega, ha3, rfl, ?_, trivial⟩
                show r = _
                rw [HNR.out, if_neg HBAD.out, if_pos (by omega)]
                rfl
              case measure => simp [intOf]; omega
    · have HN2 : Hid (r = (0, 0, 17)) := by
        show r = _
        rw [HNk.out, List.drop_eq_nil_of_le (by rw [← HN.out]; omega), numR]
      go_wp2_with fail
      refine bodyPost_ret (v := .tuple #[.int .u64 0, .int .i64 0, .int .i64 17]) ?_ rfl ⟨?_, rfl⟩
      · simp only [results, HRES.out]
        go_simp
      · rw [HANS.out, HN2.out]
        rfl
end Go.Proofs.YtfnmmpakejdlgaaDoor

/- The Lists and Docs that are not yet at their end, as they lie in memory: a row of one's own, each with a row of its parts. -/
namespace Go.Proofs.YtfnmmpakejdlgaaDoor
open Go.RowKit

/-- The memory without the blocks that p names. -/
def hide (p : Nat → Bool) (w : World) : World := { w with heap := w.heap.mapIdx fun i o => if p i = true then .cells #[] 0 (0, 0) else o }
theorem hide_cell {p : Nat → Bool} {w : World} {b o : Nat} {u : Value} : (hide p w).cell? ⟨b, o, none⟩ = some u ↔ p b = false ∧ w.cell? ⟨b, o, none⟩ = some u := by
  unfold hide World.cell?
  simp only [Array.getElem?_mapIdx]
  cases hb : p b with
  | true =>
    cases w.heap[b]? with
    | none => simp
    | some x => simp
  | false =>
    cases w.heap[b]? with
    | none => simp
    | some x => simp
/-- The tree lies behind the value, in none of the blocks that p names. -/
def Off (p : Nat → Bool) (w : World) (g : GV) (v : Value) : Prop := Lies (hide p w) g v
theorem Off.lies {p : Nat → Bool} {w : World} {g : GV} {v : Value} (h : Off p w g v) : Lies w g v := Lies.mono (fun _ _ _ hc => (hide_cell.1 hc).2) h
theorem Off.keep {p p' : Nat → Bool} {w w' : World} {g : GV} {v : Value} (h : Off p w g v) (hc : ∀ b, b < w.heap.size → p b = false → p' b = false ∧ w'.heap[b]? = w.heap[b]?) : Off p' w' g v :=
  Lies.mono (fun b o u h0 => by
    obtain ⟨h1, h2⟩ := hide_cell.1 h0
    obtain ⟨h3, h4⟩ := hc b (cell_lt' h2) h1
    exact hide_cell.2 ⟨h3, (World.cell?_of_block (a := ⟨b, o, none⟩) h4).trans h2⟩) h
theorem hide_block {p : Nat → Bool} {w : World} {k : Nat} (h : p k = false) : (hide p w).heap[k]? = w.heap[k]? := by
  unfold hide
  simp only [Array.getElem?_mapIdx]
  cases w.heap[k]? with
  | none => rfl
  | some x => simp [h]
theorem own_hide {p : Nat → Bool} {w : World} {B t size n : Nat} {v : Value} {xs : List Value} (h : w.ownsRow B t size v n xs) (hp : ∀ k, v.ownBlock = some k → p k = false) : (hide p w).ownsRow B t size v n xs := by
  refine ⟨h.1, ?_⟩
  rcases h.2 with h0 | ⟨g, cap, cur, rfl, h1, h2, h3⟩
  · exact Or.inl h0
  · exact Or.inr ⟨g, cap, cur, rfl, h1, (hide_block (hp g rfl)).trans h2, h3⟩
/-- A row of one's own stays where its block does. -/
theorem own_keep {w w' : World} {B t size n : Nat} {v : Value} {xs : List Value} (h : w.ownsRow B t size v n xs) (hk : ∀ k, v.ownBlock = some k → w'.heap[k]? = w.heap[k]?) : w'.ownsRow B t size v n xs := by
  refine ⟨h.1, ?_⟩
  rcases h.2 with h0 | ⟨g, cap, cur, rfl, h1, h2, h3⟩
  · exact Or.inl h0
  · exact Or.inr ⟨g, cap, cur, rfl, h1, (hk g rfl).trans h2, h3⟩
/-- Rows of two types lie in two blocks. -/
theorem own_types {w : World} {B1 B2 t1 t2 z1 z2 n1 n2 k : Nat} {v1 v2 : Value} {xs ys : List Value} (h1 : w.ownsRow B1 t1 z1 v1 n1 xs) (h2 : w.ownsRow B2 t2 z2 v2 n2 ys) (ht : t1 ≠ t2) (e1 : v1.ownBlock = some k) : v2.ownBlock ≠ some k := by
  intro e2
  rcases h1.2 with ⟨rfl, _⟩ | ⟨g, cap, cur, rfl, _, hg, _⟩
  · exact absurd e1 (by simp [Value.ownBlock])
  · rcases h2.2 with ⟨rfl, _⟩ | ⟨g', cap', cur', rfl, _, hg', _⟩
    · exact absurd e2 (by simp [Value.ownBlock])
    · simp [Value.ownBlock] at e1 e2
      subst e1
      subst e2
      rw [hg] at hg'
      simp at hg'
      exact ht hg'.2

/-- A List or a Doc of which parts are still to be read. -/
structure Opn where
  doc : Bool
  left : Nat
  nm : List UInt8
  na : Option Addr
  nc : Nat
  a : Option Addr
  c : Nat
  fs : List Fl
  parts : List (ByteArray × GV)

def Opn.row (x : Opn) : Value := .slice x.a x.fs.length x.c
def Opn.width (x : Opn) : Nat := if x.doc = true then 6 else 5
def Opn.ty (x : Opn) : Nat := if x.doc = true then 70 else 29
def Opn.zs (x : Opn) : List Value := if x.doc = true then fldCells x.fs else valCells (x.fs.map Fl.val)
def Opn.kind (x : Opn) : Int := if x.doc = true then 6 else 5
def Opn.l (x : Opn) : Value := if x.doc = true then .slice none 0 0 else x.row
def Opn.f (x : Opn) : Value := if x.doc = true then x.row else .slice none 0 0
def Opn.enc (x : Opn) : List Value := [.int .i64 x.kind, .int .i64 0, .string ⟨#[]⟩, x.l, x.f, .int .i64 x.left, .slice x.na x.nm.length x.nc]
/-- The top first; in memory it stands last. -/
def stCells (st : List Opn) : List Value := st.reverse.flatMap Opn.enc
theorem stCells_cons (x : Opn) (st : List Opn) : stCells (x :: st) = stCells st ++ x.enc := by simp [stCells]
theorem Opn.enc_len (x : Opn) : x.enc.length = 7 := rfl
theorem stCells_len : ∀ st : List Opn, (stCells st).length = st.length * 7
  | [] => rfl
  | x :: st => by
    rw [stCells_cons, List.length_append, stCells_len st, x.enc_len]
    simp
    omega
def blks (st : List Opn) (k : Nat) : Bool := st.any fun x => x.row.ownBlock == some k
/-- What is still open, and what lies below. -/
def hid (B : Nat) (wv : Value) (st : List Opn) (k : Nat) : Bool := decide (k < B) || wv.ownBlock == some k || blks st k
theorem hid_false {B : Nat} {wv : Value} {st : List Opn} {k : Nat} : hid B wv st k = false ↔ B ≤ k ∧ wv.ownBlock ≠ some k ∧ ∀ x ∈ st, x.row.ownBlock ≠ some k := by
  simp [hid, blks, and_assoc]

/-- The stack lies in memory, in blocks from B on. -/
structure Stk (B : Nat) (w : World) (wv : Value) (st : List Opn) : Prop where
  own : w.ownsRow B 102 7 wv st.length (stCells st)
  rows : ∀ x ∈ st, w.ownsRow B x.ty x.width x.row x.fs.length x.zs
  apart : st.Pairwise fun x y => ∀ k, x.row.ownBlock = some k → y.row.ownBlock ≠ some k
/-- The parts that were read lie in memory, apart from what is still open. -/
def TreeOk (p : Nat → Bool) (w : World) (x : Opn) : Prop := (∀ f ∈ x.fs, Off p w f.g f.val ∧ f.nm.size ≤ 140737488355328) ∧ x.fs.map (fun f => (f.nm, f.g)) = x.parts
def Kp (p : Nat → Bool) (w : World) (p' : Nat → Bool) (w' : World) : Prop := ∀ b, b < w.heap.size → p b = false → p' b = false ∧ w'.heap[b]? = w.heap[b]?
theorem TreeOk.keep {p p' : Nat → Bool} {w w' : World} {x : Opn} (h : TreeOk p w x) (hk : Kp p w p' w') : TreeOk p' w' x := ⟨fun f hf => ⟨(h.1 f hf).1.keep hk, (h.1 f hf).2⟩, h.2⟩
def Trees (p : Nat → Bool) (w : World) (st : List Opn) : Prop := ∀ x ∈ st, TreeOk p w x
theorem Trees.keep {p p' : Nat → Bool} {w w' : World} {st : List Opn} (h : Trees p w st) (hk : Kp p w p' w') : Trees p' w' st := fun x hx => (h x hx).keep hk

theorem ty_ne (x : Opn) : 102 ≠ x.ty := by
  unfold Opn.ty
  split <;> decide
/-- The stack's own block is none of its rows'. -/
theorem Stk.top_ne {B : Nat} {w : World} {wv : Value} {st : List Opn} (h : Stk B w wv st) {x : Opn} (hx : x ∈ st) {k : Nat} (hk : wv.ownBlock = some k) : x.row.ownBlock ≠ some k := own_types h.own (h.rows x hx) (ty_ne x) hk
theorem Stk.keep {B : Nat} {w w' : World} {wv : Value} {st : List Opn} (h : Stk B w wv st) (hk : ∀ k, B ≤ k → k < w.heap.size → w'.heap[k]? = w.heap[k]?) : Stk B w' wv st :=
  ⟨own_keep h.own fun k e => hk k (own_blk h.own e).2 (own_blk h.own e).1, fun x hx => own_keep (h.rows x hx) fun k e => hk k (own_blk (h.rows x hx) e).2 (own_blk (h.rows x hx) e).1, h.apart⟩

/-- One more. -/
theorem Stk.push {B : Nat} {w w' : World} {wv wv' : Value} {st : List Opn} (h : Stk B w wv st) {x : Opn} (hx : x.row = .slice none 0 0) (hz : x.fs = []) (ho : w'.ownsRow B 102 7 wv' (st.length + 1) (stCells st ++ x.enc)) (hg : w.grownBy w' wv.ownBlock) : Stk B w' wv' (x :: st) := by
  refine ⟨?_, ?_, ?_⟩
  · rw [stCells_cons]
    exact ho
  · intro y hy
    rcases List.mem_cons.1 hy with rfl | hy
    · rw [hx, hz]
      refine ⟨?_, Or.inl ⟨rfl, rfl⟩⟩
      unfold Opn.zs
      rw [hz]
      split <;> simp [fldCells, valCells]
    · exact own_keep (h.rows y hy) fun k e => hg.block k (own_blk (h.rows y hy) e).1 fun e2 => h.top_ne hy e2.symm e
  · refine List.pairwise_cons.2 ⟨fun y _ k e => ?_, h.apart⟩
    rw [hx] at e
    exact absurd e (by simp [Value.ownBlock])
theorem kp_push {B : Nat} {w w' : World} {wv wv' : Value} {st : List Opn} {x : Opn} (hx : x.row = .slice none 0 0) (hg : w.grownBy w' wv.ownBlock) (hl : wv'.ownBlock = wv.ownBlock ∨ ∃ k, wv'.ownBlock = some k ∧ w.heap.size ≤ k) : Kp (hid B wv st) w (hid B wv' (x :: st)) w' := by
  intro b hb hp
  obtain ⟨h1, h2, h3⟩ := hid_false.1 hp
  refine ⟨hid_false.2 ⟨h1, ?_, ?_⟩, hg.block b hb fun e => h2 e.symm⟩
  · rcases hl with e | ⟨k, e, hk⟩
    · rw [e]; exact h2
    · rw [e]
      intro e2
      cases e2
      omega
  · intro y hy
    rcases List.mem_cons.1 hy with rfl | hy
    · rw [hx]
      simp [Value.ownBlock]
    · exact h3 y hy

/-- The top's number of parts to come, and its last name, set anew: its own cells. -/
theorem Stk.set {B g c i : Nat} {w : World} {st : List Opn} {x y : Opn} {u : Value} (h : Stk B w (.slice (some ⟨g, 0, none⟩) (st.length + 1) c) (x :: st)) (hd : y.doc = x.doc) (hf : y.fs = x.fs) (ha : y.a = x.a) (hc : y.c = x.c) (he : x.enc.set i u = y.enc) (hi : i < 7) :
    Stk B (w.setCell ⟨g, st.length * 7 + i, none⟩ u) (.slice (some ⟨g, 0, none⟩) (st.length + 1) c) (y :: st) := by
  have hr : y.row = x.row := by unfold Opn.row; rw [hf, ha, hc]
  have hne : ∀ z ∈ x :: st, ∀ k, z.row.ownBlock = some k → k ≠ g := fun z hz k e e2 => h.top_ne hz (k := g) rfl (by rw [e, e2])
  refine ⟨?_, ?_, ?_⟩
  · have h1 := (h.own.stored (st.length * 7 + i) u).1
    rw [stCells_cons] at h1 ⊢
    have e : (stCells st ++ x.enc).set (st.length * 7 + i) u = stCells st ++ y.enc := by
      rw [List.set_append_right _ _ (by rw [stCells_len]; omega), stCells_len, show st.length * 7 + i - st.length * 7 = i by omega, he]
    rw [e] at h1
    exact h1
  · intro z hz
    rcases List.mem_cons.1 hz with rfl | hz
    · have hx := h.rows x (by simp)
      have e1 : z.ty = x.ty := by unfold Opn.ty; rw [hd]
      have e2 : z.width = x.width := by unfold Opn.width; rw [hd]
      have e3 : z.zs = x.zs := by unfold Opn.zs; rw [hd, hf]
      rw [e1, e2, e3, hr, hf]
      exact own_keep hx fun k e => RowKit.Below.heap_setCell w ⟨g, st.length * 7 + i, none⟩ u k (hne x (by simp) k e)
    · exact own_keep (h.rows z (by simp [hz])) fun k e => RowKit.Below.heap_setCell w ⟨g, st.length * 7 + i, none⟩ u k (hne z (by simp [hz]) k e)
  · have := List.pairwise_cons.1 h.apart
    exact List.pairwise_cons.2 ⟨fun z hz k e => this.1 z hz k (by rw [← hr]; exact e), this.2⟩

/-- The top taken off. -/
theorem Stk.pop {B g c : Nat} {w : World} {st : List Opn} {x : Opn} (h : Stk B w (.slice (some ⟨g, 0, none⟩) (st.length + 1) c) (x :: st)) : Stk B w (.slice (some ⟨g, 0, none⟩) st.length c) st := by
  refine ⟨?_, fun y hy => h.rows y (by simp [hy]), (List.pairwise_cons.1 h.apart).2⟩
  refine ⟨stCells_len st, Or.inr ?_⟩
  rcases h.own.2 with ⟨e, _⟩ | ⟨g', cap, cur, e, h1, h2, h3, h4, h5, h6⟩
  · exact absurd e (by simp)
  · cases e
    refine ⟨g, c, cur, rfl, h1, h2, by simp at h3; omega, h4, h5, ?_⟩
    have e1 : List.take (st.length * 7) (List.take ((x :: st).length * 7) cur.toList) = List.take (st.length * 7) cur.toList := by
      rw [List.take_take]
      congr 1
      simp
    have e2 : List.take (st.length * 7) (stCells st ++ x.enc) = stCells st := by
      rw [List.take_append_of_le_length (by rw [stCells_len]; omega), List.take_of_length_le (by rw [stCells_len]; omega)]
    rw [h6, stCells_cons, e2] at e1
    exact e1.symm
theorem kp_pop {B g c n m : Nat} {w : World} {st : List Opn} {x : Opn} : Kp (hid B (.slice (some ⟨g, 0, none⟩) n c) (x :: st)) w (hid B (.slice (some ⟨g, 0, none⟩) m c) st) w := by
  intro b _ hp
  obtain ⟨h1, h2, h3⟩ := hid_false.1 hp
  exact ⟨hid_false.2 ⟨h1, h2, fun y hy => h3 y (by simp [hy])⟩, rfl⟩

/-- The top with one part more. -/
def Opn.more (x : Opn) (a : Option Addr) (c : Nat) (f : Fl) (pt : ByteArray × GV) : Opn := { x with a := a, c := c, fs := x.fs ++ [f], parts := x.parts ++ [pt] }
theorem Fl.val_cells (f : Fl) : f.val.cells.toList = [.int .i64 f.k, .int .i64 f.n, .string f.s, .slice f.la f.ln f.lc, .slice f.fa f.fn f.fc] := rfl
theorem more_zs (x : Opn) (a : Option Addr) (c : Nat) (f : Fl) (pt : ByteArray × GV) : (x.more a c f pt).zs = x.zs ++ (if x.doc = true then f.enc else f.val.cells.toList) := by
  unfold Opn.zs Opn.more
  cases x.doc with
  | true => simp [fldCells_snoc]
  | false => simp [valCells_snoc]

/-- What add leaves. -/
theorem Stk.add {B g c : Nat} {w w' : World} {st : List Opn} {x : Opn} {f : Fl} {pt : ByteArray × GV} {cur : Array Value} (h : Stk B w (.slice (some ⟨g, 0, none⟩) (st.length + 1) c) (x :: st)) (hcur : w.heap[g]? = some (.cells cur 102 (0, 0)))
    (hA : AddSay B g (st.length * 7 + (if x.doc = true then 4 else 3)) x.fs.length x.ty x.width x.row cur (x.zs ++ (if x.doc = true then f.enc else f.val.cells.toList)) w w') :
    ∃ g2 c2, Stk B w' (.slice (some ⟨g, 0, none⟩) (st.length + 1) c) (x.more (some ⟨g2, 0, none⟩) c2 f pt :: st) ∧
      Kp (hid B (.slice (some ⟨g, 0, none⟩) (st.length + 1) c) (x :: st)) w (hid B (.slice (some ⟨g, 0, none⟩) (st.length + 1) c) (x.more (some ⟨g2, 0, none⟩) c2 f pt :: st)) w' ∧ Chg (fun k => k = g ∨ x.row.ownBlock = some k) w w' ∧ B ≤ g := by
  obtain ⟨g2, c2, h1, h2, h3, h4⟩ := hA
  have hg : B ≤ g ∧ g < w.heap.size := by
    have := own_blk h.own (k := g) rfl
    exact ⟨this.2, this.1⟩
  have hrow : (x.more (some ⟨g2, 0, none⟩) c2 f pt).row = .slice (some ⟨g2, 0, none⟩) (x.fs.length + 1) c2 := by simp [Opn.row, Opn.more]
  have hlen : (x.more (some ⟨g2, 0, none⟩) c2 f pt).fs.length = x.fs.length + 1 := by simp [Opn.more]
  have hap := List.pairwise_cons.1 h.apart
  have hold : ∀ y ∈ st, ∀ k, y.row.ownBlock = some k → k < w.heap.size ∧ k ≠ g ∧ x.row.ownBlock ≠ some k ∧ k ≠ g2 := by
    intro y hy k e
    have hb := own_blk (h.rows y (by simp [hy])) e
    have hxk : x.row.ownBlock ≠ some k := fun e2 => hap.1 y hy k e2 e
    refine ⟨hb.1, fun e2 => h.top_ne (x := y) (by simp [hy]) (k := g) rfl (by rw [e, e2]), hxk, ?_⟩
    rintro rfl
    rcases h3 with e2 | e2
    · exact hxk e2
    · omega
  refine ⟨g2, c2, ⟨?_, ?_, ?_⟩, ?_, h4, hg.1⟩
  · rw [stCells_cons]
    obtain ⟨hl, hr⟩ := h.own
    rcases hr with ⟨e, _⟩ | ⟨g', cap, cur', e, r1, r2, r3, r4, r5, r6⟩
    · exact absurd e (by simp)
    · cases e
      rw [hcur] at r2
      injection r2 with r2
      injection r2 with r2
      subst r2
      refine ⟨by simp [stCells_len, Opn.enc_len]; omega, Or.inr ⟨g, c, _, rfl, r1, h2, by simpa using r3, r4, by simp [r5], ?_⟩⟩
      have r7 : List.take ((x.more (some ⟨g2, 0, none⟩) c2 f pt :: st).length * 7) cur.toList = stCells (x :: st) := r6
      rw [Array.toList_setIfInBounds, List.take_set, r7, stCells_cons, List.set_append_right _ _ (by rw [stCells_len]; omega), stCells_len]
      rw [show st.length * 7 + (if x.doc = true then 4 else 3) - st.length * 7 = (if x.doc = true then 4 else 3) by omega]
      congr 1
      unfold Opn.enc Opn.l Opn.f Opn.kind
      rw [hrow]
      have hdd : (x.more (some ⟨g2, 0, none⟩) c2 f pt).doc = x.doc := rfl
      rw [hdd]
      cases x.doc with
      | true => simp [Opn.more]
      | false => simp [Opn.more]
  · intro y hy
    rcases List.mem_cons.1 hy with rfl | hy
    · rw [more_zs, hrow, hlen]
      exact h1
    · refine own_keep (h.rows y (by simp [hy])) fun k e => ?_
      obtain ⟨e1, e2, e3, _⟩ := hold y hy k e
      exact h4.block k e1 (by rintro (e4 | e4); exact e2 e4; exact e3 e4)
  · refine List.pairwise_cons.2 ⟨fun y hy k e e2 => ?_, hap.2⟩
    rw [hrow] at e
    simp [Value.ownBlock] at e
    exact (hold y hy k e2).2.2.2 e.symm
  · intro b hb hp
    obtain ⟨q1, q2, q3⟩ := hid_false.1 hp
    have hbg : b ≠ g := fun e => q2 (by rw [e]; rfl)
    have hbx : x.row.ownBlock ≠ some b := q3 x (by simp)
    refine ⟨hid_false.2 ⟨q1, q2, ?_⟩, h4.block b hb (by rintro (e | e); exact hbg e; exact hbx e)⟩
    intro y hy
    rcases List.mem_cons.1 hy with rfl | hy
    · rw [hrow]
      simp [Value.ownBlock]
      rintro rfl
      rcases h3 with e2 | e2
      · exact hbx e2
      · omega
    · exact q3 y (by simp [hy])
theorem TreeOk.more {p : Nat → Bool} {w : World} {x : Opn} {a : Option Addr} {c : Nat} {f : Fl} {pt : ByteArray × GV} (h : TreeOk p w x) (hf : Off p w f.g f.val) (hs : f.nm.size ≤ 140737488355328) (hp : (f.nm, f.g) = pt) : TreeOk p w (x.more a c f pt) := by
  refine ⟨?_, ?_⟩
  · intro y hy
    simp only [Opn.more, List.mem_append, List.mem_singleton] at hy
    rcases hy with hy | rfl
    · exact h.1 y hy
    · exact ⟨hf, hs⟩
  · simp only [Opn.more, List.map_append, List.map_cons, List.map_nil, h.2, hp]
end Go.Proofs.YtfnmmpakejdlgaaDoor
