/- The walk of MarkBusy. -/
import Derived.Test.YtjappkiiokpjjaaK28
import Derived.Test.YtjappkiiokpjjaaK28
import Derived.Test.YtjappkiiokpjjaaK28
import Derived.Test.YtjappkiiokpjjaaK1
import Derived.Deep.CutRange
import Derived.BigQuiet
namespace Go.Proofs.Ytjappkiiokpjjaa
open Go.RowKit

theorem land_3 (n : Int) : bits .and .i64 n 3 = n % 4 := by
 have h1 : (BitVec.ofInt 64 3).toNat = 2 ^ 2 - 1 := by decide
 have key : (BitVec.ofInt 64 n &&& BitVec.ofInt 64 3).toNat = (n % ((2 ^ 64 : Nat) : Int)).toNat % 2 ^ 2 := by
  rw [BitVec.toNat_and, BitVec.toNat_ofInt, h1, Nat.and_two_pow_sub_one_eq_mod]
 show IntKind.i64.wrap ((BitVec.ofInt 64 n &&& BitVec.ofInt 64 3).toNat : Nat) = n % 4
 rw [key, IntKind.wrap_i64]
 omega
theorem below_dN {B : Nat} {a w : World} (h : Below B a w) (q : Nat) : Below B a (w.drewN q) := ⟨h.os, h.tape, h.output, h.size, h.block⟩
theorem size_cells (b : Nat) : ∀ (vs : List Value) (o : Nat) (w : World), (w.setCells b o vs).heap.size = w.heap.size
 | [], _, _ => rfl
 | v :: vs, o, w => by
  show ((w.setCell ⟨b, o, none⟩ v).setCells b (o + 1) vs).heap.size = _
  rw [size_cells b vs]
  simp [World.setCell]
theorem play_join {P : Program} {id : Nat} {ops : Array Oper} {b : Bool} {Q : Exit → Act → World → Prop} {a : Act} {w : World} (F : Nat → Nat → Nat → Nat → Option Addr → Option Addr → List Value → Act) (Facts : World → Nat → Nat → Nat → Nat → Option Addr → Option Addr → List Value → Prop) (h1 : (∀ W N n c tc a ta l, Facts W N n c tc a ta l → Q .normal (F N n c tc a ta l) W) → (Code.region id ops b).wp P Q a w) (h2 : ∀ W N n c tc a ta l, Facts W N n c tc a ta l → Q .normal (F N n c tc a ta l) W) : (Code.region id ops b).wp P Q a w := h1 h2
/-- What is known behind a call of Play whose answer was laid into a new box N. -/
def PlyF {σ : Type} (cap slots : Nat) (mk ln : σ → Nat → σ) (J : (Nat → Prop) → World → List Ob → List Nat → σ → Prop) (w : World) (M : Nat) (dd : Dd) (q : List Ob × List Nat × σ) (ca : Array Value) (W : World) (N n c tc : Nat) (a ta : Option Addr) (l : List Value) : Prop :=
 (Value.slice a n c :: l).length = 17 ∧ (Value.slice a n c :: l).toArray.all (·.oneCell') = true ∧ W.heap[N]? = some (.cells (Value.slice a n c :: l).toArray 30 (0, 0)) ∧ W.heap[M]? = some (.cells ca 30 (0, 0)) ∧ Below w.heap.size w W ∧ M ≠ N ∧ w.heap.size ≤ N ∧ ∃ p own, p = stepP cap slots mk ln dd q.1 q.2.1 q.2.2 ∧ n = p.1.length ∧ l = rtV p.2.1 ∧ (∀ w6, Chg (fun k => k = M) W w6 → w6.heap[M]? = some (.cells (Value.slice a n c :: l).toArray 30 (0, 0)) → Md1 J w w6 M p a ta c tc own)
set_option maxHeartbeats 2000000 in
set_option maxRecDepth 100000 in
theorem markBusy_any (da : Option Addr) (m dc : Nat) (z : Nat → Dd) (db : Option Addr) (mb bc : Nat) (zb : Nat → Dd) (sa : Option Addr) (sm sc : Nat) (sz : Nat → Int) (W : World) (hsm : sm ≤ 9223372036854775807) (hsk : KRow .i64 W sa sm sz) (hm : m ≤ 9223372036854775807) (hd : D6 W da m z) (hmb : mb ≤ 9223372036854775807) (hdb : D6 W db mb zb) : Calls Try.prog 6 #[.slice da m dc, .slice db mb bc, .slice sa sm sc] W fun e w' => e = .returned (.bool true) ∧ Below W.heap.size W w' := by
 have HAW := mkHid (awake10 W)
 have HMD : Hid (∀ v, D6 v da m z → Calls Try.prog 26 #[.slice da m dc] v (MadeSay z m v)) := fun v hv => made_any hv hm
 have HD := mkHid hd
 have HDB := mkHid hdb
 have HSK := mkHid hsk
 clear hd hsk hdb
 go_enter Try.func6, Try.ntmps6
 go_wp2_with fail
 refine HAW.out.mono ?_
 rintro e w1 ⟨rfl, b1⟩
 have HBW := mkHid b1
 have HD1 := mkHid (HD.out.below b1)
 clear b1
 by_cases h300 : 300 < (m : Int)
 ·go_wp2_with fail
  go_ret
  exact ⟨rfl, HBW.out⟩
 by_cases h301 : 300 < (mb : Int)
 ·go_wp2_with fail
  go_ret
  exact ⟨rfl, HBW.out⟩
 have hm300 : m ≤ 300 := by omega
 have hmb300 : mb ≤ 300 := by omega
 have h300b : decide (300 < (m : Int)) = false := decide_eq_false h300
 have h301b : decide (300 < (mb : Int)) = false := decide_eq_false h301
 go_wp2_with fail
 refine (HMD.out _ HD1.out).mono ?_
 rintro e w2 ⟨i, own, Os, rt, a, c, ta, tc, rfl, b2, hlow, hrun, p2, mz2, tz2⟩
 obtain ⟨n, hn⟩ : ∃ n, n = Os.length := ⟨_, rfl⟩
 obtain ⟨l, hl⟩ : ∃ l, l = rtV rt := ⟨_, rfl⟩
 have hfew := PH.few p2
 have hln : Os.length ≤ m := by have := runP_len 16384 1024 (fun (s : Unit) _ => s) (fun (s : Unit) _ => s) z () m; rw [hrun] at this; exact this
 have hl17 : (Value.slice a n c :: l).length = 17 := by rw [hl]; unfold rtV; rw [List.length_cons, List.length_map]; omega
 have hall : (Value.slice a n c :: l).toArray.all (·.oneCell') = true := all_oneCell_toArray (fun v hv => by
  rcases List.mem_cons.1 hv with rfl | hv
  ·rfl
  ·rw [hl] at hv; exact rtV_one rt v hv)
 have hz1 : (w2.alloc (.cells #[.slice none 0 0, .int .u64 0, .int .u64 0, .int .u64 0, .int .u64 0, .int .u64 0, .int .u64 0, .int .u64 0, .int .u64 0, .int .u64 0, .int .u64 0, .int .u64 0, .int .u64 0, .int .u64 0, .int .u64 0, .int .u64 0, .int .u64 0] 30)).heap[w2.heap.size]? = some (.cells #[.slice none 0 0, .int .u64 0, .int .u64 0, .int .u64 0, .int .u64 0, .int .u64 0, .int .u64 0, .int .u64 0, .int .u64 0, .int .u64 0, .int .u64 0, .int .u64 0, .int .u64 0, .int .u64 0, .int .u64 0, .int .u64 0, .int .u64 0] 30 (0, 0)) := heap_alloc_new _ _
 obtain ⟨hth1, hf1⟩ := box_fill (cs := Value.slice a n c :: l) hz1 (by rw [hl17]; rfl)
 have hr1 : ((w2.alloc (.cells #[.slice none 0 0, .int .u64 0, .int .u64 0, .int .u64 0, .int .u64 0, .int .u64 0, .int .u64 0, .int .u64 0, .int .u64 0, .int .u64 0, .int .u64 0, .int .u64 0, .int .u64 0, .int .u64 0, .int .u64 0, .int .u64 0, .int .u64 0] 30)).setCells w2.heap.size 0 (Value.slice a n c :: l)).rangeAt w2.heap.size 0 (Value.slice a n c :: l) := fun jj u hu => by rw [cell_of_row _ _ _ _ _ _ hf1, Nat.zero_add]; simpa using hu
 have hs3 : ((w2.alloc (.cells #[.slice none 0 0, .int .u64 0, .int .u64 0, .int .u64 0, .int .u64 0, .int .u64 0, .int .u64 0, .int .u64 0, .int .u64 0, .int .u64 0, .int .u64 0, .int .u64 0, .int .u64 0, .int .u64 0, .int .u64 0, .int .u64 0, .int .u64 0] 30)).setCells w2.heap.size 0 (Value.slice a n c :: l)).heap.size = w2.heap.size + 1 := by rw [size_cells]; simp
 have hz2 : (((w2.alloc (.cells #[.slice none 0 0, .int .u64 0, .int .u64 0, .int .u64 0, .int .u64 0, .int .u64 0, .int .u64 0, .int .u64 0, .int .u64 0, .int .u64 0, .int .u64 0, .int .u64 0, .int .u64 0, .int .u64 0, .int .u64 0, .int .u64 0, .int .u64 0] 30)).setCells w2.heap.size 0 (Value.slice a n c :: l)).alloc (.cells #[.slice none 0 0, .int .u64 0, .int .u64 0, .int .u64 0, .int .u64 0, .int .u64 0, .int .u64 0, .int .u64 0, .int .u64 0, .int .u64 0, .int .u64 0, .int .u64 0, .int .u64 0, .int .u64 0, .int .u64 0, .int .u64 0, .int .u64 0] 30)).heap[w2.heap.size + 1]? = some (.cells #[.slice none 0 0, .int .u64 0, .int .u64 0, .int .u64 0, .int .u64 0, .int .u64 0, .int .u64 0, .int .u64 0, .int .u64 0, .int .u64 0, .int .u64 0, .int .u64 0, .int .u64 0, .int .u64 0, .int .u64 0, .int .u64 0, .int .u64 0] 30 (0, 0)) := by rw [← hs3]; exact heap_alloc_new _ _
 obtain ⟨hth2, hf2⟩ := box_fill (cs := Value.slice a n c :: l) hz2 (by rw [hl17]; rfl)
 have hcA : Chg (fun k => k = w2.heap.size) (w2.alloc (.cells #[.slice none 0 0, .int .u64 0, .int .u64 0, .int .u64 0, .int .u64 0, .int .u64 0, .int .u64 0, .int .u64 0, .int .u64 0, .int .u64 0, .int .u64 0, .int .u64 0, .int .u64 0, .int .u64 0, .int .u64 0, .int .u64 0, .int .u64 0] 30)) ((w2.alloc (.cells #[.slice none 0 0, .int .u64 0, .int .u64 0, .int .u64 0, .int .u64 0, .int .u64 0, .int .u64 0, .int .u64 0, .int .u64 0, .int .u64 0, .int .u64 0, .int .u64 0, .int .u64 0, .int .u64 0, .int .u64 0, .int .u64 0, .int .u64 0] 30)).setCells w2.heap.size 0 (Value.slice a n c :: l)) := Chg.setCells (p := fun k => k = w2.heap.size) rfl _ 0 (Chg.refl _ _)
 have hcB : Chg (fun k => k = w2.heap.size + 1) (((w2.alloc (.cells #[.slice none 0 0, .int .u64 0, .int .u64 0, .int .u64 0, .int .u64 0, .int .u64 0, .int .u64 0, .int .u64 0, .int .u64 0, .int .u64 0, .int .u64 0, .int .u64 0, .int .u64 0, .int .u64 0, .int .u64 0, .int .u64 0, .int .u64 0] 30)).setCells w2.heap.size 0 (Value.slice a n c :: l)).alloc (.cells #[.slice none 0 0, .int .u64 0, .int .u64 0, .int .u64 0, .int .u64 0, .int .u64 0, .int .u64 0, .int .u64 0, .int .u64 0, .int .u64 0, .int .u64 0, .int .u64 0, .int .u64 0, .int .u64 0, .int .u64 0, .int .u64 0, .int .u64 0] 30)) ((((w2.alloc (.cells #[.slice none 0 0, .int .u64 0, .int .u64 0, .int .u64 0, .int .u64 0, .int .u64 0, .int .u64 0, .int .u64 0, .int .u64 0, .int .u64 0, .int .u64 0, .int .u64 0, .int .u64 0, .int .u64 0, .int .u64 0, .int .u64 0, .int .u64 0] 30)).setCells w2.heap.size 0 (Value.slice a n c :: l)).alloc (.cells #[.slice none 0 0, .int .u64 0, .int .u64 0, .int .u64 0, .int .u64 0, .int .u64 0, .int .u64 0, .int .u64 0, .int .u64 0, .int .u64 0, .int .u64 0, .int .u64 0, .int .u64 0, .int .u64 0, .int .u64 0, .int .u64 0, .int .u64 0] 30)).setCells (w2.heap.size + 1) 0 (Value.slice a n c :: l)) := Chg.setCells (p := fun k => k = w2.heap.size + 1) rfl _ 0 (Chg.refl _ _)
 have hbA : Below w2.heap.size w2 (w2.alloc (.cells #[.slice none 0 0, .int .u64 0, .int .u64 0, .int .u64 0, .int .u64 0, .int .u64 0, .int .u64 0, .int .u64 0, .int .u64 0, .int .u64 0, .int .u64 0, .int .u64 0, .int .u64 0, .int .u64 0, .int .u64 0, .int .u64 0, .int .u64 0] 30)) := (Below.refl _ _).alloc (Nat.le_refl _) _
 have hbB : Below w2.heap.size w2 ((w2.alloc (.cells #[.slice none 0 0, .int .u64 0, .int .u64 0, .int .u64 0, .int .u64 0, .int .u64 0, .int .u64 0, .int .u64 0, .int .u64 0, .int .u64 0, .int .u64 0, .int .u64 0, .int .u64 0, .int .u64 0, .int .u64 0, .int .u64 0, .int .u64 0] 30)).setCells w2.heap.size 0 (Value.slice a n c :: l)) := hbA.trans ⟨hcA.os, hcA.tape, hcA.output, hcA.size, fun k hk => hcA.block k (by have := hbA.size; omega) (by omega)⟩
 have hbC : Below w2.heap.size w2 (((w2.alloc (.cells #[.slice none 0 0, .int .u64 0, .int .u64 0, .int .u64 0, .int .u64 0, .int .u64 0, .int .u64 0, .int .u64 0, .int .u64 0, .int .u64 0, .int .u64 0, .int .u64 0, .int .u64 0, .int .u64 0, .int .u64 0, .int .u64 0, .int .u64 0] 30)).setCells w2.heap.size 0 (Value.slice a n c :: l)).alloc (.cells #[.slice none 0 0, .int .u64 0, .int .u64 0, .int .u64 0, .int .u64 0, .int .u64 0, .int .u64 0, .int .u64 0, .int .u64 0, .int .u64 0, .int .u64 0, .int .u64 0, .int .u64 0, .int .u64 0, .int .u64 0, .int .u64 0, .int .u64 0] 30)) := hbB.alloc hbB.size _
 have b3 : Below w2.heap.size w2 ((((w2.alloc (.cells #[.slice none 0 0, .int .u64 0, .int .u64 0, .int .u64 0, .int .u64 0, .int .u64 0, .int .u64 0, .int .u64 0, .int .u64 0, .int .u64 0, .int .u64 0, .int .u64 0, .int .u64 0, .int .u64 0, .int .u64 0, .int .u64 0, .int .u64 0] 30)).setCells w2.heap.size 0 (Value.slice a n c :: l)).alloc (.cells #[.slice none 0 0, .int .u64 0, .int .u64 0, .int .u64 0, .int .u64 0, .int .u64 0, .int .u64 0, .int .u64 0, .int .u64 0, .int .u64 0, .int .u64 0, .int .u64 0, .int .u64 0, .int .u64 0, .int .u64 0, .int .u64 0, .int .u64 0] 30)).setCells (w2.heap.size + 1) 0 (Value.slice a n c :: l)) := hbC.trans ⟨hcB.os, hcB.tape, hcB.output, hcB.size, fun k hk => hcB.block k (by have := hbC.size; omega) (by omega)⟩
 have hbx : ((((w2.alloc (.cells #[.slice none 0 0, .int .u64 0, .int .u64 0, .int .u64 0, .int .u64 0, .int .u64 0, .int .u64 0, .int .u64 0, .int .u64 0, .int .u64 0, .int .u64 0, .int .u64 0, .int .u64 0, .int .u64 0, .int .u64 0, .int .u64 0, .int .u64 0] 30)).setCells w2.heap.size 0 (Value.slice a n c :: l)).alloc (.cells #[.slice none 0 0, .int .u64 0, .int .u64 0, .int .u64 0, .int .u64 0, .int .u64 0, .int .u64 0, .int .u64 0, .int .u64 0, .int .u64 0, .int .u64 0, .int .u64 0, .int .u64 0, .int .u64 0, .int .u64 0, .int .u64 0, .int .u64 0] 30)).setCells (w2.heap.size + 1) 0 (Value.slice a n c :: l)).heap[w2.heap.size]? = some (.cells (Value.slice a n c :: l).toArray 30 (0, 0)) := by
  rw [hcB.block _ (by have := hbC.size; have := (Array.getElem?_eq_some_iff.1 hz2).1; omega) (by omega), heap_alloc_old _ _ (by omega)]; exact hf1
 have HNW := mkHid (Bw.new (W := W) (M := w2.heap.size) (F := w2.heap.size + 1) (CF := (Value.slice a n c :: l).toArray) (HBW.out.trans (b2.mono HBW.out.size)) (fun k hk => by have := hlow k hk; have := HBW.out.size; omega) p2 mz2 tz2 b3 (Nat.le_refl _) (by omega) (by omega) (by rw [← hn, ← hl]; exact hbx) hf2)
 have HN := mkHid hn
 have HL := mkHid hl
 have HLN := mkHid hln
 rw [show (Value.slice a n c :: l).length = (Value.slice a n c :: l).toArray.size from List.size_toArray.symm] at hth1 hth2
 have HR1 := mkHid hr1
 rw [← hn, ← hl]
 clear b2 hlow hrun p2 mz2 tz2 hn hl hfew hz1 b3 hbx hln hf1 hf2 hz2 hcA hcB hbA hbB hbC
 go_wp2_with (first | (with_reducible show wpList _ _ _ (⟨_, Op.store 30 _ _, _, _, _, _⟩ :: _) _ _; refine wpList_store_mid rfl 30 _ _ rfl w2.heap.size 0 _ rfl rfl hth1 (by rw [List.size_toArray, hl17]; exact infoHp) hall ?_) | (with_reducible show wpList _ _ _ (⟨_, Op.load 30 _, _, _, _, _⟩ :: _) _ _; refine wpList_load_mid rfl 30 _ rfl w2.heap.size 0 rfl _ _ hr1 Try.underlying30 rfl (by rw [hl17]; exact infoHp) ?_) | (with_reducible show wpList _ _ _ (⟨_, Op.store 30 _ _, _, _, _, _⟩ :: _) _ _; refine wpList_store_mid rfl 30 _ _ rfl (w2.heap.size + 1) 0 _ rfl rfl hth2 (by rw [List.size_toArray, hl17]; exact infoHp) hall ?_))
 clear hth1 hth2 hr1 h300b h301b h300 h301
 refine HNW.out.mono ?_
 rintro e w3 ⟨K, rfl, own3, hJ3⟩
 have HST := mkHid hJ3.start
 have hnb : n ≤ 300 := by have := HLN.out; have := HN.out; omega
 clear hJ3 HNW HR1 hs3
 go_wp2_with fail
 refine HST.out.mono ?_
 rintro e w4 ⟨rfl, own4, hJ4⟩
 obtain ⟨M, hM⟩ : ∃ M, M = w2.heap.size := ⟨_, rfl⟩
 obtain ⟨F, hF⟩ : ∃ F, F = w2.heap.size + 1 := ⟨_, rfl⟩
 obtain ⟨CF, hCF⟩ : ∃ CF, CF = (Value.slice a n c :: l).toArray := ⟨_, rfl⟩
 obtain ⟨n0, hn0⟩ : ∃ n0, n0 = n := ⟨_, rfl⟩
 rw [← hF, ← hM, ← hCF] at hJ4
 have HST0 : Hid (Bw W w4 i Os rt a ta c tc M F K CF true (mkW K) (startX Os rt) own4 ∧ BInv n0 Os rt (startX Os rt) ∧ MInv Os rt (startX Os rt) ∧ CF = (Value.slice a Os.length c :: rtV rt).toArray ∧ Os.length = n0) := ⟨hJ4, by rw [hn0, HN.out]; exact (MInv.start Os rt).busy, MInv.start Os rt, by rw [hCF, HN.out, HL.out], by rw [hn0, HN.out]⟩
 have hMFl : M ≠ F ∧ W.heap.size ≤ F := hJ4.lo.2
 rw [← hF, ← hM]
 clear hJ4 hM hF hCF HST
 go_wp2_with fail
 have hn0b : n0 ≤ 300 := by omega
 rw [← hn0]
 clear hn0
 go_loopw [9, 14, 15, 16, 17, 18, 19, 20] (fun y9 y14 _ _ _ _ _ _ wr => ∃ (j : Nat) (Os : List Ob) (rt : List Nat) (a ta : Option Addr) (c tc : Nat) (s : List Ob × List Nat) (own : Nat → Prop), y14 = .int .i64 j ∧ y9 = .slice ta Os.length tc ∧ j ≤ mb ∧ Os.length ≤ n0 + j ∧ Bw W wr i Os rt a ta c tc M F K CF true (mkW K) s own ∧ BInv n0 Os rt s ∧ (j = 0 → MInv Os rt s ∧ CF = (Value.slice a Os.length c :: rtV rt).toArray)) (fun _ y14 _ _ _ _ _ _ _ => mb - (intOf y14).toNat)
 case atStart => exact ⟨0, Os, rt, a, ta, c, tc, startX Os rt, own4, rfl, by rw [HST0.out.2.2.2.2], Nat.zero_le _, by rw [HST0.out.2.2.2.2]; exact Nat.le_refl _, HST0.out.1, HST0.out.2.1, fun _ => ⟨HST0.out.2.2.1, HST0.out.2.2.2.1⟩⟩
 case round =>
  clear HST0 HN HL HLN hl17 hall
  obtain ⟨j, Os, rt, a, ta, c, tc, s, own4, rfl, rfl, hjm, hOl, hB, hI, hX⟩ := hrel
  by_cases hlt : j < mb
  ·clear hX
   have hj0' : (0 : Int) ≤ (j : Int) := by omega
   have hj1' : (j : Int) < (mb : Int) := by omega
   have HBS := mkHid hB.below
   have HB := mkHid hB
   have HI0 := mkHid hI
   clear hB hI
   go_upto_if 63 with fail
   go_cut [15] from 55 to 98 (fun y15 wx => ∃ k : Nat, y15 = .int .i64 k ∧ 1 ≤ k ∧ k ≤ 4 ∧ wx = wr)
   case first =>
    by_cases hs0 : 0 < sm
    ·have hs0' : (0 : Int) < (sm : Int) := by omega
     obtain ⟨b, o, rfl, hbl, hk⟩ : ∃ b o, sa = some ⟨b, o, none⟩ ∧ b < W.heap.size ∧ ∀ i, i < sm → W.cell? ⟨b, o + i, none⟩ = some (.int .i64 (sz i)) ∧ (Lit.int .i64 (sz i)).wf = true := by
      rcases HSK.out with h | h
      ·omega
      ·exact h
     obtain ⟨rm, hrm⟩ : ∃ rm, rm = j % sm := ⟨_, rfl⟩
     have hrml : rm < sm := by rw [hrm]; exact Nat.mod_lt _ hs0
     have hrem : Int.tmod (j : Int) (sm : Int) = (rm : Int) := by
      rw [hrm, Int.tmod_eq_emod_of_nonneg (by omega), Int.natCast_emod]
     have hcell : wr.cell? ⟨b, o + rm, none⟩ = some (.int .i64 (sz rm)) := (HBS.out.cell (p := ⟨b, o + rm, none⟩) hbl).trans (hk rm hrml).1
     obtain ⟨k8, hk8⟩ : ∃ k8 : Nat, sz rm % 4 = (k8 : Int) := ⟨(sz rm % 4).toNat, by omega⟩
     have hk8b : k8 < 4 := by omega
     have h7 : bits .and .i64 (sz rm) 3 = (k8 : Int) := by rw [land_3, hk8]
     have hw1 : IntKind.i64.wrap (1 + (k8 : Int)) = ((1 + k8 : Nat) : Int) := by rw [wrap_i64 (by omega) (by omega)]; omega
     have hr0 : (0 : Int) ≤ (rm : Int) := by omega
     have hr1 : (rm : Int) < (sm : Int) := by omega
     have hsmz : ¬ sm = 0 := by omega
     generalize sz rm = sj at hcell h7
     clear hk hrm hk8
     go_wp2_with fail
     go_meet
     case rel => exact ⟨1 + k8, by go_num, by omega, by omega, rfl⟩
    ·have hs0' : ¬ (0 : Int) < (sm : Int) := by omega
     go_wp2_with fail
     go_meet
     case rel => exact ⟨1, rfl, by omega, by omega, rfl⟩
   case rest =>
    obtain ⟨k, rfl, hk1, hk4, rfl⟩ := hcut
    have HSP := mkHid (HB.out.step HI0.out k (by omega) (by omega))
    have HI := mkHid (HI0.out.step k)
    generalize ((stepX k s).2.length == 0) = dn at HSP
    clear HB HI0
    go_wp2_with fail
    refine HSP.out.mono ?_
    rintro e wx ⟨rfl, own5, hB5⟩
    have hJ := hB5.md HI.out
    clear hB5 HSP HI HBS
    obtain ⟨n, hn⟩ : ∃ n, n = Os.length := ⟨_, rfl⟩
    obtain ⟨l, hl⟩ : ∃ l, l = rtV rt := ⟨_, rfl⟩
    have hfew := (kitBj i n0 K F CF).few hJ.j
    dsimp only at hfew
    have hl17 : (Value.slice a n c :: l).length = 17 := by rw [hl]; unfold rtV; rw [List.length_cons, List.length_map]; omega
    have hra : wx.rangeAt M 0 (Value.slice a n c :: l) := by have := hJ.ra; dsimp only at this; rw [← hn, ← hl] at this; exact this
    have HN := mkHid hn
    have HL := mkHid hl
    have HJ := mkHid hJ
    rw [← hn]
    clear hn hl hJ
    obtain ⟨b, o, rfl, hbl, hz⟩ : ∃ b o, db = some ⟨b, o, none⟩ ∧ b < W.heap.size ∧ ∀ i, i < mb → (W.cell? ⟨b, o + i * 6, none⟩ = some (.int .i64 (zb i).d0) ∧ W.cell? ⟨b, o + i * 6 + 1, none⟩ = some (.int .i64 (zb i).d1) ∧ W.cell? ⟨b, o + i * 6 + 2, none⟩ = some (.int .i64 (zb i).d2) ∧ W.cell? ⟨b, o + i * 6 + 3, none⟩ = some (.int .i64 (zb i).d3) ∧ W.cell? ⟨b, o + i * 6 + 4, none⟩ = some (.int .i64 (zb i).d4) ∧ W.cell? ⟨b, o + i * 6 + 5, none⟩ = some (.int .u64 ((zb i).d5 : Int))) ∧ (zb i).d5 < 18446744073709551616 := by
     rcases HDB.out with h | h
     ·omega
     ·exact h
    obtain ⟨⟨e0, e1, e2, e3, e4, e5⟩, hd5⟩ := hz j hlt
    clear hz
    obtain ⟨dz, hdz⟩ : ∃ dz, dz = zb j := ⟨_, rfl⟩
    rw [← hdz] at e0 e1 e2 e3 e4 e5 hd5
    have HDZ := mkHid hdz
    clear hdz
    obtain ⟨d0, d1, d2, d3, d4, d5⟩ := dz
    dsimp only at e0 e1 e2 e3 e4 e5 hd5
    have HST : Hid (∀ u : World, Below W.heap.size W u → u.heap[M]? = some (.cells (Value.slice a n c :: l).toArray 30 (0, 0)) → u.rangeAt M 0 (Value.slice a n c :: l) ∧ u.cell? ⟨b, o + j * 6, none⟩ = some (.int .i64 d0) ∧ u.cell? ⟨b, o + j * 6 + 1, none⟩ = some (.int .i64 d1) ∧ u.cell? ⟨b, o + j * 6 + 2, none⟩ = some (.int .i64 d2) ∧ u.cell? ⟨b, o + j * 6 + 3, none⟩ = some (.int .i64 d3) ∧ u.cell? ⟨b, o + j * 6 + 4, none⟩ = some (.int .i64 d4) ∧ u.cell? ⟨b, o + j * 6 + 5, none⟩ = some (.int .u64 (d5 : Int))) := fun u hu hM => ⟨fun jj x hx => by
     rw [cell_of_row u _ _ _ _ _ hM, Nat.zero_add]; simpa using hx, (hu.cell (p := ⟨b, _, none⟩) hbl).trans e0, (hu.cell (p := ⟨b, _, none⟩) hbl).trans e1, (hu.cell (p := ⟨b, _, none⟩) hbl).trans e2, (hu.cell (p := ⟨b, _, none⟩) hbl).trans e3, (hu.cell (p := ⟨b, _, none⟩) hbl).trans e4, (hu.cell (p := ⟨b, _, none⟩) hbl).trans e5⟩
    have HMB : Hid (wx.heap[M]? = some (.cells (Value.slice a n c :: l).toArray 30 (0, 0))) := by have := HJ.out.m; dsimp only at this; rw [← HN.out, ← HL.out] at this; exact this
    have HPL := mkHid (fun (v : World) (hv : Below wx.heap.size wx v) (N : Nat) (hN : N = M ∨ wx.heap.size ≤ N ∧ N < v.heap.size) => HJ.out.play (kitBj i n0 K F CF) hv N hN ⟨d0, d1, d2, d3, d4, d5⟩ hd5)
    unfold Dd.c at HPL
    dsimp only at HPL
    rw [← HN.out, ← HL.out] at HPL
    have hj0 : (0 : Int) ≤ (j : Int) := by omega
    have hj1 : (j : Int) < (mb : Int) := by omega
    have hlo := HJ.out.lo
    have hMl : M < wx.heap.size := (Array.getElem?_eq_some_iff.1 HMB.out).1
    clear e0 e1 e2 e3 e4 e5
    go_wp2_with fail
    refine' play_join _ (PlyF 16384 1024 (fun (s : Unit) _ => s) (fun (s : Unit) _ => s) (bj i n0 K F CF) W M ⟨d0, d1, d2, d3, d4, d5⟩ (Os, rt, ()) (Value.slice a n c :: l).toArray) ?h1 ?h2
    case h1 =>
     intro HJN
     have hbd : Below W.heap.size W wx.drew := HJ.out.below.drew
     refine wp_region_held_drew (S := fun u => u.rangeAt M 0 (Value.slice a n c :: l) ∧ u.cell? ⟨b, o + j * 6, none⟩ = some (.int .i64 d0) ∧ u.cell? ⟨b, o + j * 6 + 1, none⟩ = some (.int .i64 d1) ∧ u.cell? ⟨b, o + j * 6 + 2, none⟩ = some (.int .i64 d2) ∧ u.cell? ⟨b, o + j * 6 + 3, none⟩ = some (.int .i64 d3) ∧ u.cell? ⟨b, o + j * 6 + 4, none⟩ = some (.int .i64 d4) ∧ u.cell? ⟨b, o + j * 6 + 5, none⟩ = some (.int .u64 (d5 : Int))) (by kernel_rfl) ?_ (fun hHeld => ?_)
     ·exact HST.out _ hbd HMB.out
     refine wpAnyH_take (i := 0) (oi := ⟨some 80, .move (.tmp 7), 24, "law.go:148", #[], none⟩) (v := .pointer (some ⟨i.H, 0, none⟩)) rfl (by kernel_rfl) (by kernel_rfl) (by kernel_rfl) (fun _ _ _ h => h) (Or.inl ⟨by rfl, ?_⟩) hHeld ?_
     ·intro wq hSq
      obtain ⟨s0, s1, s2, s3, s4, s5, s6⟩ := hSq
      clear hHeld
      go_simp
     (try simp only [Act.put, Sx0, Sx1, Sx2])
     refine wpAnyH_take (i := 1) (oi := ⟨some 81, .load 30 (.tmp 8), 30, "law.go:148", #[], none⟩) (v := .agg (Value.slice a n c :: l).toArray) rfl (by kernel_rfl) (by kernel_rfl) (by kernel_rfl) (fun _ _ _ h => h) (yieldsIf_load_mid (by rfl) 30 _ rfl M 0 rfl (Value.slice a n c :: l) _ (fun _ h => h.1) Try.underlying30 rfl (by rw [hl17]; exact infoHp)) hHeld ?_
     (try simp only [Act.put, Sx0, Sx1, Sx2])
     refine wpAnyH_take (i := 2) (oi := ⟨some 82, .move (.tmp 9), 31, "law.go:148", #[], none⟩) (v := .slice ta n tc) rfl (by kernel_rfl) (by kernel_rfl) (by kernel_rfl) (fun _ _ _ h => h) (Or.inl ⟨by rfl, ?_⟩) hHeld ?_
     ·intro wq hSq
      obtain ⟨s0, s1, s2, s3, s4, s5, s6⟩ := hSq
      clear hHeld
      go_simp
     (try simp only [Act.put, Sx0, Sx1, Sx2])
     refine wpAnyH_take (i := 3) (oi := ⟨some 83, .move (.tmp 1), 22, "law.go:148", #[], none⟩) (v := .slice (some ⟨b, o, none⟩) mb bc) rfl (by kernel_rfl) (by kernel_rfl) (by kernel_rfl) (fun _ _ _ h => h) (Or.inl ⟨by rfl, ?_⟩) hHeld ?_
     ·intro wq hSq
      obtain ⟨s0, s1, s2, s3, s4, s5, s6⟩ := hSq
      clear hHeld
      go_simp
     (try simp only [Act.put, Sx0, Sx1, Sx2])
     refine wpAnyH_take (i := 4) (oi := ⟨some 84, .move (.tmp 14), 3, "law.go:148", #[], none⟩) (v := .int .i64 j) rfl (by kernel_rfl) (by kernel_rfl) (by kernel_rfl) (fun _ _ _ h => h) (Or.inl ⟨by rfl, ?_⟩) hHeld ?_
     ·intro wq hSq
      obtain ⟨s0, s1, s2, s3, s4, s5, s6⟩ := hSq
      clear hHeld
      go_simp
     (try simp only [Act.put, Sx0, Sx1, Sx2])
     refine wpAnyH_take (i := 5) (oi := ⟨some 85, .indexAddr 22 (.tmp 83) (.tmp 84), 0, "law.go:148", #[⟨3, .data⟩, ⟨4, .data⟩], none⟩) (v := .pointer (some ⟨b, o + j * 6, none⟩)) rfl (by kernel_rfl) (by kernel_rfl) (by kernel_rfl) (fun _ _ _ h => h) (Or.inl ⟨by rfl, ?_⟩) hHeld ?_
     ·intro wq hSq
      obtain ⟨s0, s1, s2, s3, s4, s5, s6⟩ := hSq
      clear hHeld
      go_simp
     (try simp only [Act.put, Sx0, Sx1, Sx2])
     refine wpAnyH_take (i := 6) (oi := ⟨some 86, .load 35 (.tmp 85), 35, "law.go:148", #[⟨5, .data⟩], none⟩) (v := .agg #[.int .i64 d0, .int .i64 d1, .int .i64 d2, .int .i64 d3, .int .i64 d4, .int .u64 d5]) rfl (by kernel_rfl) (by kernel_rfl) (by kernel_rfl) (fun _ _ _ h => h) (Or.inl ⟨by rfl, ?_⟩) hHeld ?_
     ·intro wq hSq
      obtain ⟨s0, s1, s2, s3, s4, s5, s6⟩ := hSq
      clear hHeld
      go_simp
     (try simp only [Act.put, Sx0, Sx1, Sx2])
     refine wpAnyH_ready (rs := [7, 12]) (by kernel_rfl) (by simp) ?_
     refine AllReadyH.cons (o := ⟨some 87, .call ⟨.value (.func 9), #[.tmp 80, .tmp 81, .tmp 82, .tmp 86], #[24, 30, 31, 35]⟩, 32, "law.go:148", #[⟨0, .data⟩, ⟨1, .data⟩, ⟨2, .data⟩, ⟨6, .data⟩], none⟩) rfl (fun Kr7 hKr7 => ?_) (AllReadyH.cons (o := ⟨some 18, .alloc 30, 0, "law.go:148", #[], none⟩) rfl (fun Kr12 hKr12 => ?_) AllReadyH.nil)
     ·skip
      have hdr : Below wx.heap.size wx wx.drew := (Below.refl _ wx).drew
      go_simp
      go_at_call 9
      refine (HPL.out wx.drew hdr M (Or.inl rfl)).mono ?_
      rintro e w4 ⟨p, a', c', ta', tc', own4, hp, rfl, hN4⟩
      obtain ⟨n', hn'⟩ : ∃ n', n' = p.1.length := ⟨_, rfl⟩
      obtain ⟨l', hl'⟩ : ∃ l', l' = rtV p.2.1 := ⟨_, rfl⟩
      rw [← hn', ← hl']
      have h4M : w4.heap[M]? = some (.cells (Value.slice a n c :: l).toArray 30 (0, 0)) := by rw [(hN4.no M (Or.inl rfl)).2]; exact HMB.out
      have hS7 : w4.rangeAt M 0 (Value.slice a n c :: l) ∧ w4.cell? ⟨b, o + j * 6, none⟩ = some (.int .i64 d0) ∧ w4.cell? ⟨b, o + j * 6 + 1, none⟩ = some (.int .i64 d1) ∧ w4.cell? ⟨b, o + j * 6 + 2, none⟩ = some (.int .i64 d2) ∧ w4.cell? ⟨b, o + j * 6 + 3, none⟩ = some (.int .i64 d3) ∧ w4.cell? ⟨b, o + j * 6 + 4, none⟩ = some (.int .i64 d4) ∧ w4.cell? ⟨b, o + j * 6 + 5, none⟩ = some (.int .u64 (d5 : Int)) := HST.out w4 hN4.below h4M
      have hl17' : (Value.slice a' n' c' :: l').length = 17 := by
       have h16 := ((kitBj i n0 K F CF).few hN4.j).2.2.2.2
       rw [hl']; unfold rtV; rw [List.length_cons, List.length_map]; omega
      have hall' : (Value.slice a' n' c' :: l').toArray.all (·.oneCell') = true := all_oneCell_toArray (fun v hv => by
       rcases List.mem_cons.1 hv with rfl | hv
       ·rfl
       ·rw [hl'] at hv; exact rtV_one p.2.1 v hv)
      have hM4l : M < w4.heap.size := (Array.getElem?_eq_some_iff.1 h4M).1
      have HN4 := mkHid hN4
      have HP := mkHid hp
      have HN' := mkHid hn'
      have HL' := mkHid hl'
      clear hHeld hN4 hp hn' hl'
      go_wp2_with fail
      refine hKr7.out _ _ ?_ (fun hHeld => ?_)
      ·exact hS7
      clear hKr7 Kr7 hS7
      (try simp only [Act.put, Sx0, Sx1, Sx2])
      refine wpAnyH_take (i := 8) (oi := ⟨some 79, .move (.tmp 87), 32, "law.go:148", #[⟨7, .data⟩], none⟩) (v := .tuple #[.agg (Value.slice a' n' c' :: l').toArray, .slice ta' n' tc', .bool true]) rfl (by kernel_rfl) (by kernel_rfl) (by kernel_rfl) (fun _ _ _ h => h) (Or.inl ⟨by rfl, ?_⟩) hHeld ?_
      ·intro wq hSq
       obtain ⟨s0, s1, s2, s3, s4, s5, s6⟩ := hSq
       clear hHeld
       go_simp
      (try simp only [Act.put, Sx0, Sx1, Sx2])
      refine wpAnyH_take (i := 9) (oi := ⟨some 88, .extract (.tmp 79) 0, 30, "law.go:148", #[⟨8, .data⟩], none⟩) (v := .agg (Value.slice a' n' c' :: l').toArray) rfl (by kernel_rfl) (by kernel_rfl) (by kernel_rfl) (fun _ _ _ h => h) (Or.inl ⟨by rfl, ?_⟩) hHeld ?_
      ·intro wq hSq
       obtain ⟨s0, s1, s2, s3, s4, s5, s6⟩ := hSq
       clear hHeld
       go_simp
      (try simp only [Act.put, Sx0, Sx1, Sx2])
      refine wpAnyH_take (i := 10) (oi := ⟨some 89, .extract (.tmp 79) 1, 31, "law.go:148", #[⟨8, .data⟩, ⟨13, .gcOnly .lateStores⟩], none⟩) (v := .slice ta' n' tc') rfl (by kernel_rfl) (by kernel_rfl) (by kernel_rfl) (fun _ _ _ h => h) (Or.inl ⟨by rfl, ?_⟩) hHeld ?_
      ·intro wq hSq
       obtain ⟨s0, s1, s2, s3, s4, s5, s6⟩ := hSq
       clear hHeld
       go_simp
      (try simp only [Act.put, Sx0, Sx1, Sx2])
      refine wpAnyH_take (i := 11) (oi := ⟨some 90, .extract (.tmp 79) 2, 4, "law.go:148", #[⟨8, .data⟩, ⟨14, .gcOnly .lateStores⟩], none⟩) (v := .bool true) rfl (by kernel_rfl) (by kernel_rfl) (by kernel_rfl) (fun _ _ _ h => h) (Or.inl ⟨by rfl, ?_⟩) hHeld ?_
      ·intro wq hSq
       obtain ⟨s0, s1, s2, s3, s4, s5, s6⟩ := hSq
       clear hHeld
       go_simp
      (try simp only [Act.put, Sx0, Sx1, Sx2])
      refine wpAnyH_ready (rs := [12]) (by kernel_rfl) (by simp) ?_
      refine AllReadyH.cons (o := ⟨some 18, .alloc 30, 0, "law.go:148", #[], none⟩) rfl (fun Kr12 hKr12 => ?_) AllReadyH.nil
      have hzb : (w4.alloc (.cells #[.slice none 0 0, .int .u64 0, .int .u64 0, .int .u64 0, .int .u64 0, .int .u64 0, .int .u64 0, .int .u64 0, .int .u64 0, .int .u64 0, .int .u64 0, .int .u64 0, .int .u64 0, .int .u64 0, .int .u64 0, .int .u64 0, .int .u64 0] 30)).heap[w4.heap.size]? = some (.cells #[.slice none 0 0, .int .u64 0, .int .u64 0, .int .u64 0, .int .u64 0, .int .u64 0, .int .u64 0, .int .u64 0, .int .u64 0, .int .u64 0, .int .u64 0, .int .u64 0, .int .u64 0, .int .u64 0, .int .u64 0, .int .u64 0, .int .u64 0] 30 (0, 0)) := heap_alloc_new _ _
      have hba : Below w4.heap.size w4 (w4.alloc (.cells #[.slice none 0 0, .int .u64 0, .int .u64 0, .int .u64 0, .int .u64 0, .int .u64 0, .int .u64 0, .int .u64 0, .int .u64 0, .int .u64 0, .int .u64 0, .int .u64 0, .int .u64 0, .int .u64 0, .int .u64 0, .int .u64 0, .int .u64 0] 30)) := (Below.refl _ _).alloc (Nat.le_refl _) _
      have hbw : Below W.heap.size W (w4.alloc (.cells #[.slice none 0 0, .int .u64 0, .int .u64 0, .int .u64 0, .int .u64 0, .int .u64 0, .int .u64 0, .int .u64 0, .int .u64 0, .int .u64 0, .int .u64 0, .int .u64 0, .int .u64 0, .int .u64 0, .int .u64 0, .int .u64 0, .int .u64 0] 30)) := HN4.out.below.trans (hba.mono HN4.out.below.size)
      have h5M := (hba.block M hM4l).trans h4M
      have hwl : W.heap.size ≤ w4.heap.size := HN4.out.below.size
      have hS12 := HST.out _ hbw h5M
      clear hHeld
      go_simp
      refine hKr12.out _ _ ?_ (fun hHeld => ?_)
      ·exact hS12
      clear hKr12 Kr12 hS12
      (try simp only [Act.put, Sx0, Sx1, Sx2])
      refine wpAnyH_ready (rs := [13]) (by kernel_rfl) (by simp) ?_
      refine AllReadyH.cons (o := ⟨none, .store 30 (.tmp 18) (.tmp 88), 0, "law.go:148", #[⟨12, .data⟩, ⟨9, .data⟩, ⟨7, .chain⟩, ⟨0, .phase⟩, ⟨1, .phase⟩, ⟨2, .phase⟩, ⟨3, .phase⟩, ⟨4, .phase⟩, ⟨5, .phase⟩, ⟨6, .phase⟩, ⟨7, .phase⟩, ⟨8, .phase⟩, ⟨9, .phase⟩, { on := 10, ground := Ground.textOnly Departure.lateStores }, { on := 11, ground := Ground.textOnly Departure.lateStores }, ⟨12, .phase⟩], none⟩) rfl (fun Kr13 hKr13 => ?_) AllReadyH.nil
      obtain ⟨hth, hfil⟩ := box_fill (cs := Value.slice a' n' c' :: l') hzb (by rw [hl17']; rfl)
      rw [if_pos (by rfl)]
      refine wp_store_mid 30 _ _ rfl w4.heap.size 0 _ rfl rfl (by rw [List.size_toArray]; exact hth) (by rw [List.size_toArray, hl17']; exact infoHp) hall' ?_
      have hcN : Chg (fun k => k = w4.heap.size) (w4.alloc (.cells #[.slice none 0 0, .int .u64 0, .int .u64 0, .int .u64 0, .int .u64 0, .int .u64 0, .int .u64 0, .int .u64 0, .int .u64 0, .int .u64 0, .int .u64 0, .int .u64 0, .int .u64 0, .int .u64 0, .int .u64 0, .int .u64 0, .int .u64 0] 30)) ((w4.alloc (.cells #[.slice none 0 0, .int .u64 0, .int .u64 0, .int .u64 0, .int .u64 0, .int .u64 0, .int .u64 0, .int .u64 0, .int .u64 0, .int .u64 0, .int .u64 0, .int .u64 0, .int .u64 0, .int .u64 0, .int .u64 0, .int .u64 0, .int .u64 0] 30)).setCells w4.heap.size 0 (Value.slice a' n' c' :: l')) := Chg.setCells (p := fun k => k = w4.heap.size) rfl _ 0 (Chg.refl _ _)
      have hMN : M ≠ w4.heap.size := by omega
      have hMW2 : ((w4.alloc (.cells #[.slice none 0 0, .int .u64 0, .int .u64 0, .int .u64 0, .int .u64 0, .int .u64 0, .int .u64 0, .int .u64 0, .int .u64 0, .int .u64 0, .int .u64 0, .int .u64 0, .int .u64 0, .int .u64 0, .int .u64 0, .int .u64 0, .int .u64 0] 30)).setCells w4.heap.size 0 (Value.slice a' n' c' :: l')).heap[M]? = some (.cells (Value.slice a n c :: l).toArray 30 (0, 0)) := (hcN.block M (Array.getElem?_eq_some_iff.1 h5M).1 hMN).trans h5M
      have hbW2 : Below W.heap.size W ((w4.alloc (.cells #[.slice none 0 0, .int .u64 0, .int .u64 0, .int .u64 0, .int .u64 0, .int .u64 0, .int .u64 0, .int .u64 0, .int .u64 0, .int .u64 0, .int .u64 0, .int .u64 0, .int .u64 0, .int .u64 0, .int .u64 0, .int .u64 0, .int .u64 0] 30)).setCells w4.heap.size 0 (Value.slice a' n' c' :: l')) := (hbw).trans ⟨hcN.os, hcN.tape, hcN.output, hcN.size, fun k hk => hcN.block k (by have := (hbw).size; omega) (by omega)⟩
      have hS13 := HST.out _ hbW2 hMW2
      clear hHeld hth
      refine hKr13.out _ _ ?_ (fun hHeld => ?_)
      ·exact hS13
      clear hKr13 Kr13 hS13
      (try simp only [Act.put])
      refine wpAnyH_take (i := 14) (oi := ⟨some 19, .assign (.tmp 89), 31, "law.go:148", #[⟨10, .data⟩, ⟨13, .chain⟩, ⟨0, .phase⟩, ⟨1, .phase⟩, ⟨2, .phase⟩, ⟨3, .phase⟩, ⟨4, .phase⟩, ⟨5, .phase⟩, ⟨6, .phase⟩, ⟨7, .phase⟩, ⟨8, .phase⟩, ⟨9, .phase⟩, ⟨10, .phase⟩, { on := 11, ground := Ground.textOnly Departure.lateStores }, ⟨12, .phase⟩, ⟨13, .phase⟩], none⟩) (v := .slice ta' n' tc') rfl (by kernel_rfl) (by kernel_rfl) (by kernel_rfl) (fun _ _ _ h => h) (Or.inl ⟨by rfl, ?_⟩) hHeld ?_
      ·intro wq hSq
       obtain ⟨s0, s1, s2, s3, s4, s5, s6⟩ := hSq
       clear hHeld
       go_simp
      (try simp only [Act.put, Sx0, Sx1, Sx2])
      refine wpAnyH_take (i := 15) (oi := ⟨some 20, .assign (.tmp 90), 4, "law.go:148", #[⟨11, .data⟩, ⟨14, .chain⟩, ⟨0, .phase⟩, ⟨1, .phase⟩, ⟨2, .phase⟩, ⟨3, .phase⟩, ⟨4, .phase⟩, ⟨5, .phase⟩, ⟨6, .phase⟩, ⟨7, .phase⟩, ⟨8, .phase⟩, ⟨9, .phase⟩, ⟨10, .phase⟩, ⟨11, .phase⟩, ⟨12, .phase⟩, ⟨13, .phase⟩, ⟨14, .phase⟩], none⟩) (v := .bool true) rfl (by kernel_rfl) (by kernel_rfl) (by kernel_rfl) (fun _ _ _ h => h) (Or.inl ⟨by rfl, ?_⟩) hHeld ?_
      ·intro wq hSq
       obtain ⟨s0, s1, s2, s3, s4, s5, s6⟩ := hSq
       clear hHeld
       go_simp
      (try simp only [Act.put, Sx0, Sx1, Sx2])
      refine wpAnyH_done (by kernel_rfl) ?_ _
      clear hHeld
      have hfx : ∀ w6, Chg (fun k => k = M) _ w6 → w6.heap[M]? = some (.cells (Value.slice a' n' c' :: l').toArray 30 (0, 0)) → Md1 (bj i n0 K F CF) W w6 M p a' ta' c' tc' own4 := fun w6 hc6 hm6 => HN4.out.next (kitBj i n0 K F CF) hlo (N2 := w4.heap.size) (Or.inr (Nat.le_refl _)) (((Chg.of_below hba).trans (hcN.mono fun k _ e => Or.inr e)).trans (hc6.mono fun k _ e => Or.inl e)) (by omega) (by rw [← HN'.out, ← HL'.out]; exact hm6)
      have hFA := (⟨hl17', hall', hfil, hMW2, hbW2, hMN, by omega, p, own4, HP.out, HN'.out, HL'.out, hfx⟩ : PlyF 16384 1024 (fun (s : Unit) _ => s) (fun (s : Unit) _ => s) (bj i n0 K F CF) W M ⟨d0, d1, d2, d3, d4, d5⟩ (Os, rt, ()) (Value.slice a n c :: l).toArray _ _ n' c' tc' a' ta' l')
      obtain ⟨N, hNN⟩ : ∃ N, N = w4.heap.size := ⟨_, rfl⟩
      rw [← hNN] at hFA ⊢
      exact HJN _ N n' c' tc' a' ta' l' hFA
     ·skip
      have hzb0 : (wx.drew.alloc (.cells #[.slice none 0 0, .int .u64 0, .int .u64 0, .int .u64 0, .int .u64 0, .int .u64 0, .int .u64 0, .int .u64 0, .int .u64 0, .int .u64 0, .int .u64 0, .int .u64 0, .int .u64 0, .int .u64 0, .int .u64 0, .int .u64 0, .int .u64 0] 30)).heap[wx.heap.size]? = some (.cells #[.slice none 0 0, .int .u64 0, .int .u64 0, .int .u64 0, .int .u64 0, .int .u64 0, .int .u64 0, .int .u64 0, .int .u64 0, .int .u64 0, .int .u64 0, .int .u64 0, .int .u64 0, .int .u64 0, .int .u64 0, .int .u64 0, .int .u64 0] 30 (0, 0)) := heap_alloc_new wx.drew _
      have hba : Below wx.heap.size wx (wx.drew.alloc (.cells #[.slice none 0 0, .int .u64 0, .int .u64 0, .int .u64 0, .int .u64 0, .int .u64 0, .int .u64 0, .int .u64 0, .int .u64 0, .int .u64 0, .int .u64 0, .int .u64 0, .int .u64 0, .int .u64 0, .int .u64 0, .int .u64 0, .int .u64 0] 30)) := ((Below.refl _ wx).drew).alloc (Nat.le_refl _) _
      have hbw : Below W.heap.size W (wx.drew.alloc (.cells #[.slice none 0 0, .int .u64 0, .int .u64 0, .int .u64 0, .int .u64 0, .int .u64 0, .int .u64 0, .int .u64 0, .int .u64 0, .int .u64 0, .int .u64 0, .int .u64 0, .int .u64 0, .int .u64 0, .int .u64 0, .int .u64 0, .int .u64 0] 30)) := HJ.out.below.trans (hba.mono HJ.out.below.size)
      have hM0 : (wx.drew.alloc (.cells #[.slice none 0 0, .int .u64 0, .int .u64 0, .int .u64 0, .int .u64 0, .int .u64 0, .int .u64 0, .int .u64 0, .int .u64 0, .int .u64 0, .int .u64 0, .int .u64 0, .int .u64 0, .int .u64 0, .int .u64 0, .int .u64 0, .int .u64 0] 30)).heap[M]? = some (.cells (Value.slice a n c :: l).toArray 30 (0, 0)) := (hba.block M hMl).trans HMB.out
      have hwl : W.heap.size ≤ wx.heap.size := HJ.out.below.size
      have hS12 := HST.out _ hbw hM0
      clear hHeld
      go_simp
      refine hKr12.out _ _ ?_ (fun hHeld => ?_)
      ·exact hS12
      clear hKr12 Kr12 hS12
      (try simp only [Act.put, Sx0, Sx1, Sx2])
      refine wpAnyH_ready (rs := [7]) (by kernel_rfl) (by simp) ?_
      refine AllReadyH.cons (o := ⟨some 87, .call ⟨.value (.func 9), #[.tmp 80, .tmp 81, .tmp 82, .tmp 86], #[24, 30, 31, 35]⟩, 32, "law.go:148", #[⟨0, .data⟩, ⟨1, .data⟩, ⟨2, .data⟩, ⟨6, .data⟩], none⟩) rfl (fun Kr7 hKr7 => ?_) AllReadyH.nil
      go_simp
      go_at_call 9
      refine (HPL.out (wx.drew.alloc (.cells #[.slice none 0 0, .int .u64 0, .int .u64 0, .int .u64 0, .int .u64 0, .int .u64 0, .int .u64 0, .int .u64 0, .int .u64 0, .int .u64 0, .int .u64 0, .int .u64 0, .int .u64 0, .int .u64 0, .int .u64 0, .int .u64 0, .int .u64 0] 30)) hba wx.heap.size (Or.inr ⟨Nat.le_refl _, (Array.getElem?_eq_some_iff.1 hzb0).1⟩)).mono ?_
      rintro e w4 ⟨p, a', c', ta', tc', own4, hp, rfl, hN4⟩
      obtain ⟨n', hn'⟩ : ∃ n', n' = p.1.length := ⟨_, rfl⟩
      obtain ⟨l', hl'⟩ : ∃ l', l' = rtV p.2.1 := ⟨_, rfl⟩
      rw [← hn', ← hl']
      have h4M : w4.heap[M]? = some (.cells (Value.slice a n c :: l).toArray 30 (0, 0)) := by rw [(hN4.no M (Or.inl rfl)).2]; exact hM0
      have hS7 : w4.rangeAt M 0 (Value.slice a n c :: l) ∧ w4.cell? ⟨b, o + j * 6, none⟩ = some (.int .i64 d0) ∧ w4.cell? ⟨b, o + j * 6 + 1, none⟩ = some (.int .i64 d1) ∧ w4.cell? ⟨b, o + j * 6 + 2, none⟩ = some (.int .i64 d2) ∧ w4.cell? ⟨b, o + j * 6 + 3, none⟩ = some (.int .i64 d3) ∧ w4.cell? ⟨b, o + j * 6 + 4, none⟩ = some (.int .i64 d4) ∧ w4.cell? ⟨b, o + j * 6 + 5, none⟩ = some (.int .u64 (d5 : Int)) := HST.out w4 hN4.below h4M
      have hl17' : (Value.slice a' n' c' :: l').length = 17 := by
       have h16 := ((kitBj i n0 K F CF).few hN4.j).2.2.2.2
       rw [hl']; unfold rtV; rw [List.length_cons, List.length_map]; omega
      have hall' : (Value.slice a' n' c' :: l').toArray.all (·.oneCell') = true := all_oneCell_toArray (fun v hv => by
       rcases List.mem_cons.1 hv with rfl | hv
       ·rfl
       ·rw [hl'] at hv; exact rtV_one p.2.1 v hv)
      have hM4l : M < w4.heap.size := (Array.getElem?_eq_some_iff.1 h4M).1
      have HN4 := mkHid hN4
      have HP := mkHid hp
      have HN' := mkHid hn'
      have HL' := mkHid hl'
      clear hHeld hN4 hp hn' hl'
      go_wp2_with fail
      refine hKr7.out _ _ ?_ (fun hHeld => ?_)
      ·exact hS7
      clear hKr7 Kr7 hS7
      (try simp only [Act.put, Sx0, Sx1, Sx2])
      refine wpAnyH_take (i := 8) (oi := ⟨some 79, .move (.tmp 87), 32, "law.go:148", #[⟨7, .data⟩], none⟩) (v := .tuple #[.agg (Value.slice a' n' c' :: l').toArray, .slice ta' n' tc', .bool true]) rfl (by kernel_rfl) (by kernel_rfl) (by kernel_rfl) (fun _ _ _ h => h) (Or.inl ⟨by rfl, ?_⟩) hHeld ?_
      ·intro wq hSq
       obtain ⟨s0, s1, s2, s3, s4, s5, s6⟩ := hSq
       clear hHeld
       go_simp
      (try simp only [Act.put, Sx0, Sx1, Sx2])
      refine wpAnyH_take (i := 9) (oi := ⟨some 88, .extract (.tmp 79) 0, 30, "law.go:148", #[⟨8, .data⟩], none⟩) (v := .agg (Value.slice a' n' c' :: l').toArray) rfl (by kernel_rfl) (by kernel_rfl) (by kernel_rfl) (fun _ _ _ h => h) (Or.inl ⟨by rfl, ?_⟩) hHeld ?_
      ·intro wq hSq
       obtain ⟨s0, s1, s2, s3, s4, s5, s6⟩ := hSq
       clear hHeld
       go_simp
      (try simp only [Act.put, Sx0, Sx1, Sx2])
      refine wpAnyH_take (i := 10) (oi := ⟨some 89, .extract (.tmp 79) 1, 31, "law.go:148", #[⟨8, .data⟩, ⟨13, .gcOnly .lateStores⟩], none⟩) (v := .slice ta' n' tc') rfl (by kernel_rfl) (by kernel_rfl) (by kernel_rfl) (fun _ _ _ h => h) (Or.inl ⟨by rfl, ?_⟩) hHeld ?_
      ·intro wq hSq
       obtain ⟨s0, s1, s2, s3, s4, s5, s6⟩ := hSq
       clear hHeld
       go_simp
      (try simp only [Act.put, Sx0, Sx1, Sx2])
      refine wpAnyH_take (i := 11) (oi := ⟨some 90, .extract (.tmp 79) 2, 4, "law.go:148", #[⟨8, .data⟩, ⟨14, .gcOnly .lateStores⟩], none⟩) (v := .bool true) rfl (by kernel_rfl) (by kernel_rfl) (by kernel_rfl) (fun _ _ _ h => h) (Or.inl ⟨by rfl, ?_⟩) hHeld ?_
      ·intro wq hSq
       obtain ⟨s0, s1, s2, s3, s4, s5, s6⟩ := hSq
       clear hHeld
       go_simp
      (try simp only [Act.put, Sx0, Sx1, Sx2])
      refine wpAnyH_ready (rs := [13]) (by kernel_rfl) (by simp) ?_
      refine AllReadyH.cons (o := ⟨none, .store 30 (.tmp 18) (.tmp 88), 0, "law.go:148", #[⟨12, .data⟩, ⟨9, .data⟩, ⟨7, .chain⟩, ⟨0, .phase⟩, ⟨1, .phase⟩, ⟨2, .phase⟩, ⟨3, .phase⟩, ⟨4, .phase⟩, ⟨5, .phase⟩, ⟨6, .phase⟩, ⟨7, .phase⟩, ⟨8, .phase⟩, ⟨9, .phase⟩, { on := 10, ground := Ground.textOnly Departure.lateStores }, { on := 11, ground := Ground.textOnly Departure.lateStores }, ⟨12, .phase⟩], none⟩) rfl (fun Kr13 hKr13 => ?_) AllReadyH.nil
      have hzb : w4.heap[wx.heap.size]? = some (.cells #[.slice none 0 0, .int .u64 0, .int .u64 0, .int .u64 0, .int .u64 0, .int .u64 0, .int .u64 0, .int .u64 0, .int .u64 0, .int .u64 0, .int .u64 0, .int .u64 0, .int .u64 0, .int .u64 0, .int .u64 0, .int .u64 0, .int .u64 0] 30 (0, 0)) := by rw [(HN4.out.no wx.heap.size (Or.inr rfl)).2]; exact hzb0
      obtain ⟨hth, hfil⟩ := box_fill (cs := Value.slice a' n' c' :: l') hzb (by rw [hl17']; rfl)
      rw [if_pos (by rfl)]
      refine wp_store_mid 30 _ _ rfl wx.heap.size 0 _ rfl rfl (by rw [List.size_toArray]; exact hth) (by rw [List.size_toArray, hl17']; exact infoHp) hall' ?_
      have hcN : Chg (fun k => k = wx.heap.size) w4 (w4.setCells wx.heap.size 0 (Value.slice a' n' c' :: l')) := Chg.setCells (p := fun k => k = wx.heap.size) rfl _ 0 (Chg.refl _ _)
      have hMN : M ≠ wx.heap.size := by omega
      have hMW2 : (w4.setCells wx.heap.size 0 (Value.slice a' n' c' :: l')).heap[M]? = some (.cells (Value.slice a n c :: l).toArray 30 (0, 0)) := (hcN.block M (Array.getElem?_eq_some_iff.1 h4M).1 hMN).trans h4M
      have hbW2 : Below W.heap.size W (w4.setCells wx.heap.size 0 (Value.slice a' n' c' :: l')) := (HN4.out.below).trans ⟨hcN.os, hcN.tape, hcN.output, hcN.size, fun k hk => hcN.block k (by have := (HN4.out.below).size; omega) (by omega)⟩
      have hS13 := HST.out _ hbW2 hMW2
      clear hHeld hth
      refine hKr13.out _ _ ?_ (fun hHeld => ?_)
      ·exact hS13
      clear hKr13 Kr13 hS13
      (try simp only [Act.put])
      refine wpAnyH_take (i := 14) (oi := ⟨some 19, .assign (.tmp 89), 31, "law.go:148", #[⟨10, .data⟩, ⟨13, .chain⟩, ⟨0, .phase⟩, ⟨1, .phase⟩, ⟨2, .phase⟩, ⟨3, .phase⟩, ⟨4, .phase⟩, ⟨5, .phase⟩, ⟨6, .phase⟩, ⟨7, .phase⟩, ⟨8, .phase⟩, ⟨9, .phase⟩, ⟨10, .phase⟩, { on := 11, ground := Ground.textOnly Departure.lateStores }, ⟨12, .phase⟩, ⟨13, .phase⟩], none⟩) (v := .slice ta' n' tc') rfl (by kernel_rfl) (by kernel_rfl) (by kernel_rfl) (fun _ _ _ h => h) (Or.inl ⟨by rfl, ?_⟩) hHeld ?_
      ·intro wq hSq
       obtain ⟨s0, s1, s2, s3, s4, s5, s6⟩ := hSq
       clear hHeld
       go_simp
      (try simp only [Act.put, Sx0, Sx1, Sx2])
      refine wpAnyH_take (i := 15) (oi := ⟨some 20, .assign (.tmp 90), 4, "law.go:148", #[⟨11, .data⟩, ⟨14, .chain⟩, ⟨0, .phase⟩, ⟨1, .phase⟩, ⟨2, .phase⟩, ⟨3, .phase⟩, ⟨4, .phase⟩, ⟨5, .phase⟩, ⟨6, .phase⟩, ⟨7, .phase⟩, ⟨8, .phase⟩, ⟨9, .phase⟩, ⟨10, .phase⟩, ⟨11, .phase⟩, ⟨12, .phase⟩, ⟨13, .phase⟩, ⟨14, .phase⟩], none⟩) (v := .bool true) rfl (by kernel_rfl) (by kernel_rfl) (by kernel_rfl) (fun _ _ _ h => h) (Or.inl ⟨by rfl, ?_⟩) hHeld ?_
      ·intro wq hSq
       obtain ⟨s0, s1, s2, s3, s4, s5, s6⟩ := hSq
       clear hHeld
       go_simp
      (try simp only [Act.put, Sx0, Sx1, Sx2])
      refine wpAnyH_done (by kernel_rfl) ?_ _
      clear hHeld
      have hfx : ∀ w6, Chg (fun k => k = M) _ w6 → w6.heap[M]? = some (.cells (Value.slice a' n' c' :: l').toArray 30 (0, 0)) → Md1 (bj i n0 K F CF) W w6 M p a' ta' c' tc' own4 := fun w6 hc6 hm6 => HN4.out.next (kitBj i n0 K F CF) hlo (N2 := wx.heap.size) (Or.inl rfl) ((hcN.mono fun k _ e => Or.inr e).trans (hc6.mono fun k _ e => Or.inl e)) (by omega) (by rw [← HN'.out, ← HL'.out]; exact hm6)
      have hFA := (⟨hl17', hall', hfil, hMW2, hbW2, hMN, by omega, p, own4, HP.out, HN'.out, HL'.out, hfx⟩ : PlyF 16384 1024 (fun (s : Unit) _ => s) (fun (s : Unit) _ => s) (bj i n0 K F CF) W M ⟨d0, d1, d2, d3, d4, d5⟩ (Os, rt, ()) (Value.slice a n c :: l).toArray _ _ n' c' tc' a' ta' l')
      obtain ⟨N, hNN⟩ : ∃ N, N = wx.heap.size := ⟨_, rfl⟩
      rw [← hNN] at hFA ⊢
      exact HJN _ N n' c' tc' a' ta' l' hFA
    case h2 =>
     clear HPL HST HMB
     rintro W5 N n' c' tc' a' ta' l' ⟨hl17', hall', hN5, hM5, hb5, hMN, hlN, p, own4, hp, hn', hl', hfx⟩
     have hrN : W5.rangeAt N 0 (Value.slice a' n' c' :: l') := fun jj u hu => by rw [cell_of_row W5 _ _ _ _ _ hN5, Nat.zero_add]; simpa using hu
     obtain ⟨hthM, hfM⟩ := box_fill (cs := Value.slice a' n' c' :: l') hM5 (by rw [hl17', List.size_toArray, hl17])
     have hfin := hfx (W5.setCells M 0 (Value.slice a' n' c' :: l')) (Chg.setCells (p := fun k => k = M) rfl _ 0 (Chg.refl _ _)) hfM
     have HFIN := mkHid hfin
     have HP := mkHid hp
     have HN' := mkHid hn'
     have HHL' := mkHid hl'
     rw [show (Value.slice a' n' c' :: l').length = (Value.slice a' n' c' :: l').toArray.size from List.size_toArray.symm] at hthM
     clear hp hn' hl' hfx hfin hN5 hM5 hfM hb5
     go_wp2_with (first | (with_reducible show wpList _ _ _ (⟨_, Op.load 30 _, _, _, _, _⟩ :: _) _ _; refine wpList_load_mid rfl 30 _ rfl N 0 rfl _ _ hrN Try.underlying30 rfl (by rw [hl17']; exact infoHp) ?_) | (with_reducible show wpList _ _ _ (⟨_, Op.store 30 _ _, _, _, _, _⟩ :: _) _ _; refine wpList_store_mid rfl 30 _ _ rfl M 0 _ rfl rfl hthM (by rw [List.size_toArray, hl17']; exact infoHp) hall' ?_))
     have hpl := stepP_len 16384 1024 (fun (s : Unit) _ => s) (fun (s : Unit) _ => s) ⟨d0, d1, d2, d3, d4, d5⟩ Os rt ()
     have HPL2 : Hid (p.1.length ≤ n0 + (j + 1)) := by
      show p.1.length ≤ _
      rw [HP.out]; exact Nat.le_trans hpl (by omega)
     clear hpl
     go_roundw
     case rel =>
      obtain ⟨s6, own6, hB6, hI6⟩ := HFIN.out.bw hMFl
      exact ⟨j + 1, p.1, p.2.1, a', ta', c', tc', s6, own6, by go_num, by rw [HN'.out], by omega, HPL2.out, hB6, hI6, fun h => by omega⟩
     case measure => simp [intOf]; omega
  ·skip
   have hnj : ¬ (j : Int) < (mb : Int) := by omega
   have HX : Hid (mb = 0 → MInv Os rt s ∧ CF = (Value.slice a Os.length c :: rtV rt).toArray) := fun h => hX (by omega)
   have HB := mkHid hB
   have HI := mkHid hI
   have hlf : left s ≤ 600 := by
    have h1 := left_le hB.ms
    have h2 := hB.like.1
    omega
   have hOb : Os.length ≤ 600 := by omega
   clear hX hB hI hjm
   obtain ⟨n, hn⟩ : ∃ n, n = Os.length := ⟨_, rfl⟩
   rw [← hn]
   have HN := mkHid hn
   have hnb : n ≤ 600 := by omega
   clear hn
   go_wp2_with fail
   go_loopw [21, 22, 23, 24] (fun y21 y22 _ _ wr => ∃ (t : Nat) (dn : Bool) (s : List Ob × List Nat) (own : Nat → Prop), y21 = .bool dn ∧ y22 = .int .i64 t ∧ t ≤ 201 ∧ Bw W wr i Os rt a ta c tc M F K CF true (mkW K) s own ∧ BInv n0 Os rt s ∧ (mb = 0 → MInv Os rt s) ∧ (dn = false → left s + 3 * t ≤ 600) ∧ (dn = true → s.2 = [])) (fun _ y22 _ _ _ => 1000 - (intOf y22).toNat)
   case atStart => exact ⟨0, false, s, own4, rfl, rfl, by omega, HB.out, HI.out, fun h => (HX.out h).1, fun _ => by omega, fun h => by cases h⟩
   case round =>
    have HCX : Hid (mb = 0 → CF = (Value.slice a Os.length c :: rtV rt).toArray) := fun h => (HX.out h).2
    clear HB HI HX hlf
    clear s own4
    obtain ⟨t, dn, s, own4, rfl, rfl, ht2, hB, hI, hX, hdf, hdt⟩ := hrel
    have ht1 : (t : Int) < 1000 := by omega
    cases dn with
    | false =>
     have hlf := hdf rfl
     clear hdf hdt
     have HSP := mkHid (hB.step hI 3 (by omega) (by omega))
     have HI := mkHid (hI.step 3)
     have HXX : Hid (mb = 0 → MInv Os rt (stepX 3 s)) := fun h => (hX h).step 3
     have HLS := mkHid (left_step 3 s)
     clear hB hI hX
     obtain ⟨s', hs'⟩ : ∃ s', s' = stepX 3 s := ⟨_, rfl⟩
     rw [← hs'] at HSP HI HXX HLS
     clear hs'
     obtain ⟨q, hq⟩ : ∃ q, q = s'.2.length := ⟨_, rfl⟩
     rw [← hq] at HSP
     have HQ := mkHid hq
     clear hq
     by_cases hq0 : q = 0
     ·have hqb : (q == 0) = true := by rw [hq0]; rfl
      rw [hqb] at HSP
      have HQ0 := mkHid hq0
      clear hqb hq0
      go_wp2_with fail
      refine HSP.out.mono ?_
      rintro e w5 ⟨rfl, own7, hJ7⟩
      have HJ7 := mkHid hJ7
      clear hJ7
      go_wp2_with fail
      go_roundw
      case rel => exact ⟨t + 1, true, s', own7, rfl, by go_num, by omega, HJ7.out, HI.out, HXX.out, (fun h => by cases h), fun _ => List.eq_nil_of_length_eq_zero (by rw [← HQ.out]; exact HQ0.out)⟩
      case measure => simp [intOf]; omega
     ·have hqb : (q == 0) = false := beq_eq_false_iff_ne.2 hq0
      rw [hqb] at HSP
      have HLL : Hid (left s' + 3 * (t + 1) ≤ 600 ∧ t + 1 ≤ 201) := by
       rcases HLS.out with h1 | h1
       ·have h2 : 0 < left s' := by
         have := HQ.out
         unfold left
         omega
        exact ⟨by omega, by omega⟩
       ·exact absurd (by rw [HQ.out, h1]; rfl) hq0
      clear hqb
      go_wp2_with fail
      refine HSP.out.mono ?_
      rintro e w5 ⟨rfl, own7, hJ7⟩
      have HJ7 := mkHid hJ7
      clear hJ7
      go_wp2_with fail
      go_roundw
      case rel => exact ⟨t + 1, false, s', own7, rfl, by go_num, HLL.out.2, HJ7.out, HI.out, HXX.out, (fun _ => HLL.out.1), fun h => by cases h⟩
      case measure => simp [intOf]; omega
    | true =>
     have hs0 := hdt rfl
     have HMR : Hid (∀ k, Rch Os rt k → Mkd s.1 k) := fun k hr => hI.done hs0 hr
     have HMA := mkHid hI.made
     have HEX : Hid (mb = 0 → ∀ k, Mkd s.1 k → Rch Os rt k) := fun h k hk => (hX h).sound k hk
     obtain ⟨w5, hw5⟩ : ∃ w5, w5 = wr := ⟨_, rfl⟩
     rw [← hw5] at hB ⊢
     obtain ⟨l, hl⟩ : ∃ l, l = rtV rt := ⟨_, rfl⟩
     have hl17 : (Value.slice a n c :: l).length = 17 := by
      have := hB.mg.few.2.1
      rw [hl]; unfold rtV; rw [List.length_cons, List.length_map]; omega
     have HBZ := mkHid hB
     have HL := mkHid hl
     clear hB hI hX hdf hdt hs0 hw5 hl hOl hOb
     go_wp2_with fail
     go_loopw [25, 26, 27] (fun y25 _ _ wr => ∃ j2 : Nat, y25 = .int .i64 j2 ∧ j2 ≤ n ∧ Below w5.heap.size w5 wr) (fun y25 _ _ _ => n - (intOf y25).toNat)
     case atStart => exact ⟨0, rfl, Nat.zero_le _, Below.refl _ _⟩
     case round =>
      obtain ⟨j2, rfl, hj2, hb2⟩ := hrel
      by_cases hlt2 : j2 < n
      ·have hJ8 := HBZ.out.sub hb2
       have hjO : j2 < Os.length := by rw [← HN.out]; exact hlt2
       obtain ⟨g, rfl, hgl, hgc⟩ := hJ8.mg.told (by omega)
       have hgj := hgc j2 hjO
       obtain ⟨x2, hx2⟩ : ∃ x2, x2 = hnd j2 1 := ⟨_, rfl⟩
       rw [← hx2] at hgj
       have HGJ := mkHid hgj
       have HRM : Hid (∀ u, Below wr.heap.size wr u → u.rangeAt M 0 (Value.slice a n c :: l)) := fun u hu => by
        have := (hJ8.sub hu).mg.ra; rw [← HN.out, ← HL.out] at this; exact this
       have HRF : Hid (mb = 0 → ∀ u, Below wr.heap.size wr u → u.rangeAt F 0 (Value.slice a n c :: l)) := fun h0 u hu => by
        have h1 := (hJ8.sub hu).fx
        rw [HCX.out h0, ← HN.out, ← HL.out] at h1
        exact fun jj v hv => by rw [cell_of_row _ _ _ _ _ _ h1, Nat.zero_add]; simpa using hv
       have HRE : Hid (∀ v, Below wr.heap.size wr v → Calls Try.prog 31 #[.agg (Value.slice a n c :: l).toArray, .int .u64 (x2 : Int)] v fun e w' => ∃ r : Bool, e = .returned (.bool r) ∧ (r = true ↔ Rch Os rt j2) ∧ Below v.heap.size v w') := fun v hv => by
        have := (hJ8.sub hv).mg.reached hjO
        rw [← HN.out, ← HL.out, ← hx2] at this
        exact this
       have hmk := hJ8.marked hjO
       rw [← hx2] at hmk
       obtain ⟨bm, hbm⟩ : ∃ bm, bm = (oat s.1 j2).mark := ⟨_, rfl⟩
       rw [← hbm] at hmk
       have HMK := mkHid hmk
       have HMA2 : Hid (n0 ≤ j2 → bm = true) := fun h => by rw [hbm]; exact HMA.out j2 h hjO
       have HB2 := mkHid hb2
       have hj0 : (0 : Int) ≤ (j2 : Int) := by omega
       have hj1 : (j2 : Int) < (n : Int) := by omega
       have HBM : Hid ((oat s.1 j2).mark = bm) := hbm.symm
       clear hJ8 hgc hx2 hb2 hmk hbm
       go_wp2_with fail
       refine HMK.out.mono ?_
       rintro e w6 ⟨rfl, b6⟩
       have HB6 := mkHid b6
       clear b6 hgj
       cases bm with
       | true =>
        by_cases hat : j2 < n0
        ·have hat1 : (j2 : Int) < (n0 : Int) := by omega
         by_cases hmb0 : mb = 0
         ·have hmbe : ((mb : Int) == 0) = true := by rw [hmb0]; rfl
          have HM0 := mkHid hmb0
          clear hmb0
          have HSx : Hid (∀ u : World, Below wr.heap.size wr u → u.rangeAt F 0 (Value.slice a n c :: l) ∧ u.cell? ⟨g, j2, none⟩ = some (.int .u64 (x2 : Int))) := fun u hu => ⟨HRF.out HM0.out u hu, (hu.cell (p := ⟨g, j2, none⟩) hgl).trans HGJ.out⟩
          go_wp2_with fail
          refine wp_region_held_drew (S := fun u => u.rangeAt F 0 (Value.slice a n c :: l) ∧ u.cell? ⟨g, j2, none⟩ = some (.int .u64 (x2 : Int))) (by kernel_rfl) ?_ (fun hHeld => ?_)
          ·exact HSx.out _ HB6.out.drew
          refine wpAnyH_take (i := 0) (oi := ⟨some 132, .move (.tmp 27), 45, "law.go:168", #[], none⟩) (v := .int .i64 0) rfl (by kernel_rfl) (by kernel_rfl) (by kernel_rfl) (fun _ _ _ h => h) (Or.inl ⟨by rfl, ?_⟩) hHeld ?_
          ·intro wq hSq
           obtain ⟨s0, s1⟩ := hSq
           clear hHeld
           go_simp
          (try simp only [Act.put, Sx0, Sx1, Sx2])
          refine wpAnyH_take (i := 1) (oi := ⟨some 133, .binOp .neq 45 (.tmp 132) (.const (.int .i64 0)) 45, 4, "law.go:168", #[⟨0, .data⟩], none⟩) (v := .bool false) rfl (by kernel_rfl) (by kernel_rfl) (by kernel_rfl) (fun _ _ _ h => h) (Or.inl ⟨by rfl, ?_⟩) hHeld ?_
          ·intro wq hSq
           obtain ⟨s0, s1⟩ := hSq
           clear hHeld
           go_simp
          (try simp only [Act.put, Sx0, Sx1, Sx2])
          refine wpAnyH_take (i := 2) (oi := ⟨some 134, .move (.tmp 133), 4, "law.go:168", #[⟨1, .data⟩], none⟩) (v := .bool false) rfl (by kernel_rfl) (by kernel_rfl) (by kernel_rfl) (fun _ _ _ h => h) (Or.inl ⟨by rfl, ?_⟩) hHeld ?_
          ·intro wq hSq
           obtain ⟨s0, s1⟩ := hSq
           clear hHeld
           go_simp
          (try simp only [Act.put, Sx0, Sx1, Sx2])
          refine wpAnyH_take (i := 3) (oi := ⟨some 135, .move (.tmp 26), 4, "law.go:168", #[⟨2, .guard⟩], some (2, false)⟩) (v := .bool true) rfl (by kernel_rfl) (by kernel_rfl) (by kernel_rfl) (fun _ _ _ h => h) (Or.inl ⟨by rfl, ?_⟩) hHeld ?_
          ·intro wq hSq
           obtain ⟨s0, s1⟩ := hSq
           clear hHeld
           go_simp
          (try simp only [Act.put, Sx0, Sx1, Sx2])
          refine wpAnyH_take (i := 4) (oi := ⟨some 136, .unOp .not 4 (.tmp 135), 4, "law.go:168", #[⟨3, .data⟩, ⟨2, .guard⟩], some (2, false)⟩) (v := .bool false) rfl (by kernel_rfl) (by kernel_rfl) (by kernel_rfl) (fun _ _ _ h => h) (Or.inl ⟨by rfl, ?_⟩) hHeld ?_
          ·intro wq hSq
           obtain ⟨s0, s1⟩ := hSq
           clear hHeld
           go_simp
          (try simp only [Act.put, Sx0, Sx1, Sx2])
          refine wpAnyH_take (i := 5) (oi := ⟨some 137, .move (.tmp 136), 4, "law.go:168", #[⟨4, .data⟩, ⟨2, .chain⟩, ⟨2, .guard⟩], some (2, false)⟩) (v := .bool false) rfl (by kernel_rfl) (by kernel_rfl) (by kernel_rfl) (fun _ _ _ h => h) (Or.inl ⟨by rfl, ?_⟩) hHeld ?_
          ·intro wq hSq
           obtain ⟨s0, s1⟩ := hSq
           clear hHeld
           go_simp
          (try simp only [Act.put, Sx0, Sx1, Sx2])
          refine wpAnyH_take (i := 6) (oi := ⟨some 138, .load 30 (.tmp 8), 30, "law.go:168", #[⟨5, .guard⟩], some (5, true)⟩) (v := undef) rfl (by kernel_rfl) (by kernel_rfl) (by kernel_rfl) (fun _ _ _ h => h) (Or.inr ⟨by rfl, rfl⟩) hHeld ?_
          (try simp only [Act.put, Sx0, Sx1, Sx2])
          refine wpAnyH_take (i := 7) (oi := ⟨some 139, .move (.tmp 9), 31, "law.go:168", #[⟨5, .guard⟩], some (5, true)⟩) (v := undef) rfl (by kernel_rfl) (by kernel_rfl) (by kernel_rfl) (fun _ _ _ h => h) (Or.inr ⟨by rfl, rfl⟩) hHeld ?_
          (try simp only [Act.put, Sx0, Sx1, Sx2])
          refine wpAnyH_take (i := 8) (oi := ⟨some 140, .move (.tmp 25), 3, "law.go:168", #[⟨5, .guard⟩], some (5, true)⟩) (v := undef) rfl (by kernel_rfl) (by kernel_rfl) (by kernel_rfl) (fun _ _ _ h => h) (Or.inr ⟨by rfl, rfl⟩) hHeld ?_
          (try simp only [Act.put, Sx0, Sx1, Sx2])
          refine wpAnyH_take (i := 9) (oi := ⟨some 141, .indexAddr 31 (.tmp 139) (.tmp 140), 0, "law.go:168", #[⟨7, .data⟩, ⟨8, .data⟩, ⟨5, .guard⟩], some (5, true)⟩) (v := undef) rfl (by kernel_rfl) (by kernel_rfl) (by kernel_rfl) (fun _ _ _ h => h) (Or.inr ⟨by rfl, rfl⟩) hHeld ?_
          (try simp only [Act.put, Sx0, Sx1, Sx2])
          refine wpAnyH_take (i := 10) (oi := ⟨some 142, .load 27 (.tmp 141), 27, "law.go:168", #[⟨9, .data⟩, ⟨5, .guard⟩], some (5, true)⟩) (v := undef) rfl (by kernel_rfl) (by kernel_rfl) (by kernel_rfl) (fun _ _ _ h => h) (Or.inr ⟨by rfl, rfl⟩) hHeld ?_
          (try simp only [Act.put, Sx0, Sx1, Sx2])
          refine wpAnyH_take (i := 11) (oi := ⟨some 143, .call ⟨.value (.func 31), #[.tmp 138, .tmp 142], #[30, 27]⟩, 4, "law.go:168", #[⟨6, .data⟩, ⟨10, .data⟩, ⟨5, .chain⟩, ⟨5, .guard⟩], some (5, true)⟩) (v := undef) rfl (by kernel_rfl) (by kernel_rfl) (by kernel_rfl) (fun _ _ _ h => h) (Or.inr ⟨by rfl, rfl⟩) hHeld ?_
          (try simp only [Act.put, Sx0, Sx1, Sx2])
          refine wpAnyH_take (i := 12) (oi := ⟨some 144, .move (.tmp 143), 4, "law.go:168", #[⟨11, .data⟩, ⟨11, .chain⟩, ⟨5, .guard⟩], some (5, true)⟩) (v := undef) rfl (by kernel_rfl) (by kernel_rfl) (by kernel_rfl) (fun _ _ _ h => h) (Or.inr ⟨by rfl, rfl⟩) hHeld ?_
          (try simp only [Act.put, Sx0, Sx1, Sx2])
          refine wpAnyH_take (i := 13) (oi := ⟨some 145, .move (.tmp 25), 3, "law.go:168", #[⟨12, .guard⟩], some (12, false)⟩) (v := undef) rfl (by kernel_rfl) (by kernel_rfl) (by kernel_rfl) (fun _ _ _ h => h) (Or.inr ⟨by rfl, rfl⟩) hHeld ?_
          (try simp only [Act.put, Sx0, Sx1, Sx2])
          refine wpAnyH_take (i := 14) (oi := ⟨some 146, .move (.tmp 13), 3, "law.go:168", #[⟨12, .guard⟩], some (12, false)⟩) (v := undef) rfl (by kernel_rfl) (by kernel_rfl) (by kernel_rfl) (fun _ _ _ h => h) (Or.inr ⟨by rfl, rfl⟩) hHeld ?_
          (try simp only [Act.put, Sx0, Sx1, Sx2])
          refine wpAnyH_take (i := 15) (oi := ⟨some 147, .binOp .geq 3 (.tmp 145) (.tmp 146) 3, 4, "law.go:168", #[⟨13, .data⟩, ⟨14, .data⟩, ⟨12, .guard⟩], some (12, false)⟩) (v := undef) rfl (by kernel_rfl) (by kernel_rfl) (by kernel_rfl) (fun _ _ _ h => h) (Or.inr ⟨by rfl, rfl⟩) hHeld ?_
          (try simp only [Act.put, Sx0, Sx1, Sx2])
          refine wpAnyH_take (i := 16) (oi := ⟨some 148, .pick (.tmp 144) (.const (.bool true)) (.tmp 147), 4, "law.go:168", #[⟨12, .data⟩, ⟨15, .data⟩, ⟨5, .guard⟩], some (5, true)⟩) (v := undef) rfl (by kernel_rfl) (by kernel_rfl) (by kernel_rfl) (fun _ _ _ h => h) (Or.inr ⟨by rfl, rfl⟩) hHeld ?_
          (try simp only [Act.put, Sx0, Sx1, Sx2])
          refine wpAnyH_take (i := 17) (oi := ⟨some 149, .pick (.tmp 137) (.tmp 148) (.const (.bool false)), 4, "law.go:168", #[⟨5, .data⟩, ⟨16, .data⟩, ⟨2, .guard⟩], some (2, false)⟩) (v := .bool false) rfl (by kernel_rfl) (by kernel_rfl) (by kernel_rfl) (fun _ _ _ h => h) (Or.inl ⟨by rfl, ?_⟩) hHeld ?_
          ·intro wq hSq
           obtain ⟨s0, s1⟩ := hSq
           clear hHeld
           go_simp
          (try simp only [Act.put, Sx0, Sx1, Sx2])
          refine wpAnyH_take (i := 18) (oi := ⟨some 150, .pick (.tmp 134) (.const (.bool true)) (.tmp 149), 4, "law.go:168", #[⟨2, .data⟩, ⟨17, .data⟩], none⟩) (v := .bool false) rfl (by kernel_rfl) (by kernel_rfl) (by kernel_rfl) (fun _ _ _ h => h) (Or.inl ⟨by rfl, ?_⟩) hHeld ?_
          ·intro wq hSq
           obtain ⟨s0, s1⟩ := hSq
           clear hHeld
           go_simp
          (try simp only [Act.put, Sx0, Sx1, Sx2])
          refine wpAnyH_take (i := 19) (oi := ⟨some 151, .move (.tmp 150), 4, "law.go:168", #[⟨18, .data⟩, ⟨12, .chain⟩], none⟩) (v := .bool false) rfl (by kernel_rfl) (by kernel_rfl) (by kernel_rfl) (fun _ _ _ h => h) (Or.inl ⟨by rfl, ?_⟩) hHeld ?_
          ·intro wq hSq
           obtain ⟨s0, s1⟩ := hSq
           clear hHeld
           go_simp
          (try simp only [Act.put, Sx0, Sx1, Sx2])
          refine wpAnyH_take (i := 20) (oi := ⟨some 152, .move (.tmp 26), 4, "law.go:168", #[⟨19, .guard⟩], some (19, false)⟩) (v := .bool true) rfl (by kernel_rfl) (by kernel_rfl) (by kernel_rfl) (fun _ _ _ h => h) (Or.inl ⟨by rfl, ?_⟩) hHeld ?_
          ·intro wq hSq
           obtain ⟨s0, s1⟩ := hSq
           clear hHeld
           go_simp
          (try simp only [Act.put, Sx0, Sx1, Sx2])
          refine wpAnyH_take (i := 21) (oi := ⟨some 153, .move (.tmp 152), 4, "law.go:168", #[⟨20, .data⟩, ⟨19, .chain⟩, ⟨19, .guard⟩], some (19, false)⟩) (v := .bool true) rfl (by kernel_rfl) (by kernel_rfl) (by kernel_rfl) (fun _ _ _ h => h) (Or.inl ⟨by rfl, ?_⟩) hHeld ?_
          ·intro wq hSq
           obtain ⟨s0, s1⟩ := hSq
           clear hHeld
           go_simp
          (try simp only [Act.put, Sx0, Sx1, Sx2])
          refine wpAnyH_take (i := 22) (oi := ⟨some 154, .move (.tmp 25), 3, "law.go:168", #[⟨21, .guard⟩], some (21, true)⟩) (v := .int .i64 j2) rfl (by kernel_rfl) (by kernel_rfl) (by kernel_rfl) (fun _ _ _ h => h) (Or.inl ⟨by rfl, ?_⟩) hHeld ?_
          ·intro wq hSq
           obtain ⟨s0, s1⟩ := hSq
           clear hHeld
           go_simp
          (try simp only [Act.put, Sx0, Sx1, Sx2])
          refine wpAnyH_take (i := 23) (oi := ⟨some 155, .move (.tmp 13), 3, "law.go:168", #[⟨21, .guard⟩], some (21, true)⟩) (v := .int .i64 n0) rfl (by kernel_rfl) (by kernel_rfl) (by kernel_rfl) (fun _ _ _ h => h) (Or.inl ⟨by rfl, ?_⟩) hHeld ?_
          ·intro wq hSq
           obtain ⟨s0, s1⟩ := hSq
           clear hHeld
           go_simp
          (try simp only [Act.put, Sx0, Sx1, Sx2])
          refine wpAnyH_take (i := 24) (oi := ⟨some 156, .binOp .lss 3 (.tmp 154) (.tmp 155) 3, 4, "law.go:168", #[⟨22, .data⟩, ⟨23, .data⟩, ⟨21, .guard⟩], some (21, true)⟩) (v := .bool true) rfl (by kernel_rfl) (by kernel_rfl) (by kernel_rfl) (fun _ _ _ h => h) (Or.inl ⟨by rfl, ?_⟩) hHeld ?_
          ·intro wq hSq
           obtain ⟨s0, s1⟩ := hSq
           clear hHeld
           go_simp
          (try simp only [Act.put, Sx0, Sx1, Sx2])
          refine wpAnyH_take (i := 25) (oi := ⟨some 157, .pick (.tmp 153) (.tmp 156) (.const (.bool false)), 4, "law.go:168", #[⟨21, .data⟩, ⟨24, .data⟩, ⟨19, .guard⟩], some (19, false)⟩) (v := .bool true) rfl (by kernel_rfl) (by kernel_rfl) (by kernel_rfl) (fun _ _ _ h => h) (Or.inl ⟨by rfl, ?_⟩) hHeld ?_
          ·intro wq hSq
           obtain ⟨s0, s1⟩ := hSq
           clear hHeld
           go_simp
          (try simp only [Act.put, Sx0, Sx1, Sx2])
          refine wpAnyH_take (i := 26) (oi := ⟨some 158, .move (.tmp 157), 4, "law.go:168", #[⟨25, .data⟩, ⟨21, .chain⟩, ⟨19, .guard⟩], some (19, false)⟩) (v := .bool true) rfl (by kernel_rfl) (by kernel_rfl) (by kernel_rfl) (fun _ _ _ h => h) (Or.inl ⟨by rfl, ?_⟩) hHeld ?_
          ·intro wq hSq
           obtain ⟨s0, s1⟩ := hSq
           clear hHeld
           go_simp
          (try simp only [Act.put, Sx0, Sx1, Sx2])
          refine wpAnyH_take (i := 27) (oi := ⟨some 159, .move (.tmp 1), 22, "law.go:168", #[⟨26, .guard⟩], some (26, true)⟩) (v := .slice db mb bc) rfl (by kernel_rfl) (by kernel_rfl) (by kernel_rfl) (fun _ _ _ h => h) (Or.inl ⟨by rfl, ?_⟩) hHeld ?_
          ·intro wq hSq
           obtain ⟨s0, s1⟩ := hSq
           clear hHeld
           go_simp
          (try simp only [Act.put, Sx0, Sx1, Sx2])
          refine wpAnyH_take (i := 28) (oi := ⟨some 160, .call ⟨.builtin .len, #[.tmp 159], #[22]⟩, 3, "law.go:168", #[⟨27, .data⟩, ⟨26, .guard⟩], some (26, true)⟩) (v := .int .i64 mb) rfl (by kernel_rfl) (by kernel_rfl) (by kernel_rfl) (fun _ _ _ h => h) (Or.inl ⟨by rfl, ?_⟩) hHeld ?_
          ·intro wq hSq
           obtain ⟨s0, s1⟩ := hSq
           clear hHeld
           go_simp
          (try simp only [Act.put, Sx0, Sx1, Sx2])
          refine wpAnyH_take (i := 29) (oi := ⟨some 161, .binOp .eql 3 (.tmp 160) (.const (.int .i64 0)) 3, 4, "law.go:168", #[⟨28, .data⟩, ⟨26, .guard⟩], some (26, true)⟩) (v := .bool true) rfl (by kernel_rfl) (by kernel_rfl) (by kernel_rfl) (fun _ _ _ h => h) (Or.inl ⟨by rfl, ?_⟩) hHeld ?_
          ·intro wq hSq
           obtain ⟨s0, s1⟩ := hSq
           clear hHeld
           go_simp
          (try simp only [Act.put, Sx0, Sx1, Sx2])
          refine wpAnyH_take (i := 30) (oi := ⟨some 162, .pick (.tmp 158) (.tmp 161) (.const (.bool false)), 4, "law.go:168", #[⟨26, .data⟩, ⟨29, .data⟩, ⟨19, .guard⟩], some (19, false)⟩) (v := .bool true) rfl (by kernel_rfl) (by kernel_rfl) (by kernel_rfl) (fun _ _ _ h => h) (Or.inl ⟨by rfl, ?_⟩) hHeld ?_
          ·intro wq hSq
           obtain ⟨s0, s1⟩ := hSq
           clear hHeld
           go_simp
          (try simp only [Act.put, Sx0, Sx1, Sx2])
          refine wpAnyH_take (i := 31) (oi := ⟨some 163, .move (.tmp 162), 4, "law.go:168", #[⟨30, .data⟩, ⟨26, .chain⟩, ⟨19, .guard⟩], some (19, false)⟩) (v := .bool true) rfl (by kernel_rfl) (by kernel_rfl) (by kernel_rfl) (fun _ _ _ h => h) (Or.inl ⟨by rfl, ?_⟩) hHeld ?_
          ·intro wq hSq
           obtain ⟨s0, s1⟩ := hSq
           clear hHeld
           go_simp
          (try simp only [Act.put, Sx0, Sx1, Sx2])
          refine wpAnyH_take (i := 32) (oi := ⟨some 164, .load 30 (.tmp 11), 30, "law.go:168", #[⟨31, .guard⟩], some (31, true)⟩) (v := .agg (Value.slice a n c :: l).toArray) rfl (by kernel_rfl) (by kernel_rfl) (by kernel_rfl) (fun _ _ _ h => h) (yieldsIf_load_mid (by rfl) 30 _ rfl F 0 rfl (Value.slice a n c :: l) _ (fun _ h => h.1) Try.underlying30 rfl (by rw [hl17]; exact infoHp)) hHeld ?_
          (try simp only [Act.put, Sx0, Sx1, Sx2])
          refine wpAnyH_take (i := 33) (oi := ⟨some 165, .move (.tmp 9), 31, "law.go:168", #[⟨31, .guard⟩], some (31, true)⟩) (v := .slice (some ⟨g, 0, none⟩) n tc) rfl (by kernel_rfl) (by kernel_rfl) (by kernel_rfl) (fun _ _ _ h => h) (Or.inl ⟨by rfl, ?_⟩) hHeld ?_
          ·intro wq hSq
           obtain ⟨s0, s1⟩ := hSq
           clear hHeld
           go_simp
          (try simp only [Act.put, Sx0, Sx1, Sx2])
          refine wpAnyH_take (i := 34) (oi := ⟨some 166, .move (.tmp 25), 3, "law.go:168", #[⟨31, .guard⟩], some (31, true)⟩) (v := .int .i64 j2) rfl (by kernel_rfl) (by kernel_rfl) (by kernel_rfl) (fun _ _ _ h => h) (Or.inl ⟨by rfl, ?_⟩) hHeld ?_
          ·intro wq hSq
           obtain ⟨s0, s1⟩ := hSq
           clear hHeld
           go_simp
          (try simp only [Act.put, Sx0, Sx1, Sx2])
          refine wpAnyH_take (i := 35) (oi := ⟨some 167, .indexAddr 31 (.tmp 165) (.tmp 166), 0, "law.go:168", #[⟨33, .data⟩, ⟨34, .data⟩, ⟨31, .guard⟩], some (31, true)⟩) (v := .pointer (some ⟨g, j2, none⟩)) rfl (by kernel_rfl) (by kernel_rfl) (by kernel_rfl) (fun _ _ _ h => h) (Or.inl ⟨by rfl, ?_⟩) hHeld ?_
          ·intro wq hSq
           obtain ⟨s0, s1⟩ := hSq
           clear hHeld
           go_simp
          (try simp only [Act.put, Sx0, Sx1, Sx2])
          refine wpAnyH_take (i := 36) (oi := ⟨some 168, .load 27 (.tmp 167), 27, "law.go:168", #[⟨35, .data⟩, ⟨31, .guard⟩], some (31, true)⟩) (v := .int .u64 x2) rfl (by kernel_rfl) (by kernel_rfl) (by kernel_rfl) (fun _ _ _ h => h) (Or.inl ⟨by rfl, ?_⟩) hHeld ?_
          ·intro wq hSq
           obtain ⟨s0, s1⟩ := hSq
           clear hHeld
           go_simp
          (try simp only [Act.put, Sx0, Sx1, Sx2])
          refine wpAnyH_ready (rs := [37]) (by kernel_rfl) (by simp) ?_
          refine AllReadyH.cons (o := ⟨some 169, .call ⟨.value (.func 31), #[.tmp 164, .tmp 168], #[30, 27]⟩, 4, "law.go:168", #[⟨32, .data⟩, ⟨36, .data⟩, ⟨31, .chain⟩, ⟨31, .guard⟩], some (31, true)⟩) rfl (fun Kr37 hKr37 => ?_) AllReadyH.nil
          go_simp
          go_at_call 31
          refine (HRE.out _ (HB6.out.drew)).mono ?_
          rintro e w7 ⟨rb, rfl, hrc, b7⟩
          have hrb : rb = true := hrc.2 (HEX.out HM0.out j2 (by rw [Mkd, HBM.out]))
          subst hrb
          have hb7 := HB6.out.drew.trans (b7.mono HB6.out.size)
          have hS37 := HSx.out w7 hb7
          have HB7 := mkHid hb7
          clear hHeld hrc b7 hb7
          go_wp2_with fail
          refine hKr37.out _ _ ?_ (fun hHeld => ?_)
          ·exact hS37
          clear hKr37 Kr37 hS37
          (try simp only [Act.put, Sx0, Sx1, Sx2])
          refine wpAnyH_take (i := 38) (oi := ⟨some 170, .unOp .not 4 (.tmp 169), 4, "law.go:168", #[⟨37, .data⟩, ⟨31, .guard⟩], some (31, true)⟩) (v := .bool false) rfl (by kernel_rfl) (by kernel_rfl) (by kernel_rfl) (fun _ _ _ h => h) (Or.inl ⟨by rfl, ?_⟩) hHeld ?_
          ·intro wq hSq
           obtain ⟨s0, s1⟩ := hSq
           clear hHeld
           go_simp
          (try simp only [Act.put, Sx0, Sx1, Sx2])
          refine wpAnyH_take (i := 39) (oi := ⟨some 171, .pick (.tmp 163) (.tmp 170) (.const (.bool false)), 4, "law.go:168", #[⟨31, .data⟩, ⟨38, .data⟩, ⟨19, .guard⟩], some (19, false)⟩) (v := .bool false) rfl (by kernel_rfl) (by kernel_rfl) (by kernel_rfl) (fun _ _ _ h => h) (Or.inl ⟨by rfl, ?_⟩) hHeld ?_
          ·intro wq hSq
           obtain ⟨s0, s1⟩ := hSq
           clear hHeld
           go_simp
          (try simp only [Act.put, Sx0, Sx1, Sx2])
          refine wpAnyH_take (i := 40) (oi := ⟨some 172, .pick (.tmp 151) (.const (.bool true)) (.tmp 171), 4, "law.go:168", #[⟨19, .data⟩, ⟨39, .data⟩], none⟩) (v := .bool false) rfl (by kernel_rfl) (by kernel_rfl) (by kernel_rfl) (fun _ _ _ h => h) (Or.inl ⟨by rfl, ?_⟩) hHeld ?_
          ·intro wq hSq
           obtain ⟨s0, s1⟩ := hSq
           clear hHeld
           go_simp
          (try simp only [Act.put, Sx0, Sx1, Sx2])
          refine wpAnyH_done (by kernel_rfl) ?_ _
          clear hHeld
          clear hmbe
          go_wp2_with fail
          go_roundw
          case rel => exact ⟨j2 + 1, by go_num, by omega, HB2.out.trans (HB7.out.mono HB2.out.size)⟩
          case measure => simp [intOf]; omega
         ·have hmbe : ((mb : Int) == 0) = false := beq_eq_false_iff_ne.2 (by omega)
          go_wp2_with fail
          go_quiet (fail)
          go_wp2_with fail
          go_roundw
          case rel => exact ⟨j2 + 1, by go_num, by omega, HB2.out.trans ((below_dN HB6.out _).mono HB2.out.size)⟩
          case measure => simp [intOf]; omega
        ·have hat1 : ¬ (j2 : Int) < (n0 : Int) := by omega
         go_wp2_with fail
         go_quiet (fail)
         go_wp2_with fail
         go_roundw
         case rel => exact ⟨j2 + 1, by go_num, by omega, HB2.out.trans ((below_dN HB6.out _).mono HB2.out.size)⟩
         case measure => simp [intOf]; omega
       | false =>
        have hat : j2 < n0 := by
         rcases Nat.lt_or_ge j2 n0 with h | h
         ·exact h
         ·exact absurd (HMA2.out h) (by decide)
        have hat1 : (j2 : Int) < (n0 : Int) := by omega
        have hat2 : ¬ (n0 : Int) ≤ (j2 : Int) := by omega
        have HSx : Hid (∀ u : World, Below wr.heap.size wr u → u.rangeAt M 0 (Value.slice a n c :: l) ∧ u.cell? ⟨g, j2, none⟩ = some (.int .u64 (x2 : Int))) := fun u hu => ⟨HRM.out u hu, (hu.cell (p := ⟨g, j2, none⟩) hgl).trans HGJ.out⟩
        go_wp2_with fail
        refine wp_region_held_drew (S := fun u => u.rangeAt M 0 (Value.slice a n c :: l) ∧ u.cell? ⟨g, j2, none⟩ = some (.int .u64 (x2 : Int))) (by kernel_rfl) ?_ (fun hHeld => ?_)
        ·exact HSx.out _ HB6.out.drew
        refine wpAnyH_take (i := 0) (oi := ⟨some 132, .move (.tmp 27), 45, "law.go:168", #[], none⟩) (v := .int .i64 0) rfl (by kernel_rfl) (by kernel_rfl) (by kernel_rfl) (fun _ _ _ h => h) (Or.inl ⟨by rfl, ?_⟩) hHeld ?_
        ·intro wq hSq
         obtain ⟨s0, s1⟩ := hSq
         clear hHeld
         go_simp
        (try simp only [Act.put, Sx0, Sx1, Sx2])
        refine wpAnyH_take (i := 1) (oi := ⟨some 133, .binOp .neq 45 (.tmp 132) (.const (.int .i64 0)) 45, 4, "law.go:168", #[⟨0, .data⟩], none⟩) (v := .bool false) rfl (by kernel_rfl) (by kernel_rfl) (by kernel_rfl) (fun _ _ _ h => h) (Or.inl ⟨by rfl, ?_⟩) hHeld ?_
        ·intro wq hSq
         obtain ⟨s0, s1⟩ := hSq
         clear hHeld
         go_simp
        (try simp only [Act.put, Sx0, Sx1, Sx2])
        refine wpAnyH_take (i := 2) (oi := ⟨some 134, .move (.tmp 133), 4, "law.go:168", #[⟨1, .data⟩], none⟩) (v := .bool false) rfl (by kernel_rfl) (by kernel_rfl) (by kernel_rfl) (fun _ _ _ h => h) (Or.inl ⟨by rfl, ?_⟩) hHeld ?_
        ·intro wq hSq
         obtain ⟨s0, s1⟩ := hSq
         clear hHeld
         go_simp
        (try simp only [Act.put, Sx0, Sx1, Sx2])
        refine wpAnyH_take (i := 3) (oi := ⟨some 135, .move (.tmp 26), 4, "law.go:168", #[⟨2, .guard⟩], some (2, false)⟩) (v := .bool false) rfl (by kernel_rfl) (by kernel_rfl) (by kernel_rfl) (fun _ _ _ h => h) (Or.inl ⟨by rfl, ?_⟩) hHeld ?_
        ·intro wq hSq
         obtain ⟨s0, s1⟩ := hSq
         clear hHeld
         go_simp
        (try simp only [Act.put, Sx0, Sx1, Sx2])
        refine wpAnyH_take (i := 4) (oi := ⟨some 136, .unOp .not 4 (.tmp 135), 4, "law.go:168", #[⟨3, .data⟩, ⟨2, .guard⟩], some (2, false)⟩) (v := .bool true) rfl (by kernel_rfl) (by kernel_rfl) (by kernel_rfl) (fun _ _ _ h => h) (Or.inl ⟨by rfl, ?_⟩) hHeld ?_
        ·intro wq hSq
         obtain ⟨s0, s1⟩ := hSq
         clear hHeld
         go_simp
        (try simp only [Act.put, Sx0, Sx1, Sx2])
        refine wpAnyH_take (i := 5) (oi := ⟨some 137, .move (.tmp 136), 4, "law.go:168", #[⟨4, .data⟩, ⟨2, .chain⟩, ⟨2, .guard⟩], some (2, false)⟩) (v := .bool true) rfl (by kernel_rfl) (by kernel_rfl) (by kernel_rfl) (fun _ _ _ h => h) (Or.inl ⟨by rfl, ?_⟩) hHeld ?_
        ·intro wq hSq
         obtain ⟨s0, s1⟩ := hSq
         clear hHeld
         go_simp
        (try simp only [Act.put, Sx0, Sx1, Sx2])
        refine wpAnyH_take (i := 6) (oi := ⟨some 138, .load 30 (.tmp 8), 30, "law.go:168", #[⟨5, .guard⟩], some (5, true)⟩) (v := .agg (Value.slice a n c :: l).toArray) rfl (by kernel_rfl) (by kernel_rfl) (by kernel_rfl) (fun _ _ _ h => h) (yieldsIf_load_mid (by rfl) 30 _ rfl M 0 rfl (Value.slice a n c :: l) _ (fun _ h => h.1) Try.underlying30 rfl (by rw [hl17]; exact infoHp)) hHeld ?_
        (try simp only [Act.put, Sx0, Sx1, Sx2])
        refine wpAnyH_take (i := 7) (oi := ⟨some 139, .move (.tmp 9), 31, "law.go:168", #[⟨5, .guard⟩], some (5, true)⟩) (v := .slice (some ⟨g, 0, none⟩) n tc) rfl (by kernel_rfl) (by kernel_rfl) (by kernel_rfl) (fun _ _ _ h => h) (Or.inl ⟨by rfl, ?_⟩) hHeld ?_
        ·intro wq hSq
         obtain ⟨s0, s1⟩ := hSq
         clear hHeld
         go_simp
        (try simp only [Act.put, Sx0, Sx1, Sx2])
        refine wpAnyH_take (i := 8) (oi := ⟨some 140, .move (.tmp 25), 3, "law.go:168", #[⟨5, .guard⟩], some (5, true)⟩) (v := .int .i64 j2) rfl (by kernel_rfl) (by kernel_rfl) (by kernel_rfl) (fun _ _ _ h => h) (Or.inl ⟨by rfl, ?_⟩) hHeld ?_
        ·intro wq hSq
         obtain ⟨s0, s1⟩ := hSq
         clear hHeld
         go_simp
        (try simp only [Act.put, Sx0, Sx1, Sx2])
        refine wpAnyH_take (i := 9) (oi := ⟨some 141, .indexAddr 31 (.tmp 139) (.tmp 140), 0, "law.go:168", #[⟨7, .data⟩, ⟨8, .data⟩, ⟨5, .guard⟩], some (5, true)⟩) (v := .pointer (some ⟨g, j2, none⟩)) rfl (by kernel_rfl) (by kernel_rfl) (by kernel_rfl) (fun _ _ _ h => h) (Or.inl ⟨by rfl, ?_⟩) hHeld ?_
        ·intro wq hSq
         obtain ⟨s0, s1⟩ := hSq
         clear hHeld
         go_simp
        (try simp only [Act.put, Sx0, Sx1, Sx2])
        refine wpAnyH_take (i := 10) (oi := ⟨some 142, .load 27 (.tmp 141), 27, "law.go:168", #[⟨9, .data⟩, ⟨5, .guard⟩], some (5, true)⟩) (v := .int .u64 x2) rfl (by kernel_rfl) (by kernel_rfl) (by kernel_rfl) (fun _ _ _ h => h) (Or.inl ⟨by rfl, ?_⟩) hHeld ?_
        ·intro wq hSq
         obtain ⟨s0, s1⟩ := hSq
         clear hHeld
         go_simp
        (try simp only [Act.put, Sx0, Sx1, Sx2])
        refine wpAnyH_ready (rs := [11]) (by kernel_rfl) (by simp) ?_
        refine AllReadyH.cons (o := ⟨some 143, .call ⟨.value (.func 31), #[.tmp 138, .tmp 142], #[30, 27]⟩, 4, "law.go:168", #[⟨6, .data⟩, ⟨10, .data⟩, ⟨5, .chain⟩, ⟨5, .guard⟩], some (5, true)⟩) rfl (fun Kr11 hKr11 => ?_) AllReadyH.nil
        go_simp
        go_at_call 31
        refine (HRE.out _ (HB6.out.drew)).mono ?_
        rintro e w7 ⟨rb, rfl, hrc, b7⟩
        have hrb : rb = false := by
         rcases rb with _ | _
         ·rfl
         ·exact absurd (HMR.out j2 (hrc.1 rfl)) (by rw [Mkd, HBM.out]; decide)
        subst hrb
        have hb7 := HB6.out.drew.trans (b7.mono HB6.out.size)
        have hS11 := HSx.out w7 hb7
        have HB7 := mkHid hb7
        clear hHeld hrc b7 hb7
        go_wp2_with fail
        refine hKr11.out _ _ ?_ (fun hHeld => ?_)
        ·exact hS11
        clear hKr11 Kr11 hS11
        (try simp only [Act.put, Sx0, Sx1, Sx2])
        refine wpAnyH_take (i := 12) (oi := ⟨some 144, .move (.tmp 143), 4, "law.go:168", #[⟨11, .data⟩, ⟨11, .chain⟩, ⟨5, .guard⟩], some (5, true)⟩) (v := .bool false) rfl (by kernel_rfl) (by kernel_rfl) (by kernel_rfl) (fun _ _ _ h => h) (Or.inl ⟨by rfl, ?_⟩) hHeld ?_
        ·intro wq hSq
         obtain ⟨s0, s1⟩ := hSq
         clear hHeld
         go_simp
        (try simp only [Act.put, Sx0, Sx1, Sx2])
        refine wpAnyH_take (i := 13) (oi := ⟨some 145, .move (.tmp 25), 3, "law.go:168", #[⟨12, .guard⟩], some (12, false)⟩) (v := .int .i64 j2) rfl (by kernel_rfl) (by kernel_rfl) (by kernel_rfl) (fun _ _ _ h => h) (Or.inl ⟨by rfl, ?_⟩) hHeld ?_
        ·intro wq hSq
         obtain ⟨s0, s1⟩ := hSq
         clear hHeld
         go_simp
        (try simp only [Act.put, Sx0, Sx1, Sx2])
        refine wpAnyH_take (i := 14) (oi := ⟨some 146, .move (.tmp 13), 3, "law.go:168", #[⟨12, .guard⟩], some (12, false)⟩) (v := .int .i64 n0) rfl (by kernel_rfl) (by kernel_rfl) (by kernel_rfl) (fun _ _ _ h => h) (Or.inl ⟨by rfl, ?_⟩) hHeld ?_
        ·intro wq hSq
         obtain ⟨s0, s1⟩ := hSq
         clear hHeld
         go_simp
        (try simp only [Act.put, Sx0, Sx1, Sx2])
        refine wpAnyH_take (i := 15) (oi := ⟨some 147, .binOp .geq 3 (.tmp 145) (.tmp 146) 3, 4, "law.go:168", #[⟨13, .data⟩, ⟨14, .data⟩, ⟨12, .guard⟩], some (12, false)⟩) (v := .bool false) rfl (by kernel_rfl) (by kernel_rfl) (by kernel_rfl) (fun _ _ _ h => h) (Or.inl ⟨by rfl, ?_⟩) hHeld ?_
        ·intro wq hSq
         obtain ⟨s0, s1⟩ := hSq
         clear hHeld
         go_simp
        (try simp only [Act.put, Sx0, Sx1, Sx2])
        refine wpAnyH_take (i := 16) (oi := ⟨some 148, .pick (.tmp 144) (.const (.bool true)) (.tmp 147), 4, "law.go:168", #[⟨12, .data⟩, ⟨15, .data⟩, ⟨5, .guard⟩], some (5, true)⟩) (v := .bool false) rfl (by kernel_rfl) (by kernel_rfl) (by kernel_rfl) (fun _ _ _ h => h) (Or.inl ⟨by rfl, ?_⟩) hHeld ?_
        ·intro wq hSq
         obtain ⟨s0, s1⟩ := hSq
         clear hHeld
         go_simp
        (try simp only [Act.put, Sx0, Sx1, Sx2])
        refine wpAnyH_take (i := 17) (oi := ⟨some 149, .pick (.tmp 137) (.tmp 148) (.const (.bool false)), 4, "law.go:168", #[⟨5, .data⟩, ⟨16, .data⟩, ⟨2, .guard⟩], some (2, false)⟩) (v := .bool false) rfl (by kernel_rfl) (by kernel_rfl) (by kernel_rfl) (fun _ _ _ h => h) (Or.inl ⟨by rfl, ?_⟩) hHeld ?_
        ·intro wq hSq
         obtain ⟨s0, s1⟩ := hSq
         clear hHeld
         go_simp
        (try simp only [Act.put, Sx0, Sx1, Sx2])
        refine wpAnyH_take (i := 18) (oi := ⟨some 150, .pick (.tmp 134) (.const (.bool true)) (.tmp 149), 4, "law.go:168", #[⟨2, .data⟩, ⟨17, .data⟩], none⟩) (v := .bool false) rfl (by kernel_rfl) (by kernel_rfl) (by kernel_rfl) (fun _ _ _ h => h) (Or.inl ⟨by rfl, ?_⟩) hHeld ?_
        ·intro wq hSq
         obtain ⟨s0, s1⟩ := hSq
         clear hHeld
         go_simp
        (try simp only [Act.put, Sx0, Sx1, Sx2])
        refine wpAnyH_take (i := 19) (oi := ⟨some 151, .move (.tmp 150), 4, "law.go:168", #[⟨18, .data⟩, ⟨12, .chain⟩], none⟩) (v := .bool false) rfl (by kernel_rfl) (by kernel_rfl) (by kernel_rfl) (fun _ _ _ h => h) (Or.inl ⟨by rfl, ?_⟩) hHeld ?_
        ·intro wq hSq
         obtain ⟨s0, s1⟩ := hSq
         clear hHeld
         go_simp
        (try simp only [Act.put, Sx0, Sx1, Sx2])
        refine wpAnyH_take (i := 20) (oi := ⟨some 152, .move (.tmp 26), 4, "law.go:168", #[⟨19, .guard⟩], some (19, false)⟩) (v := .bool false) rfl (by kernel_rfl) (by kernel_rfl) (by kernel_rfl) (fun _ _ _ h => h) (Or.inl ⟨by rfl, ?_⟩) hHeld ?_
        ·intro wq hSq
         obtain ⟨s0, s1⟩ := hSq
         clear hHeld
         go_simp
        (try simp only [Act.put, Sx0, Sx1, Sx2])
        refine wpAnyH_take (i := 21) (oi := ⟨some 153, .move (.tmp 152), 4, "law.go:168", #[⟨20, .data⟩, ⟨19, .chain⟩, ⟨19, .guard⟩], some (19, false)⟩) (v := .bool false) rfl (by kernel_rfl) (by kernel_rfl) (by kernel_rfl) (fun _ _ _ h => h) (Or.inl ⟨by rfl, ?_⟩) hHeld ?_
        ·intro wq hSq
         obtain ⟨s0, s1⟩ := hSq
         clear hHeld
         go_simp
        (try simp only [Act.put, Sx0, Sx1, Sx2])
        refine wpAnyH_take (i := 22) (oi := ⟨some 154, .move (.tmp 25), 3, "law.go:168", #[⟨21, .guard⟩], some (21, true)⟩) (v := undef) rfl (by kernel_rfl) (by kernel_rfl) (by kernel_rfl) (fun _ _ _ h => h) (Or.inr ⟨by rfl, rfl⟩) hHeld ?_
        (try simp only [Act.put, Sx0, Sx1, Sx2])
        refine wpAnyH_take (i := 23) (oi := ⟨some 155, .move (.tmp 13), 3, "law.go:168", #[⟨21, .guard⟩], some (21, true)⟩) (v := undef) rfl (by kernel_rfl) (by kernel_rfl) (by kernel_rfl) (fun _ _ _ h => h) (Or.inr ⟨by rfl, rfl⟩) hHeld ?_
        (try simp only [Act.put, Sx0, Sx1, Sx2])
        refine wpAnyH_take (i := 24) (oi := ⟨some 156, .binOp .lss 3 (.tmp 154) (.tmp 155) 3, 4, "law.go:168", #[⟨22, .data⟩, ⟨23, .data⟩, ⟨21, .guard⟩], some (21, true)⟩) (v := undef) rfl (by kernel_rfl) (by kernel_rfl) (by kernel_rfl) (fun _ _ _ h => h) (Or.inr ⟨by rfl, rfl⟩) hHeld ?_
        (try simp only [Act.put, Sx0, Sx1, Sx2])
        refine wpAnyH_take (i := 25) (oi := ⟨some 157, .pick (.tmp 153) (.tmp 156) (.const (.bool false)), 4, "law.go:168", #[⟨21, .data⟩, ⟨24, .data⟩, ⟨19, .guard⟩], some (19, false)⟩) (v := .bool false) rfl (by kernel_rfl) (by kernel_rfl) (by kernel_rfl) (fun _ _ _ h => h) (Or.inl ⟨by rfl, ?_⟩) hHeld ?_
        ·intro wq hSq
         obtain ⟨s0, s1⟩ := hSq
         clear hHeld
         go_simp
        (try simp only [Act.put, Sx0, Sx1, Sx2])
        refine wpAnyH_take (i := 26) (oi := ⟨some 158, .move (.tmp 157), 4, "law.go:168", #[⟨25, .data⟩, ⟨21, .chain⟩, ⟨19, .guard⟩], some (19, false)⟩) (v := .bool false) rfl (by kernel_rfl) (by kernel_rfl) (by kernel_rfl) (fun _ _ _ h => h) (Or.inl ⟨by rfl, ?_⟩) hHeld ?_
        ·intro wq hSq
         obtain ⟨s0, s1⟩ := hSq
         clear hHeld
         go_simp
        (try simp only [Act.put, Sx0, Sx1, Sx2])
        refine wpAnyH_take (i := 27) (oi := ⟨some 159, .move (.tmp 1), 22, "law.go:168", #[⟨26, .guard⟩], some (26, true)⟩) (v := undef) rfl (by kernel_rfl) (by kernel_rfl) (by kernel_rfl) (fun _ _ _ h => h) (Or.inr ⟨by rfl, rfl⟩) hHeld ?_
        (try simp only [Act.put, Sx0, Sx1, Sx2])
        refine wpAnyH_take (i := 28) (oi := ⟨some 160, .call ⟨.builtin .len, #[.tmp 159], #[22]⟩, 3, "law.go:168", #[⟨27, .data⟩, ⟨26, .guard⟩], some (26, true)⟩) (v := undef) rfl (by kernel_rfl) (by kernel_rfl) (by kernel_rfl) (fun _ _ _ h => h) (Or.inr ⟨by rfl, rfl⟩) hHeld ?_
        (try simp only [Act.put, Sx0, Sx1, Sx2])
        refine wpAnyH_take (i := 29) (oi := ⟨some 161, .binOp .eql 3 (.tmp 160) (.const (.int .i64 0)) 3, 4, "law.go:168", #[⟨28, .data⟩, ⟨26, .guard⟩], some (26, true)⟩) (v := undef) rfl (by kernel_rfl) (by kernel_rfl) (by kernel_rfl) (fun _ _ _ h => h) (Or.inr ⟨by rfl, rfl⟩) hHeld ?_
        (try simp only [Act.put, Sx0, Sx1, Sx2])
        refine wpAnyH_take (i := 30) (oi := ⟨some 162, .pick (.tmp 158) (.tmp 161) (.const (.bool false)), 4, "law.go:168", #[⟨26, .data⟩, ⟨29, .data⟩, ⟨19, .guard⟩], some (19, false)⟩) (v := .bool false) rfl (by kernel_rfl) (by kernel_rfl) (by kernel_rfl) (fun _ _ _ h => h) (Or.inl ⟨by rfl, ?_⟩) hHeld ?_
        ·intro wq hSq
         obtain ⟨s0, s1⟩ := hSq
         clear hHeld
         go_simp
        (try simp only [Act.put, Sx0, Sx1, Sx2])
        refine wpAnyH_take (i := 31) (oi := ⟨some 163, .move (.tmp 162), 4, "law.go:168", #[⟨30, .data⟩, ⟨26, .chain⟩, ⟨19, .guard⟩], some (19, false)⟩) (v := .bool false) rfl (by kernel_rfl) (by kernel_rfl) (by kernel_rfl) (fun _ _ _ h => h) (Or.inl ⟨by rfl, ?_⟩) hHeld ?_
        ·intro wq hSq
         obtain ⟨s0, s1⟩ := hSq
         clear hHeld
         go_simp
        (try simp only [Act.put, Sx0, Sx1, Sx2])
        refine wpAnyH_take (i := 32) (oi := ⟨some 164, .load 30 (.tmp 11), 30, "law.go:168", #[⟨31, .guard⟩], some (31, true)⟩) (v := undef) rfl (by kernel_rfl) (by kernel_rfl) (by kernel_rfl) (fun _ _ _ h => h) (Or.inr ⟨by rfl, rfl⟩) hHeld ?_
        (try simp only [Act.put, Sx0, Sx1, Sx2])
        refine wpAnyH_take (i := 33) (oi := ⟨some 165, .move (.tmp 9), 31, "law.go:168", #[⟨31, .guard⟩], some (31, true)⟩) (v := undef) rfl (by kernel_rfl) (by kernel_rfl) (by kernel_rfl) (fun _ _ _ h => h) (Or.inr ⟨by rfl, rfl⟩) hHeld ?_
        (try simp only [Act.put, Sx0, Sx1, Sx2])
        refine wpAnyH_take (i := 34) (oi := ⟨some 166, .move (.tmp 25), 3, "law.go:168", #[⟨31, .guard⟩], some (31, true)⟩) (v := undef) rfl (by kernel_rfl) (by kernel_rfl) (by kernel_rfl) (fun _ _ _ h => h) (Or.inr ⟨by rfl, rfl⟩) hHeld ?_
        (try simp only [Act.put, Sx0, Sx1, Sx2])
        refine wpAnyH_take (i := 35) (oi := ⟨some 167, .indexAddr 31 (.tmp 165) (.tmp 166), 0, "law.go:168", #[⟨33, .data⟩, ⟨34, .data⟩, ⟨31, .guard⟩], some (31, true)⟩) (v := undef) rfl (by kernel_rfl) (by kernel_rfl) (by kernel_rfl) (fun _ _ _ h => h) (Or.inr ⟨by rfl, rfl⟩) hHeld ?_
        (try simp only [Act.put, Sx0, Sx1, Sx2])
        refine wpAnyH_take (i := 36) (oi := ⟨some 168, .load 27 (.tmp 167), 27, "law.go:168", #[⟨35, .data⟩, ⟨31, .guard⟩], some (31, true)⟩) (v := undef) rfl (by kernel_rfl) (by kernel_rfl) (by kernel_rfl) (fun _ _ _ h => h) (Or.inr ⟨by rfl, rfl⟩) hHeld ?_
        (try simp only [Act.put, Sx0, Sx1, Sx2])
        refine wpAnyH_take (i := 37) (oi := ⟨some 169, .call ⟨.value (.func 31), #[.tmp 164, .tmp 168], #[30, 27]⟩, 4, "law.go:168", #[⟨32, .data⟩, ⟨36, .data⟩, ⟨31, .chain⟩, ⟨31, .guard⟩], some (31, true)⟩) (v := undef) rfl (by kernel_rfl) (by kernel_rfl) (by kernel_rfl) (fun _ _ _ h => h) (Or.inr ⟨by rfl, rfl⟩) hHeld ?_
        (try simp only [Act.put, Sx0, Sx1, Sx2])
        refine wpAnyH_take (i := 38) (oi := ⟨some 170, .unOp .not 4 (.tmp 169), 4, "law.go:168", #[⟨37, .data⟩, ⟨31, .guard⟩], some (31, true)⟩) (v := undef) rfl (by kernel_rfl) (by kernel_rfl) (by kernel_rfl) (fun _ _ _ h => h) (Or.inr ⟨by rfl, rfl⟩) hHeld ?_
        (try simp only [Act.put, Sx0, Sx1, Sx2])
        refine wpAnyH_take (i := 39) (oi := ⟨some 171, .pick (.tmp 163) (.tmp 170) (.const (.bool false)), 4, "law.go:168", #[⟨31, .data⟩, ⟨38, .data⟩, ⟨19, .guard⟩], some (19, false)⟩) (v := .bool false) rfl (by kernel_rfl) (by kernel_rfl) (by kernel_rfl) (fun _ _ _ h => h) (Or.inl ⟨by rfl, ?_⟩) hHeld ?_
        ·intro wq hSq
         obtain ⟨s0, s1⟩ := hSq
         clear hHeld
         go_simp
        (try simp only [Act.put, Sx0, Sx1, Sx2])
        refine wpAnyH_take (i := 40) (oi := ⟨some 172, .pick (.tmp 151) (.const (.bool true)) (.tmp 171), 4, "law.go:168", #[⟨19, .data⟩, ⟨39, .data⟩], none⟩) (v := .bool false) rfl (by kernel_rfl) (by kernel_rfl) (by kernel_rfl) (fun _ _ _ h => h) (Or.inl ⟨by rfl, ?_⟩) hHeld ?_
        ·intro wq hSq
         obtain ⟨s0, s1⟩ := hSq
         clear hHeld
         go_simp
        (try simp only [Act.put, Sx0, Sx1, Sx2])
        refine wpAnyH_done (by kernel_rfl) ?_ _
        clear hHeld
        go_wp2_with fail
        go_roundw
        case rel => exact ⟨j2 + 1, by go_num, by omega, HB2.out.trans (HB7.out.mono HB2.out.size)⟩
        case measure => simp [intOf]; omega
      ·skip
       have hjn : ¬ (j2 : Int) < (n : Int) := by omega
       have HJ9 := mkHid ((HBZ.out.sub hb2).mg.sub (Below.refl _ wr).drew)
       have HGR := mkHid HJ9.out.graph
       clear hb2
       go_wp2_with fail
       refine wp_region_held_drew (S := fun u => u.heap[M]? = some (.cells (Value.slice a n c :: l).toArray 30 (0, 0))) (by kernel_rfl) ?_ (fun hHeld => ?_)
       ·have := HJ9.out.bx
        rw [← HN.out, ← HL.out] at this
        exact this
       refine wpAnyH_take (i := 0) (oi := ⟨some 173, .move (.tmp 7), 24, "law.go:172", #[], none⟩) (v := .pointer (some ⟨i.H, 0, none⟩)) rfl (by kernel_rfl) (by kernel_rfl) (by kernel_rfl) (fun _ _ _ h => h) (Or.inl ⟨by rfl, ?_⟩) hHeld ?_
       ·intro wq hSq
        have s0 := hSq
        clear hSq hHeld
        go_simp
       (try simp only [Act.put, Sx0, Sx1, Sx2])
       refine wpAnyH_take (i := 2) (oi := ⟨some 175, .load 30 (.tmp 8), 30, "law.go:172", #[], none⟩) (v := .agg (Value.slice a n c :: l).toArray) rfl (by kernel_rfl) (by kernel_rfl) (by kernel_rfl) (fun _ _ _ h => h) (yieldsIf_load_mid (by rfl) 30 _ rfl M 0 rfl (Value.slice a n c :: l) _ (fun _ h => fun jj u hu => by rw [cell_of_row _ _ _ _ _ _ h, Nat.zero_add]; simpa using hu) Try.underlying30 rfl (by rw [hl17]; exact infoHp)) hHeld ?_
       (try simp only [Act.put, Sx0, Sx1, Sx2])
       refine wpAnyH_ready (rs := [1]) (by kernel_rfl) (by simp) ?_
       refine AllReadyH.cons (o := ⟨some 174, .call ⟨.value (.func 13), #[.tmp 173], #[24]⟩, 43, "law.go:172", #[⟨0, .data⟩], none⟩) rfl (fun Kr1 hKr1 => ?_) AllReadyH.nil
       go_simp
       go_at_call 13
       refine (HGR.out).mono ?_
       rintro e w7 ⟨gv, Q, rfl, b7, hQ1, hQ2, hgv⟩
       have hJa := HJ9.out.sub b7
       have hS1 : w7.heap[M]? = some (.cells (Value.slice a n c :: l).toArray 30 (0, 0)) := by
        have := hJa.bx
        rw [← HN.out, ← HL.out] at this
        exact this
       have hdf := hJa.differ hQ1 hQ2 hgv
       rw [← HN.out, ← HL.out] at hdf
       have HDF := mkHid hdf
       have HJA := mkHid hJa
       obtain ⟨g1, g2, g3, g4, rfl, -, -⟩ := hgv
       obtain ⟨L1, hL1⟩ : ∃ L1, L1 = (rt.map (numI (ordK Os rt Q))).length := ⟨_, rfl⟩
       obtain ⟨L2, hL2⟩ : ∃ L2, L2 = ((ordK Os rt Q).map (docN Os (ordK Os rt Q))).length := ⟨_, rfl⟩
       rw [← hL1, ← hL2] at HDF ⊢
       clear hHeld hJa hdf b7 hQ1 hQ2 hL1 hL2
       go_wp2_with fail
       refine hKr1.out _ _ ?_ (fun hHeld => ?_)
       ·exact hS1
       clear hKr1 Kr1 hS1
       (try simp only [Act.put, Sx0, Sx1, Sx2])
       refine wpAnyH_ready (rs := [3]) (by kernel_rfl) (by simp) ?_
       refine AllReadyH.cons (o := ⟨some 176, .call ⟨.value (.func 12), #[.tmp 174, .tmp 175], #[43, 30]⟩, 3, "law.go:172", #[⟨1, .data⟩, ⟨2, .data⟩, ⟨1, .chain⟩], none⟩) rfl (fun Kr3 hKr3 => ?_) AllReadyH.nil
       go_simp
       go_at_call 12
       refine (HDF.out).mono ?_
       rintro e w8 ⟨rfl, b8⟩
       have hJb := HJA.out.sub b8
       have hS3 : w8.heap[M]? = some (.cells (Value.slice a n c :: l).toArray 30 (0, 0)) := by
        have := hJb.bx
        rw [← HN.out, ← HL.out] at this
        exact this
       have HJB := mkHid hJb
       clear hHeld hJb b8
       go_wp2_with fail
       refine hKr3.out _ _ ?_ (fun hHeld => ?_)
       ·exact hS3
       clear hKr3 Kr3 hS3
       (try simp only [Act.put, Sx0, Sx1, Sx2])
       refine wpAnyH_take (i := 4) (oi := ⟨some 177, .binOp .eql 3 (.tmp 176) (.const (.int .i64 0)) 3, 4, "law.go:172", #[⟨3, .data⟩], none⟩) (v := .bool true) rfl (by kernel_rfl) (by kernel_rfl) (by kernel_rfl) (fun _ _ _ h => h) (Or.inl ⟨by rfl, ?_⟩) hHeld ?_
       ·intro wq hSq
        have s0 := hSq
        clear hSq hHeld
        go_simp
       (try simp only [Act.put, Sx0, Sx1, Sx2])
       refine wpAnyH_take (i := 5) (oi := ⟨some 6, .assign (.tmp 177), 4, "law.go:172", #[⟨4, .data⟩, ⟨3, .chain⟩, ⟨0, .phase⟩, ⟨1, .phase⟩, ⟨2, .phase⟩, ⟨3, .phase⟩, ⟨4, .phase⟩], none⟩) (v := .bool true) rfl (by kernel_rfl) (by kernel_rfl) (by kernel_rfl) (fun _ _ _ h => h) (Or.inl ⟨by rfl, ?_⟩) hHeld ?_
       ·intro wq hSq
        have s0 := hSq
        clear hSq hHeld
        go_simp
       (try simp only [Act.put, Sx0, Sx1, Sx2])
       refine wpAnyH_done (by kernel_rfl) ?_ _
       clear hHeld
       go_wp2_with fail
       go_ret
       exact ⟨rfl, HJB.out.below⟩
end Go.Proofs.Ytjappkiiokpjjaa
