/- Some texts in one: each opens with its own remark. -/
import Derived.Test.YticbcoklpgfkhaaKyFirst
import Derived.Test.YticbcoklpgfkhaaR3
import Derived.Test.YticbcoklpgfkhaaKyLen
import Derived.Test.YticbcoklpgfkhaaVF
import Derived.Laws.OwnMore
import Derived.Test.YticbcoklpgfkhaaSame2
/- key.Split: the values of a joint key. -/
namespace Go.Proofs.Yticbcoklpgfkhaa
open Go.RowKit

def keysF (fs : List Fl) : List UInt8 := fs.flatMap fun f => f.g.key
theorem keysF_snoc (fs : List Fl) (f : Fl) : keysF (fs ++ [f]) = keysF fs ++ f.g.key := by simp [keysF]
/-- The values that were read, in a row of one's own. -/
structure Sp (w w' : World) (v : Value) (fs : List Fl) : Prop where
  below : RowKit.Below w.heap.size w w'
  own : w'.ownsRow w.heap.size 25 5 v fs.length (valCells (fs.map Fl.val))
  trees : ∀ f ∈ fs, Off (hid w.heap.size v []) w' f.g f.val ∧ f.g.err = 0
theorem Sp.new {w w1 w2 : World} {v : Value} {fs : List Fl} (h : Sp w w1 v fs) (hb : RowKit.Below w1.heap.size w1 w2) : Sp w w2 v fs :=
  ⟨h.below.trans (hb.mono h.below.size), own_below h.own hb, fun f hf => ⟨(h.trees f hf).1.keep fun b hb2 hp => ⟨hp, hb.block b hb2⟩, (h.trees f hf).2⟩⟩
theorem Sp.more {w w1 w2 w3 : World} {v v' : Value} {fs : List Fl} {f : Fl} (h : Sp w w1 v fs) (hb : RowKit.Below w1.heap.size w1 w2) (hf : From w1.heap.size w2 f.g f.val) (he : f.g.err = 0) (ho : w3.ownsRow w.heap.size 25 5 v' (fs.length + 1) (valCells (fs.map Fl.val) ++ f.val.cells.toList)) (hg : w2.grownBy w3 v.ownBlock) (hat : v'.ownBlock = v.ownBlock ∨ v'.ownBlock = some w2.heap.size) : Sp w w3 v' (fs ++ [f]) := by
  have h2 := h.new hb
  have hs1 := h.below.size
  have hkp : ∀ b, b < w2.heap.size → hid w.heap.size v [] b = false → hid w.heap.size v' [] b = false ∧ w3.heap[b]? = w2.heap[b]? := by
    intro b hb2 hp
    obtain ⟨q1, q2, _⟩ := hid_false.1 hp
    refine ⟨hid_false.2 ⟨q1, ?_, fun x hx => absurd hx (by simp)⟩, hg.block b hb2 fun e => q2 e.symm⟩
    rcases hat with e | e
    · rw [e]; exact q2
    · rw [e]
      intro e2
      cases e2
      omega
  refine ⟨h2.below.grown hg h2.below.size (fun k e => (own_blk h2.own e).2), ?_, ?_⟩
  · rw [List.map_append, show [f].map Fl.val = [f.val] from rfl, valCells_snoc, List.length_append]
    exact ho
  · intro x hx
    rcases List.mem_append.1 hx with hx | hx
    · exact ⟨(h2.trees x hx).1.keep hkp, (h2.trees x hx).2⟩
    · obtain rfl : x = f := by simpa using hx
      refine ⟨?_, he⟩
      have h0 : Off (hid w.heap.size v []) w2 x.g x.val := Lies.mono (fun b o u hc => by
        obtain ⟨h1, h3⟩ := mask_cell.1 hc
        refine hide_cell.2 ⟨hid_false.2 ⟨by omega, fun e => ?_, fun x hx => absurd hx (by simp)⟩, h3⟩
        have := (own_blk h.own e).1
        omega) hf
      exact h0.keep hkp
/-- Good values whose keys are the bytes. -/
def KeysAre (gs : List GV) (n : Nat) (l : List UInt8) : Prop := gs.length = n ∧ (∀ g ∈ gs, g.err = 0 ∧ g.every GV.nOk = true) ∧ l = gs.flatMap GV.key
/-- What Split tells. -/
def SplitSay (l : List UInt8) (n : Nat) (w : World) (e : Ending) (w' : World) : Prop :=
  RowKit.Below w.heap.size w w' ∧ ((∃ v fs, fs.length = n ∧ l = keysF fs ∧ Sp w w' v fs ∧ e = .returned (.tuple #[v, .int .i64 0])) ∨ ((∀ gs, ¬ KeysAre gs n l) ∧ e = .returned (.tuple #[.slice none 0 0, .int .i64 4])))
theorem key_pos {g : GV} (h : g.err = 0) : 0 < g.key.length := by
  cases g with
  | nil => have := (err_zeroM h).1; simp [GV.every, GV.formed] at this
  | mk k n s ln l fn nm f => simp [GV.key]
theorem Byts.drop {w : World} {a : Option Addr} {l : List UInt8} (h : Byts w a l) {b o : Nat} (e : a = some ⟨b, o, none⟩) (k : Nat) : Byts w (some ⟨b, o + k, none⟩) (l.drop k) := by
  intro i hi
  have hi2 : k + i < l.length := by simp at hi; omega
  obtain ⟨b', o', e', hc⟩ := h (k + i) hi2
  rw [e] at e'
  cases e'
  refine ⟨b, o + k, rfl, ?_⟩
  rw [show o + k + i = o + (k + i) by omega, List.getElem_drop]
  exact hc

set_option maxHeartbeats 8000000 in
set_option maxRecDepth 1000000 in
theorem Split_any (a0 : Option Addr) (c0 : Nat) (l : List UInt8) (n : Nat) (w : World) (hB : Byts w a0 l) (hlc : l.length ≤ c0) (hcm : c0 ≤ maxLen) (hn : (n : Int) ≤ 9223372036854775807) (hl : l.length ≤ 1000000000000) :
    Calls Try.prog 10 #[.slice a0 l.length c0, .int .i64 n] w fun e w' => SplitSay l n w e w' := by
  have hml : maxLen = 9223372036854775807 := rfl
  obtain ⟨i0, hi, hz0, hz1, hz2⟩ := info_parts infoVal
  have HB := mkHid hB
  obtain ⟨L0, hL0⟩ : ∃ L0, L0 = l.length := ⟨_, rfl⟩
  have HL0 := mkHid hL0
  rw [← hL0]
  clear hB hL0
  go_enter Try.func10, Try.ntmps10
  go_wp2_with fail
  go_loopw [0, 6, 13] (fun b v i wr => ∃ (j : Nat) (fs : List Fl) (lj : List UInt8) (a : Option Addr) (c : Nat), i = .int .i64 j ∧ j ≤ n ∧ b = .slice a lj.length c ∧ Byts w a lj ∧ lj.length ≤ c ∧ c ≤ maxLen ∧ fs.length = j ∧ j + lj.length ≤ l.length ∧ l = keysF fs ++ lj ∧ Sp w wr v fs ∧ (∀ gs, KeysAre gs n l → lj = (gs.drop j).flatMap GV.key)) (fun _ _ i _ => n - (intOf i).toNat)
  case atStart =>
    refine ⟨0, [], l, a0, c0, rfl, by omega, by rw [HL0.out], HB.out, hlc, hcm, rfl, by omega, rfl, ⟨RowKit.Below.refl _ _, ⟨rfl, Or.inl ⟨rfl, rfl⟩⟩, fun f hf => absurd hf (by simp)⟩, ?_⟩
    rintro gs ⟨_, _, h⟩
    exact h
  case round =>
    obtain ⟨j, fs, lj, a, c, rfl, hj, rfl, hBj, hc1, hc2, hfs, hjl, hlk, hsp, huq⟩ := hrel
    have hown := hsp.own
    rw [hfs] at hown
    obtain ⟨va, vc, rfl, hvc, hvm⟩ := own_nil hown
    have HWN := mkHid hown
    have HFS := mkHid hfs
    clear hown
    have hsz := hsp.below.size
    by_cases hlt : j < n
    · have hlt2 : (j : Int) < (n : Int) := by omega
      have HFI := mkHid (first_any a c lj wr (hBj.below hsp.below) hc1 hc2)
      have HSP := mkHid hsp
      have HUQ := mkHid huq
      have HBJ := mkHid hBj
      have HLK := mkHid hlk
      obtain ⟨N, hN⟩ : ∃ N, N = lj.length := ⟨_, rfl⟩
      have HN := mkHid hN
      rw [← hN] at HFI hc1 hjl ⊢
      clear hsp huq hBj hlk hN
      go_wp2_with fail
      refine HFI.out.mono ?_
      rintro e w2 ⟨hb2, ⟨g, rest, kk, n2, s, la, ln, lc, fa, fn, fc, hbg, rfl, hfr⟩ | ⟨hno, rfl⟩⟩
      · obtain ⟨q, hq⟩ : ∃ q, q = g.key.length := ⟨_, rfl⟩
        have hqp : 0 < q := by rw [hq]; exact key_pos hbg.1
        have hqN : q ≤ N := by
          rw [HN.out, hbg.2, List.length_append]
          omega
        have hax : ∃ b o, a = some ⟨b, o, none⟩ := by
          obtain ⟨b, o, e, _⟩ := HBJ.out 0 (by rw [← HN.out]; omega)
          exact ⟨b, o, e⟩
        obtain ⟨b, o, rfl⟩ := hax
        obtain ⟨f, hf⟩ : ∃ f : Fl, f = ⟨⟨#[]⟩, kk, n2, s, la, ln, lc, fa, fn, fc, g⟩ := ⟨_, rfl⟩
        have hfv : f.val = .agg #[.int .i64 kk, .int .i64 n2, .string s, .slice la ln lc, .slice fa fn fc] := by rw [hf]; rfl
        have hfg : f.g = g := by rw [hf]
        have hba := (RowKit.Below.refl w2.heap.size w2).alloc (Nat.le_refl _) (.cells #[.int .i64 kk, .int .i64 n2, .string s, .slice la ln lc, .slice fa fn fc] 25)
        have hb3 : RowKit.Below wr.heap.size wr (w2.alloc (.cells #[.int .i64 kk, .int .i64 n2, .string s, .slice la ln lc, .slice fa fn fc] 25)) := hb2.trans (hba.mono hb2.size)
        have hbox : Blk5 (w2.alloc (.cells #[.int .i64 kk, .int .i64 n2, .string s, .slice la ln lc, .slice fa fn fc] 25)) w2.heap.size (.int .i64 kk) (.int .i64 n2) (.string s) (.slice la ln lc) (.slice fa fn fc) := Blk5.new w2 _ _ _ _ _
        obtain ⟨b0, b1, b2, b3, b4⟩ := hbox.cells
        have HBX := mkHid hbox
        have HOW : Hid (∀ O2 : Obj, (((w2.alloc (.cells #[.int .i64 kk, .int .i64 n2, .string s, .slice la ln lc, .slice fa fn fc] 25)).alloc O2).drew).ownsRow w.heap.size 25 5 (.slice va j vc) j (valCells (fs.map Fl.val))) := fun O2 => own_below HWN.out ((hb3.alloc hb3.size O2).drew)
        have HMO : Hid (∀ (w4 : World) (v4 : Value), w4.ownsRow w.heap.size 25 5 v4 (j + 1) (valCells (fs.map Fl.val) ++ [.int .i64 kk, .int .i64 n2, .string s, .slice la ln lc, .slice fa fn fc]) → World.grownBy (((w2.alloc (.cells #[.int .i64 kk, .int .i64 n2, .string s, .slice la ln lc, .slice fa fn fc] 25)).alloc (.cells #[.int .i64 kk, .int .i64 n2, .string s, .slice la ln lc, .slice fa fn fc] 25)).drew) w4 (Value.slice va j vc).ownBlock → (v4.ownBlock = (Value.slice va j vc).ownBlock ∨ v4.ownBlock = some (((w2.alloc (.cells #[.int .i64 kk, .int .i64 n2, .string s, .slice la ln lc, .slice fa fn fc] 25)).alloc (.cells #[.int .i64 kk, .int .i64 n2, .string s, .slice la ln lc, .slice fa fn fc] 25)).drew).heap.size) → Sp w w4 v4 (fs ++ [f])) := by
          intro w4 v4 ho hg hat
          have hbb : RowKit.Below wr.heap.size wr (((w2.alloc (.cells #[.int .i64 kk, .int .i64 n2, .string s, .slice la ln lc, .slice fa fn fc] 25)).alloc (.cells #[.int .i64 kk, .int .i64 n2, .string s, .slice la ln lc, .slice fa fn fc] 25)).drew) := (hb3.alloc hb3.size (.cells #[.int .i64 kk, .int .i64 n2, .string s, .slice la ln lc, .slice fa fn fc] 25)).drew
          refine HSP.out.more hbb ?_ (by rw [hfg]; exact hbg.1) (by rw [hfv, HFS.out]; exact ho) hg hat
          rw [hfg, hfv]
          refine hfr.keep fun b o u _ hc => ?_
          exact below_keeps ((hba.alloc hba.size (.cells #[.int .i64 kk, .int .i64 n2, .string s, .slice la ln lc, .slice fa fn fc] 25)).drew) _ _ _ hc
        have HUQ2 : Hid (∀ gs, KeysAre gs n l → rest = (gs.drop (j + 1)).flatMap GV.key) := by
          intro gs hgs
          have h1 := HUQ.out gs hgs
          have hjg : j < gs.length := by rw [hgs.1]; exact hlt
          rw [List.drop_eq_getElem_cons hjg, List.flatMap_cons] at h1
          have hgm := hgs.2.1 gs[j] (List.getElem_mem hjg)
          exact (begins_same hbg ⟨hgm.1, h1⟩ (nOk_lies hfr.lies) hgm.2).1
        have HLK2 : Hid (l = keysF (fs ++ [f]) ++ rest) := by
          show l = _
          rw [keysF_snoc, hfg, List.append_assoc, ← hbg.2]
          exact HLK.out
        have HRL : Hid (rest.length = N - q ∧ rest = lj.drop q) := by
          refine ⟨?_, ?_⟩
          · rw [HN.out, hbg.2, List.length_append, hq]
            omega
          · rw [hbg.2, hq]
            simp
        have hS0 : (w2.alloc (.cells #[.int .i64 kk, .int .i64 n2, .string s, .slice la ln lc, .slice fa fn fc] 25)).drew.cell? ⟨w2.heap.size, 0, none⟩ = some (.int .i64 kk) ∧ (w2.alloc (.cells #[.int .i64 kk, .int .i64 n2, .string s, .slice la ln lc, .slice fa fn fc] 25)).drew.cell? ⟨w2.heap.size, 1, none⟩ = some (.int .i64 n2) ∧ (w2.alloc (.cells #[.int .i64 kk, .int .i64 n2, .string s, .slice la ln lc, .slice fa fn fc] 25)).drew.cell? ⟨w2.heap.size, 2, none⟩ = some (.string s) ∧ (w2.alloc (.cells #[.int .i64 kk, .int .i64 n2, .string s, .slice la ln lc, .slice fa fn fc] 25)).drew.cell? ⟨w2.heap.size, 3, none⟩ = some (.slice la ln lc) ∧ (w2.alloc (.cells #[.int .i64 kk, .int .i64 n2, .string s, .slice la ln lc, .slice fa fn fc] 25)).drew.cell? ⟨w2.heap.size, 4, none⟩ = some (.slice fa fn fc) := ⟨b0, b1, b2, b3, b4⟩
        have hS1 : ((w2.alloc (.cells #[.int .i64 kk, .int .i64 n2, .string s, .slice la ln lc, .slice fa fn fc] 25)).alloc (.cells #[.int .i64 kk, .int .i64 n2, .string s, .slice la ln lc, .slice fa fn fc] 25)).drew.cell? ⟨w2.heap.size, 0, none⟩ = some (.int .i64 kk) ∧ ((w2.alloc (.cells #[.int .i64 kk, .int .i64 n2, .string s, .slice la ln lc, .slice fa fn fc] 25)).alloc (.cells #[.int .i64 kk, .int .i64 n2, .string s, .slice la ln lc, .slice fa fn fc] 25)).drew.cell? ⟨w2.heap.size, 1, none⟩ = some (.int .i64 n2) ∧ ((w2.alloc (.cells #[.int .i64 kk, .int .i64 n2, .string s, .slice la ln lc, .slice fa fn fc] 25)).alloc (.cells #[.int .i64 kk, .int .i64 n2, .string s, .slice la ln lc, .slice fa fn fc] 25)).drew.cell? ⟨w2.heap.size, 2, none⟩ = some (.string s) ∧ ((w2.alloc (.cells #[.int .i64 kk, .int .i64 n2, .string s, .slice la ln lc, .slice fa fn fc] 25)).alloc (.cells #[.int .i64 kk, .int .i64 n2, .string s, .slice la ln lc, .slice fa fn fc] 25)).drew.cell? ⟨w2.heap.size, 3, none⟩ = some (.slice la ln lc) ∧ ((w2.alloc (.cells #[.int .i64 kk, .int .i64 n2, .string s, .slice la ln lc, .slice fa fn fc] 25)).alloc (.cells #[.int .i64 kk, .int .i64 n2, .string s, .slice la ln lc, .slice fa fn fc] 25)).drew.cell? ⟨w2.heap.size, 4, none⟩ = some (.slice fa fn fc) := (Blk5.drew (hbox.below ((RowKit.Below.refl _ _).alloc (Nat.le_refl _) (.cells #[.int .i64 kk, .int .i64 n2, .string s, .slice la ln lc, .slice fa fn fc] 25)))).cells
        have hsz2 := hb2.size
        have HC5 : Hid (∀ j u, [.int .i64 kk, .int .i64 n2, .string s, .slice la ln lc, .slice fa fn fc][j]? = some u → (((w2.alloc (.cells #[.int .i64 kk, .int .i64 n2, .string s, .slice la ln lc, .slice fa fn fc] 25)).alloc (.cells #[.int .i64 kk, .int .i64 n2, .string s, .slice la ln lc, .slice fa fn fc] 25)).drew).cell? ((⟨w2.heap.size + 1, 0, none⟩ : Addr).add j) = some u) := by
          intro j u hj
          rw [show (⟨w2.heap.size + 1, 0, none⟩ : Addr).add j = ⟨w2.heap.size + 1, j, none⟩ by simp [Addr.add]; omega]
          simpa using hj
        have HBX4 : Hid (∀ (w4 : World), World.grownBy (((w2.alloc (.cells #[.int .i64 kk, .int .i64 n2, .string s, .slice la ln lc, .slice fa fn fc] 25)).alloc (.cells #[.int .i64 kk, .int .i64 n2, .string s, .slice la ln lc, .slice fa fn fc] 25)).drew) w4 (Value.slice va j vc).ownBlock → Blk5 w4 w2.heap.size (.int .i64 kk) (.int .i64 n2) (.string s) (.slice la ln lc) (.slice fa fn fc)) := by
          intro w4 hg
          have h1 : Blk5 (((w2.alloc (.cells #[.int .i64 kk, .int .i64 n2, .string s, .slice la ln lc, .slice fa fn fc] 25)).alloc (.cells #[.int .i64 kk, .int .i64 n2, .string s, .slice la ln lc, .slice fa fn fc] 25)).drew) w2.heap.size (.int .i64 kk) (.int .i64 n2) (.string s) (.slice la ln lc) (.slice fa fn fc) := Blk5.drew (hbox.below ((RowKit.Below.refl _ _).alloc (Nat.le_refl _) (.cells #[.int .i64 kk, .int .i64 n2, .string s, .slice la ln lc, .slice fa fn fc] 25)))
          unfold Blk5 at h1 ⊢
          rw [hg.block w2.heap.size (by simp; omega) (fun e => by have := (own_blk HWN.out e.symm).1; omega)]
          exact h1
        have hq1 : (q : Int) ≤ (N : Int) := by omega
        have hq0 : (0 : Int) ≤ (q : Int) := by omega
        have hqc : q ≤ c := by omega
        rw [← hq]
        clear hb2 hbg hfr hq hf hfv hfg hba hb3 hbox
        by_cases hcq : c = q
        · have hNq : N = q := by omega
          have hr0 : rest = [] := List.length_eq_zero_iff.1 (by rw [HRL.out.1]; omega)
          have HR0 := mkHid hr0
          subst hcq hNq
          clear hr0
          go_wp2_with fail
          go_region_held3 (fun u => u.cell? ⟨w2.heap.size, 0, none⟩ = some (.int .i64 kk) ∧ u.cell? ⟨w2.heap.size, 1, none⟩ = some (.int .i64 n2) ∧ u.cell? ⟨w2.heap.size, 2, none⟩ = some (.string s) ∧ u.cell? ⟨w2.heap.size, 3, none⟩ = some (.slice la ln lc) ∧ u.cell? ⟨w2.heap.size, 4, none⟩ = some (.slice fa fn fc)) (first | with_reducible exact hS0 | with_reducible exact hS1 | with_reducible exact hS2) (first
            | (refine step_append_at rfl (.tmp 23) (.tmp 25) 22 rfl w.heap.size 25 i0 (.agg #[.int .i64 0, .int .i64 0, .string ⟨#[]⟩, .slice none 0 0, .slice none 0 0]) 5 80 Try.underlying22 hi hz0 hz1 hz2 rfl (by decide) (.slice va j vc) j (valCells (fs.map Fl.val)) (by simp [Act.eval]) (HOW.out _) ⟨w2.heap.size + 1, 0, none⟩ 1 1 [.int .i64 kk, .int .i64 n2, .string s, .slice la ln lc, .slice fa fn fc] (by simp [Act.eval]) rfl HC5.out (by simp [Value.oneCell']) (by omega) (by omega) (by simp; omega) ?_; intro v4 w4 hown4 hgrow4 hat4; have HSP4 := HMO.out w4 v4 hown4 hgrow4 hat4; obtain ⟨va4, vc4, rfl, _, _⟩ := own_nil hown4; have hS2 := (HBX4.out w4 hgrow4).cells))
          all_goals
            have HW4 := mkHid HSP4
            clear HSP4 hS0 hS1 hS2 hown4 hgrow4 hat4
            go_wp2_with fail
            go_roundw
            case rel =>
              refine ⟨j + 1, fs ++ [f], rest, some ⟨b, o, none⟩, 0, by go_num, by omega, by rw [HR0.out]; rfl, ?_, ?_, by omega, by simp [HFS.out], ?_, HLK2.out, HW4.out, HUQ2.out⟩
              · rw [HR0.out]
                exact byts_nil _ _
              · rw [HR0.out]; simp
              · rw [HR0.out]; simp; omega
            case measure => simp [intOf]; omega
        · go_wp2_with fail
          go_region_held3 (fun u => u.cell? ⟨w2.heap.size, 0, none⟩ = some (.int .i64 kk) ∧ u.cell? ⟨w2.heap.size, 1, none⟩ = some (.int .i64 n2) ∧ u.cell? ⟨w2.heap.size, 2, none⟩ = some (.string s) ∧ u.cell? ⟨w2.heap.size, 3, none⟩ = some (.slice la ln lc) ∧ u.cell? ⟨w2.heap.size, 4, none⟩ = some (.slice fa fn fc)) (first | with_reducible exact hS0 | with_reducible exact hS1 | with_reducible exact hS2) (first
            | (refine step_append_at rfl (.tmp 23) (.tmp 25) 22 rfl w.heap.size 25 i0 (.agg #[.int .i64 0, .int .i64 0, .string ⟨#[]⟩, .slice none 0 0, .slice none 0 0]) 5 80 Try.underlying22 hi hz0 hz1 hz2 rfl (by decide) (.slice va j vc) j (valCells (fs.map Fl.val)) (by simp [Act.eval]) (HOW.out _) ⟨w2.heap.size + 1, 0, none⟩ 1 1 [.int .i64 kk, .int .i64 n2, .string s, .slice la ln lc, .slice fa fn fc] (by simp [Act.eval]) rfl HC5.out (by simp [Value.oneCell']) (by omega) (by omega) (by simp; omega) ?_; intro v4 w4 hown4 hgrow4 hat4; have HSP4 := HMO.out w4 v4 hown4 hgrow4 hat4; obtain ⟨va4, vc4, rfl, _, _⟩ := own_nil hown4; have hS2 := (HBX4.out w4 hgrow4).cells))
          all_goals
            have HW4 := mkHid HSP4
            clear HSP4 hS0 hS1 hS2 hown4 hgrow4 hat4
            go_wp2_with fail
            go_roundw
            case rel =>
              refine ⟨j + 1, fs ++ [f], rest, some ⟨b, o + q, none⟩, c - q, by go_num, by omega, by rw [HRL.out.1], ?_, ?_, by omega, by simp [HFS.out], ?_, HLK2.out, HW4.out, HUQ2.out⟩
              · rw [HRL.out.2]
                exact HBJ.out.drop rfl q
              · rw [HRL.out.1]; omega
              · rw [HRL.out.1]; omega
            case measure => simp [intOf]; omega
      · have HNO : Hid (∀ gs, ¬ KeysAre gs n l) := by
          intro gs hgs
          have h1 := HUQ.out gs hgs
          have hjg : j < gs.length := by rw [hgs.1]; exact hlt
          rw [List.drop_eq_getElem_cons hjg, List.flatMap_cons] at h1
          have hgm := hgs.2.1 gs[j] (List.getElem_mem hjg)
          exact hno gs[j] _ hgm.2 ⟨hgm.1, h1⟩
        have HB3 := mkHid ((HSP.out.below.trans (hb2.mono hsz)).alloc (Nat.le_trans hsz hb2.size) (.cells #[.int .i64 0, .int .i64 0, .string ⟨#[]⟩, .slice none 0 0, .slice none 0 0] 25))
        clear hno hb2
        go_wp2_with fail
        go_ret2
        exact ⟨HB3.out, Or.inr ⟨HNO.out, rfl⟩⟩
    · obtain rfl : j = n := by omega
      have HSP := mkHid hsp
      have HUQ := mkHid huq
      have HLK := mkHid hlk
      obtain ⟨N, hN⟩ : ∃ N, N = lj.length := ⟨_, rfl⟩
      have HN := mkHid hN
      rw [← hN]
      clear hsp huq hBj hlk hN
      by_cases h0 : N = 0
      · subst h0
        go_wp2_with fail
        go_ret2
        refine ⟨HSP.out.below, Or.inl ⟨_, fs, HFS.out, ?_, HSP.out, rfl⟩⟩
        have e : lj = [] := List.length_eq_zero_iff.1 HN.out.symm
        rw [e, List.append_nil] at HLK
        exact HLK.out
      · have h1 : (0 : Int) < (N : Int) := by omega
        have HNO : Hid (∀ gs, ¬ KeysAre gs j l) := by
          intro gs hgs
          have h2 := HUQ.out gs hgs
          rw [List.drop_of_length_le (by rw [hgs.1]; exact Nat.le_refl _)] at h2
          have h3 := HN.out
          rw [h2] at h3
          exact h0 h3
        clear h0
        go_wp2_with fail
        go_ret2
        exact ⟨HSP.out.below, Or.inr ⟨HNO.out, rfl⟩⟩
end Go.Proofs.Yticbcoklpgfkhaa

/- key.Back: the value of a key. -/
namespace Go.Proofs.Yticbcoklpgfkhaa
open Go.RowKit

/-- What Back tells. -/
def BackSay (l : List UInt8) (w : World) (e : Ending) (w' : World) : Prop :=
  RowKit.Below w.heap.size w w' ∧ ((∃ f : Fl, f.g.err = 0 ∧ l = f.g.key ∧ e = .returned (.tuple #[f.val, .int .i64 0]) ∧ From w.heap.size w' f.g f.val) ∨ ((∀ g : GV, g.err = 0 → g.every GV.nOk = true → l ≠ g.key) ∧ e = .returned (.tuple #[.agg #[.int .i64 0, .int .i64 0, .string ⟨#[]⟩, .slice none 0 0, .slice none 0 0], .int .i64 4])))

set_option maxHeartbeats 4000000 in
set_option maxRecDepth 1000000 in
theorem Back_any (a : Option Addr) (c : Nat) (l : List UInt8) (w : World) (hB : Byts w a l) (hlc : l.length ≤ c) (hcm : c ≤ maxLen) (hl : l.length ≤ 1000000000000) :
    Calls Try.prog 9 #[.slice a l.length c] w fun e w' => BackSay l w e w' := by
  have hml : maxLen = 9223372036854775807 := rfl
  have hb1 := (RowKit.Below.refl w.heap.size w).alloc (Nat.le_refl _) (.cells #[.int .i64 0, .int .i64 0, .string ⟨#[]⟩, .slice none 0 0, .slice none 0 0] 25)
  have HS : Hid (Calls Try.prog 10 #[.slice a l.length c, .int .i64 1] (w.alloc (.cells #[.int .i64 0, .int .i64 0, .string ⟨#[]⟩, .slice none 0 0, .slice none 0 0] 25)) fun e w' => SplitSay l 1 (w.alloc (.cells #[.int .i64 0, .int .i64 0, .string ⟨#[]⟩, .slice none 0 0, .slice none 0 0] 25)) e w') := Split_any a c l 1 _ (hB.below hb1) hlc hcm (by omega) hl
  have HZ : Hid (Blk5 (w.alloc (.cells #[.int .i64 0, .int .i64 0, .string ⟨#[]⟩, .slice none 0 0, .slice none 0 0] 25)) w.heap.size (.int .i64 0) (.int .i64 0) (.string ⟨#[]⟩) (.slice none 0 0) (.slice none 0 0)) := Blk5.new w _ _ _ _ _
  have HB1 := mkHid hb1
  obtain ⟨N, hN⟩ : ∃ N, N = l.length := ⟨_, rfl⟩
  rw [← hN] at HS ⊢
  clear hB hb1 hN hlc
  go_enter Try.func9, Try.ntmps9
  go_wp2_with fail
  refine HS.out.mono ?_
  rintro e w2 ⟨hb2, ⟨v, fs, hfs, hlk, hsp, rfl⟩ | ⟨hno, rfl⟩⟩
  · obtain ⟨f, rfl⟩ : ∃ f, fs = [f] := by
      match fs, hfs with
      | [f], _ => exact ⟨f, rfl⟩
    have hz := HZ.out.below hb2
    obtain ⟨e0, e1, e2, e3, e4⟩ := hz.cells
    obtain ⟨f0, f1, f2, f3, f4⟩ := hz.free
    obtain ⟨g0, vc, rfl, hg0, hgB⟩ := own_form (n := 0) hsp.own
    have hcell : ∀ j, j < 5 → w2.cell? ⟨g0, j, none⟩ = f.val.cells.toList[j]? := by
      intro j hj
      have h := hsp.own.cellAt j (by simpa using hj)
      rw [h]
      simp [valCells]
    obtain ⟨nm, kk, n2, s, la, ln, lc, fa, fn, fc, gg⟩ := f
    have q0 : w2.cell? ⟨g0, 0, none⟩ = some (.int .i64 kk) := hcell 0 (by omega)
    have q1 : w2.cell? ⟨g0, 1, none⟩ = some (.int .i64 n2) := hcell 1 (by omega)
    have q2 : w2.cell? ⟨g0, 2, none⟩ = some (.string s) := hcell 2 (by omega)
    have q3 : w2.cell? ⟨g0, 3, none⟩ = some (.slice la ln lc) := hcell 3 (by omega)
    have q4 : w2.cell? ⟨g0, 4, none⟩ = some (.slice fa fn fc) := hcell 4 (by omega)
    have hT := (hsp.trees _ (List.mem_singleton.2 rfl))
    have HFR : Hid (From (w.heap.size + 1) w2 gg (.agg #[.int .i64 kk, .int .i64 n2, .string s, .slice la ln lc, .slice fa fn fc])) := by
      have := off_from hT.1
      simp only [World.alloc, Array.size_push, Fl.val] at this
      exact this
    have HE : Hid (gg.err = 0) := hT.2
    have HLK : Hid (l = gg.key) := by
      show l = gg.key
      rw [hlk]
      simp [keysF]
    have HB2 := mkHid (HB1.out.trans (hb2.mono HB1.out.size))
    clear hb2 hlk hsp hz hcell hT hfs
    go_wp2_with fail
    refine bodyPost_ret (v := .tuple #[.agg #[.int .i64 kk, .int .i64 n2, .string s, .slice la ln lc, .slice fa fn fc], .int .i64 0]) ?_ rfl ⟨?_, Or.inl ⟨⟨nm, kk, n2, s, la, ln, lc, fa, fn, fc, gg⟩, HE.out, HLK.out, rfl, ?_⟩⟩
    · have hres : Try.f9.results = #[.cell 2 25, .tmp 3] := by kernel_rfl
      simp only [results, hres]
      go_simp
    · repeat (first | with_reducible exact HB2.out | apply RowKit.Below.drew | refine RowKit.Below.setCell ?_ (by simp) _)
    · exact (((((HFR.out.setCell (by omega) _).setCell (by omega) _).setCell (by omega) _).setCell (by omega) _).setCell (by omega) _).le (by omega)
  · have hz := HZ.out.below hb2
    obtain ⟨e0, e1, e2, e3, e4⟩ := hz.cells
    obtain ⟨f0, f1, f2, f3, f4⟩ := hz.free
    have HNO : Hid (∀ g : GV, g.err = 0 → g.every GV.nOk = true → l ≠ g.key) := by
      intro g h1 h2 h3
      refine hno [g] ⟨rfl, ?_, by simpa using h3⟩
      intro x hx
      obtain rfl : x = g := by simpa using hx
      exact ⟨h1, h2⟩
    have HB2 := mkHid (HB1.out.trans (hb2.mono HB1.out.size))
    clear hb2 hno hz
    go_wp2_with fail
    refine bodyPost_ret (v := .tuple #[.agg #[.int .i64 0, .int .i64 0, .string ⟨#[]⟩, .slice none 0 0, .slice none 0 0], .int .i64 4]) ?_ rfl ⟨?_, Or.inr ⟨HNO.out, rfl⟩⟩
    · have hres : Try.f9.results = #[.cell 2 25, .tmp 3] := by kernel_rfl
      simp only [results, hres]
      go_simp
    · repeat (first | with_reducible exact HB2.out | apply RowKit.Below.drew | refine RowKit.Below.setCell ?_ (by simp) _)
end Go.Proofs.Yticbcoklpgfkhaa

/- The writer of keys: a value, of whatever kind. -/
namespace Go.Proofs.Yticbcoklpgfkhaa
open Go.RowKit

/-- What the writer does with a value. -/
def KeyAny (g : GV) : Prop := ∀ (W B : Nat) (d : List UInt8) (v0 v : Value) (w : World), Wr W B d v0 w → B ≤ w.heap.size → Und B w g v → d.length + g.key.length ≤ 1000000000000 →
  Calls Try.prog 44 #[.pointer (some ⟨W, 0, none⟩), v] w fun e w' => WSay W B v0 w (d ++ g.key) e w'
/-- What writes that which stands behind the byte of a Kind. -/
def restF (k : Int) : Nat := if k = 2 then 74 else if k = 3 then 75 else if k = 4 then 76 else if k = 5 then 77 else if k = 6 then 78 else 79

set_option maxHeartbeats 1000000 in
set_option maxRecDepth 1000000 in
theorem wrest_any (W : Nat) (k : Int) (w : World) : Calls Try.prog 55 #[.pointer (some ⟨W, 0, none⟩), .int .i64 k] w fun e w' => e = .returned (.func (.func (restF k)) #[.pointer (some ⟨W, 0, none⟩)] #[]) ∧ w' = w := by
  unfold restF
  by_cases h2 : k = 2
  · subst h2
    go_enter Try.func55, Try.ntmps55
    go_wp2_with fail
    go_ret
    exact ⟨rfl, rfl⟩
  have k2 : (k == 2) = false := by simpa using h2
  by_cases h3 : k = 3
  · subst h3
    go_enter Try.func55, Try.ntmps55
    go_wp2_with fail
    go_ret
    exact ⟨rfl, rfl⟩
  have k3 : (k == 3) = false := by simpa using h3
  by_cases h4 : k = 4
  · subst h4
    go_enter Try.func55, Try.ntmps55
    go_wp2_with fail
    go_ret
    exact ⟨rfl, rfl⟩
  have k4 : (k == 4) = false := by simpa using h4
  by_cases h5 : k = 5
  · subst h5
    go_enter Try.func55, Try.ntmps55
    go_wp2_with fail
    go_ret
    exact ⟨rfl, rfl⟩
  have k5 : (k == 5) = false := by simpa using h5
  by_cases h6 : k = 6
  · subst h6
    go_enter Try.func55, Try.ntmps55
    go_wp2_with fail
    go_ret
    exact ⟨rfl, rfl⟩
  have k6 : (k == 6) = false := by simpa using h6
  rw [if_neg h2, if_neg h3, if_neg h4, if_neg h5, if_neg h6]
  clear h2 h3 h4 h5 h6
  go_enter Try.func55, Try.ntmps55
  go_wp2_with fail
  go_ret
  exact ⟨rfl, rfl⟩

theorem run_code {f : FuncId} {fn : Func} (args : Array Value) (w : World) (h1 : Try.prog.funcs[f]? = some fn) (h2 : (fn.name == "runtime.NumGoroutine") = false) (h3 : fn.body.isNone = false) : (callFunc f args).run Try.prog w = .ok (.enter f args) w := by
  have h2' : ¬ fn.name = "runtime.NumGoroutine" := by simpa using h2
  have h3' : ¬ fn.body = none := by
    intro e
    rw [e] at h3
    exact absurd h3 (by decide)
  unfold callFunc
  simp [h1, h2', h3']
theorem run_rest (k : Int) (args : Array Value) (w : World) : (callFunc (restF k) args).run Try.prog w = .ok (.enter (restF k) args) w := by
  unfold restF
  split
  · exact run_code args w Try.func74 (by kernel_rfl) (by kernel_rfl)
  split
  · exact run_code args w Try.func75 (by kernel_rfl) (by kernel_rfl)
  split
  · exact run_code args w Try.func76 (by kernel_rfl) (by kernel_rfl)
  split
  · exact run_code args w Try.func77 (by kernel_rfl) (by kernel_rfl)
  split
  · exact run_code args w Try.func78 (by kernel_rfl) (by kernel_rfl)
  · exact run_code args w Try.func79 (by kernel_rfl) (by kernel_rfl)

set_option maxHeartbeats 2000000 in
set_option maxRecDepth 1000000 in
/-- The head, and what is behind it by what is known of that. -/
theorem wvalue_any (W B : Nat) (d t : List UInt8) (v0 : Value) (k n : Int) (s : ByteArray) (la : Option Addr) (ln lc : Nat) (fa : Option Addr) (fn fc : Nat) (w : World) (h : Wr W B d v0 w) (hB : B ≤ w.heap.size) (hl : d.length + 1 ≤ 1000000000000)
    (hrest : ∀ (v1 : Value) (w1 : World), Wr W B (d ++ [byteOf (10 * k)]) v1 w1 → GroW W v0 w v1 w1 → Calls Try.prog (restF k) #[.pointer (some ⟨W, 0, none⟩), .agg #[.int .i64 k, .int .i64 n, .string s, .slice la ln lc, .slice fa fn fc]] w1 fun e w' => WSay W B v1 w1 ((d ++ [byteOf (10 * k)]) ++ t) e w') (hk : 0 ≤ k ∧ k ≤ 1000) :
    Calls Try.prog 44 #[.pointer (some ⟨W, 0, none⟩), .agg #[.int .i64 k, .int .i64 n, .string s, .slice la ln lc, .slice fa fn fc]] w fun e w' => WSay W B v0 w (d ++ byteOf (10 * k) :: t) e w' := by
  have hml : maxLen = 9223372036854775807 := rfl
  have hbx := (RowKit.Below.refl w.heap.size w).alloc (Nat.le_refl _) (.cells #[.int .i64 k, .int .i64 n, .string s, .slice la ln lc, .slice fa fn fc] 25)
  have h1 := h.new hbx
  have HP := mkHid (put_one W B d (byteOf (10 * k)) v0 _ h1 (by simp; omega) hl)
  rw [byteOf_mod] at HP
  have HG0 := mkHid ((GroW.refl W v0 w).new hbx)
  have HBK : Hid (∀ (v1 : Value) (w1 : World), GroW W v0 (w.alloc (.cells #[.int .i64 k, .int .i64 n, .string s, .slice la ln lc, .slice fa fn fc] 25)) v1 w1 → Blk5 w1 w.heap.size (.int .i64 k) (.int .i64 n) (.string s) (.slice la ln lc) (.slice fa fn fc)) := by
    intro v1 w1 hg
    unfold Blk5
    have hne := h.old (k := w.heap.size) (Nat.le_refl _)
    rw [hg.keep (by simp) hne.1 hne.2]
    exact Blk5.new w _ _ _ _ _
  have HR := mkHid hrest
  have HD : Hid (d ++ byteOf (10 * k) :: t = (d ++ [byteOf (10 * k)]) ++ t) := by show _ = _; simp
  rw [HD.out]
  obtain ⟨D, hD⟩ : ∃ D, D = d ++ [byteOf (10 * k)] := ⟨_, rfl⟩
  rw [← hD] at HR HP
  rw [← hD]
  clear h h1 hbx hrest hD HD
  go_enter Try.func44, Try.ntmps44
  go_wp2_with fail
  refine (show Calls _ _ _ _ _ from by simpa using HP.out).mono ?_
  rintro e w1 ⟨rfl, v1, hw1, hg1⟩
  obtain ⟨c0, c1, c2, c3, c4⟩ := (HBK.out v1 w1 hg1).cells
  have HC := mkHid (HR.out v1 w1 hw1 (HG0.out.trans hg1))
  have HG1 := mkHid (HG0.out.trans hg1)
  clear hw1 hg1
  go_wp2_with fail
  refine (wrest_any W k w1).mono ?_
  rintro e w2 ⟨rfl, rfl⟩
  go_wp2_with fail
  rw [run_rest, Oper.upon_enter]
  refine HC.out.mono ?_
  rintro e w2 ⟨rfl, v2, hw2, hg2⟩
  have HE : Hid (∃ v', Wr W B (D ++ t) v' w2 ∧ GroW W v0 w v' w2) := ⟨v2, hw2, HG1.out.trans hg2⟩
  clear hw2 hg2
  go_wp2_with fail
  refine bodyPost_end (v := .tuple #[]) ?_ rfl ⟨rfl, HE.out⟩
  have hres : Try.f44.results = #[] := by kernel_rfl
  simp [results]
end Go.Proofs.Yticbcoklpgfkhaa

/- The writer of keys: Lists and Docs; any value. -/
namespace Go.Proofs.Yticbcoklpgfkhaa
open Go.RowKit

set_option maxHeartbeats 4000000 in
set_option maxRecDepth 1000000 in
theorem wlist_any (W B : Nat) (d : List UInt8) (v0 : Value) (k n : Int) (s : ByteArray) (la : Option Addr) (ln lc : Nat) (l : Nat → GV) (fa : Option Addr) (fn fc : Nat) (w : World) (h : Wr W B d v0 w) (hB : B ≤ w.heap.size) (h4 : ln ≤ lc) (h5 : lc ≤ maxLen)
    (hU : ∀ i, i < ln → ∃ b o v', la = some ⟨b, o, none⟩ ∧ Lies (undr B w) (l i) v' ∧ At5 (undr B w) b (o + i * 5) v') (ih : ∀ i, i < ln → KeyAny (l i)) (hl : d.length + ((List.range ln).flatMap (fun i => 1 :: (l i).key) ++ [0]).length ≤ 1000000000000) :
    Calls Try.prog 77 #[.pointer (some ⟨W, 0, none⟩), .agg #[.int .i64 k, .int .i64 n, .string s, .slice la ln lc, .slice fa fn fc]] w fun e w' => WSay W B v0 w (d ++ ((List.range ln).flatMap (fun i => 1 :: (l i).key) ++ [0])) e w' := by
  have hml : maxLen = 9223372036854775807 := rfl
  have hbx := (RowKit.Below.refl w.heap.size w).alloc (Nat.le_refl _) (.cells #[.int .i64 k, .int .i64 n, .string s, .slice la ln lc, .slice fa fn fc] 25)
  have H1 := mkHid (h.new hbx)
  have HG0 := mkHid ((GroW.refl W v0 w).new hbx)
  have HOW := mkHid h.own
  have HLW := h.low
  have HU := mkHid hU
  have HIH := mkHid ih
  have HFL : Hid (∀ j, j ≤ ln → d.length + ((List.range j).flatMap (fun i => 1 :: (l i).key)).length + 1 ≤ 1000000000000) := fun j hj => by
    have := flat_le (c := fun i => 1 :: (l i).key) hj
    simp only [List.length_append, List.length_cons, List.length_nil] at hl
    omega
  have HD : Hid (d ++ ((List.range ln).flatMap (fun i => 1 :: (l i).key) ++ [0]) = (d ++ (List.range ln).flatMap (fun i => 1 :: (l i).key)) ++ [0]) := by show _ = _; rw [List.append_assoc]
  rw [HD.out]
  clear h hbx hU ih hl
  go_enter Try.func77, Try.ntmps77
  go_wp2_with fail
  go_loopw [9] (fun i wr => ∃ (j : Nat) (v : Value), i = .int .i64 j ∧ j ≤ ln ∧ Wr W B (d ++ (List.range j).flatMap (fun i => 1 :: (l i).key)) v wr ∧ GroW W v0 w v wr) (fun i _ => ln - (intOf i).toNat)
  case atStart => exact ⟨0, v0, rfl, by omega, by simpa using H1.out, HG0.out⟩
  case round =>
    obtain ⟨j, v, rfl, hj, hw, hg⟩ := hrel
    have hsz := hg.size
    have hFj := HFL.out j hj
    by_cases hlt : j < ln
    · obtain ⟨b', o', v', rfl, hLj, hAj⟩ := HU.out j hlt
      have hag := hLj.agg
      obtain ⟨k', n', s', la', ln', lc', fa', fn', fc', rfl⟩ := hag
      have hbw : RowKit.Below B w wr := hg.below HOW.out hB HLW
      obtain ⟨q0, q1, q2, q3, q4⟩ := at5_und hAj hbw
      obtain ⟨O, hO⟩ : ∃ O : Obj, O = .cells #[.int .i64 k', .int .i64 n', .string s', .slice la' ln' lc', .slice fa' fn' fc'] 25 := ⟨_, rfl⟩
      have hbe := (RowKit.Below.refl wr.heap.size wr).alloc (Nat.le_refl _) O
      have hw' := hw.new hbe
      have HP := mkHid (put_one W B _ 1 v _ hw' (by simp; omega) (by simp; simp at hFj; omega))
      have HBK : Hid (∀ (v1 : Value) (w1 : World), GroW W v (wr.alloc O) v1 w1 → Blk5 w1 wr.heap.size (.int .i64 k') (.int .i64 n') (.string s') (.slice la' ln' lc') (.slice fa' fn' fc')) := by
        intro v1 w1 hg1
        unfold Blk5
        have hne := hw.old (k := wr.heap.size) (Nat.le_refl _)
        rw [hg1.keep (by simp) hne.1 hne.2, hO]
        exact Blk5.new wr _ _ _ _ _
      have HL : Hid (Und B w (l j) (.agg #[.int .i64 k', .int .i64 n', .string s', .slice la' ln' lc', .slice fa' fn' fc'])) := hLj
      have HG := mkHid (hg.new hbe)
      have hF2 := HFL.out (j + 1) (by omega)
      rw [flat_snoc] at hF2
      simp only [List.length_append, List.length_cons] at hF2
      have HBW := mkHid hbw
      have HO := mkHid hO
      clear hLj hAj hw hg hbw hw' hbe
      go_wp2_with fail
      rw [← HO.out]
      refine (show Calls _ _ _ _ _ from by simpa using HP.out).mono ?_
      rintro e w1 ⟨rfl, v1, hw1, hg1⟩
      obtain ⟨c0, c1, c2, c3, c4⟩ := (HBK.out v1 w1 hg1).cells
      have hs1 := hg1.size
      have hG1 := HG.out.trans hg1
      have HG1 := mkHid hG1
      have HCALL := mkHid (HIH.out j hlt W B _ v1 _ w1 hw1 (by simp at hs1; omega) (HL.out.keep (hG1.below HOW.out hB HLW)) (by simp only [List.length_append, List.length_cons, List.length_nil]; omega))
      clear hw1 hg1 hG1
      go_wp2_with fail
      refine HCALL.out.mono ?_
      rintro e w2 ⟨rfl, v2, hw2, hg2⟩
      have HW2 := mkHid hw2
      have HG2 := mkHid (HG1.out.trans hg2)
      clear hw2 hg2
      go_wp2_with fail
      go_roundw
      case rel =>
        refine ⟨j + 1, v2, by go_num, by omega, ?_, HG2.out⟩
        have h := HW2.out
        rw [flat_snoc]
        simpa [List.append_assoc] using h
      case measure => simp [intOf]; omega
    · obtain rfl : ln = j := by omega
      have HP := mkHid (put_one W B _ 0 v wr hw (by omega) (by simp; simp at hFj; omega))
      have HG := mkHid hg
      clear hw hg
      go_wp2_with fail
      refine HP.out.mono ?_
      rintro e w1 ⟨rfl, v1, hw1, hg1⟩
      have HE : Hid (∃ v', Wr W B (d ++ (List.range ln).flatMap (fun i => 1 :: (l i).key) ++ [0]) v' w1 ∧ GroW W v0 w v' w1) := ⟨v1, hw1, HG.out.trans hg1⟩
      clear hw1 hg1
      go_wp2_with fail
      refine bodyPost_end (v := .tuple #[]) ?_ rfl ⟨rfl, HE.out⟩
      have hres : Try.f77.results = #[] := by kernel_rfl
      simp [results]
/-- A block of six cells. -/
def Blk6 (w : World) (b : Nat) (xn x0 x1 x2 x3 x4 : Value) : Prop := w.heap[b]? = some (.cells #[xn, x0, x1, x2, x3, x4] 64 (0, 0))
theorem Blk6.cells {w : World} {b : Nat} {xn x0 x1 x2 x3 x4 : Value} (h : Blk6 w b xn x0 x1 x2 x3 x4) :
    w.cell? ⟨b, 0, none⟩ = some xn ∧ w.cell? ⟨b, 1, none⟩ = some x0 ∧ w.cell? ⟨b, 2, none⟩ = some x1 ∧ w.cell? ⟨b, 3, none⟩ = some x2 ∧ w.cell? ⟨b, 4, none⟩ = some x3 ∧ w.cell? ⟨b, 5, none⟩ = some x4 := by
  refine ⟨?_, ?_, ?_, ?_, ?_, ?_⟩ <;> (rw [cell_of_row w b _ _ _ _ h]; rfl)
theorem Blk6.lt {w : World} {b : Nat} {xn x0 x1 x2 x3 x4 : Value} (h : Blk6 w b xn x0 x1 x2 x3 x4) : b < w.heap.size := (Array.getElem?_eq_some_iff.1 h).1

set_option maxHeartbeats 4000000 in
set_option maxRecDepth 1000000 in
theorem wdoc_any (W B : Nat) (d : List UInt8) (v0 : Value) (k n : Int) (s : ByteArray) (la : Option Addr) (ln lc : Nat) (fa : Option Addr) (fn fc : Nat) (nm : Nat → ByteArray) (f : Nat → GV) (w : World) (h : Wr W B d v0 w) (hB : B ≤ w.heap.size) (h4 : fn ≤ fc) (h5 : fc ≤ maxLen)
    (hU : ∀ i, i < fn → ∃ b o v', fa = some ⟨b, o, none⟩ ∧ (nm i).size ≤ 140737488355328 ∧ (undr B w).cell? ⟨b, o + i * 6, none⟩ = some (.string (nm i)) ∧ Lies (undr B w) (f i) v' ∧ At5 (undr B w) b (o + i * 6 + 1) v') (ih : ∀ i, i < fn → KeyAny (f i)) (hnm : ∀ i, i < fn → (lettersK (nm i).data.toList).length + d.length + ((List.range i).flatMap (fun i => 1 :: (lettersK (nm i).data.toList ++ (f i).key))).length + 1 ≤ 1000000000000) (hl : d.length + ((List.range fn).flatMap (fun i => 1 :: (lettersK (nm i).data.toList ++ (f i).key)) ++ [0]).length ≤ 1000000000000) :
    Calls Try.prog 78 #[.pointer (some ⟨W, 0, none⟩), .agg #[.int .i64 k, .int .i64 n, .string s, .slice la ln lc, .slice fa fn fc]] w fun e w' => WSay W B v0 w (d ++ ((List.range fn).flatMap (fun i => 1 :: (lettersK (nm i).data.toList ++ (f i).key)) ++ [0])) e w' := by
  have hml : maxLen = 9223372036854775807 := rfl
  have hbx := (RowKit.Below.refl w.heap.size w).alloc (Nat.le_refl _) (.cells #[.int .i64 k, .int .i64 n, .string s, .slice la ln lc, .slice fa fn fc] 25)
  have H1 := mkHid (h.new hbx)
  have HG0 := mkHid ((GroW.refl W v0 w).new hbx)
  have HOW := mkHid h.own
  have HLW := h.low
  have HU := mkHid hU
  have HIH := mkHid ih
  have HFL : Hid (∀ j, j ≤ fn → d.length + ((List.range j).flatMap (fun i => 1 :: (lettersK (nm i).data.toList ++ (f i).key))).length + 1 ≤ 1000000000000) := fun j hj => by
    have := flat_le (c := fun i => 1 :: (lettersK (nm i).data.toList ++ (f i).key)) hj
    simp only [List.length_append, List.length_cons, List.length_nil] at hl
    omega
  have HD : Hid (d ++ ((List.range fn).flatMap (fun i => 1 :: (lettersK (nm i).data.toList ++ (f i).key)) ++ [0]) = (d ++ (List.range fn).flatMap (fun i => 1 :: (lettersK (nm i).data.toList ++ (f i).key))) ++ [0]) := by show _ = _; rw [List.append_assoc]
  rw [HD.out]
  have HNM := mkHid hnm
  clear h hbx hU ih hl hnm
  go_enter Try.func78, Try.ntmps78
  go_wp2_with fail
  go_loopw [9] (fun i wr => ∃ (j : Nat) (v : Value), i = .int .i64 j ∧ j ≤ fn ∧ Wr W B (d ++ (List.range j).flatMap (fun i => 1 :: (lettersK (nm i).data.toList ++ (f i).key))) v wr ∧ GroW W v0 w v wr) (fun i _ => fn - (intOf i).toNat)
  case atStart => exact ⟨0, v0, rfl, by omega, by simpa using H1.out, HG0.out⟩
  case round =>
    obtain ⟨j, v, rfl, hj, hw, hg⟩ := hrel
    have hsz := hg.size
    have hFj := HFL.out j hj
    by_cases hlt : j < fn
    · obtain ⟨b', o', v', rfl, hnj, hNj, hLj, hAj⟩ := HU.out j hlt
      have hag := hLj.agg
      obtain ⟨k', n', s', la', ln', lc', fa', fn', fc', rfl⟩ := hag
      have hbw : RowKit.Below B w wr := hg.below HOW.out hB HLW
      obtain ⟨q0, q1, q2, q3, q4⟩ := at5_und hAj hbw
      have qn : wr.cell? ⟨b', o' + j * 6, none⟩ = some (.string (nm j)) := by rw [hbw.cell (p := ⟨b', o' + j * 6, none⟩) (undr_cell.1 hNj).1]; exact (undr_cell.1 hNj).2
      obtain ⟨O, hO⟩ : ∃ O : Obj, O = .cells #[.string (nm j), .int .i64 k', .int .i64 n', .string s', .slice la' ln' lc', .slice fa' fn' fc'] 64 := ⟨_, rfl⟩
      have hbe := (RowKit.Below.refl wr.heap.size wr).alloc (Nat.le_refl _) O
      have hw' := hw.new hbe
      have HP := mkHid (put_one W B _ 1 v _ hw' (by simp; omega) (by simp; simp at hFj; omega))
      have HBK : Hid (∀ (v1 : Value) (w1 : World), GroW W v (wr.alloc O) v1 w1 → Blk6 w1 wr.heap.size (.string (nm j)) (.int .i64 k') (.int .i64 n') (.string s') (.slice la' ln' lc') (.slice fa' fn' fc')) := by
        intro v1 w1 hg1
        unfold Blk6
        have hne := hw.old (k := wr.heap.size) (Nat.le_refl _)
        rw [hg1.keep (by simp) hne.1 hne.2, hO]
        exact heap_alloc_new wr _
      have HL : Hid (Und B w (f j) (.agg #[.int .i64 k', .int .i64 n', .string s', .slice la' ln' lc', .slice fa' fn' fc'])) := hLj
      have HG := mkHid (hg.new hbe)
      have hF2 := HFL.out (j + 1) (by omega)
      rw [flat_snoc] at hF2
      simp only [List.length_append, List.length_cons] at hF2
      have hlk := lettersK_eq (nm j).data.toList
      have HBW := mkHid hbw
      have HO := mkHid hO
      have HWR := mkHid hw
      have HSZ : Hid ((lettersK (nm j).data.toList).length + d.length + ((List.range j).flatMap (fun i => 1 :: (lettersK (nm i).data.toList ++ (f i).key))).length + 1 ≤ 1000000000000) := HNM.out j hlt
      clear hLj hAj hNj hw hg hbw hw' hbe hlk
      go_wp2_with fail
      rw [← HO.out]
      refine (show Calls _ _ _ _ _ from by simpa using HP.out).mono ?_
      rintro e w1 ⟨rfl, v1, hw1, hg1⟩
      have hb6 := HBK.out v1 w1 hg1
      obtain ⟨cn, c0, c1, c2, c3, c4⟩ := hb6.cells
      have hs1 := hg1.size
      have hG1 := HG.out.trans hg1
      have HG1 := mkHid hG1
      have HPL := mkHid (wletters_any W B _ v1 (nm j) w1 hw1 (by simp at hs1; omega) (by simp only [List.length_append, List.length_cons, List.length_nil]; have := HSZ.out; omega))
      have HB6 : Hid (∀ (v2 : Value) (w2 : World), GroW W v1 w1 v2 w2 → Blk6 w2 wr.heap.size (.string (nm j)) (.int .i64 k') (.int .i64 n') (.string s') (.slice la' ln' lc') (.slice fa' fn' fc')) := by
        intro v2 w2 hg2
        unfold Blk6
        have hne := HWR.out.old (k := wr.heap.size) (Nat.le_refl _)
        have hne2 : some wr.heap.size ≠ v1.ownBlock := by
          rcases hg1.lies with e | ⟨x, e, hx⟩
          · rw [e]; exact hne.2
          · rw [e]
            intro e2
            cases e2
            simp at hx
            omega
        rw [hg2.keep hb6.lt hne.1 hne2]
        exact hb6
      clear hw1 hg1 hG1 hb6
      go_wp2_with fail
      refine HPL.out.mono ?_
      rintro e w2 ⟨rfl, v2, hw2, hg2⟩
      obtain ⟨cn, c0, c1, c2, c3, c4⟩ := (HB6.out v2 w2 hg2).cells
      have hs2 := hg2.size
      have hG2 := HG1.out.trans hg2
      have HG2 := mkHid hG2
      have HCALL := mkHid (HIH.out j hlt W B _ v2 _ w2 hw2 (by simp at hs1; omega) (HL.out.keep (hG2.below HOW.out hB HLW)) (by simp only [List.length_append, List.length_cons, List.length_nil]; omega))
      clear hw2 hg2 hG2
      go_wp2_with fail
      refine HCALL.out.mono ?_
      rintro e w3 ⟨rfl, v3, hw3, hg3⟩
      have HW3 := mkHid hw3
      have HG3 := mkHid (HG2.out.trans hg3)
      clear hw3 hg3
      go_wp2_with fail
      go_roundw
      case rel =>
        refine ⟨j + 1, v3, by go_num, by omega, ?_, HG3.out⟩
        have h := HW3.out
        rw [flat_snoc]
        simpa [List.append_assoc] using h
      case measure => simp [intOf]; omega
    · obtain rfl : fn = j := by omega
      have HP := mkHid (put_one W B _ 0 v wr hw (by omega) (by simp; simp at hFj; omega))
      have HG := mkHid hg
      clear hw hg
      go_wp2_with fail
      refine HP.out.mono ?_
      rintro e w1 ⟨rfl, v1, hw1, hg1⟩
      have HE : Hid (∃ v', Wr W B (d ++ (List.range fn).flatMap (fun i => 1 :: (lettersK (nm i).data.toList ++ (f i).key)) ++ [0]) v' w1 ∧ GroW W v0 w v' w1) := ⟨v1, hw1, HG.out.trans hg1⟩
      clear hw1 hg1
      go_wp2_with fail
      refine bodyPost_end (v := .tuple #[]) ?_ rfl ⟨rfl, HE.out⟩
      have hres : Try.f78.results = #[] := by kernel_rfl
      simp [results]

theorem key_len5 {n : Int} {s : ByteArray} {ln : Nat} {l : Nat → GV} {fn : Nat} {nm : Nat → ByteArray} {f : Nat → GV} : (GV.mk 5 n s ln l fn nm f).key = byteOf (10 * 5) :: ((List.range ln).flatMap (fun i => 1 :: (l i).key) ++ [0]) := by simp [GV.key]
theorem key_len6 {n : Int} {s : ByteArray} {ln : Nat} {l : Nat → GV} {fn : Nat} {nm : Nat → ByteArray} {f : Nat → GV} : (GV.mk 6 n s ln l fn nm f).key = byteOf (10 * 6) :: ((List.range fn).flatMap (fun i => 1 :: (lettersK (nm i).data.toList ++ (f i).key)) ++ [0]) := by simp [GV.key]
/-- The key of any value of a form is written. -/
theorem key_any : ∀ g : GV, g.every GV.formed = true → KeyAny g := by
  intro g
  induction g with
  | nil => intro h; simp [GV.every, GV.formed] at h
  | mk k n s ln l fn nm f ihl ihf =>
    intro hf W B d v0 v w hW hB hU hE
    obtain ⟨la, lc, fa, fc, rfl, hk, hn, hs, h4, h5, h6, h7, hl, hff⟩ := hU
    have hft := every_top hf
    have hkb : 0 ≤ k ∧ k ≤ 1000 := by rcases kind_of hft with rfl | rfl | rfl | rfl | rfl | rfl <;> omega
    have hkey : ∃ t, (GV.mk k n s ln l fn nm f).key = byteOf (10 * k) :: t ∧ ∀ (v1 : Value) (w1 : World), Wr W B (d ++ [byteOf (10 * k)]) v1 w1 → GroW W v0 w v1 w1 → Calls Try.prog (restF k) #[.pointer (some ⟨W, 0, none⟩), .agg #[.int .i64 k, .int .i64 n, .string s, .slice la ln lc, .slice fa fn fc]] w1 fun e w' => WSay W B v1 w1 ((d ++ [byteOf (10 * k)]) ++ t) e w' := by
      rcases kind_of hft with rfl | rfl | rfl | rfl | rfl | rfl
      · refine ⟨[], by simp [GV.key], fun v1 w1 hw1 hg1 => ?_⟩
        have h := wnothing_any W B _ v1 1 n s la ln lc fa fn fc w1 hw1
        simpa [restF] using h
      · refine ⟨[byteOf n], by simp [GV.key], fun v1 w1 hw1 hg1 => ?_⟩
        have e : (GV.mk 2 n s ln l fn nm f).key.length = 2 := by simp [GV.key]
        have hs1 := hg1.size
        have h := wtruth_any W B _ v1 2 n s la ln lc fa fn fc w1 hw1 (by omega) (by simp; omega)
        simpa [restF] using h
      · refine ⟨numK n, by simp [GV.key], fun v1 w1 hw1 hg1 => ?_⟩
        have e : (GV.mk 3 n s ln l fn nm f).key.length = 9 := by simp [GV.key, numK_len]
        have hs1 := hg1.size
        have h := wnumber_any W B _ v1 3 n s la ln lc fa fn fc w1 hw1 (by omega) hn (by simp; omega)
        simpa [restF] using h
      · refine ⟨lettersK s.data.toList, by simp [GV.key], fun v1 w1 hw1 hg1 => ?_⟩
        have e : (GV.mk 4 n s ln l fn nm f).key.length = (lettersK s.data.toList).length + 1 := by simp [GV.key]
        have hs1 := hg1.size
        have h := wtext_any W B _ v1 4 n s la ln lc fa fn fc w1 hw1 (by omega) (by simp only [List.length_append, List.length_cons, List.length_nil]; omega)
        simpa [restF] using h
      · refine ⟨_, key_len5, fun v1 w1 hw1 hg1 => ?_⟩
        have e : (GV.mk 5 n s ln l fn nm f).key.length = ((List.range ln).flatMap (fun i => 1 :: (l i).key) ++ [0]).length + 1 := by rw [key_len5, List.length_cons]
        have hs1 := hg1.size
        have hbw := hg1.below hW.own hB hW.low
        refine wlist_any W B _ v1 5 n s la ln lc l fa fn fc w1 hw1 (by omega) h4 h5 (fun i hi => ?_) (fun i hi => ihl i (every_l hf i hi)) (by rw [List.length_append]; simp only [List.length_cons, List.length_nil]; omega)
        obtain ⟨b, o, v', e1, e2, e3⟩ := hl i hi
        exact ⟨b, o, v', e1, Und.keep e2 hbw, e3.mono e2 (fun b o u hc => undr_cell.2 ⟨(undr_cell.1 hc).1, by rw [hbw.cell (p := ⟨b, o, none⟩) (undr_cell.1 hc).1]; exact (undr_cell.1 hc).2⟩)⟩
      · refine ⟨_, key_len6, fun v1 w1 hw1 hg1 => ?_⟩
        have e : (GV.mk 6 n s ln l fn nm f).key.length = ((List.range fn).flatMap (fun i => 1 :: (lettersK (nm i).data.toList ++ (f i).key)) ++ [0]).length + 1 := by rw [key_len6, List.length_cons]
        have hs1 := hg1.size
        have hbw := hg1.below hW.own hB hW.low
        refine wdoc_any W B _ v1 6 n s la ln lc fa fn fc nm f w1 hw1 (by omega) h6 h7 (fun i hi => ?_) (fun i hi => ihf i (every_f hf i hi)) (fun i hi => ?_) (by rw [List.length_append]; simp only [List.length_cons, List.length_nil]; omega)
        · obtain ⟨b, o, v', e1, e2, e3, e4, e5⟩ := hff i hi
          exact ⟨b, o, v', e1, e2, undr_cell.2 ⟨(undr_cell.1 e3).1, by rw [hbw.cell (p := ⟨b, o + i * 6, none⟩) (undr_cell.1 e3).1]; exact (undr_cell.1 e3).2⟩, Und.keep e4 hbw, e5.mono e4 (fun b o u hc => undr_cell.2 ⟨(undr_cell.1 hc).1, by rw [hbw.cell (p := ⟨b, o, none⟩) (undr_cell.1 hc).1]; exact (undr_cell.1 hc).2⟩)⟩
        · have h1 := flat_le (c := fun i => 1 :: (lettersK (nm i).data.toList ++ (f i).key)) (j := i + 1) (n := fn) (by omega)
          rw [flat_snoc] at h1
          simp only [List.length_append, List.length_cons, List.length_nil] at h1 e ⊢
          omega
    obtain ⟨t, ht, hrest⟩ := hkey
    rw [ht] at hE ⊢
    exact wvalue_any W B d t v0 k n s la ln lc fa fn fc w hW hB (by simp at hE; omega) hrest hkb
end Go.Proofs.Yticbcoklpgfkhaa

/- key.Join and key.Of: joint keys of values. -/
namespace Go.Proofs.Yticbcoklpgfkhaa
open Go.RowKit

/-- The first values' keys, one behind the other. -/
def keysN (l : Nat → GV) (j : Nat) : List UInt8 := (List.range j).flatMap fun i => (l i).key
theorem keysN_len {l : Nat → GV} {j : Nat} (h : ∀ i, i < j → (l i).err = 0) : (keysN l j).length ≤ j * 10239 := by
  induction j with
  | zero => simp [keysN]
  | succ j ih =>
    have h1 := ih fun i hi => h i (by omega)
    have h2 := key_most (h j (by omega))
    unfold keysN at h1 ⊢
    rw [flat_snoc, List.length_append]
    omega
/-- What Join tells. -/
def JoinSay (n : Nat) (l : Nat → GV) (w : World) (e : Ending) (w' : World) : Prop :=
  RowKit.Below w.heap.size w w' ∧ ((∃ j, j < n ∧ (∀ i, i < j → (l i).err = 0) ∧ (l j).err ≠ 0 ∧ e = .returned (.tuple #[.slice none 0 0, .int .i64 (l j).err])) ∨ ((∀ i, i < n → (l i).err = 0) ∧ ∃ v', e = .returned (.tuple #[v', .int .i64 0]) ∧ w'.ownsRow w.heap.size 5 1 v' (keysN l n).length (Lib.byteCells (keysN l n))))

set_option maxHeartbeats 4000000 in
set_option maxRecDepth 1000000 in
theorem Join_any (n c : Nat) (a : Option Addr) (l : Nat → GV) (w : World) (hV : Vals w a n l) (hN : ∀ i, i < n → (l i).nodes ≤ 16384) (_hnc : n ≤ c) (_hcm : c ≤ maxLen) (hn : n ≤ 10000000) :
    Calls Try.prog 26 #[.slice a n c] w fun e w' => JoinSay n l w e w' := by
  have hml : maxLen = 9223372036854775807 := rfl
  have HV : Hid (∀ i, i < n → ∃ b o v', a = some ⟨b, o, none⟩ ∧ Lies w (l i) v' ∧ At5 w b (o + i * 5) v') := hV
  have HN := mkHid hN
  have hb1 := (RowKit.Below.refl w.heap.size w).alloc (Nat.le_refl _) (.cells #[.slice none 0 0] 72)
  have H1 : Hid (Wr w.heap.size w.heap.size [] (.slice none 0 0) (w.alloc (.cells #[.slice none 0 0] 72))) := ⟨heap_alloc_new w _, ⟨rfl, Or.inl ⟨rfl, rfl⟩⟩, by simp [Value.ownBlock], Nat.le_refl _⟩
  have HB1 := mkHid hb1
  clear hV hN hb1
  go_enter Try.func26, Try.ntmps26
  go_wp2_with fail
  go_loopw [10] (fun i wr => ∃ (j : Nat) (v : Value), i = .int .i64 j ∧ j ≤ n ∧ (∀ i, i < j → (l i).err = 0) ∧ Wr w.heap.size w.heap.size (keysN l j) v wr ∧ RowKit.Below w.heap.size w wr) (fun i _ => n - (intOf i).toNat)
  case atStart => exact ⟨0, _, rfl, by omega, fun i hi => absurd hi (Nat.not_lt_zero _), H1.out, HB1.out⟩
  case round =>
    obtain ⟨j, v, rfl, hj, hok, hw, hb⟩ := hrel
    have hsz := hb.size
    by_cases hlt : j < n
    · obtain ⟨b', o', v', rfl, hLj, hAj⟩ := HV.out j hlt
      have hag := hLj.agg
      obtain ⟨k', n', s', la', ln', lc', fa', fn', fc', rfl⟩ := hag
      obtain ⟨q0, q1, q2, q3, q4⟩ := hAj.five
      have p0 := below_keeps hb _ _ _ q0
      have p1 := below_keeps hb _ _ _ q1
      have p2 := below_keeps hb _ _ _ q2
      have p3 := below_keeps hb _ _ _ q3
      have p4 := below_keeps hb _ _ _ q4
      obtain ⟨O, hO⟩ : ∃ O : Obj, O = .cells #[.int .i64 k', .int .i64 n', .string s', .slice la' ln' lc', .slice fa' fn' fc'] 25 := ⟨_, rfl⟩
      have hbe := (RowKit.Below.refl wr.heap.size wr).alloc (Nat.le_refl _) O
      have hba : RowKit.Below w.heap.size w (wr.alloc O) := hb.trans (hbe.mono hsz)
      have HGD := mkHid (Good_any (l j) _ (wr.alloc O) (hLj.below hba) (HN.out j hlt))
      have hbox : Blk5 (wr.alloc O) wr.heap.size (.int .i64 k') (.int .i64 n') (.string s') (.slice la' ln' lc') (.slice fa' fn' fc') := by rw [hO]; exact Blk5.new wr _ _ _ _ _
      have HBX := mkHid hbox
      have HU := mkHid (und_all hLj)
      have HBA := mkHid hba
      have HW := mkHid (hw.new hbe)
      have HO := mkHid hO
      have HOK := mkHid hok
      have hkl := keysN_len hok
      clear hLj hAj q0 q1 q2 q3 q4 hb hbe hba hw hbox hok
      by_cases hee : (l j).err = 0
      · have HE0 := mkHid hee
        rw [hee] at HGD
        clear hee
        go_wp2_with fail
        rw [← HO.out]
        refine HGD.out.mono ?_
        rintro e w1 ⟨rfl, hb1⟩
        obtain ⟨c0, c1, c2, c3, c4⟩ := (HBX.out.below hb1).cells
        have hs1 := hb1.size
        have hB1 := HBA.out.trans (hb1.mono HBA.out.size)
        have HB1 := mkHid hB1
        have HC := mkHid (key_any (l j) (err_zeroM HE0.out).1 w.heap.size w.heap.size (keysN l j) v _ w1 (HW.out.new hb1) hB1.size (HU.out.keep hB1) (by have := key_most HE0.out; omega))
        have HOW := mkHid (HW.out.new hb1).own
        have hB1s := hB1.size
        clear hb1 hB1
        go_wp2_with fail
        refine HC.out.mono ?_
        rintro e w2 ⟨rfl, v2, hw2, hg2⟩
        have HB2 := mkHid (HB1.out.trans (hg2.below HOW.out hB1s (Nat.le_refl _)))
        have HW2 := mkHid hw2
        clear hw2 hg2
        go_wp2_with fail
        go_roundw
        case rel =>
          refine ⟨j + 1, v2, by go_num, by omega, ?_, ?_, HB2.out⟩
          · intro i hi
            rcases Nat.lt_succ_iff_lt_or_eq.1 hi with h1 | rfl
            · exact HOK.out i h1
            · exact HE0.out
          · unfold keysN
            rw [flat_snoc]
            exact HW2.out
        case measure => simp [intOf]; omega
      · obtain ⟨m, hm⟩ : ∃ m, m = (l j).err := ⟨_, rfl⟩
        have HEJ : Hid (∃ j, j < n ∧ (∀ i, i < j → (l i).err = 0) ∧ (l j).err ≠ 0 ∧ Ending.returned (.tuple #[.slice none 0 0, .int .i64 m]) = .returned (.tuple #[.slice none 0 0, .int .i64 (l j).err])) := ⟨j, hlt, HOK.out, hee, by rw [hm]⟩
        have k0 : (m == 0) = false := by rw [hm]; simpa using hee
        rw [← hm] at HGD
        clear hee hm
        go_wp2_with fail
        rw [← HO.out]
        refine HGD.out.mono ?_
        rintro e w1 ⟨rfl, hb1⟩
        obtain ⟨c0, c1, c2, c3, c4⟩ := (HBX.out.below hb1).cells
        have HB1 := mkHid (HBA.out.trans (hb1.mono HBA.out.size))
        clear hb1
        go_wp2_with fail
        go_ret2
        exact ⟨HB1.out, Or.inl HEJ.out⟩
    · obtain rfl : n = j := by omega
      obtain ⟨a1, c1', rfl, _⟩ := own_slice hw.own
      have c0 := hw.blk.cell
      have HE := mkHid hw.own
      have HOK := mkHid hok
      have HB := mkHid hb
      clear hw hok hb
      go_wp2_with fail
      go_ret2
      exact ⟨HB.out, Or.inr ⟨HOK.out, _, rfl, HE.out⟩⟩

/-- What Of tells. -/
def OfSay (g : GV) (w : World) (e : Ending) (w' : World) : Prop :=
  RowKit.Below w.heap.size w w' ∧ ((g.err ≠ 0 ∧ e = .returned (.tuple #[.slice none 0 0, .int .i64 g.err])) ∨ (g.err = 0 ∧ ∃ v', e = .returned (.tuple #[v', .int .i64 0]) ∧ w'.ownsRow w.heap.size 5 1 v' g.key.length (Lib.byteCells g.key)))
theorem own_more {w : World} {B B' t size n : Nat} {v : Value} {xs : List Value} (h : w.ownsRow B t size v n xs) (hB : B' ≤ B) : w.ownsRow B' t size v n xs := by
  refine ⟨h.1, ?_⟩
  rcases h.2 with h0 | ⟨g, cap, cur, rfl, h1, h2⟩
  · exact Or.inl h0
  · exact Or.inr ⟨g, cap, cur, rfl, Nat.le_trans hB h1, h2⟩
set_option maxHeartbeats 2000000 in
set_option maxRecDepth 1000000 in
theorem Of_any (g : GV) (v : Value) (w : World) (hL : Lies w g v) (hN : g.nodes ≤ 16384) : Calls Try.prog 20 #[v] w fun e w' => OfSay g w e w' := by
  have hml : maxLen = 9223372036854775807 := rfl
  obtain ⟨k, n, s, la, ln, lc, fa, fn, fc, rfl⟩ := hL.agg
  have hb1 := (RowKit.Below.refl w.heap.size w).alloc (Nat.le_refl _) (.cells #[.int .i64 k, .int .i64 n, .string s, .slice la ln lc, .slice fa fn fc] 25)
  have hb2 := hb1.alloc (by simp) (.cells #[.int .i64 k, .int .i64 n, .string s, .slice la ln lc, .slice fa fn fc] 25)
  have hV : Vals ((w.alloc (.cells #[.int .i64 k, .int .i64 n, .string s, .slice la ln lc, .slice fa fn fc] 25)).alloc (.cells #[.int .i64 k, .int .i64 n, .string s, .slice la ln lc, .slice fa fn fc] 25)) (some ⟨w.heap.size + 1, 0, none⟩) 1 (fun _ => g) := by
    intro i hi
    obtain rfl : i = 0 := by omega
    refine ⟨w.heap.size + 1, 0, _, rfl, hL.below hb2, ?_⟩
    intro j hj
    simp [Value.cells]
  have HJ := mkHid (Join_any 1 1 _ (fun _ => g) _ hV (fun _ _ => hN) (Nat.le_refl _) (by omega) (by omega))
  have HB2 := mkHid hb2
  have HK : Hid (keysN (fun _ => g) 1 = g.key) := by show _ = _; simp [keysN]
  clear hL hb1 hb2 hV
  go_enter Try.func20, Try.ntmps20
  go_wp2_with fail
  refine HJ.out.mono ?_
  rintro e w2 ⟨hb, ⟨j, hj, hok, hne, rfl⟩ | ⟨hok, v', rfl, ho⟩⟩
  · have HB := mkHid (HB2.out.trans (hb.mono HB2.out.size))
    have HE : Hid (g.err ≠ 0) := hne
    obtain ⟨m, hm⟩ : ∃ m, m = g.err := ⟨_, rfl⟩
    have HEM := mkHid hm
    rw [show (fun _ => g) j = g from rfl, ← hm]
    clear hb hok hne hm
    go_wp2_with fail
    go_ret2
    exact ⟨HB.out, Or.inl ⟨HE.out, by rw [HEM.out]; rfl⟩⟩
  · have HB := mkHid (HB2.out.trans (hb.mono HB2.out.size))
    have HE : Hid (g.err = 0) := hok 0 (by omega)
    rw [HK.out] at ho
    obtain ⟨a1, c1', rfl, _⟩ := own_slice ho
    have HO := mkHid (own_more (B' := w.heap.size) ho HB2.out.size)
    clear hb hok ho
    go_wp2_with fail
    go_ret2
    exact ⟨HB.out, Or.inr ⟨HE.out, _, rfl, HO.out⟩⟩
end Go.Proofs.Yticbcoklpgfkhaa

/- The statements' small helper I. -/
namespace Go.Proofs.Yticbcoklpgfkhaa
open Go.RowKit

set_option maxHeartbeats 1000000 in
theorem I_any (n : Int) (w : World) : Calls Try.prog 15 #[.int .i64 n] w fun e w' => e = .returned (vI n) ∧ Below w.heap.size w w' := by
  go_enter Try.func15, Try.ntmps15
  go_wp2
  refine bodyPost_ret (v := (vI n)) ?_ rfl ⟨rfl, by repeat (first | exact Below.refl _ _ | apply Below.drew | refine Below.alloc ?_ (by simp) _ | refine Below.setCell ?_ (by simp) _)⟩
  have hres : Try.f15.results = #[.cell 2 25] := by kernel_rfl
  simp only [results, hres]
  go_simp
  rfl
end Go.Proofs.Yticbcoklpgfkhaa

/- The statements' small helpers, of stage 3. -/
namespace Go.Proofs.Yticbcoklpgfkhaa
open Go.RowKit

set_option maxHeartbeats 1000000 in
theorem N_any (w : World) : Calls Try.prog 14 #[] w fun e w' => e = .returned vN ∧ Below w.heap.size w w' := by
  go_enter Try.func14, Try.ntmps14
  go_wp2
  refine bodyPost_ret (v := vN) ?_ rfl ⟨rfl, by repeat (first | exact Below.refl _ _ | apply Below.drew | refine Below.alloc ?_ (by simp) _ | refine Below.setCell ?_ (by simp) _)⟩
  have hres : Try.f14.results = #[.cell 0 25] := by kernel_rfl
  simp only [results, hres]
  go_simp
  rfl
set_option maxHeartbeats 1000000 in
theorem L_any (a : Option Addr) (n c : Nat) (w : World) : Calls Try.prog 16 #[.slice a n c] w fun e w' => e = .returned (vL a n c) ∧ Below w.heap.size w w' := by
  go_enter Try.func16, Try.ntmps16
  go_wp2
  refine bodyPost_ret (v := (vL a n c)) ?_ rfl ⟨rfl, by repeat (first | exact Below.refl _ _ | apply Below.drew | refine Below.alloc ?_ (by simp) _ | refine Below.setCell ?_ (by simp) _)⟩
  have hres : Try.f16.results = #[.cell 2 25] := by kernel_rfl
  simp only [results, hres]
  go_simp
  rfl
set_option maxHeartbeats 1000000 in
theorem T_any (s : ByteArray) (w : World) : Calls Try.prog 34 #[.string s] w fun e w' => e = .returned (vT s) ∧ Below w.heap.size w w' := by
  go_enter Try.func34, Try.ntmps34
  go_wp2
  refine bodyPost_ret (v := (vT s)) ?_ rfl ⟨rfl, by repeat (first | exact Below.refl _ _ | apply Below.drew | refine Below.alloc ?_ (by simp) _ | refine Below.setCell ?_ (by simp) _)⟩
  have hres : Try.f34.results = #[.cell 2 25] := by kernel_rfl
  simp only [results, hres]
  go_simp
  rfl
set_option maxHeartbeats 1000000 in
theorem D_any (s : ByteArray) (g : GV) (v : Value) (w : World) (hL : Lies w g v) (hs : s.size ≤ 140737488355328) :
    Calls Try.prog 17 #[.string s, v] w fun e w' => ∃ a, e = .returned (vD a 1 1) ∧ Flds w' a 1 (fun _ => s) (fun _ => g) ∧ Below w.heap.size w w' := by
  have HL : Hid (Lies w g v) := hL
  obtain ⟨k, n, s0, la, ln, lc, fa, fn, fc, rfl⟩ := hL.agg
  clear hL
  go_enter Try.func17, Try.ntmps17
  go_wp2
  have hB : ∀ {w' : World}, Below w.heap.size w w' → w'.cell? ⟨w.heap.size + 2, 0, none⟩ = some (.string s) → w'.cell? ⟨w.heap.size + 2, 1, none⟩ = some (.int .i64 k) → w'.cell? ⟨w.heap.size + 2, 2, none⟩ = some (.int .i64 n) → w'.cell? ⟨w.heap.size + 2, 3, none⟩ = some (.string s0) → w'.cell? ⟨w.heap.size + 2, 4, none⟩ = some (.slice la ln lc) → w'.cell? ⟨w.heap.size + 2, 5, none⟩ = some (.slice fa fn fc) →
      Flds w' (some ⟨w.heap.size + 2, 0, none⟩) 1 (fun _ => s) (fun _ => g) ∧ Below w.heap.size w w' := by
    intro w' hb c0 c1 c2 c3 c4 c5
    refine ⟨fun i hi => ?_, hb⟩
    obtain rfl : i = 0 := by omega
    refine ⟨w.heap.size + 2, 0, _, rfl, hs, by simpa using c0, HL.out.below hb, fun j hj => ?_⟩
    obtain rfl | rfl | rfl | rfl | rfl : j = 0 ∨ j = 1 ∨ j = 2 ∨ j = 3 ∨ j = 4 := by omega
    · simpa [Value.cells] using c1
    · simpa [Value.cells] using c2
    · simpa [Value.cells] using c3
    · simpa [Value.cells] using c4
    · simpa [Value.cells] using c5
  refine bodyPost_ret (v := vD (some ⟨w.heap.size + 2, 0, none⟩) 1 1) ?_ rfl ⟨_, rfl, hB ?_ ?_ ?_ ?_ ?_ ?_ ?_⟩
  · have hres : Try.f17.results = #[.cell 4 25] := by kernel_rfl
    simp only [results, hres]
    go_simp
    rfl
  · repeat (first | exact Below.refl _ _ | apply Below.drew | refine Below.alloc ?_ (by simp <;> omega) _ | refine Below.setCell ?_ (by simp) _)
  all_goals (go_simp)
end Go.Proofs.Yticbcoklpgfkhaa

/- The statements' own 'is' and 'awake' of stage 5. -/
namespace Go.Proofs.Yticbcoklpgfkhaa
open Go.RowKit

theorem same_left : ∀ a b c : GV, a.same b = true → a.same c = true → b.same c = true := by
  intro a
  induction a with
  | nil => intro b c h; simp [GV.same] at h
  | mk k n s ln l fn nm f ihl ihf =>
    intro b c h h'
    cases b with
    | nil => simp [GV.same] at h
    | mk k1 n1 s1 ln1 l1 fn1 nm1 f1 =>
      cases c with
      | nil => simp [GV.same] at h'
      | mk k2 n2 s2 ln2 l2 fn2 nm2 f2 =>
        simp [GV.same] at h h' ⊢
        obtain ⟨⟨⟨⟨⟨⟨h1, h2⟩, h3⟩, h4⟩, h5⟩, h6⟩, h7⟩ := h
        obtain ⟨⟨⟨⟨⟨⟨h1', h2'⟩, h3'⟩, h4'⟩, h5'⟩, h6'⟩, h7'⟩ := h'
        subst h1 h2 h3 h4 h5 h1' h2' h3' h4' h5'
        exact ⟨⟨⟨⟨⟨⟨rfl, rfl⟩, rfl⟩, rfl⟩, rfl⟩, fun i hi => ihl i _ _ (h6 i hi) (h6' i hi)⟩, fun i hi => ⟨(h7 i hi).1.symm.trans (h7' i hi).1, ihf i _ _ (h7 i hi).2 (h7' i hi).2⟩⟩
/-- Two good values of one key are the same. -/
theorem key_same {g g' : GV} (h : g.err = 0) (h' : g'.err = 0) (hn : g.every GV.nOk = true) (hn' : g'.every GV.nOk = true) (e : g.key = g'.key) : g.same g' = true := by
  obtain ⟨_, _, g0, h1, h2⟩ := begins_same (l := g.key) (rest := []) (rest' := []) ⟨h, by simp⟩ ⟨h', by simp [e]⟩ hn hn'
  exact same_left g0 g g' h1 h2
/-- The bytes of a row as a text. -/
theorem byts_text {w : World} {a : Option Addr} {c : Nat} {t : List UInt8} (h : Byts w a t) : (convert 29 9 (.slice a t.length c)).run Try.prog w = .ok (.string ⟨t.toArray⟩) w := by
  cases a with
  | none =>
    cases t with
    | nil => exact run_convert_bytes_nil w 29 5 Try.underlying29 Try.underlying5 0 c 9 Try.underlying9
    | cons x t =>
      obtain ⟨b, o, e, _⟩ := h 0 (by simp)
      exact absurd e (by simp)
  | some ad =>
    refine run_convert_bytes_back w 29 9 5 ad c t Try.underlying29 Try.underlying5 Try.underlying9 ?_
    intro j hj
    obtain ⟨b, o, e, hc⟩ := h j hj
    cases e
    rw [show (⟨b, o, none⟩ : Addr).add j = ⟨b, o + j, none⟩ by simp [Addr.add]]
    exact hc

set_option maxHeartbeats 2000000 in
set_option maxRecDepth 1000000 in
theorem is_yes (g : GV) (v : Value) (a : Option Addr) (c : Nat) (w : World) (hL : Lies w g v) (hN : g.nodes ≤ 16384) (he : g.err = 0) (hB : Byts w a g.key) :
    Calls Try.prog 13 #[v, .slice a g.key.length c] w fun e w' => e = .returned (.bool true) ∧ RowKit.Below w.heap.size w w' := by
  obtain ⟨k, n, s, la, ln, lc, fa, fn, fc, rfl⟩ := hL.agg
  have hbx := (RowKit.Below.refl w.heap.size w).alloc (Nat.le_refl _) (.cells #[.int .i64 k, .int .i64 n, .string s, .slice la ln lc, .slice fa fn fc] 25)
  have HO := mkHid (Of_any g _ _ (hL.below hbx) hN)
  have HBX := mkHid hbx
  have HB := mkHid hB
  have HE := mkHid he
  obtain ⟨t, ht⟩ : ∃ t, t = g.key := ⟨_, rfl⟩
  obtain ⟨N, hNN⟩ : ∃ N, N = g.key.length := ⟨_, rfl⟩
  have HT : Hid (∀ u : World, RowKit.Below w.heap.size w u → (convert 29 9 (.slice a N c)).run Try.prog u = .ok (.string ⟨t.toArray⟩) u) := fun u hu => by
    rw [hNN, ht]
    exact byts_text (HB.out.below hu)
  unfold OfSay at HO
  rw [← ht] at HO
  rw [← hNN]
  clear hL hbx hB he ht hNN
  go_enter Try.func13, Try.ntmps13
  go_wp2_with fail
  refine HO.out.mono ?_
  rintro e w2 ⟨hb, ⟨hne, _⟩ | ⟨_, v', rfl, ho⟩⟩
  · exact absurd HE.out hne
  · have hb2 := HBX.out.trans (hb.mono HBX.out.size)
    have q1 := HT.out w2 hb2
    have q2 := own_string ho
    obtain ⟨a1, c1, rfl, _⟩ := own_slice ho
    have HB2 := mkHid hb2
    clear hb hb2 ho
    go_wp2_with fail
    go_ret
    exact ⟨by simp, HB2.out⟩

set_option maxHeartbeats 4000000 in
set_option maxRecDepth 1000000 in
theorem awake5_any (w : World) : Calls Try.prog 12 #[] w fun e w' => e = .returned (.bool true) ∧ RowKit.Below w.heap.size w w' := by
  have hml : maxLen = 9223372036854775807 := rfl
  have he : (gT ⟨#[97]⟩).err = 0 := by decide +kernel
  have hkey : (gT ⟨#[97]⟩).key = [40, 97, 0, 0] := by decide +kernel
  have hok : (gT ⟨#[97]⟩).every GV.nOk = true := by decide +kernel
  have HTT : Hid (∀ u : World, Calls Try.prog 34 #[.string ⟨#[97]⟩] u fun e w' => e = .returned (.agg #[.int .i64 4, .int .i64 0, .string ⟨#[97]⟩, .slice none 0 0, .slice none 0 0]) ∧ RowKit.Below u.heap.size u w') := fun u => T_any ⟨#[97]⟩ u
  have HB4 : Hid (∀ u : World, Byts (u.alloc (.cells #[.int .u8 40, .int .u8 97, .int .u8 0, .int .u8 0] 5)) (some ⟨u.heap.size, 0, none⟩) [40, 97, 0, 0]) := by
    intro u i hi
    refine ⟨u.heap.size, 0, rfl, ?_⟩
    have hi2 : i < 4 := by simpa using hi
    obtain rfl | rfl | rfl | rfl : i = 0 ∨ i = 1 ∨ i = 2 ∨ i = 3 := by omega
    all_goals simp
  have HBK : Hid (∀ u : World, Calls Try.prog 9 #[.slice (some ⟨u.heap.size, 0, none⟩) 4 4] (u.alloc (.cells #[.int .u8 40, .int .u8 97, .int .u8 0, .int .u8 0] 5)) fun e w' => BackSay [40, 97, 0, 0] (u.alloc (.cells #[.int .u8 40, .int .u8 97, .int .u8 0, .int .u8 0] 5)) e w') := fun u => Back_any _ 4 [40, 97, 0, 0] _ (HB4.out u) (by simp) (by omega) (by simp)
  have HIS : Hid (∀ u : World, Calls Try.prog 13 #[.agg #[.int .i64 4, .int .i64 0, .string ⟨#[97]⟩, .slice none 0 0, .slice none 0 0], .slice (some ⟨u.heap.size, 0, none⟩) 4 4] (u.alloc (.cells #[.int .u8 40, .int .u8 97, .int .u8 0, .int .u8 0] 5)) fun e w' => e = .returned (.bool true) ∧ RowKit.Below (u.alloc (.cells #[.int .u8 40, .int .u8 97, .int .u8 0, .int .u8 0] 5)).heap.size (u.alloc (.cells #[.int .u8 40, .int .u8 97, .int .u8 0, .int .u8 0] 5)) w') := by
    intro u
    have h := is_yes (gT ⟨#[97]⟩) (vT ⟨#[97]⟩) (some ⟨u.heap.size, 0, none⟩) 4 (u.alloc (.cells #[.int .u8 40, .int .u8 97, .int .u8 0, .int .u8 0] 5)) (lies_T _ _ (by decide)) (by decide +kernel) he (by rw [hkey]; exact HB4.out u)
    rw [hkey] at h
    exact h
  have HIS2 : Hid (∀ (u : World) (a : Addr), Byts u (some a) [40, 97, 0, 0] → Calls Try.prog 13 #[.agg #[.int .i64 4, .int .i64 0, .string ⟨#[97]⟩, .slice none 0 0, .slice none 0 0], .slice (some a) 4 4] u fun e w' => e = .returned (.bool true) ∧ RowKit.Below u.heap.size u w') := by
    intro u a hBy
    have h := is_yes (gT ⟨#[97]⟩) (vT ⟨#[97]⟩) (some a) 4 u (lies_T _ _ (by decide)) (by decide +kernel) he (by rw [hkey]; exact hBy)
    rw [hkey] at h
    exact h
  have HKS : Hid (∀ g : GV, g.err = 0 → g.every GV.nOk = true → [40, 97, 0, 0] = g.key → g.same (gT ⟨#[97]⟩) = true) := fun g h1 h2 h3 => key_same h1 he h2 hok (by rw [← h3, hkey])
  have HNO : Hid (¬ ∀ g : GV, g.err = 0 → g.every GV.nOk = true → [40, 97, 0, 0] ≠ g.key) := fun h => h _ he hok hkey.symm
  clear he hkey hok
  go_enter Try.func12, Try.ntmps12
  go_wp2_with fail
  refine (HBK.out w).mono ?_
  rintro e w1 ⟨hb1, ⟨f, hf1, hf2, rfl, hfr⟩ | ⟨hno, _⟩⟩
  · have ha := (RowKit.Below.refl w.heap.size w).alloc (Nat.le_refl _) (.cells #[.int .u8 40, .int .u8 97, .int .u8 0, .int .u8 0] 5)
    have hbw := ha.trans (hb1.mono ha.size)
    have hsame := HKS.out f.g hf1 (nOk_lies hfr.lies) hf2
    obtain ⟨nm, kk, n2, s, la, ln, lc, fa, fn, fc, gg⟩ := f
    have hLg : Lies w1 gg (.agg #[.int .i64 kk, .int .i64 n2, .string s, .slice la ln lc, .slice fa fn fc]) := hfr.lies
    obtain ⟨W3, hW3⟩ : ∃ W3, W3 = w1.alloc (.cells #[.int .i64 kk, .int .i64 n2, .string s, .slice la ln lc, .slice fa fn fc] 25) := ⟨_, rfl⟩
    have hb3 : RowKit.Below w1.heap.size w1 W3 := by rw [hW3]; exact (RowKit.Below.refl _ _).alloc (Nat.le_refl _) _
    have hbox : Blk5 W3 w1.heap.size (.int .i64 kk) (.int .i64 n2) (.string s) (.slice la ln lc) (.slice fa fn fc) := by rw [hW3]; exact Blk5.new w1 _ _ _ _ _
    have HKK : Hid (∀ u : World, RowKit.Below W3.heap.size W3 u → u.cell? ⟨w1.heap.size, 0, none⟩ = some (.int .i64 kk) ∧ u.cell? ⟨w1.heap.size, 1, none⟩ = some (.int .i64 n2) ∧ u.cell? ⟨w1.heap.size, 2, none⟩ = some (.string s) ∧ u.cell? ⟨w1.heap.size, 3, none⟩ = some (.slice la ln lc) ∧ u.cell? ⟨w1.heap.size, 4, none⟩ = some (.slice fa fn fc)) := fun u hu => (hbox.below hu).cells
    have HSM : Hid (∀ u : World, RowKit.Below W3.heap.size W3 u → Calls Try.prog 25 #[.agg #[.int .i64 kk, .int .i64 n2, .string s, .slice la ln lc, .slice fa fn fc], .agg #[.int .i64 4, .int .i64 0, .string ⟨#[97]⟩, .slice none 0 0, .slice none 0 0]] u fun e w' => e = .returned (.bool true) ∧ RowKit.Below u.heap.size u w') := by
      intro u hu
      have h := Same_any gg (gT ⟨#[97]⟩) _ (vT ⟨#[97]⟩) u (hLg.below (hb3.trans (hu.mono hb3.size))) (lies_T u _ (by decide))
      rw [hsame] at h
      exact h
    have HB3 : Hid (RowKit.Below w.heap.size w W3) := hbw.trans (hb3.mono hbw.size)
    have hd3 : RowKit.Below W3.heap.size W3 (w1.alloc (.cells #[.int .i64 kk, .int .i64 n2, .string s, .slice la ln lc, .slice fa fn fc] 25)).drew := by rw [hW3]; exact (RowKit.Below.refl _ _).drew
    have hA : RowKit.Below W3.heap.size W3 ((w1.alloc (.cells #[.int .i64 kk, .int .i64 n2, .string s, .slice la ln lc, .slice fa fn fc] 25)).alloc (.cells #[.int .u8 40, .int .u8 97, .int .u8 0, .int .u8 0] 5)).drew := by rw [hW3]; exact ((RowKit.Below.refl _ _).alloc (Nat.le_refl _) _).drew
    have hBy0 : Byts ((w1.alloc (.cells #[.int .i64 kk, .int .i64 n2, .string s, .slice la ln lc, .slice fa fn fc] 25)).alloc (.cells #[.int .u8 40, .int .u8 97, .int .u8 0, .int .u8 0] 5)).drew (some ⟨w1.heap.size + 1, 0, none⟩) [40, 97, 0, 0] := by
      have h := HB4.out (w1.alloc (.cells #[.int .i64 kk, .int .i64 n2, .string s, .slice la ln lc, .slice fa fn fc] 25))
      simp only [World.alloc, Array.size_push] at h
      exact h
    have HBY := mkHid hBy0
    have hS := HKK.out _ hd3
    simp only [Fl.val]
    clear ha hbw hsame hLg hW3 hb3 hbox hb1 hf1 hf2 hfr hBy0
    go_wp2_with fail
    go_region_held3 (fun u => u.cell? ⟨w1.heap.size, 0, none⟩ = some (.int .i64 kk) ∧ u.cell? ⟨w1.heap.size, 1, none⟩ = some (.int .i64 n2) ∧ u.cell? ⟨w1.heap.size, 2, none⟩ = some (.string s) ∧ u.cell? ⟨w1.heap.size, 3, none⟩ = some (.slice la ln lc) ∧ u.cell? ⟨w1.heap.size, 4, none⟩ = some (.slice fa fn fc)) (first | with_reducible exact hS | with_reducible exact HKK.out _ (h4.alloc h4.size _) | with_reducible exact HKK.out _ hA) (first
      | (go_at_call 34; refine (HTT.out _).mono ?_; rintro e w4 ⟨rfl, b4⟩; have h4 : RowKit.Below W3.heap.size W3 w4 := (by first | with_reducible exact hd3.trans (b4.mono hd3.size) | with_reducible exact hA.trans (b4.mono hA.size) | with_reducible exact h5.trans (b4.mono h5.size)); have hS := HKK.out _ h4; have b4' := mkHid b4)
      | (go_at_call 13; refine (show Calls _ _ _ _ _ from by first | with_reducible exact HIS.out w4 | with_reducible exact HIS2.out _ _ (HBY.out.below b4'.out)).mono ?_; rintro e w5 ⟨rfl, b5⟩; have h5 : RowKit.Below W3.heap.size W3 w5 := (by first | with_reducible exact h4.trans (b5.mono h4.size) | with_reducible exact (h4.alloc h4.size _).trans (b5.mono (h4.alloc h4.size _).size)); have hS := HKK.out _ h5)
      | (go_at_call 25; refine (HSM.out _ (by assumption)).mono ?_; rintro e w6 ⟨rfl, b6⟩; have h6 : RowKit.Below W3.heap.size W3 w6 := h4.trans (b6.mono h4.size); have hS := HKK.out _ h6))
    all_goals
      go_wp2_with fail
      go_ret
      exact ⟨rfl, HB3.out.trans (h6.mono HB3.out.size)⟩
  · exact absurd hno HNO.out
end Go.Proofs.Yticbcoklpgfkhaa
