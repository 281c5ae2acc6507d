/- key.Split: the values of a joint key. -/
import Derived.Test.YticbcoklpgfkhaaKyFirst
namespace Go.Proofs.Yticbcoklpgfkhaa
open Go.RowKit

def keysF (fs : List Fl) : List UInt8 := fs.flatMap fun f => f.g.key
theorem keysF_snoc (fs : List Fl) (f : Fl) : keysF (fs ++ [f]) = keysF fs ++ f.g.key := by simp [keysF]
/-- The values that were read, in a row of one's own. -/
structure Sp (w w' : World) (v : Value) (fs : List Fl) : Prop where
  below : RowKit.Below w.heap.size w w'
  own : w'.ownsRow w.heap.size 25 5 v fs.length (valCells (fs.map Fl.val))
  trees : ∀ f ∈ fs, Off (hid w.heap.size v []) w' f.g f.val ∧ f.g.err = 0
theorem Sp.new {w w1 w2 : World} {v : Value} {fs : List Fl} (h : Sp w w1 v fs) (hb : RowKit.Below w1.heap.size w1 w2) : Sp w w2 v fs :=
  ⟨h.below.trans (hb.mono h.below.size), own_below h.own hb, fun f hf => ⟨(h.trees f hf).1.keep fun b hb2 hp => ⟨hp, hb.block b hb2⟩, (h.trees f hf).2⟩⟩
theorem Sp.more {w w1 w2 w3 : World} {v v' : Value} {fs : List Fl} {f : Fl} (h : Sp w w1 v fs) (hb : RowKit.Below w1.heap.size w1 w2) (hf : From w1.heap.size w2 f.g f.val) (he : f.g.err = 0) (ho : w3.ownsRow w.heap.size 25 5 v' (fs.length + 1) (valCells (fs.map Fl.val) ++ f.val.cells.toList)) (hg : w2.grownBy w3 v.ownBlock) (hat : v'.ownBlock = v.ownBlock ∨ v'.ownBlock = some w2.heap.size) : Sp w w3 v' (fs ++ [f]) := by
  have h2 := h.new hb
  have hs1 := h.below.size
  have hkp : ∀ b, b < w2.heap.size → hid w.heap.size v [] b = false → hid w.heap.size v' [] b = false ∧ w3.heap[b]? = w2.heap[b]? := by
    intro b hb2 hp
    obtain ⟨q1, q2, _⟩ := hid_false.1 hp
    refine ⟨hid_false.2 ⟨q1, ?_, fun x hx => absurd hx (by simp)⟩, hg.block b hb2 fun e => q2 e.symm⟩
    rcases hat with e | e
    · rw [e]; exact q2
    · rw [e]
      intro e2
      cases e2
      omega
  refine ⟨h2.below.grown hg h2.below.size (fun k e => (own_blk h2.own e).2), ?_, ?_⟩
  · rw [List.map_append, show [f].map Fl.val = [f.val] from rfl, valCells_snoc, List.length_append]
    exact ho
  · intro x hx
    rcases List.mem_append.1 hx with hx | hx
    · exact ⟨(h2.trees x hx).1.keep hkp, (h2.trees x hx).2⟩
    · obtain rfl : x = f := by simpa using hx
      refine ⟨?_, he⟩
      have h0 : Off (hid w.heap.size v []) w2 x.g x.val := Lies.mono (fun b o u hc => by
        obtain ⟨h1, h3⟩ := mask_cell.1 hc
        refine hide_cell.2 ⟨hid_false.2 ⟨by omega, fun e => ?_, fun x hx => absurd hx (by simp)⟩, h3⟩
        have := (own_blk h.own e).1
        omega) hf
      exact h0.keep hkp
/-- Good values whose keys are the bytes. -/
def KeysAre (gs : List GV) (n : Nat) (l : List UInt8) : Prop := gs.length = n ∧ (∀ g ∈ gs, g.err = 0 ∧ g.every GV.nOk = true) ∧ l = gs.flatMap GV.key
/-- What Split tells. -/
def SplitSay (l : List UInt8) (n : Nat) (w : World) (e : Ending) (w' : World) : Prop :=
  RowKit.Below w.heap.size w w' ∧ ((∃ v fs, fs.length = n ∧ l = keysF fs ∧ Sp w w' v fs ∧ e = .returned (.tuple #[v, .int .i64 0])) ∨ ((∀ gs, ¬ KeysAre gs n l) ∧ e = .returned (.tuple #[.slice none 0 0, .int .i64 4])))
theorem key_pos {g : GV} (h : g.err = 0) : 0 < g.key.length := by
  cases g with
  | nil => have := (err_zeroM h).1; simp [GV.every, GV.formed] at this
  | mk k n s ln l fn nm f => simp [GV.key]
theorem Byts.drop {w : World} {a : Option Addr} {l : List UInt8} (h : Byts w a l) {b o : Nat} (e : a = some ⟨b, o, none⟩) (k : Nat) : Byts w (some ⟨b, o + k, none⟩) (l.drop k) := by
  intro i hi
  have hi2 : k + i < l.length := by simp at hi; omega
  obtain ⟨b', o', e', hc⟩ := h (k + i) hi2
  rw [e] at e'
  cases e'
  refine ⟨b, o + k, rfl, ?_⟩
  rw [show o + k + i = o + (k + i) by omega, List.getElem_drop]
  exact hc

set_option maxHeartbeats 8000000 in
set_option maxRecDepth 1000000 in
theorem Split_any (a0 : Option Addr) (c0 : Nat) (l : List UInt8) (n : Nat) (w : World) (hB : Byts w a0 l) (hlc : l.length ≤ c0) (hcm : c0 ≤ maxLen) (hn : (n : Int) ≤ 9223372036854775807) (hl : l.length ≤ 1000000000000) :
    Calls Try.prog 10 #[.slice a0 l.length c0, .int .i64 n] w fun e w' => SplitSay l n w e w' := by
  have hml : maxLen = 9223372036854775807 := rfl
  obtain ⟨i0, hi, hz0, hz1, hz2⟩ := info_parts infoVal
  have HB := mkHid hB
  obtain ⟨L0, hL0⟩ : ∃ L0, L0 = l.length := ⟨_, rfl⟩
  have HL0 := mkHid hL0
  rw [← hL0]
  clear hB hL0
  go_enter Try.func10, Try.ntmps10
  go_wp2_with fail
  go_loopw [0, 6, 13] (fun b v i wr => ∃ (j : Nat) (fs : List Fl) (lj : List UInt8) (a : Option Addr) (c : Nat), i = .int .i64 j ∧ j ≤ n ∧ b = .slice a lj.length c ∧ Byts w a lj ∧ lj.length ≤ c ∧ c ≤ maxLen ∧ fs.length = j ∧ j + lj.length ≤ l.length ∧ l = keysF fs ++ lj ∧ Sp w wr v fs ∧ (∀ gs, KeysAre gs n l → lj = (gs.drop j).flatMap GV.key)) (fun _ _ i _ => n - (intOf i).toNat)
  case atStart =>
    refine ⟨0, [], l, a0, c0, rfl, by omega, by rw [HL0.out], HB.out, hlc, hcm, rfl, by omega, rfl, ⟨RowKit.Below.refl _ _, ⟨rfl, Or.inl ⟨rfl, rfl⟩⟩, fun f hf => absurd hf (by simp)⟩, ?_⟩
    rintro gs ⟨_, _, h⟩
    exact h
  case round =>
    obtain ⟨j, fs, lj, a, c, rfl, hj, rfl, hBj, hc1, hc2, hfs, hjl, hlk, hsp, huq⟩ := hrel
    have hown := hsp.own
    rw [hfs] at hown
    obtain ⟨va, vc, rfl, hvc, hvm⟩ := own_nil hown
    have HWN := mkHid hown
    have HFS := mkHid hfs
    clear hown
    have hsz := hsp.below.size
    by_cases hlt : j < n
    · have hlt2 : (j : Int) < (n : Int) := by omega
      have HFI := mkHid (first_any a c lj wr (hBj.below hsp.below) hc1 hc2)
      have HSP := mkHid hsp
      have HUQ := mkHid huq
      have HBJ := mkHid hBj
      have HLK := mkHid hlk
      obtain ⟨N, hN⟩ : ∃ N, N = lj.length := ⟨_, rfl⟩
      have HN := mkHid hN
      rw [← hN] at HFI hc1 hjl ⊢
      clear hsp huq hBj hlk hN
      go_wp2_with fail
      refine HFI.out.mono ?_
      rintro e w2 ⟨hb2, ⟨g, rest, kk, n2, s, la, ln, lc, fa, fn, fc, hbg, rfl, hfr⟩ | ⟨hno, rfl⟩⟩
      · obtain ⟨q, hq⟩ : ∃ q, q = g.key.length := ⟨_, rfl⟩
        have hqp : 0 < q := by rw [hq]; exact key_pos hbg.1
        have hqN : q ≤ N := by
          rw [HN.out, hbg.2, List.length_append]
          omega
        have hax : ∃ b o, a = some ⟨b, o, none⟩ := by
          obtain ⟨b, o, e, _⟩ := HBJ.out 0 (by rw [← HN.out]; omega)
          exact ⟨b, o, e⟩
        obtain ⟨b, o, rfl⟩ := hax
        obtain ⟨f, hf⟩ : ∃ f : Fl, f = ⟨⟨#[]⟩, kk, n2, s, la, ln, lc, fa, fn, fc, g⟩ := ⟨_, rfl⟩
        have hfv : f.val = .agg #[.int .i64 kk, .int .i64 n2, .string s, .slice la ln lc, .slice fa fn fc] := by rw [hf]; rfl
        have hfg : f.g = g := by rw [hf]
        have hba := (RowKit.Below.refl w2.heap.size w2).alloc (Nat.le_refl _) (.cells #[.int .i64 kk, .int .i64 n2, .string s, .slice la ln lc, .slice fa fn fc] 25)
        have hb3 : RowKit.Below wr.heap.size wr (w2.alloc (.cells #[.int .i64 kk, .int .i64 n2, .string s, .slice la ln lc, .slice fa fn fc] 25)) := hb2.trans (hba.mono hb2.size)
        have hbox : Blk5 (w2.alloc (.cells #[.int .i64 kk, .int .i64 n2, .string s, .slice la ln lc, .slice fa fn fc] 25)) w2.heap.size (.int .i64 kk) (.int .i64 n2) (.string s) (.slice la ln lc) (.slice fa fn fc) := Blk5.new w2 _ _ _ _ _
        obtain ⟨b0, b1, b2, b3, b4⟩ := hbox.cells
        have HBX := mkHid hbox
        have HOW : Hid (∀ O2 : Obj, (((w2.alloc (.cells #[.int .i64 kk, .int .i64 n2, .string s, .slice la ln lc, .slice fa fn fc] 25)).alloc O2).drew).ownsRow w.heap.size 25 5 (.slice va j vc) j (valCells (fs.map Fl.val))) := fun O2 => own_below HWN.out ((hb3.alloc hb3.size O2).drew)
        have HMO : Hid (∀ (w4 : World) (v4 : Value), w4.ownsRow w.heap.size 25 5 v4 (j + 1) (valCells (fs.map Fl.val) ++ [.int .i64 kk, .int .i64 n2, .string s, .slice la ln lc, .slice fa fn fc]) → World.grownBy (((w2.alloc (.cells #[.int .i64 kk, .int .i64 n2, .string s, .slice la ln lc, .slice fa fn fc] 25)).alloc (.cells #[.int .i64 kk, .int .i64 n2, .string s, .slice la ln lc, .slice fa fn fc] 25)).drew) w4 (Value.slice va j vc).ownBlock → (v4.ownBlock = (Value.slice va j vc).ownBlock ∨ v4.ownBlock = some (((w2.alloc (.cells #[.int .i64 kk, .int .i64 n2, .string s, .slice la ln lc, .slice fa fn fc] 25)).alloc (.cells #[.int .i64 kk, .int .i64 n2, .string s, .slice la ln lc, .slice fa fn fc] 25)).drew).heap.size) → Sp w w4 v4 (fs ++ [f])) := by
          intro w4 v4 ho hg hat
          have hbb : RowKit.Below wr.heap.size wr (((w2.alloc (.cells #[.int .i64 kk, .int .i64 n2, .string s, .slice la ln lc, .slice fa fn fc] 25)).alloc (.cells #[.int .i64 kk, .int .i64 n2, .string s, .slice la ln lc, .slice fa fn fc] 25)).drew) := (hb3.alloc hb3.size (.cells #[.int .i64 kk, .int .i64 n2, .string s, .slice la ln lc, .slice fa fn fc] 25)).drew
          refine HSP.out.more hbb ?_ (by rw [hfg]; exact hbg.1) (by rw [hfv, HFS.out]; exact ho) hg hat
          rw [hfg, hfv]
          refine hfr.keep fun b o u _ hc => ?_
          exact below_keeps ((hba.alloc hba.size (.cells #[.int .i64 kk, .int .i64 n2, .string s, .slice la ln lc, .slice fa fn fc] 25)).drew) _ _ _ hc
        have HUQ2 : Hid (∀ gs, KeysAre gs n l → rest = (gs.drop (j + 1)).flatMap GV.key) := by
          intro gs hgs
          have h1 := HUQ.out gs hgs
          have hjg : j < gs.length := by rw [hgs.1]; exact hlt
          rw [List.drop_eq_getElem_cons hjg, List.flatMap_cons] at h1
          have hgm := hgs.2.1 gs[j] (List.getElem_mem hjg)
          exact (begins_same hbg ⟨hgm.1, h1⟩ (nOk_lies hfr.lies) hgm.2).1
        have HLK2 : Hid (l = keysF (fs ++ [f]) ++ rest) := by
          show l = _
          rw [keysF_snoc, hfg, List.append_assoc, ← hbg.2]
          exact HLK.out
        have HRL : Hid (rest.length = N - q ∧ rest = lj.drop q) := by
          refine ⟨?_, ?_⟩
          · rw [HN.out, hbg.2, List.length_append, hq]
            omega
          · rw [hbg.2, hq]
            simp
        have hS0 : (w2.alloc (.cells #[.int .i64 kk, .int .i64 n2, .string s, .slice la ln lc, .slice fa fn fc] 25)).drew.cell? ⟨w2.heap.size, 0, none⟩ = some (.int .i64 kk) ∧ (w2.alloc (.cells #[.int .i64 kk, .int .i64 n2, .string s, .slice la ln lc, .slice fa fn fc] 25)).drew.cell? ⟨w2.heap.size, 1, none⟩ = some (.int .i64 n2) ∧ (w2.alloc (.cells #[.int .i64 kk, .int .i64 n2, .string s, .slice la ln lc, .slice fa fn fc] 25)).drew.cell? ⟨w2.heap.size, 2, none⟩ = some (.string s) ∧ (w2.alloc (.cells #[.int .i64 kk, .int .i64 n2, .string s, .slice la ln lc, .slice fa fn fc] 25)).drew.cell? ⟨w2.heap.size, 3, none⟩ = some (.slice la ln lc) ∧ (w2.alloc (.cells #[.int .i64 kk, .int .i64 n2, .string s, .slice la ln lc, .slice fa fn fc] 25)).drew.cell? ⟨w2.heap.size, 4, none⟩ = some (.slice fa fn fc) := ⟨b0, b1, b2, b3, b4⟩
        have hS1 : ((w2.alloc (.cells #[.int .i64 kk, .int .i64 n2, .string s, .slice la ln lc, .slice fa fn fc] 25)).alloc (.cells #[.int .i64 kk, .int .i64 n2, .string s, .slice la ln lc, .slice fa fn fc] 25)).drew.cell? ⟨w2.heap.size, 0, none⟩ = some (.int .i64 kk) ∧ ((w2.alloc (.cells #[.int .i64 kk, .int .i64 n2, .string s, .slice la ln lc, .slice fa fn fc] 25)).alloc (.cells #[.int .i64 kk, .int .i64 n2, .string s, .slice la ln lc, .slice fa fn fc] 25)).drew.cell? ⟨w2.heap.size, 1, none⟩ = some (.int .i64 n2) ∧ ((w2.alloc (.cells #[.int .i64 kk, .int .i64 n2, .string s, .slice la ln lc, .slice fa fn fc] 25)).alloc (.cells #[.int .i64 kk, .int .i64 n2, .string s, .slice la ln lc, .slice fa fn fc] 25)).drew.cell? ⟨w2.heap.size, 2, none⟩ = some (.string s) ∧ ((w2.alloc (.cells #[.int .i64 kk, .int .i64 n2, .string s, .slice la ln lc, .slice fa fn fc] 25)).alloc (.cells #[.int .i64 kk, .int .i64 n2, .string s, .slice la ln lc, .slice fa fn fc] 25)).drew.cell? ⟨w2.heap.size, 3, none⟩ = some (.slice la ln lc) ∧ ((w2.alloc (.cells #[.int .i64 kk, .int .i64 n2, .string s, .slice la ln lc, .slice fa fn fc] 25)).alloc (.cells #[.int .i64 kk, .int .i64 n2, .string s, .slice la ln lc, .slice fa fn fc] 25)).drew.cell? ⟨w2.heap.size, 4, none⟩ = some (.slice fa fn fc) := (Blk5.drew (hbox.below ((RowKit.Below.refl _ _).alloc (Nat.le_refl _) (.cells #[.int .i64 kk, .int .i64 n2, .string s, .slice la ln lc, .slice fa fn fc] 25)))).cells
        have hsz2 := hb2.size
        have HC5 : Hid (∀ j u, [.int .i64 kk, .int .i64 n2, .string s, .slice la ln lc, .slice fa fn fc][j]? = some u → (((w2.alloc (.cells #[.int .i64 kk, .int .i64 n2, .string s, .slice la ln lc, .slice fa fn fc] 25)).alloc (.cells #[.int .i64 kk, .int .i64 n2, .string s, .slice la ln lc, .slice fa fn fc] 25)).drew).cell? ((⟨w2.heap.size + 1, 0, none⟩ : Addr).add j) = some u) := by
          intro j u hj
          rw [show (⟨w2.heap.size + 1, 0, none⟩ : Addr).add j = ⟨w2.heap.size + 1, j, none⟩ by simp [Addr.add]; omega]
          simpa using hj
        have HBX4 : Hid (∀ (w4 : World), World.grownBy (((w2.alloc (.cells #[.int .i64 kk, .int .i64 n2, .string s, .slice la ln lc, .slice fa fn fc] 25)).alloc (.cells #[.int .i64 kk, .int .i64 n2, .string s, .slice la ln lc, .slice fa fn fc] 25)).drew) w4 (Value.slice va j vc).ownBlock → Blk5 w4 w2.heap.size (.int .i64 kk) (.int .i64 n2) (.string s) (.slice la ln lc) (.slice fa fn fc)) := by
          intro w4 hg
          have h1 : Blk5 (((w2.alloc (.cells #[.int .i64 kk, .int .i64 n2, .string s, .slice la ln lc, .slice fa fn fc] 25)).alloc (.cells #[.int .i64 kk, .int .i64 n2, .string s, .slice la ln lc, .slice fa fn fc] 25)).drew) w2.heap.size (.int .i64 kk) (.int .i64 n2) (.string s) (.slice la ln lc) (.slice fa fn fc) := Blk5.drew (hbox.below ((RowKit.Below.refl _ _).alloc (Nat.le_refl _) (.cells #[.int .i64 kk, .int .i64 n2, .string s, .slice la ln lc, .slice fa fn fc] 25)))
          unfold Blk5 at h1 ⊢
          rw [hg.block w2.heap.size (by simp; omega) (fun e => by have := (own_blk HWN.out e.symm).1; omega)]
          exact h1
        have hq1 : (q : Int) ≤ (N : Int) := by omega
        have hq0 : (0 : Int) ≤ (q : Int) := by omega
        have hqc : q ≤ c := by omega
        rw [← hq]
        clear hb2 hbg hfr hq hf hfv hfg hba hb3 hbox
        by_cases hcq : c = q
        · have hNq : N = q := by omega
          have hr0 : rest = [] := List.length_eq_zero_iff.1 (by rw [HRL.out.1]; omega)
          have HR0 := mkHid hr0
          subst hcq hNq
          clear hr0
          go_wp2_with fail
          go_region_held3 (fun u => u.cell? ⟨w2.heap.size, 0, none⟩ = some (.int .i64 kk) ∧ u.cell? ⟨w2.heap.size, 1, none⟩ = some (.int .i64 n2) ∧ u.cell? ⟨w2.heap.size, 2, none⟩ = some (.string s) ∧ u.cell? ⟨w2.heap.size, 3, none⟩ = some (.slice la ln lc) ∧ u.cell? ⟨w2.heap.size, 4, none⟩ = some (.slice fa fn fc)) (first | with_reducible exact hS0 | with_reducible exact hS1 | with_reducible exact hS2) (first
            | (refine step_append_at rfl (.tmp 23) (.tmp 25) 22 rfl w.heap.size 25 i0 (.agg #[.int .i64 0, .int .i64 0, .string ⟨#[]⟩, .slice none 0 0, .slice none 0 0]) 5 80 Try.underlying22 hi hz0 hz1 hz2 rfl (by decide) (.slice va j vc) j (valCells (fs.map Fl.val)) (by simp [Act.eval]) (HOW.out _) ⟨w2.heap.size + 1, 0, none⟩ 1 1 [.int .i64 kk, .int .i64 n2, .string s, .slice la ln lc, .slice fa fn fc] (by simp [Act.eval]) rfl HC5.out (by simp [Value.oneCell']) (by omega) (by omega) (by simp; omega) ?_; intro v4 w4 hown4 hgrow4 hat4; have HSP4 := HMO.out w4 v4 hown4 hgrow4 hat4; obtain ⟨va4, vc4, rfl, _, _⟩ := own_nil hown4; have hS2 := (HBX4.out w4 hgrow4).cells))
          all_goals
            have HW4 := mkHid HSP4
            clear HSP4 hS0 hS1 hS2 hown4 hgrow4 hat4
            go_wp2_with fail
            go_roundw
            case rel =>
              refine ⟨j + 1, fs ++ [f], rest, some ⟨b, o, none⟩, 0, by go_num, by omega, by rw [HR0.out]; rfl, ?_, ?_, by omega, by simp [HFS.out], ?_, HLK2.out, HW4.out, HUQ2.out⟩
              · rw [HR0.out]
                exact byts_nil _ _
              · rw [HR0.out]; simp
              · rw [HR0.out]; simp; omega
            case measure => simp [intOf]; omega
        · go_wp2_with fail
          go_region_held3 (fun u => u.cell? ⟨w2.heap.size, 0, none⟩ = some (.int .i64 kk) ∧ u.cell? ⟨w2.heap.size, 1, none⟩ = some (.int .i64 n2) ∧ u.cell? ⟨w2.heap.size, 2, none⟩ = some (.string s) ∧ u.cell? ⟨w2.heap.size, 3, none⟩ = some (.slice la ln lc) ∧ u.cell? ⟨w2.heap.size, 4, none⟩ = some (.slice fa fn fc)) (first | with_reducible exact hS0 | with_reducible exact hS1 | with_reducible exact hS2) (first
            | (refine step_append_at rfl (.tmp 23) (.tmp 25) 22 rfl w.heap.size 25 i0 (.agg #[.int .i64 0, .int .i64 0, .string ⟨#[]⟩, .slice none 0 0, .slice none 0 0]) 5 80 Try.underlying22 hi hz0 hz1 hz2 rfl (by decide) (.slice va j vc) j (valCells (fs.map Fl.val)) (by simp [Act.eval]) (HOW.out _) ⟨w2.heap.size + 1, 0, none⟩ 1 1 [.int .i64 kk, .int .i64 n2, .string s, .slice la ln lc, .slice fa fn fc] (by simp [Act.eval]) rfl HC5.out (by simp [Value.oneCell']) (by omega) (by omega) (by simp; omega) ?_; intro v4 w4 hown4 hgrow4 hat4; have HSP4 := HMO.out w4 v4 hown4 hgrow4 hat4; obtain ⟨va4, vc4, rfl, _, _⟩ := own_nil hown4; have hS2 := (HBX4.out w4 hgrow4).cells))
          all_goals
            have HW4 := mkHid HSP4
            clear HSP4 hS0 hS1 hS2 hown4 hgrow4 hat4
            go_wp2_with fail
            go_roundw
            case rel =>
              refine ⟨j + 1, fs ++ [f], rest, some ⟨b, o + q, none⟩, c - q, by go_num, by omega, by rw [HRL.out.1], ?_, ?_, by omega, by simp [HFS.out], ?_, HLK2.out, HW4.out, HUQ2.out⟩
              · rw [HRL.out.2]
                exact HBJ.out.drop rfl q
              · rw [HRL.out.1]; omega
              · rw [HRL.out.1]; omega
            case measure => simp [intOf]; omega
      · have HNO : Hid (∀ gs, ¬ KeysAre gs n l) := by
          intro gs hgs
          have h1 := HUQ.out gs hgs
          have hjg : j < gs.length := by rw [hgs.1]; exact hlt
          rw [List.drop_eq_getElem_cons hjg, List.flatMap_cons] at h1
          have hgm := hgs.2.1 gs[j] (List.getElem_mem hjg)
          exact hno gs[j] _ hgm.2 ⟨hgm.1, h1⟩
        have HB3 := mkHid ((HSP.out.below.trans (hb2.mono hsz)).alloc (Nat.le_trans hsz hb2.size) (.cells #[.int .i64 0, .int .i64 0, .string ⟨#[]⟩, .slice none 0 0, .slice none 0 0] 25))
        clear hno hb2
        go_wp2_with fail
        go_ret2
        exact ⟨HB3.out, Or.inr ⟨HNO.out, rfl⟩⟩
    · obtain rfl : j = n := by omega
      have HSP := mkHid hsp
      have HUQ := mkHid huq
      have HLK := mkHid hlk
      obtain ⟨N, hN⟩ : ∃ N, N = lj.length := ⟨_, rfl⟩
      have HN := mkHid hN
      rw [← hN]
      clear hsp huq hBj hlk hN
      by_cases h0 : N = 0
      · subst h0
        go_wp2_with fail
        go_ret2
        refine ⟨HSP.out.below, Or.inl ⟨_, fs, HFS.out, ?_, HSP.out, rfl⟩⟩
        have e : lj = [] := List.length_eq_zero_iff.1 HN.out.symm
        rw [e, List.append_nil] at HLK
        exact HLK.out
      · have h1 : (0 : Int) < (N : Int) := by omega
        have HNO : Hid (∀ gs, ¬ KeysAre gs j l) := by
          intro gs hgs
          have h2 := HUQ.out gs hgs
          rw [List.drop_of_length_le (by rw [hgs.1]; exact Nat.le_refl _)] at h2
          have h3 := HN.out
          rw [h2] at h3
          exact h0 h3
        clear h0
        go_wp2_with fail
        go_ret2
        exact ⟨HSP.out.below, Or.inr ⟨HNO.out, rfl⟩⟩
end Go.Proofs.Yticbcoklpgfkhaa
