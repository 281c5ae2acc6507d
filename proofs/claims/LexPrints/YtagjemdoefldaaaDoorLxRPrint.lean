/- Contract of the document's own Print (tidemarkref14; written by tools/mkrprint.py). Condition: the library's table of powers of ten is as it is laid. -/
import Derived.Test.YtagjemdoefldaaaDoorLxRef
import Derived.Test.YtagjemdoefldaaaDoorRQuoteW
import Derived.Test.YtagjemdoefldaaaDoorLxPrint
namespace Go.Proofs.YtagjemdoefldaaaDoor
open Go.RowKit Go.Sort

set_option maxHeartbeats 1000000 in
set_option maxRecDepth 1000000 in
theorem rvalid_any (s : ByteArray) (w : World) (hs : s.size ≤ 4194304) :
    Calls Tryd.prog 29 #[.string s] w fun e w' => e = .returned (.bool (validB s)) ∧ Below w.heap.size w w' := by
  go_enter Tryd.func29, Tryd.ntmps29
  go_wp2_with fail
  refine (rrunes_any s w hs).mono ?_
  rintro e w1 (⟨rs, v, ho, he, rfl, _, b1⟩ | ⟨hf, rfl, b1⟩)
  · have HV : Hid (validB s = true) := runes_valid s rs ho he
    clear ho he
    go_wp2_with fail
    go_ret
    refine ⟨?_, b1⟩
    rw [HV.out]
    rfl
  · have HV : Hid (validB s = false) := hf
    clear hf
    go_wp2_with fail
    go_ret
    refine ⟨?_, b1⟩
    rw [HV.out]
    rfl


set_option maxHeartbeats 4000000 in
set_option maxRecDepth 1000000 in
theorem rIsWord_any (s : ByteArray) (w : World) (hs : s.size ≤ 70368744177664) :
    Calls Tryd.prog 27 #[.string s] w fun e w' => e = .returned (.bool (isWB s.data.toList)) ∧ Below w.heap.size w w' := by
  by_cases h0 : 0 < s.size
  · have hse : (s.toList == []) = false := by
      rw [beq_eq_false_iff_ne, ByteArray.toList_eq]
      intro e
      have := congrArg List.length e
      rw [size_list, List.length_nil] at this
      omega
    have hse2 : ¬ s.toList = [] := by simpa using hse
    have hst := isWB_start s h0
    obtain ⟨c, hc⟩ : ∃ c, s.data.toList.getD 0 0 = c := ⟨_, rfl⟩
    have hg : (s[0]'h0).toNat = c.toNat := by rw [← hc]; exact byteAt_get s 0 h0
    rw [hc] at hst
    have HLT := mkHid (fun W => by have := rletter_any (c.toNat : Int) W; rw [letR_byte] at this; exact this)
    cases hL : isL c
    · rw [hL] at HLT hst
      have HF : Hid (isWB s.data.toList = false) := hst
      clear hst hc hL
      go_enter Tryd.func27, Tryd.ntmps27
      go_wp2_with fail
      refine (HLT.out _).mono ?_
      rintro e w1 ⟨rfl, rfl⟩
      go_wp2_with fail
      go_ret
      rw [HF.out]
      exact ⟨rfl, Below.refl _ _⟩
    · rw [hL] at HLT hst
      rw [hst]
      generalize hR : (true && (s.data.toList.drop 1).all isW) = R
      have HR : Hid ((s.data.toList.drop 1).all isW = R) := by rw [← hR]; rfl
      clear hst hc hL hR
      go_enter Tryd.func27, Tryd.ntmps27
      go_wp2_with fail
      refine (HLT.out _).mono ?_
      rintro e w1 ⟨rfl, rfl⟩
      go_wp2_with fail
      go_loopw [3] (fun iv wr => ∃ i : Nat, iv = .int .i64 i ∧ 1 ≤ i ∧ i ≤ s.size ∧ w1 = wr ∧ (s.data.toList.drop i).all isW = R) (fun iv _ => s.size - (intOf iv).toNat)
      case atStart => exact ⟨1, rfl, by omega, by omega, rfl, HR.out⟩
      case round =>
        obtain ⟨i, rfl, hi1, his, rfl, hal⟩ := hrel
        by_cases hi : i < s.size
        · obtain ⟨d, hd⟩ : ∃ d, s.data.toList.getD i 0 = d := ⟨_, rfl⟩
          have hgd : (s[i]'hi).toNat = d.toNat := by rw [← hd]; exact byteAt_get s i hi
          have HLD := mkHid (fun W => by have := rletter_any (d.toNat : Int) W; rw [letR_byte] at this; exact this)
          have HDD := mkHid (fun W => by have := rdigit_any (d.toNat : Int) W; rw [digR_byte] at this; exact this)
          rw [all_step s i hi, hd] at hal
          unfold isW at hal
          cases hl : isL d
          · cases hdd : isD d
            · rw [hl, hdd] at hal
              rw [hl] at HLD
              rw [hdd] at HDD
              have HF : Hid (R = false) := hal.symm
              clear hal hl hdd
              go_wp2_with fail
              refine (HLD.out _).mono ?_
              rintro e w2 ⟨rfl, hw2⟩
              rw [hw2]
              go_wp2_with fail
              refine (HDD.out _).mono ?_
              rintro e w3 ⟨rfl, hw3⟩
              rw [hw3]
              go_wp2_with fail
              go_ret
              rw [HF.out]
              exact ⟨rfl, Below.refl _ _⟩
            · rw [hl, hdd] at hal
              rw [hl] at HLD
              rw [hdd] at HDD
              have HN : Hid ((s.data.toList.drop (i + 1)).all isW = R) := hal
              clear hal hl hdd
              go_wp2_with fail
              refine (HLD.out _).mono ?_
              rintro e w2 ⟨rfl, hw2⟩
              rw [hw2]
              go_wp2_with fail
              refine (HDD.out _).mono ?_
              rintro e w3 ⟨rfl, hw3⟩
              rw [hw3]
              go_wp2_with fail
              go_roundw
              case rel => exact ⟨i + 1, by go_num, by omega, by omega, by first | rfl | trivial, HN.out⟩
              case measure => simp [intOf]; omega
          · rw [hl] at hal HLD
            have HN : Hid ((s.data.toList.drop (i + 1)).all isW = R) := hal
            clear hal hl
            go_wp2_with fail
            refine (HLD.out _).mono ?_
            rintro e w2 ⟨rfl, hw2⟩
            rw [hw2]
            go_wp2_with fail
            go_roundw
            case rel => exact ⟨i + 1, by go_num, by omega, by omega, by first | rfl | trivial, HN.out⟩
            case measure => simp [intOf]; omega
        · have HT : Hid (R = true) := by
            show R = true
            rw [← hal, List.drop_eq_nil_of_le (by rw [size_list]; omega)]
            rfl
          clear hal
          go_wp2_with fail
          go_ret
          rw [HT.out]
          exact ⟨rfl, Below.refl _ _⟩
  · have hse : s = ByteArray.empty := by
      apply ByteArray.ext
      apply Array.toList_inj.1
      exact List.eq_nil_of_length_eq_zero (by rw [size_list]; omega)
    subst hse
    go_enter Tryd.func27, Tryd.ntmps27
    go_wp2_with fail
    go_ret
    exact ⟨rfl, Below.refl _ _⟩

set_option maxHeartbeats 4000000 in
set_option maxRecDepth 1000000 in
theorem risSign_any (s : ByteArray) (w : World) (hs : s.size ≤ 70368744177664) :
    Calls Tryd.prog 31 #[.string s] w fun e w' => e = .returned (.bool (decide (0 < signN s.data.toList ∧ signN s.data.toList = s.data.toList.length))) ∧ Below w.heap.size w w' := by
  by_cases h0 : 0 < s.size
  · have hne : (s.toList != []) = true := by
      rw [bne_iff_ne, ByteArray.toList_eq]
      intro e
      have := congrArg List.length e
      rw [size_list, List.length_nil] at this
      omega
    have hne2 : ¬ s.toList = [] := by simpa using hne
    have hne3 : (s.toList == []) = false := by simpa using hne2
    have hsg := rsign_any s 0 w hs h0
    rw [List.drop_zero, Nat.zero_add] at hsg
    obtain ⟨N, hN⟩ : ∃ N, signN s.data.toList = N := ⟨_, rfl⟩
    have hle := signN_le s.data.toList
    rw [hN] at hsg hle
    rw [hN, size_list]
    rw [size_list] at hle
    have hq : ((s.extract 0 N).toList == s.toList) = decide (0 < N ∧ N = s.size) := by
      rw [Bool.eq_iff_iff]
      simp only [beq_iff_eq, decide_eq_true_eq, ByteArray.toList_eq]
      rw [cut_list]
      constructor
      · intro h
        have := congrArg List.length h
        rw [List.length_take, size_list] at this
        omega
      · intro h
        rw [List.take_of_length_le (by rw [size_list]; omega)]
    have HSG := mkHid hsg
    generalize decide (0 < N ∧ N = s.size) = Z at hq ⊢
    clear hsg hN hle
    go_enter Tryd.func31, Tryd.ntmps31
    go_wp2_with fail
    refine HSG.out.mono ?_
    rintro e w1 ⟨rfl, b1⟩
    go_wp2_with fail
    go_ret
    exact ⟨rfl, b1⟩
  · have hse : s = ByteArray.empty := by
      apply ByteArray.ext
      apply Array.toList_inj.1
      exact List.eq_nil_of_length_eq_zero (by rw [size_list]; omega)
    subst hse
    go_enter Tryd.func31, Tryd.ntmps31
    go_wp2_with fail
    go_ret
    exact ⟨rfl, Below.refl _ _⟩

theorem ba_app (a b : List UInt8) : (⟨a.toArray⟩ : ByteArray) ++ (⟨b.toArray⟩ : ByteArray) = ⟨(a ++ b).toArray⟩ := by
  apply ByteArray.ext
  apply Array.toList_inj.1
  simp

set_option maxHeartbeats 8000000 in
set_option maxRecDepth 1000000 in
theorem rprint_any (a : Option Addr) (c M : Nat) (l : List Tok) (pz : Nat → Int) (w : World) (hrow : TRow w a l pz) (hM : ∀ t ∈ l, t.s.length ≤ M) (hM4 : M ≤ 4194304) (hn : ∀ t ∈ l, -9223372036854775808 ≤ t.n ∧ t.n ≤ 9223372036854775807) (hbig : (l.length + 1) * (6 * M + 40) ≤ 140737488355328) (hw : TabOk w) :
    Calls Tryd.prog 15 #[.slice a l.length c] w fun e w' => e = txRet (prR l) ∧ Below w.heap.size w w' := by
  generalize hR : prR l = R
  have HR : Hid (prF 0 l [] = R) := hR
  have HROW : Hid (TRow w a l pz) := hrow
  have HM : Hid _ := hM
  have HNN : Hid _ := hn
  have HBIG : Hid _ := hbig
  have HW : Hid (TabOk w) := hw
  have hll : l.length ≤ 140737488355328 := by
    have : (l.length + 1) * 1 ≤ (l.length + 1) * (6 * M + 40) := Nat.mul_le_mul_left _ (by omega)
    omega
  clear hR hrow hM hn hbig hw
  generalize hL : l.length = L at hll
  have HL : Hid (l.length = L) := hL
  rw [hL] at HBIG
  clear hL
  go_enter Tryd.func15, Tryd.ntmps15
  go_wp2_with fail
  go_loopw [4, 5] (fun sv iv wr => ∃ (i : Nat) (acc : List UInt8), sv = .string ⟨acc.toArray⟩ ∧ iv = .int .i64 i ∧ i ≤ L ∧ Below w.heap.size w wr ∧ acc.length ≤ i * (6 * M + 40) ∧ prF i (l.drop i) acc = R) (fun _ iv _ => L - (intOf iv).toNat)
  case atStart => exact ⟨0, [], rfl, rfl, by omega, Below.refl _ _, by simp, HR.out⟩
  case round =>
    obtain ⟨i, acc, rfl, rfl, hiL, hbw, hal, hpr⟩ := hrel
    have HPR : Hid (prF i (l.drop i) acc = R) := hpr
    clear hpr
    by_cases hi : i < L
    · have hi' : i < l.length := by rw [HL.out]; exact hi
      obtain ⟨g, o, rfl, hg, e0, e1, e2, e3⟩ := TRow.below (show TRow w a l pz from HROW.out) hbw i hi'
      obtain ⟨x, hx⟩ : ∃ x, x = l[i]'hi' := ⟨_, rfl⟩
      rw [← hx] at e0 e1 e2
      have hmem : x ∈ l := by rw [hx]; exact List.getElem_mem hi'
      have hxs := HM.out x hmem
      obtain ⟨hn0, hn1⟩ := HNN.out x hmem
      have hdrop : l.drop i = x :: l.drop (i + 1) := by rw [hx]; exact List.drop_eq_getElem_cons hi'
      have hpr := HPR.out
      rw [hdrop, prF] at hpr
      have hmul1 : (i + 1) * (6 * M + 40) = i * (6 * M + 40) + (6 * M + 40) := by rw [Nat.succ_mul]
      obtain ⟨xk, xs, xn, xp⟩ := x
      simp only at e0 e1 e2 hxs hn0 hn1 hpr
      have hsz : (⟨xs.toArray⟩ : ByteArray).size = xs.length := by rw [← size_list]
      have hidl : (⟨xs.toArray⟩ : ByteArray).data.toList = xs := rfl
      have hbx : Below w.heap.size w (wr.alloc (.cells #[.int .i64 xk, .string ⟨xs.toArray⟩, .int .i64 xn, .int .i64 (pz i)] 29)) := hbw.alloc hbw.size _
      have hB := Blk4.new wr (.int .i64 xk) (.string ⟨xs.toArray⟩) (.int .i64 xn) (.int .i64 (pz i))
      have hlen := textR_len xk xs xn hn0 hn1
      have HFM := mkHid (fun W (hb : Below w.heap.size w W) => Tryd.strconv_FormatInt_10 xn hn0 hn1 W (TabOk.mono (show TabOk w from HW.out) hb))
      have HIW := mkHid (fun W => rIsWord_any ⟨xs.toArray⟩ W (by rw [hsz]; omega))
      have HIS := mkHid (fun W => risSign_any ⟨xs.toArray⟩ W (by rw [hsz]; omega))
      have HIV := mkHid (fun W => rvalid_any ⟨xs.toArray⟩ W (by rw [hsz]; omega))
      have HIQ := mkHid (fun W => rquote_any ⟨xs.toArray⟩ W (by rw [hsz]; omega))
      rw [hidl] at HIW HIS HIQ
      have HAL : Hid (acc.length ≤ i * (6 * M + 40)) := hal
      have HMUL1 : Hid _ := hmul1
      have HMUL : Hid (i * (6 * M + 40) + (6 * M + 40) + (6 * M + 40) ≤ 140737488355328) := by
        have h1 : (i + 1 + 1) * (6 * M + 40) ≤ 140737488355328 := Nat.le_trans (Nat.mul_le_mul_right _ (by omega)) HBIG.out
        have h2 : (i + 1 + 1) * (6 * M + 40) = i * (6 * M + 40) + (6 * M + 40) + (6 * M + 40) := by rw [Nat.succ_mul, Nat.succ_mul]
        rw [← h2]
        exact h1
      have HXS : Hid _ := hxs
      have hxl : (⟨xs.toArray⟩ : ByteArray).toList = xs := by rw [ByteArray.toList_eq]
      clear hdrop hx hmem hn0 hn1 hmul1 hal hsz hidl HPR hxs HBIG HM HNN HW
      by_cases hk0 : xk = 0
      · subst hk0
        have HE : Hid (R = (acc, 0)) := by
          show R = (acc, 0)
          rw [if_pos rfl] at hpr
          exact hpr.symm
        clear hpr hlen HFM HIW HIS HIV HIQ
        go_wp2_with fail
        go_ret2
        refine ⟨?_, hbx⟩
        rw [HE.out]
        rfl
      · rw [if_neg hk0] at hpr
        have b0 : (xk == 0) = false := by simp [hk0]
        -- the ways
        have hdef : textR xk xs xn = ([], 1) → Hid (R = ([], 1)) := by
          intro h
          rw [h] at hpr
          exact hpr.symm
        have hsuc : ∀ tx, textR xk xs xn = (tx, 0) → Hid (prF (i + 1) (l.drop (i + 1)) (acc ++ (if i = 0 then [] else [32]) ++ tx) = R) ∧ Hid (tx.length ≤ 6 * xs.length + 24) := by
          intro tx h
          rw [h] at hpr hlen
          exact ⟨hpr, hlen⟩
        have h11 : textR xk xs xn = ([], 11) → Hid (R = ([], 11)) := by
          intro h
          rw [h] at hpr
          exact hpr.symm
        clear hpr hlen
        by_cases hk1 : xk = 1
        · subst hk1
          have htr : textR 1 xs xn = if xn ≠ 0 then ([], 1) else if isWB xs = true then (xs, 0) else ([], 1) := by
            unfold textR
            rw [if_neg (fun h => absurd h.1 (by decide))]
            split
            · rfl
            · rw [if_pos rfl]
          cases hv : isWB xs
          · rw [hv] at HIW
            have HE := hdef (by rw [htr, hv]; split <;> rfl)
            clear hdef hsuc h11 htr hv
            go_wp2_with fail
            refine (HIW.out _).mono ?_
            rintro e w2 ⟨rfl, b2⟩
            obtain ⟨c0, c1, c2, c3⟩ := (hB.below b2).cells
            have hbw2 := hbx.trans (b2.mono hbx.size)
            go_wp2_with fail
            go_ret2
            refine ⟨?_, hbw2⟩
            rw [HE.out]
            rfl
          · rw [hv] at HIW
            by_cases hn0 : xn = 0
            · subst hn0
              obtain ⟨HPR3, HLEN⟩ := hsuc xs (by rw [htr, hv]; rfl)
              clear hdef hsuc h11 htr hv
              obtain ⟨tx, htx⟩ : ∃ tx, xs = tx := ⟨_, rfl⟩
              subst htx
              go_wp2_with fail
              refine (HIW.out _).mono ?_
              rintro e w2 ⟨rfl, b2⟩
              obtain ⟨c0, c1, c2, c3⟩ := (hB.below b2).cells
              have hbw2 := hbx.trans (b2.mono hbx.size)
              clear b2
              have hs0 : acc.length + 1 + xs.length ≤ 140737488355328 := by have := HAL.out; have := HLEN.out; have := HXS.out; have := HMUL.out; omega
              have hs1 : ¬ 9223372036854775807 < acc.length + xs.length := by omega
              have hs2 : ¬ 9223372036854775807 < acc.length + 1 := by omega
              have hs3 : ¬ 9223372036854775807 < acc.length + 1 + xs.length := by omega
              clear hs0
              by_cases hi0 : i = 0
              · subst hi0
                go_wp2_with fail
                go_roundw
                case rel =>
                  refine ⟨1, acc ++ xs, ?_, rfl, by omega, hbw2, ?_, ?_⟩
                  · rw [← ba_app]
                  · rw [List.length_append]
                    have := HAL.out; have := HLEN.out; have := HXS.out
                    omega
                  · have := HPR3.out
                    simpa using this
                case measure => simp [intOf]; omega
              · have hi1 : (0 : Int) < (i : Int) := by omega
                go_wp2_with fail
                go_roundw
                case rel =>
                  refine ⟨i + 1, acc ++ [32] ++ xs, ?_, by go_num, by omega, hbw2, ?_, ?_⟩
                  · rw [← ba_app, ← ba_app]
                  · rw [List.length_append, List.length_append, HMUL1.out, List.length_singleton]
                    have := HAL.out; have := HLEN.out; have := HXS.out
                    omega
                  · have := HPR3.out
                    rw [if_neg hi0] at this
                    exact this
                case measure => simp [intOf]; omega
            · have bn : (xn == 0) = false := by simp [hn0]
              have HE := hdef (by rw [htr, if_pos hn0])
              clear hdef hsuc h11 htr hv
              go_wp2_with fail
              refine (HIW.out _).mono ?_
              rintro e w2 ⟨rfl, b2⟩
              obtain ⟨c0, c1, c2, c3⟩ := (hB.below b2).cells
              have hbw2 := hbx.trans (b2.mono hbx.size)
              go_wp2_with fail
              go_ret2
              refine ⟨?_, hbw2⟩
              rw [HE.out]
              rfl
        · have b1 : (xk == 1) = false := by simp [hk1]
          by_cases hk2 : xk = 2
          · subst hk2
            by_cases hse : xs = []
            · subst hse
              obtain ⟨HPR3, HLEN⟩ := hsuc (Lib.itoa xn) (by unfold textR; rw [if_pos ⟨rfl, rfl⟩])
              generalize htx : Lib.itoa xn = tx at HPR3 HLEN HFM
              clear hdef hsuc h11 htx
              go_wp2_with fail
              refine (HFM.out _ hbx).mono ?_
              rintro e w2 ⟨rfl, q, os, rfl⟩
              have b2 := below_grow (wr.alloc (.cells #[.int .i64 2, .string ⟨#[]⟩, .int .i64 xn, .int .i64 (pz i)] 29)) q os
              have hbw2 := hbx.trans (b2.mono hbx.size)
              clear b2
              generalize grow _ _ = w2 at hbw2
              have hs0 : acc.length + 1 + tx.length ≤ 140737488355328 := by have := HAL.out; have := HLEN.out; have := HXS.out; have := HMUL.out; omega
              have hs1 : ¬ 9223372036854775807 < acc.length + tx.length := by omega
              have hs2 : ¬ 9223372036854775807 < acc.length + 1 := by omega
              have hs3 : ¬ 9223372036854775807 < acc.length + 1 + tx.length := by omega
              clear hs0
              by_cases hi0 : i = 0
              · subst hi0
                go_wp2_with fail
                go_roundw
                case rel =>
                  refine ⟨1, acc ++ tx, ?_, rfl, by omega, hbw2, ?_, ?_⟩
                  · rw [← ba_app]
                  · rw [List.length_append]
                    have := HAL.out; have := HLEN.out; have := HXS.out
                    omega
                  · have := HPR3.out
                    simpa using this
                case measure => simp [intOf]; omega
              · have hi1 : (0 : Int) < (i : Int) := by omega
                go_wp2_with fail
                go_roundw
                case rel =>
                  refine ⟨i + 1, acc ++ [32] ++ tx, ?_, by go_num, by omega, hbw2, ?_, ?_⟩
                  · rw [← ba_app, ← ba_app]
                  · rw [List.length_append, List.length_append, HMUL1.out, List.length_singleton]
                    have := HAL.out; have := HLEN.out; have := HXS.out
                    omega
                  · have := HPR3.out
                    rw [if_neg hi0] at this
                    exact this
                case measure => simp [intOf]; omega
            · have bse : ((⟨xs.toArray⟩ : ByteArray).toList == []) = false := by rw [hxl]; simpa using hse
              have HE := hdef (by unfold textR; simp [hse])
              have bse2 : (xs == []) = false := by simpa using hse
              have bse3 : xs.isEmpty = false := by simpa using hse
              clear hdef hsuc h11
              go_wp2_with fail
              go_ret2
              refine ⟨?_, hbx⟩
              rw [HE.out]
              rfl
          · have b2' : (xk == 2) = false := by simp [hk2]
            by_cases hk3 : xk = 3
            · subst hk3
              by_cases hn0 : xn = 0
              · subst hn0
                have htr : textR 3 xs 0 = if validB ⟨xs.toArray⟩ = true then (quoteOf ⟨xs.toArray⟩, 0) else ([], 11) := by
                  unfold textR
                  rw [if_neg (fun h => absurd h.1 (by decide)), if_neg (by simp), if_neg (by decide), if_pos rfl]
                cases hv : validB ⟨xs.toArray⟩
                · rw [hv] at HIV
                  have HE := h11 (by rw [htr, hv]; rfl)
                  clear hdef hsuc h11 htr hv
                  go_wp2_with fail
                  refine (HIV.out _).mono ?_
                  rintro e w2 ⟨rfl, b2⟩
                  have hbw2 := hbx.trans (b2.mono hbx.size)
                  go_wp2_with fail
                  go_ret2
                  refine ⟨?_, hbw2⟩
                  rw [HE.out]
                  rfl
                · rw [hv] at HIV
                  obtain ⟨HPR3, HLEN⟩ := hsuc (quoteOf ⟨xs.toArray⟩) (by rw [htr, hv]; rfl)
                  have hqq : (34 :: (qb xs ++ [34]) : List UInt8) = quoteOf ⟨xs.toArray⟩ := by
                    obtain ⟨rs, ho, he⟩ := valid_runes ⟨xs.toArray⟩ hv
                    rw [quoteOf_runes ⟨xs.toArray⟩ rs ho he, ← qb_runes rs ho, ← he]
                  rw [hqq] at HIQ
                  generalize quoteOf ⟨xs.toArray⟩ = tx at HPR3 HLEN HIQ
                  clear hdef hsuc h11 htr hv hqq
                  go_wp2_with fail
                  refine (HIV.out _).mono ?_
                  rintro e w3 ⟨rfl, b3⟩
                  obtain ⟨c0, c1, c2, c3⟩ := (hB.below b3).cells
                  have hbw3 := hbx.trans (b3.mono hbx.size)
                  go_wp2_with fail
                  refine (HIQ.out _).mono ?_
                  rintro e w2 ⟨rfl, b2⟩
                  have hbw2 := hbw3.trans (b2.mono hbw3.size)
                  clear b2 b3 hbw3
                  have hs0 : acc.length + 1 + tx.length ≤ 140737488355328 := by have := HAL.out; have := HLEN.out; have := HXS.out; have := HMUL.out; omega
                  have hs1 : ¬ 9223372036854775807 < acc.length + tx.length := by omega
                  have hs2 : ¬ 9223372036854775807 < acc.length + 1 := by omega
                  have hs3 : ¬ 9223372036854775807 < acc.length + 1 + tx.length := by omega
                  clear hs0
                  by_cases hi0 : i = 0
                  · subst hi0
                    go_wp2_with fail
                    go_roundw
                    case rel =>
                      refine ⟨1, acc ++ tx, ?_, rfl, by omega, hbw2, ?_, ?_⟩
                      · rw [← ba_app]
                      · rw [List.length_append]
                        have := HAL.out; have := HLEN.out; have := HXS.out
                        omega
                      · have := HPR3.out
                        simpa using this
                    case measure => simp [intOf]; omega
                  · have hi1 : (0 : Int) < (i : Int) := by omega
                    go_wp2_with fail
                    go_roundw
                    case rel =>
                      refine ⟨i + 1, acc ++ [32] ++ tx, ?_, by go_num, by omega, hbw2, ?_, ?_⟩
                      · rw [← ba_app, ← ba_app]
                      · rw [List.length_append, List.length_append, HMUL1.out, List.length_singleton]
                        have := HAL.out; have := HLEN.out; have := HXS.out
                        omega
                      · have := HPR3.out
                        rw [if_neg hi0] at this
                        exact this
                    case measure => simp [intOf]; omega
              · have bn : (xn == 0) = false := by simp [hn0]
                have HE := hdef (by unfold textR; rw [if_neg (fun h => absurd h.1 (by decide)), if_pos hn0])
                clear hdef hsuc h11
                go_wp2_with fail
                go_ret2
                refine ⟨?_, hbx⟩
                rw [HE.out]
                rfl
            · have b3' : (xk == 3) = false := by simp [hk3]
              by_cases hk4 : xk = 4
              · subst hk4
                have htr : textR 4 xs xn = if xn ≠ 0 then ([], 1) else if 0 < signN xs ∧ signN xs = xs.length then (xs, 0) else ([], 1) := by
                  unfold textR
                  rw [if_neg (fun h => absurd h.1 (by decide))]
                  by_cases hx : xn ≠ 0
                  · rw [if_pos hx, if_pos hx]
                  · rw [if_neg hx, if_neg hx, if_neg (by decide), if_neg (by decide), if_pos rfl]
                by_cases hv : 0 < signN xs ∧ signN xs = xs.length
                · rw [decide_eq_true hv] at HIS
                  by_cases hn0 : xn = 0
                  · subst hn0
                    obtain ⟨HPR3, HLEN⟩ := hsuc xs (by rw [htr, if_pos hv]; rfl)
                    clear hdef hsuc h11 htr hv
                    obtain ⟨tx, htx⟩ : ∃ tx, xs = tx := ⟨_, rfl⟩
                    subst htx
                    go_wp2_with fail
                    refine (HIS.out _).mono ?_
                    rintro e w2 ⟨rfl, b2⟩
                    obtain ⟨c0, c1, c2, c3⟩ := (hB.below b2).cells
                    have hbw2 := hbx.trans (b2.mono hbx.size)
                    clear b2
                    have hs0 : acc.length + 1 + xs.length ≤ 140737488355328 := by have := HAL.out; have := HLEN.out; have := HXS.out; have := HMUL.out; omega
                    have hs1 : ¬ 9223372036854775807 < acc.length + xs.length := by omega
                    have hs2 : ¬ 9223372036854775807 < acc.length + 1 := by omega
                    have hs3 : ¬ 9223372036854775807 < acc.length + 1 + xs.length := by omega
                    clear hs0
                    by_cases hi0 : i = 0
                    · subst hi0
                      go_wp2_with fail
                      go_roundw
                      case rel =>
                        refine ⟨1, acc ++ xs, ?_, rfl, by omega, hbw2, ?_, ?_⟩
                        · rw [← ba_app]
                        · rw [List.length_append]
                          have := HAL.out; have := HLEN.out; have := HXS.out
                          omega
                        · have := HPR3.out
                          simpa using this
                      case measure => simp [intOf]; omega
                    · have hi1 : (0 : Int) < (i : Int) := by omega
                      go_wp2_with fail
                      go_roundw
                      case rel =>
                        refine ⟨i + 1, acc ++ [32] ++ xs, ?_, by go_num, by omega, hbw2, ?_, ?_⟩
                        · rw [← ba_app, ← ba_app]
                        · rw [List.length_append, List.length_append, HMUL1.out, List.length_singleton]
                          have := HAL.out; have := HLEN.out; have := HXS.out
                          omega
                        · have := HPR3.out
                          rw [if_neg hi0] at this
                          exact this
                      case measure => simp [intOf]; omega
                  · have bn : (xn == 0) = false := by simp [hn0]
                    have HE := hdef (by rw [htr, if_pos hn0])
                    clear hdef hsuc h11 htr hv
                    go_wp2_with fail
                    refine (HIS.out _).mono ?_
                    rintro e w2 ⟨rfl, b2⟩
                    obtain ⟨c0, c1, c2, c3⟩ := (hB.below b2).cells
                    have hbw2 := hbx.trans (b2.mono hbx.size)
                    go_wp2_with fail
                    go_ret2
                    refine ⟨?_, hbw2⟩
                    rw [HE.out]
                    rfl
                · rw [decide_eq_false hv] at HIS
                  have HE := hdef (by rw [htr, if_neg hv]; split <;> rfl)
                  clear hdef hsuc h11 htr hv
                  go_wp2_with fail
                  refine (HIS.out _).mono ?_
                  rintro e w2 ⟨rfl, b2⟩
                  obtain ⟨c0, c1, c2, c3⟩ := (hB.below b2).cells
                  have hbw2 := hbx.trans (b2.mono hbx.size)
                  go_wp2_with fail
                  go_ret2
                  refine ⟨?_, hbw2⟩
                  rw [HE.out]
                  rfl
              · have b4' : (xk == 4) = false := by simp [hk4]
                have HE := hdef (by unfold textR; simp [hk1, hk2, hk3, hk4])
                clear hdef hsuc h11
                go_wp2_with fail
                go_ret2
                refine ⟨?_, hbx⟩
                rw [HE.out]
                rfl
    · obtain rfl : i = L := by omega
      have HE : Hid (R = (acc, 0)) := by
        show R = (acc, 0)
        have := HPR.out
        rw [List.drop_eq_nil_of_le (by rw [HL.out]; omega)] at this
        exact this.symm
      clear HPR
      go_wp2_with fail
      go_ret2
      refine ⟨?_, hbw⟩
      rw [HE.out]
      rfl
end Go.Proofs.YtagjemdoefldaaaDoor
