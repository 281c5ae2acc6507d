/- The walk of lex.Lex (written by tools/mklex.py). Conditions: the library's variables and its table can be read. -/
import Derived.Test.YtagjemdoefldaaaDoorLxMem
namespace Go.Proofs.YtagjemdoefldaaaDoor
open Go.RowKit

set_option maxHeartbeats 4000000 in
set_option maxRecDepth 100000 in
theorem lex_in (s : ByteArray) (w : World) (hs : s.size ≤ 8192) (hw : LexOk w) :
    Calls Tryd.prog 9 #[.string s] w fun e w' => LexSay s.data.toList w w' e ∧ Below w.heap.size w w' := by
  obtain ⟨i0, hi, hz0, hz1, hz2⟩ := info_parts infoTok
  generalize hR : lexR s.data.toList = R
  have hR' : lx s.data.toList 0 false [] = R := by
    rw [← hR]
    unfold lexR
    rw [if_neg (by rw [size_list]; omega)]
  have HWB : Hid _ := fun (W : World) (k0 : Int) (s0 : ByteArray) (n0 p0 : Int) => wants_any W k0 s0 n0 p0
  have HLX : Hid (lx s.data.toList 0 false [] = R) := hR'
  have HLR : Hid (lexR s.data.toList = R) := hR
  have HW : Hid (LexOk w) := hw
  clear hR hR' hw
  have hgt : ¬ (s.size : Int) > 8192 := by omega
  go_enter Tryd.func9, Tryd.ntmps9
  go_wp2
  go_loopw [2, 8] (fun lv bv wr => ∃ (b pos : Nat) (acc : List Tok) (k0 : Int) (s0 : ByteArray) (n0 p0 : Int), bv = .int .i64 b ∧ b ≤ s.size ∧ pos ≤ s.size ∧ acc.length ≤ b ∧ LexSt w wr s pos lv acc k0 s0 n0 p0 ∧ LexIn s b pos acc k0 R) (fun _ _ wr => s.size - wr.iterPos (w.heap.size + 2))
  case atStart =>
    exact ⟨0, 0, [], 0, ⟨#[]⟩, 0, 0, rfl, by omega, by omega, by simp, LexSt.new w s, Or.inl ⟨by omega, Or.inl rfl, by simpa using HLX.out⟩⟩
  case round =>
    obtain ⟨b, pos, acc, k0, s0, n0, p0, rfl, hbs, hps, hacc, hSt, hIn⟩ := hrel
    have HIN : Hid (LexIn s b pos acc k0 R) := hIn
    clear hIn
    have hit := hSt.it
    by_cases hp : pos < s.size
    · have hnx : ∀ ty, (Instr.next (.pointer (some ⟨w.heap.size + 2, 0, none⟩)) true ty).run Tryd.prog wr = .ok (.tuple #[.bool true, .int .i64 pos, .int .i32 (Utf8.decode s pos).1]) (wr.iterAt (w.heap.size + 2) s (pos + (Utf8.decode s pos).2)) := fun ty => Lib.run_next_any_at (P := Tryd.prog) wr (w.heap.size + 2) s pos ty hit hp
      have hSt1 := hSt.next (pos + (Utf8.decode s pos).2)
      have hpit : wr.iterPos (w.heap.size + 2) = pos := by simp only [World.iterPos, hit]
      have hspan : Span s pos := rune_span s pos hp
      have hwd := width_pos s pos hp
      by_cases hlt : pos < b
      · have HN : Hid (LexIn s b (pos + (Utf8.decode s pos).2) acc k0 R ∧ pos + (Utf8.decode s pos).2 ≤ s.size) := HIN.out.skip hlt hspan hp
        have hltI : ((pos : Int) < (b : Int)) := by omega
        generalize hwdd : (Utf8.decode s pos).2 = wd at hnx hSt1 hwd HN
        generalize hr : (Utf8.decode s pos).1 = r at hnx
        clear hspan hwdd hr HIN hSt
        go_wp2_with fail
        go_roundw
        case rel => exact ⟨b, pos + wd, acc, k0, s0, n0, p0, rfl, hbs, HN.out.2, hacc, hSt1, HN.out.1⟩
        case measure =>
          rw [hpit]
          simp only [World.iterPos, hSt1.it]
          omega
      · have hltI : ¬ ((pos : Int) < (b : Int)) := by omega
        have hC : ∀ W, Calls Tryd.prog 16 #[.string ⟨#[32, 9, 10, 13]⟩, .int .i32 ((Utf8.decode s pos).1 : Int)] W fun e w' => e = .returned (.bool (isB (s.data.toList.getD pos 0))) ∧ Below W.heap.size W w' := fun W => contains_at s pos hp W
        have HC : Hid _ := hC
        clear hC
        have htl := tail_at s pos hp
        cases hblk : isB (s.data.toList.getD pos 0)
        · rw [hblk] at HC
          have hTK := fun W hb => token_at s pos (decide (pos = b) && decide (k0 = 1 ∨ k0 = 2)) W hp hs (HW.out.mono (hb : Below w.heap.size w W))
          cases htk : tokR (s.data.toList.drop pos) (decide (pos = b) && decide (k0 = 1 ∨ k0 = 2)) with
          | bad E =>
            have HR : Hid (R = ([], pos, E)) := HIN.out.bad hlt htl hblk htk
            have hE := tok_bad _ _ _ htk
            have HTK : Hid (∀ W, Below w.heap.size w W → Calls Tryd.prog 17 #[.string (s.extract pos s.size), .int .i32 ((Utf8.decode s pos).1 : Int), .bool (decide (pos = b) && decide (k0 = 1 ∨ k0 = 2))] W fun e w' => (∃ k2 s2 n2 p2 q2, e = .returned (.tuple #[.agg #[.int .i64 k2, .string s2, .int .i64 n2, .int .i64 p2], .int .i64 q2, .int .i64 E])) ∧ Below W.heap.size W w') := fun W hb => (hTK W hb).mono fun e w' h => ⟨tokSay_bad h.1 htk, h.2⟩
            generalize hwdd : (Utf8.decode s pos).2 = wd at hnx hSt1 hwd
            generalize hr : (Utf8.decode s pos).1 = r at hnx HC HTK
            clear hspan hwdd hr HIN hSt hTK htk htl hblk HLX HW
            by_cases heq : pos = b
            · subst heq
              have hdd : (decide (pos = pos) && decide (k0 = 1 ∨ k0 = 2)) = decide (k0 = 1 ∨ k0 = 2) := by simp
              rw [hdd] at HTK
              have HWB2 := mkHid (fun W => HWB.out W k0 s0 n0 p0)
              generalize decide (k0 = 1 ∨ k0 = 2) = mb at HTK HWB2
              clear hdd
              go_wp2_with fail
              refine (HC.out _).mono ?_
              rintro x4 w4 ⟨rfl, b4⟩
              have hSt := (hSt1.below b4).below ((Below.refl _ w4).drew)
              clear hSt1 b4 HC hnx hit
              go_upto_region 9 with fail
              refine wp_region_held_drew (S := fun u => World.cell? u ⟨w.heap.size, 0, none⟩ = some (.int .i64 k0) ∧ World.cell? u ⟨w.heap.size, 1, none⟩ = some (.string s0) ∧ World.cell? u ⟨w.heap.size, 2, none⟩ = some (.int .i64 n0) ∧ World.cell? u ⟨w.heap.size, 3, none⟩ = some (.int .i64 p0)) (by kernel_rfl) ?_ (fun hHeld => ?_)
              · exact hSt.last.cells
              refine wpAnyH_take (i := 0) (oi := ⟨some 28, .move (.tmp 0), 9, "lex.go:26", #[], none⟩) (v := .string s) rfl (by kernel_rfl) (by kernel_rfl) (by kernel_rfl) (fun _ _ _ h => h) (Or.inl ⟨by rfl, ?_⟩) hHeld ?_
              · intro wq hSq
                obtain ⟨s0, s1, s2, s3⟩ := hSq
                clear hHeld
                go_simp
              (try simp only [Act.put, List.setIfInBounds_toArray, List.set_cons_zero, List.set_cons_succ])
              refine wpAnyH_take (i := 1) (oi := ⟨some 29, .move (.tmp 9), 3, "lex.go:26", #[], none⟩) (v := .int .i64 (pos : Int)) rfl (by kernel_rfl) (by kernel_rfl) (by kernel_rfl) (fun _ _ _ h => h) (Or.inl ⟨by rfl, ?_⟩) hHeld ?_
              · intro wq hSq
                obtain ⟨s0, s1, s2, s3⟩ := hSq
                clear hHeld
                go_simp
              (try simp only [Act.put, List.setIfInBounds_toArray, List.set_cons_zero, List.set_cons_succ])
              refine wpAnyH_take (i := 2) (oi := ⟨some 30, .slice 9 (.tmp 28) (some (.tmp 29)) none none, 9, "lex.go:26", #[⟨0, .data⟩, ⟨1, .data⟩], none⟩) (v := .string (s.extract pos s.size)) rfl (by kernel_rfl) (by kernel_rfl) (by kernel_rfl) (fun _ _ _ h => h) (Or.inl ⟨by rfl, ?_⟩) hHeld ?_
              · intro wq hSq
                obtain ⟨s0, s1, s2, s3⟩ := hSq
                clear hHeld
                go_simp
              (try simp only [Act.put, List.setIfInBounds_toArray, List.set_cons_zero, List.set_cons_succ])
              refine wpAnyH_take (i := 3) (oi := ⟨some 31, .move (.tmp 10), 21, "lex.go:26", #[], none⟩) (v := .int .i32 (r : Int)) rfl (by kernel_rfl) (by kernel_rfl) (by kernel_rfl) (fun _ _ _ h => h) (Or.inl ⟨by rfl, ?_⟩) hHeld ?_
              · intro wq hSq
                obtain ⟨s0, s1, s2, s3⟩ := hSq
                clear hHeld
                go_simp
              (try simp only [Act.put, List.setIfInBounds_toArray, List.set_cons_zero, List.set_cons_succ])
              refine wpAnyH_take (i := 4) (oi := ⟨some 32, .move (.tmp 9), 3, "lex.go:26", #[], none⟩) (v := .int .i64 (pos : Int)) rfl (by kernel_rfl) (by kernel_rfl) (by kernel_rfl) (fun _ _ _ h => h) (Or.inl ⟨by rfl, ?_⟩) hHeld ?_
              · intro wq hSq
                obtain ⟨s0, s1, s2, s3⟩ := hSq
                clear hHeld
                go_simp
              (try simp only [Act.put, List.setIfInBounds_toArray, List.set_cons_zero, List.set_cons_succ])
              refine wpAnyH_take (i := 5) (oi := ⟨some 33, .move (.tmp 8), 3, "lex.go:26", #[], none⟩) (v := .int .i64 (pos : Int)) rfl (by kernel_rfl) (by kernel_rfl) (by kernel_rfl) (fun _ _ _ h => h) (Or.inl ⟨by rfl, ?_⟩) hHeld ?_
              · intro wq hSq
                obtain ⟨s0, s1, s2, s3⟩ := hSq
                clear hHeld
                go_simp
              (try simp only [Act.put, List.setIfInBounds_toArray, List.set_cons_zero, List.set_cons_succ])
              refine wpAnyH_take (i := 6) (oi := ⟨some 34, .binOp .eql 3 (.tmp 32) (.tmp 33) 3, 4, "lex.go:26", #[⟨4, .data⟩, ⟨5, .data⟩], none⟩) (v := .bool true) rfl (by kernel_rfl) (by kernel_rfl) (by kernel_rfl) (fun _ _ _ h => h) (Or.inl ⟨by rfl, ?_⟩) hHeld ?_
              · intro wq hSq
                obtain ⟨s0, s1, s2, s3⟩ := hSq
                clear hHeld
                go_simp
              (try simp only [Act.put, List.setIfInBounds_toArray, List.set_cons_zero, List.set_cons_succ])
              refine wpAnyH_take (i := 7) (oi := ⟨some 35, .move (.tmp 34), 4, "lex.go:26", #[⟨6, .data⟩], none⟩) (v := .bool true) rfl (by kernel_rfl) (by kernel_rfl) (by kernel_rfl) (fun _ _ _ h => h) (Or.inl ⟨by rfl, ?_⟩) hHeld ?_
              · intro wq hSq
                obtain ⟨s0, s1, s2, s3⟩ := hSq
                clear hHeld
                go_simp
              (try simp only [Act.put, List.setIfInBounds_toArray, List.set_cons_zero, List.set_cons_succ])
              refine wpAnyH_take (i := 8) (oi := ⟨some 36, .load 29 (.tmp 5), 29, "lex.go:26", #[⟨7, .guard⟩], some (7, true)⟩) (v := .agg #[.int .i64 k0, .string s0, .int .i64 n0, .int .i64 p0]) rfl (by kernel_rfl) (by kernel_rfl) (by kernel_rfl) (fun _ _ _ h => h) (Or.inl ⟨by rfl, ?_⟩) hHeld ?_
              · intro wq hSq
                obtain ⟨s0, s1, s2, s3⟩ := hSq
                clear hHeld
                go_simp
              (try simp only [Act.put, List.setIfInBounds_toArray, List.set_cons_zero, List.set_cons_succ])
              refine wpAnyH_ready (rs := [9]) (by kernel_rfl) (by simp) ?_
              refine AllReadyH.cons (o := ⟨some 37, .call ⟨.value (.func 18), #[.tmp 36], #[29]⟩, 4, "lex.go:26", #[⟨8, .data⟩, ⟨7, .chain⟩, ⟨7, .guard⟩], some (7, true)⟩) rfl (fun Kr9 hKr9 => ?_) AllReadyH.nil
              go_simp
              go_at_call 18
              refine (HWB2.out _).mono ?_
              rintro x5 w5 ⟨rfl, b5⟩
              have hSt5 := hSt.below b5
              have hS9 := hSt5.last.cells
              clear hHeld 
              go_wp2_with fail
              refine hKr9.out _ _ ?_ (fun hHeld => ?_)
              · exact hS9
              clear hKr9 Kr9 hS9
              (try simp only [Act.put, List.setIfInBounds_toArray, List.set_cons_zero, List.set_cons_succ])
              refine wpAnyH_take (i := 10) (oi := ⟨some 38, .pick (.tmp 35) (.tmp 37) (.const (.bool false)), 4, "lex.go:26", #[⟨7, .data⟩, ⟨9, .data⟩], none⟩) (v := .bool mb) rfl (by kernel_rfl) (by kernel_rfl) (by kernel_rfl) (fun _ _ _ h => h) (Or.inl ⟨by rfl, ?_⟩) hHeld ?_
              · intro wq hSq
                obtain ⟨s0, s1, s2, s3⟩ := hSq
                clear hHeld
                go_simp
              (try simp only [Act.put, List.setIfInBounds_toArray, List.set_cons_zero, List.set_cons_succ])
              refine wpAnyH_ready (rs := [11]) (by kernel_rfl) (by simp) ?_
              refine AllReadyH.cons (o := ⟨some 39, .call ⟨.value (.func 17), #[.tmp 30, .tmp 31, .tmp 38], #[9, 21, 4]⟩, 42, "lex.go:26", #[⟨2, .data⟩, ⟨3, .data⟩, ⟨10, .data⟩, ⟨9, .chain⟩], none⟩) rfl (fun Kr11 hKr11 => ?_) AllReadyH.nil
              go_simp
              go_at_call 17
              refine (HTK.out _ hSt5.bw).mono ?_
              rintro x6 w6 ⟨⟨k2, s2, n2, p2, q2, rfl⟩, b6⟩
              have hSt6 := hSt5.below b6
              have hS11 := hSt6.last.cells
              clear hHeld HTK
              go_wp2_with fail
              refine hKr11.out _ _ ?_ (fun hHeld => ?_)
              · exact hS11
              clear hKr11 Kr11 hS11
              (try simp only [Act.put, List.setIfInBounds_toArray, List.set_cons_zero, List.set_cons_succ])
              refine wpAnyH_take (i := 12) (oi := ⟨some 27, .move (.tmp 39), 42, "lex.go:26", #[⟨11, .data⟩], none⟩) (v := .tuple #[.agg #[.int .i64 k2, .string s2, .int .i64 n2, .int .i64 p2], .int .i64 q2, .int .i64 E]) rfl (by kernel_rfl) (by kernel_rfl) (by kernel_rfl) (fun _ _ _ h => h) (Or.inl ⟨by rfl, ?_⟩) hHeld ?_
              · intro wq hSq
                obtain ⟨s0, s1, s2, s3⟩ := hSq
                clear hHeld
                go_simp
              (try simp only [Act.put, List.setIfInBounds_toArray, List.set_cons_zero, List.set_cons_succ])
              refine wpAnyH_take (i := 13) (oi := ⟨some 40, .extract (.tmp 27) 0, 29, "lex.go:26", #[⟨12, .data⟩], none⟩) (v := .agg #[.int .i64 k2, .string s2, .int .i64 n2, .int .i64 p2]) rfl (by kernel_rfl) (by kernel_rfl) (by kernel_rfl) (fun _ _ _ h => h) (Or.inl ⟨by rfl, ?_⟩) hHeld ?_
              · intro wq hSq
                obtain ⟨s0, s1, s2, s3⟩ := hSq
                clear hHeld
                go_simp
              (try simp only [Act.put, List.setIfInBounds_toArray, List.set_cons_zero, List.set_cons_succ])
              refine wpAnyH_take (i := 14) (oi := ⟨some 41, .extract (.tmp 27) 1, 3, "lex.go:26", #[⟨12, .data⟩, ⟨16, .gcOnly .lateStores⟩], none⟩) (v := .int .i64 q2) rfl (by kernel_rfl) (by kernel_rfl) (by kernel_rfl) (fun _ _ _ h => h) (Or.inl ⟨by rfl, ?_⟩) hHeld ?_
              · intro wq hSq
                obtain ⟨s0, s1, s2, s3⟩ := hSq
                clear hHeld
                go_simp
              (try simp only [Act.put, List.setIfInBounds_toArray, List.set_cons_zero, List.set_cons_succ])
              refine wpAnyH_take (i := 15) (oi := ⟨some 42, .extract (.tmp 27) 2, 23, "lex.go:26", #[⟨12, .data⟩, ⟨17, .gcOnly .lateStores⟩], none⟩) (v := .int .i64 E) rfl (by kernel_rfl) (by kernel_rfl) (by kernel_rfl) (fun _ _ _ h => h) (Or.inl ⟨by rfl, ?_⟩) hHeld ?_
              · intro wq hSq
                obtain ⟨s0, s1, s2, s3⟩ := hSq
                clear hHeld
                go_simp
              (try simp only [Act.put, List.setIfInBounds_toArray, List.set_cons_zero, List.set_cons_succ])
              refine wpAnyH_ready (rs := [16]) (by kernel_rfl) (by simp) ?_
              refine AllReadyH.cons (o := ⟨none, .store 29 (.tmp 6) (.tmp 40), 0, "lex.go:26", #[⟨13, .data⟩, ⟨11, .chain⟩, ⟨0, .phase⟩, ⟨1, .phase⟩, ⟨2, .phase⟩, ⟨3, .phase⟩, ⟨4, .phase⟩, ⟨5, .phase⟩, ⟨6, .phase⟩, ⟨7, .phase⟩, ⟨8, .phase⟩, ⟨9, .phase⟩, ⟨10, .phase⟩, ⟨11, .phase⟩, ⟨12, .phase⟩, ⟨13, .phase⟩, { on := 14, ground := Ground.textOnly Departure.lateStores }, { on := 15, ground := Ground.textOnly Departure.lateStores }], none⟩) rfl (fun Kr16 hKr16 => ?_) AllReadyH.nil
              obtain ⟨y0, y1, y2, y3, ht⟩ := hSt6.t
              obtain ⟨c0, c1, c2, c3⟩ := ht.cells
              obtain ⟨f0, f1, f2, f3⟩ := ht.free
              have hSt7 := hSt6.setT (.int .i64 k2) (.string s2) (.int .i64 n2) (.int .i64 p2)
              have hT7 : Blk4 ((((w6.setCell ⟨w.heap.size + 1, 0, none⟩ (.int .i64 k2)).setCell ⟨w.heap.size + 1, 1, none⟩ (.string s2)).setCell ⟨w.heap.size + 1, 2, none⟩ (.int .i64 n2)).setCell ⟨w.heap.size + 1, 3, none⟩ (.int .i64 p2)) (w.heap.size + 1) (.int .i64 k2) (.string s2) (.int .i64 n2) (.int .i64 p2) := ht.set4 _ _ _ _
              obtain ⟨w7, hw7⟩ : ∃ w7, w7 = ((((w6.setCell ⟨w.heap.size + 1, 0, none⟩ (.int .i64 k2)).setCell ⟨w.heap.size + 1, 1, none⟩ (.string s2)).setCell ⟨w.heap.size + 1, 2, none⟩ (.int .i64 n2)).setCell ⟨w.heap.size + 1, 3, none⟩ (.int .i64 p2)) := ⟨_, rfl⟩
              rw [← hw7] at hSt7 hT7
              have hS16 := hSt7.last.cells
              have HW7 := mkHid hw7
              clear hHeld hw7
              go_simp
              rw [← HW7.out]
              refine hKr16.out _ _ ?_ (fun hHeld => ?_)
              · exact hS16
              clear hKr16 Kr16 hS16 c0 c1 c2 c3 f0 f1 f2 f3 ht
              (try simp only [Act.put, List.setIfInBounds_toArray, List.set_cons_zero, List.set_cons_succ])
              refine wpAnyH_take (i := 17) (oi := ⟨some 7, .assign (.tmp 41), 3, "lex.go:26", #[⟨14, .data⟩, ⟨16, .chain⟩, ⟨0, .phase⟩, ⟨1, .phase⟩, ⟨2, .phase⟩, ⟨3, .phase⟩, ⟨4, .phase⟩, ⟨5, .phase⟩, ⟨6, .phase⟩, ⟨7, .phase⟩, ⟨8, .phase⟩, ⟨9, .phase⟩, ⟨10, .phase⟩, ⟨11, .phase⟩, ⟨12, .phase⟩, ⟨13, .phase⟩, ⟨14, .phase⟩, { on := 15, ground := Ground.textOnly Departure.lateStores }, ⟨16, .phase⟩], none⟩) (v := .int .i64 q2) rfl (by kernel_rfl) (by kernel_rfl) (by kernel_rfl) (fun _ _ _ h => h) (Or.inl ⟨by rfl, ?_⟩) hHeld ?_
              · intro wq hSq
                obtain ⟨s0, s1, s2, s3⟩ := hSq
                clear hHeld
                go_simp
              (try simp only [Act.put, List.setIfInBounds_toArray, List.set_cons_zero, List.set_cons_succ])
              refine wpAnyH_take (i := 18) (oi := ⟨some 4, .assign (.tmp 42), 23, "lex.go:26", #[⟨15, .data⟩, ⟨17, .chain⟩, ⟨0, .phase⟩, ⟨1, .phase⟩, ⟨2, .phase⟩, ⟨3, .phase⟩, ⟨4, .phase⟩, ⟨5, .phase⟩, ⟨6, .phase⟩, ⟨7, .phase⟩, ⟨8, .phase⟩, ⟨9, .phase⟩, ⟨10, .phase⟩, ⟨11, .phase⟩, ⟨12, .phase⟩, ⟨13, .phase⟩, ⟨14, .phase⟩, ⟨15, .phase⟩, ⟨16, .phase⟩, ⟨17, .phase⟩], none⟩) (v := .int .i64 E) rfl (by kernel_rfl) (by kernel_rfl) (by kernel_rfl) (fun _ _ _ h => h) (Or.inl ⟨by rfl, ?_⟩) hHeld ?_
              · intro wq hSq
                obtain ⟨s0, s1, s2, s3⟩ := hSq
                clear hHeld
                go_simp
              (try simp only [Act.put, List.setIfInBounds_toArray, List.set_cons_zero, List.set_cons_succ])
              refine wpAnyH_done (by kernel_rfl) ?_ _
              clear hHeld
              skip
              have hE2 : (E != 0) = true := by rcases hE with rfl | rfl | rfl <;> rfl
              clear hSt6 hT7
              go_wp2_with fail
              go_ret3
              refine ⟨⟨.slice none 0 0, ?_, ?_⟩, hSt7.bw⟩
              · rw [HLR.out, HR.out]
                rfl
              · rw [HLR.out, HR.out]
                exact World.ownsRow_nil _ _ _ _
            · have hdd : (decide (pos = b) && decide (k0 = 1 ∨ k0 = 2)) = false := by simp [heq]
              rw [hdd] at HTK
              have hne : ((pos : Int) == (b : Int)) = false := by simp; omega
              clear hdd
              go_wp2_with fail
              refine (HC.out _).mono ?_
              rintro x4 w4 ⟨rfl, b4⟩
              have hSt := (hSt1.below b4).below ((Below.refl _ w4).drew)
              clear hSt1 b4 HC hnx hit
              go_upto_region 9 with fail
              refine wp_region_held_drew (S := fun u => World.cell? u ⟨w.heap.size, 0, none⟩ = some (.int .i64 k0) ∧ World.cell? u ⟨w.heap.size, 1, none⟩ = some (.string s0) ∧ World.cell? u ⟨w.heap.size, 2, none⟩ = some (.int .i64 n0) ∧ World.cell? u ⟨w.heap.size, 3, none⟩ = some (.int .i64 p0)) (by kernel_rfl) ?_ (fun hHeld => ?_)
              · exact hSt.last.cells
              refine wpAnyH_take (i := 0) (oi := ⟨some 28, .move (.tmp 0), 9, "lex.go:26", #[], none⟩) (v := .string s) rfl (by kernel_rfl) (by kernel_rfl) (by kernel_rfl) (fun _ _ _ h => h) (Or.inl ⟨by rfl, ?_⟩) hHeld ?_
              · intro wq hSq
                obtain ⟨s0, s1, s2, s3⟩ := hSq
                clear hHeld
                go_simp
              (try simp only [Act.put, List.setIfInBounds_toArray, List.set_cons_zero, List.set_cons_succ])
              refine wpAnyH_take (i := 1) (oi := ⟨some 29, .move (.tmp 9), 3, "lex.go:26", #[], none⟩) (v := .int .i64 (pos : Int)) rfl (by kernel_rfl) (by kernel_rfl) (by kernel_rfl) (fun _ _ _ h => h) (Or.inl ⟨by rfl, ?_⟩) hHeld ?_
              · intro wq hSq
                obtain ⟨s0, s1, s2, s3⟩ := hSq
                clear hHeld
                go_simp
              (try simp only [Act.put, List.setIfInBounds_toArray, List.set_cons_zero, List.set_cons_succ])
              refine wpAnyH_take (i := 2) (oi := ⟨some 30, .slice 9 (.tmp 28) (some (.tmp 29)) none none, 9, "lex.go:26", #[⟨0, .data⟩, ⟨1, .data⟩], none⟩) (v := .string (s.extract pos s.size)) rfl (by kernel_rfl) (by kernel_rfl) (by kernel_rfl) (fun _ _ _ h => h) (Or.inl ⟨by rfl, ?_⟩) hHeld ?_
              · intro wq hSq
                obtain ⟨s0, s1, s2, s3⟩ := hSq
                clear hHeld
                go_simp
              (try simp only [Act.put, List.setIfInBounds_toArray, List.set_cons_zero, List.set_cons_succ])
              refine wpAnyH_take (i := 3) (oi := ⟨some 31, .move (.tmp 10), 21, "lex.go:26", #[], none⟩) (v := .int .i32 (r : Int)) rfl (by kernel_rfl) (by kernel_rfl) (by kernel_rfl) (fun _ _ _ h => h) (Or.inl ⟨by rfl, ?_⟩) hHeld ?_
              · intro wq hSq
                obtain ⟨s0, s1, s2, s3⟩ := hSq
                clear hHeld
                go_simp
              (try simp only [Act.put, List.setIfInBounds_toArray, List.set_cons_zero, List.set_cons_succ])
              refine wpAnyH_take (i := 4) (oi := ⟨some 32, .move (.tmp 9), 3, "lex.go:26", #[], none⟩) (v := .int .i64 (pos : Int)) rfl (by kernel_rfl) (by kernel_rfl) (by kernel_rfl) (fun _ _ _ h => h) (Or.inl ⟨by rfl, ?_⟩) hHeld ?_
              · intro wq hSq
                obtain ⟨s0, s1, s2, s3⟩ := hSq
                clear hHeld
                go_simp
              (try simp only [Act.put, List.setIfInBounds_toArray, List.set_cons_zero, List.set_cons_succ])
              refine wpAnyH_take (i := 5) (oi := ⟨some 33, .move (.tmp 8), 3, "lex.go:26", #[], none⟩) (v := .int .i64 (b : Int)) rfl (by kernel_rfl) (by kernel_rfl) (by kernel_rfl) (fun _ _ _ h => h) (Or.inl ⟨by rfl, ?_⟩) hHeld ?_
              · intro wq hSq
                obtain ⟨s0, s1, s2, s3⟩ := hSq
                clear hHeld
                go_simp
              (try simp only [Act.put, List.setIfInBounds_toArray, List.set_cons_zero, List.set_cons_succ])
              refine wpAnyH_take (i := 6) (oi := ⟨some 34, .binOp .eql 3 (.tmp 32) (.tmp 33) 3, 4, "lex.go:26", #[⟨4, .data⟩, ⟨5, .data⟩], none⟩) (v := .bool false) rfl (by kernel_rfl) (by kernel_rfl) (by kernel_rfl) (fun _ _ _ h => h) (Or.inl ⟨by rfl, ?_⟩) hHeld ?_
              · intro wq hSq
                obtain ⟨s0, s1, s2, s3⟩ := hSq
                clear hHeld
                go_simp
              (try simp only [Act.put, List.setIfInBounds_toArray, List.set_cons_zero, List.set_cons_succ])
              refine wpAnyH_take (i := 7) (oi := ⟨some 35, .move (.tmp 34), 4, "lex.go:26", #[⟨6, .data⟩], none⟩) (v := .bool false) rfl (by kernel_rfl) (by kernel_rfl) (by kernel_rfl) (fun _ _ _ h => h) (Or.inl ⟨by rfl, ?_⟩) hHeld ?_
              · intro wq hSq
                obtain ⟨s0, s1, s2, s3⟩ := hSq
                clear hHeld
                go_simp
              (try simp only [Act.put, List.setIfInBounds_toArray, List.set_cons_zero, List.set_cons_succ])
              refine wpAnyH_take (i := 8) (oi := ⟨some 36, .load 29 (.tmp 5), 29, "lex.go:26", #[⟨7, .guard⟩], some (7, true)⟩) (v := undef) rfl (by kernel_rfl) (by kernel_rfl) (by kernel_rfl) (fun _ _ _ h => h) (Or.inr ⟨by rfl, rfl⟩) hHeld ?_
              (try simp only [Act.put, List.setIfInBounds_toArray, List.set_cons_zero, List.set_cons_succ])
              refine wpAnyH_take (i := 9) (oi := ⟨some 37, .call ⟨.value (.func 18), #[.tmp 36], #[29]⟩, 4, "lex.go:26", #[⟨8, .data⟩, ⟨7, .chain⟩, ⟨7, .guard⟩], some (7, true)⟩) (v := undef) rfl (by kernel_rfl) (by kernel_rfl) (by kernel_rfl) (fun _ _ _ h => h) (Or.inr ⟨by rfl, rfl⟩) hHeld ?_
              (try simp only [Act.put, List.setIfInBounds_toArray, List.set_cons_zero, List.set_cons_succ])
              refine wpAnyH_take (i := 10) (oi := ⟨some 38, .pick (.tmp 35) (.tmp 37) (.const (.bool false)), 4, "lex.go:26", #[⟨7, .data⟩, ⟨9, .data⟩], none⟩) (v := .bool false) rfl (by kernel_rfl) (by kernel_rfl) (by kernel_rfl) (fun _ _ _ h => h) (Or.inl ⟨by rfl, ?_⟩) hHeld ?_
              · intro wq hSq
                obtain ⟨s0, s1, s2, s3⟩ := hSq
                clear hHeld
                go_simp
              (try simp only [Act.put, List.setIfInBounds_toArray, List.set_cons_zero, List.set_cons_succ])
              refine wpAnyH_ready (rs := [11]) (by kernel_rfl) (by simp) ?_
              refine AllReadyH.cons (o := ⟨some 39, .call ⟨.value (.func 17), #[.tmp 30, .tmp 31, .tmp 38], #[9, 21, 4]⟩, 42, "lex.go:26", #[⟨2, .data⟩, ⟨3, .data⟩, ⟨10, .data⟩, ⟨9, .chain⟩], none⟩) rfl (fun Kr11 hKr11 => ?_) AllReadyH.nil
              go_simp
              go_at_call 17
              refine (HTK.out _ hSt.bw).mono ?_
              rintro x6 w6 ⟨⟨k2, s2, n2, p2, q2, rfl⟩, b6⟩
              have hSt6 := hSt.below b6
              have hS11 := hSt6.last.cells
              clear hHeld HTK
              go_wp2_with fail
              refine hKr11.out _ _ ?_ (fun hHeld => ?_)
              · exact hS11
              clear hKr11 Kr11 hS11
              (try simp only [Act.put, List.setIfInBounds_toArray, List.set_cons_zero, List.set_cons_succ])
              refine wpAnyH_take (i := 12) (oi := ⟨some 27, .move (.tmp 39), 42, "lex.go:26", #[⟨11, .data⟩], none⟩) (v := .tuple #[.agg #[.int .i64 k2, .string s2, .int .i64 n2, .int .i64 p2], .int .i64 q2, .int .i64 E]) rfl (by kernel_rfl) (by kernel_rfl) (by kernel_rfl) (fun _ _ _ h => h) (Or.inl ⟨by rfl, ?_⟩) hHeld ?_
              · intro wq hSq
                obtain ⟨s0, s1, s2, s3⟩ := hSq
                clear hHeld
                go_simp
              (try simp only [Act.put, List.setIfInBounds_toArray, List.set_cons_zero, List.set_cons_succ])
              refine wpAnyH_take (i := 13) (oi := ⟨some 40, .extract (.tmp 27) 0, 29, "lex.go:26", #[⟨12, .data⟩], none⟩) (v := .agg #[.int .i64 k2, .string s2, .int .i64 n2, .int .i64 p2]) rfl (by kernel_rfl) (by kernel_rfl) (by kernel_rfl) (fun _ _ _ h => h) (Or.inl ⟨by rfl, ?_⟩) hHeld ?_
              · intro wq hSq
                obtain ⟨s0, s1, s2, s3⟩ := hSq
                clear hHeld
                go_simp
              (try simp only [Act.put, List.setIfInBounds_toArray, List.set_cons_zero, List.set_cons_succ])
              refine wpAnyH_take (i := 14) (oi := ⟨some 41, .extract (.tmp 27) 1, 3, "lex.go:26", #[⟨12, .data⟩, ⟨16, .gcOnly .lateStores⟩], none⟩) (v := .int .i64 q2) rfl (by kernel_rfl) (by kernel_rfl) (by kernel_rfl) (fun _ _ _ h => h) (Or.inl ⟨by rfl, ?_⟩) hHeld ?_
              · intro wq hSq
                obtain ⟨s0, s1, s2, s3⟩ := hSq
                clear hHeld
                go_simp
              (try simp only [Act.put, List.setIfInBounds_toArray, List.set_cons_zero, List.set_cons_succ])
              refine wpAnyH_take (i := 15) (oi := ⟨some 42, .extract (.tmp 27) 2, 23, "lex.go:26", #[⟨12, .data⟩, ⟨17, .gcOnly .lateStores⟩], none⟩) (v := .int .i64 E) rfl (by kernel_rfl) (by kernel_rfl) (by kernel_rfl) (fun _ _ _ h => h) (Or.inl ⟨by rfl, ?_⟩) hHeld ?_
              · intro wq hSq
                obtain ⟨s0, s1, s2, s3⟩ := hSq
                clear hHeld
                go_simp
              (try simp only [Act.put, List.setIfInBounds_toArray, List.set_cons_zero, List.set_cons_succ])
              refine wpAnyH_ready (rs := [16]) (by kernel_rfl) (by simp) ?_
              refine AllReadyH.cons (o := ⟨none, .store 29 (.tmp 6) (.tmp 40), 0, "lex.go:26", #[⟨13, .data⟩, ⟨11, .chain⟩, ⟨0, .phase⟩, ⟨1, .phase⟩, ⟨2, .phase⟩, ⟨3, .phase⟩, ⟨4, .phase⟩, ⟨5, .phase⟩, ⟨6, .phase⟩, ⟨7, .phase⟩, ⟨8, .phase⟩, ⟨9, .phase⟩, ⟨10, .phase⟩, ⟨11, .phase⟩, ⟨12, .phase⟩, ⟨13, .phase⟩, { on := 14, ground := Ground.textOnly Departure.lateStores }, { on := 15, ground := Ground.textOnly Departure.lateStores }], none⟩) rfl (fun Kr16 hKr16 => ?_) AllReadyH.nil
              obtain ⟨y0, y1, y2, y3, ht⟩ := hSt6.t
              obtain ⟨c0, c1, c2, c3⟩ := ht.cells
              obtain ⟨f0, f1, f2, f3⟩ := ht.free
              have hSt7 := hSt6.setT (.int .i64 k2) (.string s2) (.int .i64 n2) (.int .i64 p2)
              have hT7 : Blk4 ((((w6.setCell ⟨w.heap.size + 1, 0, none⟩ (.int .i64 k2)).setCell ⟨w.heap.size + 1, 1, none⟩ (.string s2)).setCell ⟨w.heap.size + 1, 2, none⟩ (.int .i64 n2)).setCell ⟨w.heap.size + 1, 3, none⟩ (.int .i64 p2)) (w.heap.size + 1) (.int .i64 k2) (.string s2) (.int .i64 n2) (.int .i64 p2) := ht.set4 _ _ _ _
              obtain ⟨w7, hw7⟩ : ∃ w7, w7 = ((((w6.setCell ⟨w.heap.size + 1, 0, none⟩ (.int .i64 k2)).setCell ⟨w.heap.size + 1, 1, none⟩ (.string s2)).setCell ⟨w.heap.size + 1, 2, none⟩ (.int .i64 n2)).setCell ⟨w.heap.size + 1, 3, none⟩ (.int .i64 p2)) := ⟨_, rfl⟩
              rw [← hw7] at hSt7 hT7
              have hS16 := hSt7.last.cells
              have HW7 := mkHid hw7
              clear hHeld hw7
              go_simp
              rw [← HW7.out]
              refine hKr16.out _ _ ?_ (fun hHeld => ?_)
              · exact hS16
              clear hKr16 Kr16 hS16 c0 c1 c2 c3 f0 f1 f2 f3 ht
              (try simp only [Act.put, List.setIfInBounds_toArray, List.set_cons_zero, List.set_cons_succ])
              refine wpAnyH_take (i := 17) (oi := ⟨some 7, .assign (.tmp 41), 3, "lex.go:26", #[⟨14, .data⟩, ⟨16, .chain⟩, ⟨0, .phase⟩, ⟨1, .phase⟩, ⟨2, .phase⟩, ⟨3, .phase⟩, ⟨4, .phase⟩, ⟨5, .phase⟩, ⟨6, .phase⟩, ⟨7, .phase⟩, ⟨8, .phase⟩, ⟨9, .phase⟩, ⟨10, .phase⟩, ⟨11, .phase⟩, ⟨12, .phase⟩, ⟨13, .phase⟩, ⟨14, .phase⟩, { on := 15, ground := Ground.textOnly Departure.lateStores }, ⟨16, .phase⟩], none⟩) (v := .int .i64 q2) rfl (by kernel_rfl) (by kernel_rfl) (by kernel_rfl) (fun _ _ _ h => h) (Or.inl ⟨by rfl, ?_⟩) hHeld ?_
              · intro wq hSq
                obtain ⟨s0, s1, s2, s3⟩ := hSq
                clear hHeld
                go_simp
              (try simp only [Act.put, List.setIfInBounds_toArray, List.set_cons_zero, List.set_cons_succ])
              refine wpAnyH_take (i := 18) (oi := ⟨some 4, .assign (.tmp 42), 23, "lex.go:26", #[⟨15, .data⟩, ⟨17, .chain⟩, ⟨0, .phase⟩, ⟨1, .phase⟩, ⟨2, .phase⟩, ⟨3, .phase⟩, ⟨4, .phase⟩, ⟨5, .phase⟩, ⟨6, .phase⟩, ⟨7, .phase⟩, ⟨8, .phase⟩, ⟨9, .phase⟩, ⟨10, .phase⟩, ⟨11, .phase⟩, ⟨12, .phase⟩, ⟨13, .phase⟩, ⟨14, .phase⟩, ⟨15, .phase⟩, ⟨16, .phase⟩, ⟨17, .phase⟩], none⟩) (v := .int .i64 E) rfl (by kernel_rfl) (by kernel_rfl) (by kernel_rfl) (fun _ _ _ h => h) (Or.inl ⟨by rfl, ?_⟩) hHeld ?_
              · intro wq hSq
                obtain ⟨s0, s1, s2, s3⟩ := hSq
                clear hHeld
                go_simp
              (try simp only [Act.put, List.setIfInBounds_toArray, List.set_cons_zero, List.set_cons_succ])
              refine wpAnyH_done (by kernel_rfl) ?_ _
              clear hHeld
              skip
              have hE2 : (E != 0) = true := by rcases hE with rfl | rfl | rfl <;> rfl
              clear hSt6 hT7
              go_wp2_with fail
              go_ret3
              refine ⟨⟨.slice none 0 0, ?_, ?_⟩, hSt7.bw⟩
              · rw [HLR.out, HR.out]
                rfl
              · rw [HLR.out, HR.out]
                exact World.ownsRow_nil _ _ _ _
          | tok x n =>
            obtain ⟨hn1, hn2, hxk⟩ := tok_n _ _ _ _ htk
            rw [List.length_drop, size_list] at hn2
            have HNX : Hid (LexIn s (pos + n) (pos + (Utf8.decode s pos).2) (acc ++ [⟨x.k, x.s, x.n, pos⟩]) x.k R ∧ pos + (Utf8.decode s pos).2 ≤ s.size) := HIN.out.tok hlt htl hblk htk hspan hp
            have HTK : Hid (∀ W, Below w.heap.size w W → Calls Tryd.prog 17 #[.string (s.extract pos s.size), .int .i32 ((Utf8.decode s pos).1 : Int), .bool (decide (pos = b) && decide (k0 = 1 ∨ k0 = 2))] W fun e w' => e = .returned (.tuple #[.agg #[.int .i64 x.k, .string ⟨x.s.toArray⟩, .int .i64 x.n, .int .i64 0], .int .i64 (n : Int), .int .i64 0]) ∧ Below W.heap.size W w') := fun W hb => (hTK W hb).mono fun e w' h => ⟨tokSay_tok h.1 htk, h.2⟩
            generalize hwdd : (Utf8.decode s pos).2 = wd at hnx hSt1 hwd HNX
            generalize hr : (Utf8.decode s pos).1 = r at hnx HC HTK
            clear hspan hwdd hr HIN hSt hTK htk htl hblk HLX HW
            by_cases heq : pos = b
            · subst heq
              have hdd : (decide (pos = pos) && decide (k0 = 1 ∨ k0 = 2)) = decide (k0 = 1 ∨ k0 = 2) := by simp
              rw [hdd] at HTK
              have HWB2 := mkHid (fun W => HWB.out W k0 s0 n0 p0)
              generalize decide (k0 = 1 ∨ k0 = 2) = mb at HTK HWB2
              clear hdd
              go_wp2_with fail
              refine (HC.out _).mono ?_
              rintro x4 w4 ⟨rfl, b4⟩
              have hSt := (hSt1.below b4).below ((Below.refl _ w4).drew)
              clear hSt1 b4 HC hnx hit
              go_upto_region 9 with fail
              refine wp_region_held_drew (S := fun u => World.cell? u ⟨w.heap.size, 0, none⟩ = some (.int .i64 k0) ∧ World.cell? u ⟨w.heap.size, 1, none⟩ = some (.string s0) ∧ World.cell? u ⟨w.heap.size, 2, none⟩ = some (.int .i64 n0) ∧ World.cell? u ⟨w.heap.size, 3, none⟩ = some (.int .i64 p0)) (by kernel_rfl) ?_ (fun hHeld => ?_)
              · exact hSt.last.cells
              refine wpAnyH_take (i := 0) (oi := ⟨some 28, .move (.tmp 0), 9, "lex.go:26", #[], none⟩) (v := .string s) rfl (by kernel_rfl) (by kernel_rfl) (by kernel_rfl) (fun _ _ _ h => h) (Or.inl ⟨by rfl, ?_⟩) hHeld ?_
              · intro wq hSq
                obtain ⟨s0, s1, s2, s3⟩ := hSq
                clear hHeld
                go_simp
              (try simp only [Act.put, List.setIfInBounds_toArray, List.set_cons_zero, List.set_cons_succ])
              refine wpAnyH_take (i := 1) (oi := ⟨some 29, .move (.tmp 9), 3, "lex.go:26", #[], none⟩) (v := .int .i64 (pos : Int)) rfl (by kernel_rfl) (by kernel_rfl) (by kernel_rfl) (fun _ _ _ h => h) (Or.inl ⟨by rfl, ?_⟩) hHeld ?_
              · intro wq hSq
                obtain ⟨s0, s1, s2, s3⟩ := hSq
                clear hHeld
                go_simp
              (try simp only [Act.put, List.setIfInBounds_toArray, List.set_cons_zero, List.set_cons_succ])
              refine wpAnyH_take (i := 2) (oi := ⟨some 30, .slice 9 (.tmp 28) (some (.tmp 29)) none none, 9, "lex.go:26", #[⟨0, .data⟩, ⟨1, .data⟩], none⟩) (v := .string (s.extract pos s.size)) rfl (by kernel_rfl) (by kernel_rfl) (by kernel_rfl) (fun _ _ _ h => h) (Or.inl ⟨by rfl, ?_⟩) hHeld ?_
              · intro wq hSq
                obtain ⟨s0, s1, s2, s3⟩ := hSq
                clear hHeld
                go_simp
              (try simp only [Act.put, List.setIfInBounds_toArray, List.set_cons_zero, List.set_cons_succ])
              refine wpAnyH_take (i := 3) (oi := ⟨some 31, .move (.tmp 10), 21, "lex.go:26", #[], none⟩) (v := .int .i32 (r : Int)) rfl (by kernel_rfl) (by kernel_rfl) (by kernel_rfl) (fun _ _ _ h => h) (Or.inl ⟨by rfl, ?_⟩) hHeld ?_
              · intro wq hSq
                obtain ⟨s0, s1, s2, s3⟩ := hSq
                clear hHeld
                go_simp
              (try simp only [Act.put, List.setIfInBounds_toArray, List.set_cons_zero, List.set_cons_succ])
              refine wpAnyH_take (i := 4) (oi := ⟨some 32, .move (.tmp 9), 3, "lex.go:26", #[], none⟩) (v := .int .i64 (pos : Int)) rfl (by kernel_rfl) (by kernel_rfl) (by kernel_rfl) (fun _ _ _ h => h) (Or.inl ⟨by rfl, ?_⟩) hHeld ?_
              · intro wq hSq
                obtain ⟨s0, s1, s2, s3⟩ := hSq
                clear hHeld
                go_simp
              (try simp only [Act.put, List.setIfInBounds_toArray, List.set_cons_zero, List.set_cons_succ])
              refine wpAnyH_take (i := 5) (oi := ⟨some 33, .move (.tmp 8), 3, "lex.go:26", #[], none⟩) (v := .int .i64 (pos : Int)) rfl (by kernel_rfl) (by kernel_rfl) (by kernel_rfl) (fun _ _ _ h => h) (Or.inl ⟨by rfl, ?_⟩) hHeld ?_
              · intro wq hSq
                obtain ⟨s0, s1, s2, s3⟩ := hSq
                clear hHeld
                go_simp
              (try simp only [Act.put, List.setIfInBounds_toArray, List.set_cons_zero, List.set_cons_succ])
              refine wpAnyH_take (i := 6) (oi := ⟨some 34, .binOp .eql 3 (.tmp 32) (.tmp 33) 3, 4, "lex.go:26", #[⟨4, .data⟩, ⟨5, .data⟩], none⟩) (v := .bool true) rfl (by kernel_rfl) (by kernel_rfl) (by kernel_rfl) (fun _ _ _ h => h) (Or.inl ⟨by rfl, ?_⟩) hHeld ?_
              · intro wq hSq
                obtain ⟨s0, s1, s2, s3⟩ := hSq
                clear hHeld
                go_simp
              (try simp only [Act.put, List.setIfInBounds_toArray, List.set_cons_zero, List.set_cons_succ])
              refine wpAnyH_take (i := 7) (oi := ⟨some 35, .move (.tmp 34), 4, "lex.go:26", #[⟨6, .data⟩], none⟩) (v := .bool true) rfl (by kernel_rfl) (by kernel_rfl) (by kernel_rfl) (fun _ _ _ h => h) (Or.inl ⟨by rfl, ?_⟩) hHeld ?_
              · intro wq hSq
                obtain ⟨s0, s1, s2, s3⟩ := hSq
                clear hHeld
                go_simp
              (try simp only [Act.put, List.setIfInBounds_toArray, List.set_cons_zero, List.set_cons_succ])
              refine wpAnyH_take (i := 8) (oi := ⟨some 36, .load 29 (.tmp 5), 29, "lex.go:26", #[⟨7, .guard⟩], some (7, true)⟩) (v := .agg #[.int .i64 k0, .string s0, .int .i64 n0, .int .i64 p0]) rfl (by kernel_rfl) (by kernel_rfl) (by kernel_rfl) (fun _ _ _ h => h) (Or.inl ⟨by rfl, ?_⟩) hHeld ?_
              · intro wq hSq
                obtain ⟨s0, s1, s2, s3⟩ := hSq
                clear hHeld
                go_simp
              (try simp only [Act.put, List.setIfInBounds_toArray, List.set_cons_zero, List.set_cons_succ])
              refine wpAnyH_ready (rs := [9]) (by kernel_rfl) (by simp) ?_
              refine AllReadyH.cons (o := ⟨some 37, .call ⟨.value (.func 18), #[.tmp 36], #[29]⟩, 4, "lex.go:26", #[⟨8, .data⟩, ⟨7, .chain⟩, ⟨7, .guard⟩], some (7, true)⟩) rfl (fun Kr9 hKr9 => ?_) AllReadyH.nil
              go_simp
              go_at_call 18
              refine (HWB2.out _).mono ?_
              rintro x5 w5 ⟨rfl, b5⟩
              have hSt5 := hSt.below b5
              have hS9 := hSt5.last.cells
              clear hHeld 
              go_wp2_with fail
              refine hKr9.out _ _ ?_ (fun hHeld => ?_)
              · exact hS9
              clear hKr9 Kr9 hS9
              (try simp only [Act.put, List.setIfInBounds_toArray, List.set_cons_zero, List.set_cons_succ])
              refine wpAnyH_take (i := 10) (oi := ⟨some 38, .pick (.tmp 35) (.tmp 37) (.const (.bool false)), 4, "lex.go:26", #[⟨7, .data⟩, ⟨9, .data⟩], none⟩) (v := .bool mb) rfl (by kernel_rfl) (by kernel_rfl) (by kernel_rfl) (fun _ _ _ h => h) (Or.inl ⟨by rfl, ?_⟩) hHeld ?_
              · intro wq hSq
                obtain ⟨s0, s1, s2, s3⟩ := hSq
                clear hHeld
                go_simp
              (try simp only [Act.put, List.setIfInBounds_toArray, List.set_cons_zero, List.set_cons_succ])
              refine wpAnyH_ready (rs := [11]) (by kernel_rfl) (by simp) ?_
              refine AllReadyH.cons (o := ⟨some 39, .call ⟨.value (.func 17), #[.tmp 30, .tmp 31, .tmp 38], #[9, 21, 4]⟩, 42, "lex.go:26", #[⟨2, .data⟩, ⟨3, .data⟩, ⟨10, .data⟩, ⟨9, .chain⟩], none⟩) rfl (fun Kr11 hKr11 => ?_) AllReadyH.nil
              go_simp
              go_at_call 17
              refine (HTK.out _ hSt5.bw).mono ?_
              rintro x6 w6 ⟨rfl, b6⟩
              have hSt6 := hSt5.below b6
              have hS11 := hSt6.last.cells
              clear hHeld HTK
              go_wp2_with fail
              refine hKr11.out _ _ ?_ (fun hHeld => ?_)
              · exact hS11
              clear hKr11 Kr11 hS11
              (try simp only [Act.put, List.setIfInBounds_toArray, List.set_cons_zero, List.set_cons_succ])
              refine wpAnyH_take (i := 12) (oi := ⟨some 27, .move (.tmp 39), 42, "lex.go:26", #[⟨11, .data⟩], none⟩) (v := .tuple #[.agg #[.int .i64 x.k, .string ⟨x.s.toArray⟩, .int .i64 x.n, .int .i64 0], .int .i64 (n : Int), .int .i64 0]) rfl (by kernel_rfl) (by kernel_rfl) (by kernel_rfl) (fun _ _ _ h => h) (Or.inl ⟨by rfl, ?_⟩) hHeld ?_
              · intro wq hSq
                obtain ⟨s0, s1, s2, s3⟩ := hSq
                clear hHeld
                go_simp
              (try simp only [Act.put, List.setIfInBounds_toArray, List.set_cons_zero, List.set_cons_succ])
              refine wpAnyH_take (i := 13) (oi := ⟨some 40, .extract (.tmp 27) 0, 29, "lex.go:26", #[⟨12, .data⟩], none⟩) (v := .agg #[.int .i64 x.k, .string ⟨x.s.toArray⟩, .int .i64 x.n, .int .i64 0]) rfl (by kernel_rfl) (by kernel_rfl) (by kernel_rfl) (fun _ _ _ h => h) (Or.inl ⟨by rfl, ?_⟩) hHeld ?_
              · intro wq hSq
                obtain ⟨s0, s1, s2, s3⟩ := hSq
                clear hHeld
                go_simp
              (try simp only [Act.put, List.setIfInBounds_toArray, List.set_cons_zero, List.set_cons_succ])
              refine wpAnyH_take (i := 14) (oi := ⟨some 41, .extract (.tmp 27) 1, 3, "lex.go:26", #[⟨12, .data⟩, ⟨16, .gcOnly .lateStores⟩], none⟩) (v := .int .i64 (n : Int)) rfl (by kernel_rfl) (by kernel_rfl) (by kernel_rfl) (fun _ _ _ h => h) (Or.inl ⟨by rfl, ?_⟩) hHeld ?_
              · intro wq hSq
                obtain ⟨s0, s1, s2, s3⟩ := hSq
                clear hHeld
                go_simp
              (try simp only [Act.put, List.setIfInBounds_toArray, List.set_cons_zero, List.set_cons_succ])
              refine wpAnyH_take (i := 15) (oi := ⟨some 42, .extract (.tmp 27) 2, 23, "lex.go:26", #[⟨12, .data⟩, ⟨17, .gcOnly .lateStores⟩], none⟩) (v := .int .i64 0) rfl (by kernel_rfl) (by kernel_rfl) (by kernel_rfl) (fun _ _ _ h => h) (Or.inl ⟨by rfl, ?_⟩) hHeld ?_
              · intro wq hSq
                obtain ⟨s0, s1, s2, s3⟩ := hSq
                clear hHeld
                go_simp
              (try simp only [Act.put, List.setIfInBounds_toArray, List.set_cons_zero, List.set_cons_succ])
              refine wpAnyH_ready (rs := [16]) (by kernel_rfl) (by simp) ?_
              refine AllReadyH.cons (o := ⟨none, .store 29 (.tmp 6) (.tmp 40), 0, "lex.go:26", #[⟨13, .data⟩, ⟨11, .chain⟩, ⟨0, .phase⟩, ⟨1, .phase⟩, ⟨2, .phase⟩, ⟨3, .phase⟩, ⟨4, .phase⟩, ⟨5, .phase⟩, ⟨6, .phase⟩, ⟨7, .phase⟩, ⟨8, .phase⟩, ⟨9, .phase⟩, ⟨10, .phase⟩, ⟨11, .phase⟩, ⟨12, .phase⟩, ⟨13, .phase⟩, { on := 14, ground := Ground.textOnly Departure.lateStores }, { on := 15, ground := Ground.textOnly Departure.lateStores }], none⟩) rfl (fun Kr16 hKr16 => ?_) AllReadyH.nil
              obtain ⟨y0, y1, y2, y3, ht⟩ := hSt6.t
              obtain ⟨c0, c1, c2, c3⟩ := ht.cells
              obtain ⟨f0, f1, f2, f3⟩ := ht.free
              have hSt7 := hSt6.setT (.int .i64 x.k) (.string ⟨x.s.toArray⟩) (.int .i64 x.n) (.int .i64 0)
              have hT7 : Blk4 ((((w6.setCell ⟨w.heap.size + 1, 0, none⟩ (.int .i64 x.k)).setCell ⟨w.heap.size + 1, 1, none⟩ (.string ⟨x.s.toArray⟩)).setCell ⟨w.heap.size + 1, 2, none⟩ (.int .i64 x.n)).setCell ⟨w.heap.size + 1, 3, none⟩ (.int .i64 0)) (w.heap.size + 1) (.int .i64 x.k) (.string ⟨x.s.toArray⟩) (.int .i64 x.n) (.int .i64 0) := ht.set4 _ _ _ _
              obtain ⟨w7, hw7⟩ : ∃ w7, w7 = ((((w6.setCell ⟨w.heap.size + 1, 0, none⟩ (.int .i64 x.k)).setCell ⟨w.heap.size + 1, 1, none⟩ (.string ⟨x.s.toArray⟩)).setCell ⟨w.heap.size + 1, 2, none⟩ (.int .i64 x.n)).setCell ⟨w.heap.size + 1, 3, none⟩ (.int .i64 0)) := ⟨_, rfl⟩
              rw [← hw7] at hSt7 hT7
              have hS16 := hSt7.last.cells
              have HW7 := mkHid hw7
              clear hHeld hw7
              go_simp
              rw [← HW7.out]
              refine hKr16.out _ _ ?_ (fun hHeld => ?_)
              · exact hS16
              clear hKr16 Kr16 hS16 c0 c1 c2 c3 f0 f1 f2 f3 ht
              (try simp only [Act.put, List.setIfInBounds_toArray, List.set_cons_zero, List.set_cons_succ])
              refine wpAnyH_take (i := 17) (oi := ⟨some 7, .assign (.tmp 41), 3, "lex.go:26", #[⟨14, .data⟩, ⟨16, .chain⟩, ⟨0, .phase⟩, ⟨1, .phase⟩, ⟨2, .phase⟩, ⟨3, .phase⟩, ⟨4, .phase⟩, ⟨5, .phase⟩, ⟨6, .phase⟩, ⟨7, .phase⟩, ⟨8, .phase⟩, ⟨9, .phase⟩, ⟨10, .phase⟩, ⟨11, .phase⟩, ⟨12, .phase⟩, ⟨13, .phase⟩, ⟨14, .phase⟩, { on := 15, ground := Ground.textOnly Departure.lateStores }, ⟨16, .phase⟩], none⟩) (v := .int .i64 (n : Int)) rfl (by kernel_rfl) (by kernel_rfl) (by kernel_rfl) (fun _ _ _ h => h) (Or.inl ⟨by rfl, ?_⟩) hHeld ?_
              · intro wq hSq
                obtain ⟨s0, s1, s2, s3⟩ := hSq
                clear hHeld
                go_simp
              (try simp only [Act.put, List.setIfInBounds_toArray, List.set_cons_zero, List.set_cons_succ])
              refine wpAnyH_take (i := 18) (oi := ⟨some 4, .assign (.tmp 42), 23, "lex.go:26", #[⟨15, .data⟩, ⟨17, .chain⟩, ⟨0, .phase⟩, ⟨1, .phase⟩, ⟨2, .phase⟩, ⟨3, .phase⟩, ⟨4, .phase⟩, ⟨5, .phase⟩, ⟨6, .phase⟩, ⟨7, .phase⟩, ⟨8, .phase⟩, ⟨9, .phase⟩, ⟨10, .phase⟩, ⟨11, .phase⟩, ⟨12, .phase⟩, ⟨13, .phase⟩, ⟨14, .phase⟩, ⟨15, .phase⟩, ⟨16, .phase⟩, ⟨17, .phase⟩], none⟩) (v := .int .i64 0) rfl (by kernel_rfl) (by kernel_rfl) (by kernel_rfl) (fun _ _ _ h => h) (Or.inl ⟨by rfl, ?_⟩) hHeld ?_
              · intro wq hSq
                obtain ⟨s0, s1, s2, s3⟩ := hSq
                clear hHeld
                go_simp
              (try simp only [Act.put, List.setIfInBounds_toArray, List.set_cons_zero, List.set_cons_succ])
              refine wpAnyH_done (by kernel_rfl) ?_ _
              clear hHeld
              skip
              obtain ⟨c0, c1, c2, c3⟩ := hT7.cells
              obtain ⟨f0, f1, f2, f3⟩ := hT7.free
              have hSt8 := hSt7.setAt (.int .i64 (pos : Int))
              have hT8 := hT7.set3 (u := .int .i64 (pos : Int))
              go_upto_region 13 with fail
              clear c0 c1 c2 c3 f0 f1 f2 f3 hSt7 hT7 hSt6
              generalize World.setCell _ _ _ = w8 at hSt8 hT8
              obtain ⟨c0, c1, c2, c3⟩ := hT8.cells
              have HROW : Hid _ := hSt8.row.alloc (.cells #[.int .i64 x.k, .string ⟨x.s.toArray⟩, .int .i64 x.n, .int .i64 (pos : Int)] 29)
              have hbs8 := hSt8.bw.size
              go_wp2_with (at_builtin; refine wpList_append_own _ rfl _ _ 22 rfl (w.heap.size + 3) 29 i0 _ 4 40 Tryd.underlying22 hi hz0 hz1 hz2 rfl (by decide) _ _ _ rfl HROW.out _ _ _ (Tok.cells ⟨x.k, x.s, x.n, pos⟩) rfl ?c0 ?c1 ?c2 ?c3 ?c4 ?c5 ?_)
              case c0 => rfl
              case c1 =>
                intro k u hu
                have hk : k < 4 := by simpa [Tok.cells] using (List.getElem?_eq_some_iff.1 hu).1
                obtain rfl | rfl | rfl | rfl : k = 0 ∨ k = 1 ∨ k = 2 ∨ k = 3 := by omega
                all_goals (simp [Tok.cells] at hu; subst hu; simp [Addr.add])
              case c2 => intro u hu; simp [Tok.cells] at hu; rcases hu with rfl | rfl | rfl | rfl <;> rfl
              case c3 => unfold maxLen; omega
              case c4 => omega
              case c5 => have := hSt8.big; simp; omega
              intro v9 w9 hown9 hgrow9 _
              have hb9 : Below (w.heap.size + 3) w8 w9 := ((Below.refl _ w8).alloc hSt8.big _).grown hgrow9 (by have := hSt8.big; simp; omega) (fun k hk => (hSt8.row.lt k hk).1)
              have hSt9 := hSt8.grow (x := ⟨x.k, x.s, x.n, pos⟩) hb9 hown9
              have hT9 : Blk4 w9 (w.heap.size + 1) _ _ _ _ := (hb9.block _ (by omega)).trans hT8
              clear c0 c1 c2 c3 hSt8 hT8 hown9 hgrow9 hb9 HROW
              obtain ⟨c0, c1, c2, c3⟩ := hT9.cells
              obtain ⟨d0, d1, d2, d3⟩ := hSt9.last.cells
              obtain ⟨f0, f1, f2, f3⟩ := hSt9.last.free
              have hSt10 := hSt9.setLast x.k ⟨x.s.toArray⟩ x.n pos
              go_wp2_with fail
              go_roundw
              case rel => exact ⟨pos + n, pos + wd, acc ++ [⟨x.k, x.s, x.n, pos⟩], x.k, ⟨x.s.toArray⟩, x.n, pos, by go_num, by omega, HNX.out.2, by rw [List.length_append, List.length_singleton]; omega, hSt10, HNX.out.1⟩
              case measure =>
                rw [hpit]
                simp only [World.iterPos, hSt10.it]
                omega
            · have hdd : (decide (pos = b) && decide (k0 = 1 ∨ k0 = 2)) = false := by simp [heq]
              rw [hdd] at HTK
              have hne : ((pos : Int) == (b : Int)) = false := by simp; omega
              clear hdd
              go_wp2_with fail
              refine (HC.out _).mono ?_
              rintro x4 w4 ⟨rfl, b4⟩
              have hSt := (hSt1.below b4).below ((Below.refl _ w4).drew)
              clear hSt1 b4 HC hnx hit
              go_upto_region 9 with fail
              refine wp_region_held_drew (S := fun u => World.cell? u ⟨w.heap.size, 0, none⟩ = some (.int .i64 k0) ∧ World.cell? u ⟨w.heap.size, 1, none⟩ = some (.string s0) ∧ World.cell? u ⟨w.heap.size, 2, none⟩ = some (.int .i64 n0) ∧ World.cell? u ⟨w.heap.size, 3, none⟩ = some (.int .i64 p0)) (by kernel_rfl) ?_ (fun hHeld => ?_)
              · exact hSt.last.cells
              refine wpAnyH_take (i := 0) (oi := ⟨some 28, .move (.tmp 0), 9, "lex.go:26", #[], none⟩) (v := .string s) rfl (by kernel_rfl) (by kernel_rfl) (by kernel_rfl) (fun _ _ _ h => h) (Or.inl ⟨by rfl, ?_⟩) hHeld ?_
              · intro wq hSq
                obtain ⟨s0, s1, s2, s3⟩ := hSq
                clear hHeld
                go_simp
              (try simp only [Act.put, List.setIfInBounds_toArray, List.set_cons_zero, List.set_cons_succ])
              refine wpAnyH_take (i := 1) (oi := ⟨some 29, .move (.tmp 9), 3, "lex.go:26", #[], none⟩) (v := .int .i64 (pos : Int)) rfl (by kernel_rfl) (by kernel_rfl) (by kernel_rfl) (fun _ _ _ h => h) (Or.inl ⟨by rfl, ?_⟩) hHeld ?_
              · intro wq hSq
                obtain ⟨s0, s1, s2, s3⟩ := hSq
                clear hHeld
                go_simp
              (try simp only [Act.put, List.setIfInBounds_toArray, List.set_cons_zero, List.set_cons_succ])
              refine wpAnyH_take (i := 2) (oi := ⟨some 30, .slice 9 (.tmp 28) (some (.tmp 29)) none none, 9, "lex.go:26", #[⟨0, .data⟩, ⟨1, .data⟩], none⟩) (v := .string (s.extract pos s.size)) rfl (by kernel_rfl) (by kernel_rfl) (by kernel_rfl) (fun _ _ _ h => h) (Or.inl ⟨by rfl, ?_⟩) hHeld ?_
              · intro wq hSq
                obtain ⟨s0, s1, s2, s3⟩ := hSq
                clear hHeld
                go_simp
              (try simp only [Act.put, List.setIfInBounds_toArray, List.set_cons_zero, List.set_cons_succ])
              refine wpAnyH_take (i := 3) (oi := ⟨some 31, .move (.tmp 10), 21, "lex.go:26", #[], none⟩) (v := .int .i32 (r : Int)) rfl (by kernel_rfl) (by kernel_rfl) (by kernel_rfl) (fun _ _ _ h => h) (Or.inl ⟨by rfl, ?_⟩) hHeld ?_
              · intro wq hSq
                obtain ⟨s0, s1, s2, s3⟩ := hSq
                clear hHeld
                go_simp
              (try simp only [Act.put, List.setIfInBounds_toArray, List.set_cons_zero, List.set_cons_succ])
              refine wpAnyH_take (i := 4) (oi := ⟨some 32, .move (.tmp 9), 3, "lex.go:26", #[], none⟩) (v := .int .i64 (pos : Int)) rfl (by kernel_rfl) (by kernel_rfl) (by kernel_rfl) (fun _ _ _ h => h) (Or.inl ⟨by rfl, ?_⟩) hHeld ?_
              · intro wq hSq
                obtain ⟨s0, s1, s2, s3⟩ := hSq
                clear hHeld
                go_simp
              (try simp only [Act.put, List.setIfInBounds_toArray, List.set_cons_zero, List.set_cons_succ])
              refine wpAnyH_take (i := 5) (oi := ⟨some 33, .move (.tmp 8), 3, "lex.go:26", #[], none⟩) (v := .int .i64 (b : Int)) rfl (by kernel_rfl) (by kernel_rfl) (by kernel_rfl) (fun _ _ _ h => h) (Or.inl ⟨by rfl, ?_⟩) hHeld ?_
              · intro wq hSq
                obtain ⟨s0, s1, s2, s3⟩ := hSq
                clear hHeld
                go_simp
              (try simp only [Act.put, List.setIfInBounds_toArray, List.set_cons_zero, List.set_cons_succ])
              refine wpAnyH_take (i := 6) (oi := ⟨some 34, .binOp .eql 3 (.tmp 32) (.tmp 33) 3, 4, "lex.go:26", #[⟨4, .data⟩, ⟨5, .data⟩], none⟩) (v := .bool false) rfl (by kernel_rfl) (by kernel_rfl) (by kernel_rfl) (fun _ _ _ h => h) (Or.inl ⟨by rfl, ?_⟩) hHeld ?_
              · intro wq hSq
                obtain ⟨s0, s1, s2, s3⟩ := hSq
                clear hHeld
                go_simp
              (try simp only [Act.put, List.setIfInBounds_toArray, List.set_cons_zero, List.set_cons_succ])
              refine wpAnyH_take (i := 7) (oi := ⟨some 35, .move (.tmp 34), 4, "lex.go:26", #[⟨6, .data⟩], none⟩) (v := .bool false) rfl (by kernel_rfl) (by kernel_rfl) (by kernel_rfl) (fun _ _ _ h => h) (Or.inl ⟨by rfl, ?_⟩) hHeld ?_
              · intro wq hSq
                obtain ⟨s0, s1, s2, s3⟩ := hSq
                clear hHeld
                go_simp
              (try simp only [Act.put, List.setIfInBounds_toArray, List.set_cons_zero, List.set_cons_succ])
              refine wpAnyH_take (i := 8) (oi := ⟨some 36, .load 29 (.tmp 5), 29, "lex.go:26", #[⟨7, .guard⟩], some (7, true)⟩) (v := undef) rfl (by kernel_rfl) (by kernel_rfl) (by kernel_rfl) (fun _ _ _ h => h) (Or.inr ⟨by rfl, rfl⟩) hHeld ?_
              (try simp only [Act.put, List.setIfInBounds_toArray, List.set_cons_zero, List.set_cons_succ])
              refine wpAnyH_take (i := 9) (oi := ⟨some 37, .call ⟨.value (.func 18), #[.tmp 36], #[29]⟩, 4, "lex.go:26", #[⟨8, .data⟩, ⟨7, .chain⟩, ⟨7, .guard⟩], some (7, true)⟩) (v := undef) rfl (by kernel_rfl) (by kernel_rfl) (by kernel_rfl) (fun _ _ _ h => h) (Or.inr ⟨by rfl, rfl⟩) hHeld ?_
              (try simp only [Act.put, List.setIfInBounds_toArray, List.set_cons_zero, List.set_cons_succ])
              refine wpAnyH_take (i := 10) (oi := ⟨some 38, .pick (.tmp 35) (.tmp 37) (.const (.bool false)), 4, "lex.go:26", #[⟨7, .data⟩, ⟨9, .data⟩], none⟩) (v := .bool false) rfl (by kernel_rfl) (by kernel_rfl) (by kernel_rfl) (fun _ _ _ h => h) (Or.inl ⟨by rfl, ?_⟩) hHeld ?_
              · intro wq hSq
                obtain ⟨s0, s1, s2, s3⟩ := hSq
                clear hHeld
                go_simp
              (try simp only [Act.put, List.setIfInBounds_toArray, List.set_cons_zero, List.set_cons_succ])
              refine wpAnyH_ready (rs := [11]) (by kernel_rfl) (by simp) ?_
              refine AllReadyH.cons (o := ⟨some 39, .call ⟨.value (.func 17), #[.tmp 30, .tmp 31, .tmp 38], #[9, 21, 4]⟩, 42, "lex.go:26", #[⟨2, .data⟩, ⟨3, .data⟩, ⟨10, .data⟩, ⟨9, .chain⟩], none⟩) rfl (fun Kr11 hKr11 => ?_) AllReadyH.nil
              go_simp
              go_at_call 17
              refine (HTK.out _ hSt.bw).mono ?_
              rintro x6 w6 ⟨rfl, b6⟩
              have hSt6 := hSt.below b6
              have hS11 := hSt6.last.cells
              clear hHeld HTK
              go_wp2_with fail
              refine hKr11.out _ _ ?_ (fun hHeld => ?_)
              · exact hS11
              clear hKr11 Kr11 hS11
              (try simp only [Act.put, List.setIfInBounds_toArray, List.set_cons_zero, List.set_cons_succ])
              refine wpAnyH_take (i := 12) (oi := ⟨some 27, .move (.tmp 39), 42, "lex.go:26", #[⟨11, .data⟩], none⟩) (v := .tuple #[.agg #[.int .i64 x.k, .string ⟨x.s.toArray⟩, .int .i64 x.n, .int .i64 0], .int .i64 (n : Int), .int .i64 0]) rfl (by kernel_rfl) (by kernel_rfl) (by kernel_rfl) (fun _ _ _ h => h) (Or.inl ⟨by rfl, ?_⟩) hHeld ?_
              · intro wq hSq
                obtain ⟨s0, s1, s2, s3⟩ := hSq
                clear hHeld
                go_simp
              (try simp only [Act.put, List.setIfInBounds_toArray, List.set_cons_zero, List.set_cons_succ])
              refine wpAnyH_take (i := 13) (oi := ⟨some 40, .extract (.tmp 27) 0, 29, "lex.go:26", #[⟨12, .data⟩], none⟩) (v := .agg #[.int .i64 x.k, .string ⟨x.s.toArray⟩, .int .i64 x.n, .int .i64 0]) rfl (by kernel_rfl) (by kernel_rfl) (by kernel_rfl) (fun _ _ _ h => h) (Or.inl ⟨by rfl, ?_⟩) hHeld ?_
              · intro wq hSq
                obtain ⟨s0, s1, s2, s3⟩ := hSq
                clear hHeld
                go_simp
              (try simp only [Act.put, List.setIfInBounds_toArray, List.set_cons_zero, List.set_cons_succ])
              refine wpAnyH_take (i := 14) (oi := ⟨some 41, .extract (.tmp 27) 1, 3, "lex.go:26", #[⟨12, .data⟩, ⟨16, .gcOnly .lateStores⟩], none⟩) (v := .int .i64 (n : Int)) rfl (by kernel_rfl) (by kernel_rfl) (by kernel_rfl) (fun _ _ _ h => h) (Or.inl ⟨by rfl, ?_⟩) hHeld ?_
              · intro wq hSq
                obtain ⟨s0, s1, s2, s3⟩ := hSq
                clear hHeld
                go_simp
              (try simp only [Act.put, List.setIfInBounds_toArray, List.set_cons_zero, List.set_cons_succ])
              refine wpAnyH_take (i := 15) (oi := ⟨some 42, .extract (.tmp 27) 2, 23, "lex.go:26", #[⟨12, .data⟩, ⟨17, .gcOnly .lateStores⟩], none⟩) (v := .int .i64 0) rfl (by kernel_rfl) (by kernel_rfl) (by kernel_rfl) (fun _ _ _ h => h) (Or.inl ⟨by rfl, ?_⟩) hHeld ?_
              · intro wq hSq
                obtain ⟨s0, s1, s2, s3⟩ := hSq
                clear hHeld
                go_simp
              (try simp only [Act.put, List.setIfInBounds_toArray, List.set_cons_zero, List.set_cons_succ])
              refine wpAnyH_ready (rs := [16]) (by kernel_rfl) (by simp) ?_
              refine AllReadyH.cons (o := ⟨none, .store 29 (.tmp 6) (.tmp 40), 0, "lex.go:26", #[⟨13, .data⟩, ⟨11, .chain⟩, ⟨0, .phase⟩, ⟨1, .phase⟩, ⟨2, .phase⟩, ⟨3, .phase⟩, ⟨4, .phase⟩, ⟨5, .phase⟩, ⟨6, .phase⟩, ⟨7, .phase⟩, ⟨8, .phase⟩, ⟨9, .phase⟩, ⟨10, .phase⟩, ⟨11, .phase⟩, ⟨12, .phase⟩, ⟨13, .phase⟩, { on := 14, ground := Ground.textOnly Departure.lateStores }, { on := 15, ground := Ground.textOnly Departure.lateStores }], none⟩) rfl (fun Kr16 hKr16 => ?_) AllReadyH.nil
              obtain ⟨y0, y1, y2, y3, ht⟩ := hSt6.t
              obtain ⟨c0, c1, c2, c3⟩ := ht.cells
              obtain ⟨f0, f1, f2, f3⟩ := ht.free
              have hSt7 := hSt6.setT (.int .i64 x.k) (.string ⟨x.s.toArray⟩) (.int .i64 x.n) (.int .i64 0)
              have hT7 : Blk4 ((((w6.setCell ⟨w.heap.size + 1, 0, none⟩ (.int .i64 x.k)).setCell ⟨w.heap.size + 1, 1, none⟩ (.string ⟨x.s.toArray⟩)).setCell ⟨w.heap.size + 1, 2, none⟩ (.int .i64 x.n)).setCell ⟨w.heap.size + 1, 3, none⟩ (.int .i64 0)) (w.heap.size + 1) (.int .i64 x.k) (.string ⟨x.s.toArray⟩) (.int .i64 x.n) (.int .i64 0) := ht.set4 _ _ _ _
              obtain ⟨w7, hw7⟩ : ∃ w7, w7 = ((((w6.setCell ⟨w.heap.size + 1, 0, none⟩ (.int .i64 x.k)).setCell ⟨w.heap.size + 1, 1, none⟩ (.string ⟨x.s.toArray⟩)).setCell ⟨w.heap.size + 1, 2, none⟩ (.int .i64 x.n)).setCell ⟨w.heap.size + 1, 3, none⟩ (.int .i64 0)) := ⟨_, rfl⟩
              rw [← hw7] at hSt7 hT7
              have hS16 := hSt7.last.cells
              have HW7 := mkHid hw7
              clear hHeld hw7
              go_simp
              rw [← HW7.out]
              refine hKr16.out _ _ ?_ (fun hHeld => ?_)
              · exact hS16
              clear hKr16 Kr16 hS16 c0 c1 c2 c3 f0 f1 f2 f3 ht
              (try simp only [Act.put, List.setIfInBounds_toArray, List.set_cons_zero, List.set_cons_succ])
              refine wpAnyH_take (i := 17) (oi := ⟨some 7, .assign (.tmp 41), 3, "lex.go:26", #[⟨14, .data⟩, ⟨16, .chain⟩, ⟨0, .phase⟩, ⟨1, .phase⟩, ⟨2, .phase⟩, ⟨3, .phase⟩, ⟨4, .phase⟩, ⟨5, .phase⟩, ⟨6, .phase⟩, ⟨7, .phase⟩, ⟨8, .phase⟩, ⟨9, .phase⟩, ⟨10, .phase⟩, ⟨11, .phase⟩, ⟨12, .phase⟩, ⟨13, .phase⟩, ⟨14, .phase⟩, { on := 15, ground := Ground.textOnly Departure.lateStores }, ⟨16, .phase⟩], none⟩) (v := .int .i64 (n : Int)) rfl (by kernel_rfl) (by kernel_rfl) (by kernel_rfl) (fun _ _ _ h => h) (Or.inl ⟨by rfl, ?_⟩) hHeld ?_
              · intro wq hSq
                obtain ⟨s0, s1, s2, s3⟩ := hSq
                clear hHeld
                go_simp
              (try simp only [Act.put, List.setIfInBounds_toArray, List.set_cons_zero, List.set_cons_succ])
              refine wpAnyH_take (i := 18) (oi := ⟨some 4, .assign (.tmp 42), 23, "lex.go:26", #[⟨15, .data⟩, ⟨17, .chain⟩, ⟨0, .phase⟩, ⟨1, .phase⟩, ⟨2, .phase⟩, ⟨3, .phase⟩, ⟨4, .phase⟩, ⟨5, .phase⟩, ⟨6, .phase⟩, ⟨7, .phase⟩, ⟨8, .phase⟩, ⟨9, .phase⟩, ⟨10, .phase⟩, ⟨11, .phase⟩, ⟨12, .phase⟩, ⟨13, .phase⟩, ⟨14, .phase⟩, ⟨15, .phase⟩, ⟨16, .phase⟩, ⟨17, .phase⟩], none⟩) (v := .int .i64 0) rfl (by kernel_rfl) (by kernel_rfl) (by kernel_rfl) (fun _ _ _ h => h) (Or.inl ⟨by rfl, ?_⟩) hHeld ?_
              · intro wq hSq
                obtain ⟨s0, s1, s2, s3⟩ := hSq
                clear hHeld
                go_simp
              (try simp only [Act.put, List.setIfInBounds_toArray, List.set_cons_zero, List.set_cons_succ])
              refine wpAnyH_done (by kernel_rfl) ?_ _
              clear hHeld
              skip
              obtain ⟨c0, c1, c2, c3⟩ := hT7.cells
              obtain ⟨f0, f1, f2, f3⟩ := hT7.free
              have hSt8 := hSt7.setAt (.int .i64 (pos : Int))
              have hT8 := hT7.set3 (u := .int .i64 (pos : Int))
              go_upto_region 13 with fail
              clear c0 c1 c2 c3 f0 f1 f2 f3 hSt7 hT7 hSt6
              generalize World.setCell _ _ _ = w8 at hSt8 hT8
              obtain ⟨c0, c1, c2, c3⟩ := hT8.cells
              have HROW : Hid _ := hSt8.row.alloc (.cells #[.int .i64 x.k, .string ⟨x.s.toArray⟩, .int .i64 x.n, .int .i64 (pos : Int)] 29)
              have hbs8 := hSt8.bw.size
              go_wp2_with (at_builtin; refine wpList_append_own _ rfl _ _ 22 rfl (w.heap.size + 3) 29 i0 _ 4 40 Tryd.underlying22 hi hz0 hz1 hz2 rfl (by decide) _ _ _ rfl HROW.out _ _ _ (Tok.cells ⟨x.k, x.s, x.n, pos⟩) rfl ?c0 ?c1 ?c2 ?c3 ?c4 ?c5 ?_)
              case c0 => rfl
              case c1 =>
                intro k u hu
                have hk : k < 4 := by simpa [Tok.cells] using (List.getElem?_eq_some_iff.1 hu).1
                obtain rfl | rfl | rfl | rfl : k = 0 ∨ k = 1 ∨ k = 2 ∨ k = 3 := by omega
                all_goals (simp [Tok.cells] at hu; subst hu; simp [Addr.add])
              case c2 => intro u hu; simp [Tok.cells] at hu; rcases hu with rfl | rfl | rfl | rfl <;> rfl
              case c3 => unfold maxLen; omega
              case c4 => omega
              case c5 => have := hSt8.big; simp; omega
              intro v9 w9 hown9 hgrow9 _
              have hb9 : Below (w.heap.size + 3) w8 w9 := ((Below.refl _ w8).alloc hSt8.big _).grown hgrow9 (by have := hSt8.big; simp; omega) (fun k hk => (hSt8.row.lt k hk).1)
              have hSt9 := hSt8.grow (x := ⟨x.k, x.s, x.n, pos⟩) hb9 hown9
              have hT9 : Blk4 w9 (w.heap.size + 1) _ _ _ _ := (hb9.block _ (by omega)).trans hT8
              clear c0 c1 c2 c3 hSt8 hT8 hown9 hgrow9 hb9 HROW
              obtain ⟨c0, c1, c2, c3⟩ := hT9.cells
              obtain ⟨d0, d1, d2, d3⟩ := hSt9.last.cells
              obtain ⟨f0, f1, f2, f3⟩ := hSt9.last.free
              have hSt10 := hSt9.setLast x.k ⟨x.s.toArray⟩ x.n pos
              go_wp2_with fail
              go_roundw
              case rel => exact ⟨pos + n, pos + wd, acc ++ [⟨x.k, x.s, x.n, pos⟩], x.k, ⟨x.s.toArray⟩, x.n, pos, by go_num, by omega, HNX.out.2, by rw [List.length_append, List.length_singleton]; omega, hSt10, HNX.out.1⟩
              case measure =>
                rw [hpit]
                simp only [World.iterPos, hSt10.it]
                omega
        · rw [hblk] at HC
          have HN : Hid (LexIn s b (pos + (Utf8.decode s pos).2) acc k0 R ∧ pos + (Utf8.decode s pos).2 ≤ s.size) := HIN.out.blank hlt htl hblk hspan hp
          generalize hwdd : (Utf8.decode s pos).2 = wd at hnx hSt1 hwd HN
          generalize hr : (Utf8.decode s pos).1 = r at hnx HC
          clear hspan hwdd hr HIN hSt
          go_wp2_with fail
          refine (HC.out _).mono ?_
          rintro x4 w4 ⟨rfl, b4⟩
          have hSt4 := hSt1.below b4
          go_wp2_with fail
          go_roundw
          case rel => exact ⟨b, pos + wd, acc, k0, s0, n0, p0, rfl, hbs, HN.out.2, hacc, hSt4, HN.out.1⟩
          case measure =>
            rw [hpit]
            simp only [World.iterPos, hSt4.it]
            omega
    · have hnx : ∀ ty, (Instr.next (.pointer (some ⟨w.heap.size + 2, 0, none⟩)) true ty).run Tryd.prog wr = _ := fun ty => Lib.run_next_end_at wr (w.heap.size + 2) s pos ty hit hp
      have HR : Hid (R = (acc ++ [⟨0, [], 0, s.size⟩], 0, 0)) := HIN.out.fin hp hps hbs
      clear HIN
      have HROW : Hid _ := hSt.row.alloc (.cells #[.int .i64 0, .string ⟨#[]⟩, .int .i64 0, .int .i64 (s.size : Int)] 29)
      have hbig := hSt.big
      go_wp2_with (at_builtin; refine wpList_append_own _ rfl _ _ 22 rfl (w.heap.size + 3) 29 i0 _ 4 40 Tryd.underlying22 hi hz0 hz1 hz2 rfl (by decide) _ _ _ rfl HROW.out _ _ _ (Tok.cells ⟨0, [], 0, s.size⟩) rfl ?e0 ?e1 ?e2 ?e3 ?e4 ?e5 ?_)
      case e0 => rfl
      case e1 =>
        intro k u hu
        have hk : k < 4 := by simpa [Tok.cells] using (List.getElem?_eq_some_iff.1 hu).1
        obtain rfl | rfl | rfl | rfl : k = 0 ∨ k = 1 ∨ k = 2 ∨ k = 3 := by omega
        all_goals (simp [Tok.cells] at hu; subst hu; simp [Addr.add])
      case e2 => intro u hu; simp [Tok.cells] at hu; rcases hu with rfl | rfl | rfl | rfl <;> rfl
      case e3 => unfold maxLen; omega
      case e4 => omega
      case e5 => simp; omega
      intro v9 w9 hown9 hgrow9 _
      have hb9 : Below (w.heap.size + 3) wr w9 := ((Below.refl _ wr).alloc hbig _).grown hgrow9 (by simp; omega) (fun k hk => (hSt.row.lt k hk).1)
      have hSt9 := hSt.grow (x := ⟨0, [], 0, s.size⟩) hb9 hown9
      clear hown9 hgrow9 hb9 HROW
      go_wp2_with fail
      go_ret3
      refine ⟨⟨v9, ?_, ?_⟩, hSt9.bw⟩
      · rw [HLR.out, HR.out]
        rfl
      · rw [HLR.out, HR.out]
        exact row_low hSt9.row (by omega)
end Go.Proofs.YtagjemdoefldaaaDoor
