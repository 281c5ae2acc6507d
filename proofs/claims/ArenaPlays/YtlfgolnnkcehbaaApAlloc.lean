/- The document's arena: Alloc. -/
import Derived.Test.YtlfgolnnkcehbaaApDup
namespace Go.Proofs.Ytlfgolnnkcehbaa
open Go.RowKit

theorem own_low {w : World} {B B' e size n : Nat} {v : Value} {xs : List Value} (h : w.ownsRow B e size v n xs) (hle : B' ≤ B) : w.ownsRow B' e size v n xs := by
  refine ⟨h.1, ?_⟩
  rcases h.2 with h0 | ⟨g, cap, cur, rfl, h1, h2⟩
  · exact Or.inl h0
  · exact Or.inr ⟨g, cap, cur, rfl, by omega, h2⟩
/-- What is known behind the region: the box with the new row, the result's box, the row. -/
def ApF (own' : Nat → Prop) (w V : World) (n' : Nat) (cells : Nat → Nat → Array Value) (cs : List Value) (W : World) (g cp : Nat) : Prop := W.heap[w.heap.size]? = some (.cells (cells g cp) 30 (0, 0)) ∧ W.heap[w.heap.size + 1]? = some (.cells #[.int .i64 0, .slice none 0 0, .slice none 0 0, .int .i64 0, .bool false] 30 (0, 0)) ∧ W.ownsRow V.heap.size 75 5 (.slice (some ⟨g, 0, none⟩) n' cp) n' cs ∧ Below w.heap.size w W ∧ V.heap.size ≤ g ∧ Chg own' V W
def AllocSay (own : Nat → Prop) (w : World) (cap : Nat) (Lo Hi : List Ob) (e : Nat) (op : Bool) (T : Nat) (x : Ending) : Prop := ∃ la lc ha hc, x = .returned (.tuple #[mV cap la lc ha hc Lo Hi e op, .int .i64 (T : Int), .int .i64 0]) ∧ MA own w la lc ha hc Lo Hi
section
variable {own : Nat → Prop} {w : World} {la ha : Option Addr} {lc hc cap : Nat} {Lo Hi : List Ob} {e : Nat} {op : Bool}
set_option maxHeartbeats 2000000 in
set_option maxRecDepth 100000 in
theorem rAlloc_arg (t r s o : Int) (hb : fitsA t r s o = false) : Calls Try.prog 26 #[mV cap la lc ha hc Lo Hi e op, .int .i64 t, .int .i64 r, .int .i64 s, .int .i64 o] w fun x w' => x = .returned (.tuple #[mV cap la lc ha hc Lo Hi e op, .int .i64 0, .int .i64 1]) ∧ Below w.heap.size w w' := by
  unfold mV
  obtain ⟨W0, hW0, hb0, hs0, k0, k1⟩ := boxes5 w (.int .i64 (cap : Int)) (.slice la Lo.length lc) (.slice ha Hi.length hc) (.int .i64 (e : Int)) (.bool op) (.int .i64 0) (.slice none 0 0) (.slice none 0 0) (.int .i64 0) (.bool false) 30 30
  have HB0 := mkHid hb0
  have HW0 := mkHid hW0
  have HS0 := mkHid hs0
  have HK0 := mkHid k0
  have HK1 := mkHid k1
  generalize Lo.length = n at HW0 HK0 ⊢
  generalize Hi.length = m at HW0 HK0 ⊢
  clear hW0 hb0 hs0 k0 k1
  have hbad : t < 1 ∨ ¬ t < 1 ∧ 255 < t ∨ ¬ t < 1 ∧ ¬ 255 < t ∧ s < 0 ∨ ¬ t < 1 ∧ ¬ 255 < t ∧ ¬ s < 0 ∧ 4096 < s ∨ ¬ t < 1 ∧ ¬ 255 < t ∧ ¬ s < 0 ∧ ¬ 4096 < s ∧ r < 0 ∨ ¬ t < 1 ∧ ¬ 255 < t ∧ ¬ s < 0 ∧ ¬ 4096 < s ∧ ¬ r < 0 ∧ s < r ∨ ¬ t < 1 ∧ ¬ 255 < t ∧ ¬ s < 0 ∧ ¬ 4096 < s ∧ ¬ r < 0 ∧ ¬ s < r ∧ o < 0 ∨ ¬ t < 1 ∧ ¬ 255 < t ∧ ¬ s < 0 ∧ ¬ 4096 < s ∧ ¬ r < 0 ∧ ¬ s < r ∧ ¬ o < 0 ∧ 1048576 ≤ o := by
    unfold fitsA at hb
    rw [Bool.and_eq_false_iff, Bool.and_eq_false_iff, Bool.and_eq_false_iff, decide_eq_false_iff_not, decide_eq_false_iff_not, decide_eq_false_iff_not, decide_eq_false_iff_not] at hb
    omega
  clear hb
  go_enter Try.func26, Try.ntmps26
  refine wp_seq_k (fun K1 hkA => ?_)
  have HK := mkHid hkA
  clear hkA
  go_wp2_with fail
  rw [← HW0.out]
  refine HK.out _ _ ?_
  clear HK
  obtain ⟨p0, p1, p2, p3, p4⟩ := five_cells HK0.out
  rcases hbad with h1 | ⟨h1, h2⟩ | ⟨h1, h2, h3⟩ | ⟨h1, h2, h3, h4⟩ | ⟨h1, h2, h3, h4, h5⟩ | ⟨h1, h2, h3, h4, h5, h6⟩ | ⟨h1, h2, h3, h4, h5, h6, h7⟩ | ⟨h1, h2, h3, h4, h5, h6, h7, h8⟩
  · skip
    obtain ⟨x0, x1, x2, x3, x4⟩ := five_cells HK1.out
    have z0 := ice5 HK1.out 0
    have z1 := ice5 HK1.out 1
    have z2 := ice5 HK1.out 2
    have z3 := ice5 HK1.out 3
    have z4 := ice5 HK1.out 4
    go_wp2_with fail
    have hfin := put5 HK1.out (.int .i64 (cap : Int)) (.slice la n lc) (.slice ha m hc) (.int .i64 (e : Int)) (.bool op)
    obtain ⟨e0, e1, e2, e3, e4⟩ := five_cells hfin
    refine bodyPost_ret (by simp [results, Try.results26, go_sem, e0, e1, e2, e3, e4]; rfl) rfl ?_
    exact ⟨rfl, set5_below HB0.out (by omega) _ _ _ _ _⟩
  · skip
    obtain ⟨x0, x1, x2, x3, x4⟩ := five_cells HK1.out
    have z0 := ice5 HK1.out 0
    have z1 := ice5 HK1.out 1
    have z2 := ice5 HK1.out 2
    have z3 := ice5 HK1.out 3
    have z4 := ice5 HK1.out 4
    go_wp2_with fail
    have hfin := put5 HK1.out (.int .i64 (cap : Int)) (.slice la n lc) (.slice ha m hc) (.int .i64 (e : Int)) (.bool op)
    obtain ⟨e0, e1, e2, e3, e4⟩ := five_cells hfin
    refine bodyPost_ret (by simp [results, Try.results26, go_sem, e0, e1, e2, e3, e4]; rfl) rfl ?_
    exact ⟨rfl, set5_below HB0.out (by omega) _ _ _ _ _⟩
  · skip
    obtain ⟨x0, x1, x2, x3, x4⟩ := five_cells HK1.out
    have z0 := ice5 HK1.out 0
    have z1 := ice5 HK1.out 1
    have z2 := ice5 HK1.out 2
    have z3 := ice5 HK1.out 3
    have z4 := ice5 HK1.out 4
    go_wp2_with fail
    have hfin := put5 HK1.out (.int .i64 (cap : Int)) (.slice la n lc) (.slice ha m hc) (.int .i64 (e : Int)) (.bool op)
    obtain ⟨e0, e1, e2, e3, e4⟩ := five_cells hfin
    refine bodyPost_ret (by simp [results, Try.results26, go_sem, e0, e1, e2, e3, e4]; rfl) rfl ?_
    exact ⟨rfl, set5_below HB0.out (by omega) _ _ _ _ _⟩
  · skip
    obtain ⟨x0, x1, x2, x3, x4⟩ := five_cells HK1.out
    have z0 := ice5 HK1.out 0
    have z1 := ice5 HK1.out 1
    have z2 := ice5 HK1.out 2
    have z3 := ice5 HK1.out 3
    have z4 := ice5 HK1.out 4
    go_wp2_with fail
    have hfin := put5 HK1.out (.int .i64 (cap : Int)) (.slice la n lc) (.slice ha m hc) (.int .i64 (e : Int)) (.bool op)
    obtain ⟨e0, e1, e2, e3, e4⟩ := five_cells hfin
    refine bodyPost_ret (by simp [results, Try.results26, go_sem, e0, e1, e2, e3, e4]; rfl) rfl ?_
    exact ⟨rfl, set5_below HB0.out (by omega) _ _ _ _ _⟩
  · skip
    obtain ⟨x0, x1, x2, x3, x4⟩ := five_cells HK1.out
    have z0 := ice5 HK1.out 0
    have z1 := ice5 HK1.out 1
    have z2 := ice5 HK1.out 2
    have z3 := ice5 HK1.out 3
    have z4 := ice5 HK1.out 4
    go_wp2_with fail
    have hfin := put5 HK1.out (.int .i64 (cap : Int)) (.slice la n lc) (.slice ha m hc) (.int .i64 (e : Int)) (.bool op)
    obtain ⟨e0, e1, e2, e3, e4⟩ := five_cells hfin
    refine bodyPost_ret (by simp [results, Try.results26, go_sem, e0, e1, e2, e3, e4]; rfl) rfl ?_
    exact ⟨rfl, set5_below HB0.out (by omega) _ _ _ _ _⟩
  · skip
    obtain ⟨x0, x1, x2, x3, x4⟩ := five_cells HK1.out
    have z0 := ice5 HK1.out 0
    have z1 := ice5 HK1.out 1
    have z2 := ice5 HK1.out 2
    have z3 := ice5 HK1.out 3
    have z4 := ice5 HK1.out 4
    go_wp2_with fail
    have hfin := put5 HK1.out (.int .i64 (cap : Int)) (.slice la n lc) (.slice ha m hc) (.int .i64 (e : Int)) (.bool op)
    obtain ⟨e0, e1, e2, e3, e4⟩ := five_cells hfin
    refine bodyPost_ret (by simp [results, Try.results26, go_sem, e0, e1, e2, e3, e4]; rfl) rfl ?_
    exact ⟨rfl, set5_below HB0.out (by omega) _ _ _ _ _⟩
  · skip
    obtain ⟨x0, x1, x2, x3, x4⟩ := five_cells HK1.out
    have z0 := ice5 HK1.out 0
    have z1 := ice5 HK1.out 1
    have z2 := ice5 HK1.out 2
    have z3 := ice5 HK1.out 3
    have z4 := ice5 HK1.out 4
    go_wp2_with fail
    have hfin := put5 HK1.out (.int .i64 (cap : Int)) (.slice la n lc) (.slice ha m hc) (.int .i64 (e : Int)) (.bool op)
    obtain ⟨e0, e1, e2, e3, e4⟩ := five_cells hfin
    refine bodyPost_ret (by simp [results, Try.results26, go_sem, e0, e1, e2, e3, e4]; rfl) rfl ?_
    exact ⟨rfl, set5_below HB0.out (by omega) _ _ _ _ _⟩
  · skip
    obtain ⟨x0, x1, x2, x3, x4⟩ := five_cells HK1.out
    have z0 := ice5 HK1.out 0
    have z1 := ice5 HK1.out 1
    have z2 := ice5 HK1.out 2
    have z3 := ice5 HK1.out 3
    have z4 := ice5 HK1.out 4
    go_wp2_with fail
    have hfin := put5 HK1.out (.int .i64 (cap : Int)) (.slice la n lc) (.slice ha m hc) (.int .i64 (e : Int)) (.bool op)
    obtain ⟨e0, e1, e2, e3, e4⟩ := five_cells hfin
    refine bodyPost_ret (by simp [results, Try.results26, go_sem, e0, e1, e2, e3, e4]; rfl) rfl ?_
    exact ⟨rfl, set5_below HB0.out (by omega) _ _ _ _ _⟩
set_option maxHeartbeats 2000000 in
set_option maxRecDepth 100000 in
theorem rAlloc_full (h : MA own w la lc ha hc Lo Hi) (hl : tot Lo ≤ 1048576) (hh : e + tot Hi ≤ 1048576) (_hcap : cap ≤ 1048576) (t r s o : Nat) (h1 : 1 ≤ t) (h2 : t < 256) (h3 : r ≤ s) (h4 : s ≤ 4096) (h5 : o < 1048576) (hfull : cap < topOf Lo Hi e op + 1 + s) (hle : topOf Lo Hi e op ≤ cap) : Calls Try.prog 26 #[mV cap la lc ha hc Lo Hi e op, .int .i64 t, .int .i64 r, .int .i64 s, .int .i64 o] w fun x w' => x = .returned (.tuple #[mV cap la lc ha hc Lo Hi e op, .int .i64 0, .int .i64 5]) ∧ Below w.heap.size w w' := by
  obtain ⟨ti, hti⟩ : ∃ ti : Int, ti = (t : Int) := ⟨_, rfl⟩
  obtain ⟨ri, hri⟩ : ∃ ri : Int, ri = (r : Int) := ⟨_, rfl⟩
  obtain ⟨si, hsi⟩ : ∃ si : Int, si = (s : Int) := ⟨_, rfl⟩
  obtain ⟨oi, hoi⟩ : ∃ oi : Int, oi = (o : Int) := ⟨_, rfl⟩
  rw [← hti, ← hri, ← hsi, ← hoi]
  have f1 : ¬ ti < 1 := by omega
  have f2 : ¬ 255 < ti := by omega
  have f3 : ¬ si < 0 := by omega
  have f4 : ¬ 4096 < si := by omega
  have f5 : ¬ ri < 0 := by omega
  have f6 : ¬ si < ri := by omega
  have f7 : ¬ oi < 0 := by omega
  have f8 : ¬ 1048576 ≤ oi := by omega
  have HTP := mkHid (fun (u : World) (b : Below w.heap.size w u) => rTop_any (cap := cap) (op := op) (h.below b) hl hh)
  obtain ⟨T, hT⟩ : ∃ T, T = topOf Lo Hi e op := ⟨_, rfl⟩
  rw [← hT] at HTP hfull hle
  unfold mV at HTP ⊢
  obtain ⟨W0, hW0, hb0, hs0, k0, k1⟩ := boxes5 w (.int .i64 (cap : Int)) (.slice la Lo.length lc) (.slice ha Hi.length hc) (.int .i64 (e : Int)) (.bool op) (.int .i64 0) (.slice none 0 0) (.slice none 0 0) (.int .i64 0) (.bool false) 30 30
  have HB0 := mkHid hb0
  have HW0 := mkHid hW0
  have HS0 := mkHid hs0
  have HK0 := mkHid k0
  have HK1 := mkHid k1
  generalize Lo.length = n at HW0 HK0 HTP ⊢
  generalize Hi.length = m at HW0 HK0 HTP ⊢
  have hlt : (cap : Int) - (T : Int) < si + 1 := by omega
  have HTI := mkHid hti
  have HRI := mkHid hri
  have HSI := mkHid hsi
  have HOI := mkHid hoi
  clear h hl hh hW0 hb0 hs0 k0 k1 hT hti hri hsi hoi
  go_enter Try.func26, Try.ntmps26
  refine wp_seq_k (fun K1 hkA => ?_)
  have HK := mkHid hkA
  clear hkA
  go_wp2_with fail
  rw [← HW0.out]
  refine HK.out _ _ ?_
  clear HK
  obtain ⟨p0, p1, p2, p3, p4⟩ := five_cells HK0.out
  go_wp2_with fail
  refine (HTP.out _ HB0.out).mono ?_
  rintro x w2 ⟨rfl, b2⟩
  have k0 := HK0.out
  rw [← b2.block _ (by have := HS0.out; omega)] at k0
  have k1 := HK1.out
  rw [← b2.block _ (by have := HS0.out; omega)] at k1
  have HB2 := mkHid (HB0.out.trans (b2.mono HB0.out.size))
  have HKA := mkHid k1
  obtain ⟨p0, p1, p2, p3, p4⟩ := five_cells k0
  clear b2 k0 k1
  obtain ⟨x0, x1, x2, x3, x4⟩ := five_cells HKA.out
  have z0 := ice5 HKA.out 0
  have z1 := ice5 HKA.out 1
  have z2 := ice5 HKA.out 2
  have z3 := ice5 HKA.out 3
  have z4 := ice5 HKA.out 4
  go_wp2_with fail
  have hfin := put5 HKA.out (.int .i64 (cap : Int)) (.slice la n lc) (.slice ha m hc) (.int .i64 (e : Int)) (.bool op)
  obtain ⟨e0, e1, e2, e3, e4⟩ := five_cells hfin
  refine bodyPost_ret (by simp [results, Try.results26, go_sem, e0, e1, e2, e3, e4]; rfl) rfl ?_
  exact ⟨rfl, set5_below HB2.out (by omega) _ _ _ _ _⟩
set_option maxHeartbeats 2000000 in
set_option maxRecDepth 100000 in
theorem rAlloc_hi (h : MA own w la lc ha hc Lo Hi) (hl : tot Lo ≤ 1048576) (hh : e + tot Hi ≤ 1048576) (hcap : cap ≤ 1048576) (t r s o : Nat) (h1 : 1 ≤ t) (h2 : t < 256) (h3 : r ≤ s) (h4 : s ≤ 4096) (h5 : o < 1048576) (hown : ∀ k, own k → k < w.heap.size) (hroom : topOf Lo Hi e true + 1 + s ≤ cap) : Calls Try.prog 26 #[mV cap la lc ha hc Lo Hi e true, .int .i64 t, .int .i64 r, .int .i64 s, .int .i64 o] w fun x w' => AllocSay own w' cap Lo (Hi ++ [⟨t, r, o, false, List.replicate s 0⟩]) e true (topOf Lo Hi e true) x ∧ Below w.heap.size w w' := by
  obtain ⟨i0, hi0, hz0, hz1, hz2⟩ := info_parts infoOb
  obtain ⟨ti, hti⟩ : ∃ ti : Int, ti = (t : Int) := ⟨_, rfl⟩
  obtain ⟨ri, hri⟩ : ∃ ri : Int, ri = (r : Int) := ⟨_, rfl⟩
  obtain ⟨si, hsi⟩ : ∃ si : Int, si = (s : Int) := ⟨_, rfl⟩
  obtain ⟨oi, hoi⟩ : ∃ oi : Int, oi = (o : Int) := ⟨_, rfl⟩
  rw [← hti, ← hri, ← hsi, ← hoi]
  have f1 : ¬ ti < 1 := by omega
  have f2 : ¬ 255 < ti := by omega
  have f3 : ¬ si < 0 := by omega
  have f4 : ¬ 4096 < si := by omega
  have f5 : ¬ ri < 0 := by omega
  have f6 : ¬ si < ri := by omega
  have f7 : ¬ oi < 0 := by omega
  have f8 : ¬ 1048576 ≤ oi := by omega
  have HTP := mkHid (fun (u : World) (b : Below w.heap.size w u) => rTop_any (cap := cap) (op := true) (h.below b) hl hh)
  obtain ⟨T, hT⟩ : ∃ T, T = topOf Lo Hi e true := ⟨_, rfl⟩
  rw [← hT] at HTP hroom
  have hfew := MA.few hl hh
  have hmore : Hi.length + 1 ≤ 1048576 := by
    have := len_tot Hi
    have : T = e + tot Hi := by rw [hT]; rfl
    omega
  rw [← hT]
  obtain ⟨own', hown'⟩ : ∃ own' : Nat → Prop, own' = fun k => own k ∨ k = w.heap.size ∨ k = w.heap.size + 1 := ⟨_, rfl⟩
  have hW : MA own' w la lc ha hc Lo Hi := h.widen fun k hk => by
    rw [hown'] at hk
    rcases hk with hk | hk | hk
    · exact Or.inl hk
    · exact Or.inr (by omega)
    · exact Or.inr (by omega)
  have HO2 : Hid (∀ k, own k → own' k) := fun k hk => by rw [hown']; exact Or.inl hk
  have HOM : Hid (own' w.heap.size) := by rw [hown']; exact Or.inr (Or.inl rfl)
  have HOR : Hid (own' (w.heap.size + 1)) := by rw [hown']; exact Or.inr (Or.inr rfl)
  have HO3 : Hid (∀ k, own' k → k < w.heap.size + 2) := fun k hk => by
    rw [hown'] at hk
    rcases hk with hk | hk | hk
    · have := hown k hk; omega
    · omega
    · omega
  obtain ⟨cs, hcs, hcell, hone⟩ := hW.hi.row2
  have hclen := hcs.1
  have hnone := hW.hi.nn
  have HMA := mkHid hW
  have HCS := mkHid hcs
  have HCE := mkHid hcell
  have HON := mkHid hone
  have HMK := mkHid (fun u : World => run_make_row' (P := Try.prog) 41 33 (.int .u64 0) 8 Try.underlying41 (by kernel_rfl) rfl .i64 .i64 s (by omega) (by omega) u)
  rw [← hsi] at HMK
  have HTI := mkHid hti
  have HRI := mkHid hri
  have HSI := mkHid hsi
  have HOI := mkHid hoi
  unfold mV at HTP ⊢
  obtain ⟨W0, hW0, hb0, hs0, k0, k1⟩ := boxes5 w (.int .i64 (cap : Int)) (.slice la Lo.length lc) (.slice ha Hi.length hc) (.int .i64 (e : Int)) (.bool true) (.int .i64 0) (.slice none 0 0) (.slice none 0 0) (.int .i64 0) (.bool false) 30 30
  have HB0 := mkHid hb0
  have HW0 := mkHid hW0
  have HS0 := mkHid hs0
  have HK0 := mkHid k0
  have HK1 := mkHid k1
  obtain ⟨n, hn⟩ : ∃ n, n = Lo.length := ⟨_, rfl⟩
  obtain ⟨m, hm⟩ : ∃ m, m = Hi.length := ⟨_, rfl⟩
  have hnone' : ha = none → m = 0 ∧ hc = 0 := fun e => by
    obtain ⟨e1, e2⟩ := hnone e
    rw [e1] at hm
    exact ⟨hm, e2⟩
  have hnb : m + 1 ≤ 1048576 := by omega
  rw [← hm] at hclen
  have HLN : Hid ((Hi ++ [(⟨t, r, o, false, List.replicate s 0⟩ : Ob)]).length = m + 1) := by show _ = _; rw [List.length_append, hm]; rfl
  rw [← hn, ← hm] at HTP HW0 HK0 ⊢
  have HNN := mkHid hn
  have HMM := mkHid hm
  have hlt : ¬ (cap : Int) - (T : Int) < si + 1 := by omega
  have hTb : T ≤ 1048576 := by omega
  obtain ⟨y, hy⟩ : ∃ y : Ob, y = ⟨t, r, o, false, List.replicate s 0⟩ := ⟨_, rfl⟩
  have HY := mkHid hy
  clear h hW hl hh hW0 hb0 hs0 k0 k1 hT hown hown' hcs hcell hone hnone hn hm hfew hmore hroom hy hti hri hsi hoi
  go_enter Try.func26, Try.ntmps26
  refine wp_seq_k (fun K1 hkA => ?_)
  have HK := mkHid hkA
  clear hkA
  go_wp2_with fail
  rw [← HW0.out]
  refine HK.out _ _ ?_
  clear HK
  obtain ⟨p0, p1, p2, p3, p4⟩ := five_cells HK0.out
  go_wp2_with fail
  refine (HTP.out _ HB0.out).mono ?_
  rintro x w2 ⟨rfl, b2⟩
  have k0 := HK0.out
  rw [← b2.block _ (by have := HS0.out; omega)] at k0
  have k1 := HK1.out
  rw [← b2.block _ (by have := HS0.out; omega)] at k1
  have hs2 : w.heap.size + 2 ≤ w2.heap.size := by have := b2.size; have := HS0.out; omega
  have HB2 := mkHid (HB0.out.trans (b2.mono HB0.out.size))
  have hm2 := HMK.out w2
  obtain ⟨W3, hW3⟩ : ∃ W3, W3 = w2.alloc (.cells (madeCells #[.int .u64 0] s) 33) := ⟨_, rfl⟩
  rw [← hW3] at hm2
  obtain ⟨gw, hgw⟩ : ∃ gw, gw = w2.heap.size := ⟨_, rfl⟩
  rw [← hgw] at hm2
  obtain ⟨N, hN⟩ : ∃ N, N = W3.heap.size := ⟨_, rfl⟩
  obtain ⟨V, hV⟩ : ∃ V, V = W3.alloc (.cells #[.int .i64 ti, .int .i64 ri, .int .i64 oi, .bool false, .slice (some ⟨gw, 0, none⟩) s s] 75) := ⟨_, rfl⟩
  have b3 : Below w2.heap.size w2 W3 := by rw [hW3]; exact (Below.refl _ _).alloc (Nat.le_refl _) _
  have b4 : Below W3.heap.size W3 V := by rw [hV]; exact (Below.refl _ _).alloc (Nat.le_refl _) _
  have s3 : W3.heap.size = w2.heap.size + 1 := by rw [hW3]; simp
  have s4 : V.heap.size = W3.heap.size + 1 := by rw [hV]; simp
  have b24 := b3.trans (b4.mono b3.size)
  have HMV : Hid (V.heap[w.heap.size]? = _) := mkHid ((b24.block _ (by omega)).trans k0)
  have HRV : Hid (V.heap[w.heap.size + 1]? = _) := mkHid ((b24.block _ (by omega)).trans k1)
  have HBV := mkHid (HB2.out.trans (b24.mono (by omega)))
  have HVL : Hid (w.heap.size < V.heap.size) := by show _ < _; omega
  have HVL2 : Hid (w.heap.size + 1 < V.heap.size) := by show _ < _; omega
  have kN : V.heap[N]? = some (.cells #[.int .i64 ti, .int .i64 ri, .int .i64 oi, .bool false, .slice (some ⟨gw, 0, none⟩) s s] 75 (0, 0)) := by rw [hN, hV]; exact heap_alloc_new W3 _
  have kw : V.heap[gw]? = some (.cells (wcells (List.replicate s 0)) 33 (0, 0)) := by
    rw [b4.block gw (by omega), hgw, hW3, made_words]
    exact heap_alloc_new w2 _
  have hyw : OWs own' V y (some ⟨gw, 0, none⟩) s := by
    rw [HY.out]
    refine ⟨fun h => (by cases h), Or.inr ⟨gw, 0, rfl, by omega, fun hg => by have := HO3.out gw hg; omega, fun q hq => ?_⟩, fun q => ?_, ?_⟩
    · rw [Nat.zero_add, cell_of_row V gw q _ _ _ kw]
      have hq' : q < s := by simpa using hq
      simp [wcells, hq']
    · dsimp only
      rw [rep_zero]; decide
    · dsimp only
      rw [List.length_replicate]; omega
  have HYW := mkHid hyw
  have hNM : N ≠ w.heap.size := by omega
  have hNl : N < V.heap.size := by omega
  have HSx : Hid (∀ u, Below V.heap.size V u → u.cell? ⟨N, 0, none⟩ = some (.int .i64 ti) ∧ u.cell? ⟨N, 1, none⟩ = some (.int .i64 ri) ∧ u.cell? ⟨N, 2, none⟩ = some (.int .i64 oi) ∧ u.cell? ⟨N, 3, none⟩ = some (.bool false) ∧ u.cell? ⟨N, 4, none⟩ = some (.slice (some ⟨gw, 0, none⟩) s s)) := fun u hu => five_cells ((hu.block N hNl).trans kN)
  have HSy : Hid (∀ u, Below V.heap.size V u → ∀ v, (u.setCell ⟨w.heap.size, 2, none⟩ v).cell? ⟨N, 0, none⟩ = some (.int .i64 ti) ∧ (u.setCell ⟨w.heap.size, 2, none⟩ v).cell? ⟨N, 1, none⟩ = some (.int .i64 ri) ∧ (u.setCell ⟨w.heap.size, 2, none⟩ v).cell? ⟨N, 2, none⟩ = some (.int .i64 oi) ∧ (u.setCell ⟨w.heap.size, 2, none⟩ v).cell? ⟨N, 3, none⟩ = some (.bool false) ∧ (u.setCell ⟨w.heap.size, 2, none⟩ v).cell? ⟨N, 4, none⟩ = some (.slice (some ⟨gw, 0, none⟩) s s)) := fun u hu v => by
    obtain ⟨a0, a1, a2, a3, a4⟩ := HSx.out u hu
    exact ⟨(cell_set1 u hNM).trans a0, (cell_set1 u hNM).trans a1, (cell_set1 u hNM).trans a2, (cell_set1 u hNM).trans a3, (cell_set1 u hNM).trans a4⟩
  have HCV := mkHid (fun (u : World) (hu : Below V.heap.size V u) => HCE.out u (HBV.out.trans (hu.mono HBV.out.size)))
  have HNW : Hid (∀ (u : World) (gs : Nat), u.heap[gs]? = some (.cells #[.int .i64 ti, .int .i64 ri, .int .i64 oi, .bool false, .slice (some ⟨gw, 0, none⟩) s s] 75 (0, 0)) → ∀ (j : Nat) (v : Value), (objC y (some ⟨gw, 0, none⟩) s)[j]? = some v → u.cell? ((⟨gs, 0, none⟩ : Addr).add j) = some v) := fun u gs hg j v hv => by
    refine news5 (y := y) ?_ j v hv
    rw [hg, HY.out, HTI.out, HRI.out, HOI.out]
    simp
  have HVE := mkHid hV
  have HW3 := mkHid hW3
  have HNE := mkHid hN
  obtain ⟨p0, p1, p2, p3, p4⟩ := five_cells k0
  clear b2 b3 b4 b24 k0 k1 kN kw hyw hV hW3 hgw hN HMK s3 s4
  go_upto_region 8 with fail
  rw [← HNE.out, ← HVE.out]
  obtain ⟨p0, p1, p2, p3, p4⟩ := five_cells HMV.out
  go_upto_region 9 with fail
  clear p0 p1 p2 p3 p4 hm2
  refine' ap_join _ (fun W q c gs g cp => ApF own' w V (m + 1) (fun g cp => #[.int .i64 (cap : Int), .slice la n lc, .slice (some ⟨g, 0, none⟩) (m + 1) cp, .int .i64 (e : Int), .bool true]) (cs ++ objC y (some ⟨gw, 0, none⟩) s) W g cp) ?h1 ?h2
  case h1 =>
    intro HJN
    have hb0 : Below V.heap.size V V.drew := (Below.refl _ V).drew
    refine wp_region_held_drew (S := fun u => u.cell? ⟨N, 0, none⟩ = some (.int .i64 ti) ∧ u.cell? ⟨N, 1, none⟩ = some (.int .i64 ri) ∧ u.cell? ⟨N, 2, none⟩ = some (.int .i64 oi) ∧ u.cell? ⟨N, 3, none⟩ = some (.bool false) ∧ u.cell? ⟨N, 4, none⟩ = some (.slice (some ⟨gw, 0, none⟩) s s)) (by kernel_rfl) ?_ (fun hHeld => ?_)
    · exact HSx.out _ hb0
    refine wpAnyH_take (i := 0) (oi := ⟨some 66, .move (.tmp 15), 28, "ref.go:94", #[], none⟩) (v := .slice none 0 0) rfl (by kernel_rfl) (by kernel_rfl) (by kernel_rfl) (fun _ _ _ h => h) (Or.inl ⟨by rfl, ?_⟩) hHeld ?_
    · intro wq hSq
      obtain ⟨s0, s1, s2, s3, s4⟩ := hSq
      clear hHeld
      go_simp
    (try simp only [Act.put, List.setIfInBounds_toArray, List.set_cons_zero, List.set_cons_succ])
    refine wpAnyH_take (i := 1) (oi := ⟨some 67, .fieldAddr 30 (.tmp 5) 2, 0, "ref.go:94", #[], none⟩) (v := .pointer (some ⟨w.heap.size, 2, none⟩)) rfl (by kernel_rfl) (by kernel_rfl) (by kernel_rfl) (fun _ _ _ h => h) (Or.inl ⟨by rfl, ?_⟩) hHeld ?_
    · intro wq hSq
      obtain ⟨s0, s1, s2, s3, s4⟩ := hSq
      clear hHeld
      go_simp
    (try simp only [Act.put, List.setIfInBounds_toArray, List.set_cons_zero, List.set_cons_succ])
    refine wpAnyH_take (i := 4) (oi := ⟨some 70, .load 75 (.tmp 14), 75, "ref.go:94", #[], none⟩) (v := .agg #[.int .i64 ti, .int .i64 ri, .int .i64 oi, .bool false, .slice (some ⟨gw, 0, none⟩) s s]) rfl (by kernel_rfl) (by kernel_rfl) (by kernel_rfl) (fun _ _ _ h => h) (Or.inl ⟨by rfl, ?_⟩) hHeld ?_
    · intro wq hSq
      obtain ⟨s0, s1, s2, s3, s4⟩ := hSq
      clear hHeld
      go_simp
    (try simp only [Act.put, List.setIfInBounds_toArray, List.set_cons_zero, List.set_cons_succ])
    refine wpAnyH_ready (rs := [2, 5]) (by kernel_rfl) (by simp) ?_
    refine AllReadyH.cons (o := ⟨some 68, .load 28 (.tmp 67), 28, "ref.go:94", #[⟨1, .data⟩], none⟩) rfl (fun Kr2 hKr2 => ?_) (AllReadyH.cons (o := ⟨some 71, .buildSlice 28 1 #[(0, .tmp 70)], 28, "ref.go:94", #[⟨4, .data⟩], none⟩) rfl (fun Kr5 hKr5 => ?_) AllReadyH.nil)
    · skip
      have hc2 : World.cell? _ ⟨w.heap.size, 2, none⟩ = some (.slice ha m hc) := cell_of_row _ _ 2 _ _ _ ((hb0.block _ HVL.out).trans HMV.out)
      have hS2 := hHeld
      clear hHeld
      go_simp
      refine hKr2.out _ _ ?_ (fun hHeld => ?_)
      · exact hS2
      clear hKr2 Kr2 hS2 hc2
      (try simp only [Act.put, List.setIfInBounds_toArray, List.set_cons_zero, List.set_cons_succ])
      refine wpAnyH_ready (rs := [3, 5]) (by kernel_rfl) (by simp) ?_
      refine AllReadyH.cons (o := ⟨some 69, .call ⟨.builtin .append, #[.tmp 66, .tmp 68], #[28, 28]⟩, 28, "ref.go:94", #[⟨0, .data⟩, ⟨2, .data⟩], none⟩) rfl (fun Kr3 hKr3 => ?_) (AllReadyH.cons (o := ⟨some 71, .buildSlice 28 1 #[(0, .tmp 70)], 28, "ref.go:94", #[⟨4, .data⟩], none⟩) rfl (fun Kr5 hKr5 => ?_) AllReadyH.nil)
      · skip
        refine step_dup rfl (.tmp 66) (.tmp 68) 28 rfl 75 i0 (.agg #[.int .i64 0, .int .i64 0, .int .i64 0, .bool false, .slice none 0 0]) 5 56 Try.underlying28 hi0 hz0 hz1 hz2 rfl (by decide) rfl ha m hc cs rfl hnone' hclen (HCV.out _ hb0) HON.out (by unfold maxLen; omega) (by omega) ?_
        intro q3 c3 w4 r3 b3
        have hb_w4 : Below V.heap.size V w4 := hb0.trans (b3.mono hb0.size)
        have r3V : World.ownsRow w4 V.heap.size 75 5 (.slice q3 m c3) m cs := own_low r3 hb0.size
        have hS3 := HSx.out _ hb_w4
        clear hHeld r3
        refine hKr3.out _ _ ?_ (fun hHeld => ?_)
        · exact hS3
        clear hKr3 Kr3 hS3
        (try simp only [Act.put, List.setIfInBounds_toArray, List.set_cons_zero, List.set_cons_succ])
        refine wpAnyH_ready (rs := [5]) (by kernel_rfl) (by simp) ?_
        refine AllReadyH.cons (o := ⟨some 71, .buildSlice 28 1 #[(0, .tmp 70)], 28, "ref.go:94", #[⟨4, .data⟩], none⟩) rfl (fun Kr5 hKr5 => ?_) AllReadyH.nil
        obtain ⟨w5, hw5⟩ : ∃ w5, w5 = (World.alloc w4 (.cells #[.int .i64 ti, .int .i64 ri, .int .i64 oi, .bool false, .slice (some ⟨gw, 0, none⟩) s s] 75)) := ⟨_, rfl⟩
        have hb_w5 : Below V.heap.size V w5 := by rw [hw5]; exact (Below.alloc hb_w4 hb_w4.size _)
        have hgs : w5.heap[(World.heap w4).size]? = some (.cells #[.int .i64 ti, .int .i64 ri, .int .i64 oi, .bool false, .slice (some ⟨gw, 0, none⟩) s s] 75 (0, 0)) := by rw [hw5]; exact heap_alloc_new _ _
        obtain ⟨gs, hgse⟩ : ∃ gs, gs = (World.heap w4).size := ⟨_, rfl⟩
        rw [← hgse] at hgs
        have r3V : World.ownsRow w5 V.heap.size 75 5 (.slice q3 m c3) m cs := by rw [hw5]; exact own_upM r3V ((Below.refl _ _).alloc (Nat.le_refl _) _)
        have hS5 := HSx.out _ hb_w5
        have HNM := mkHid hw5
        have HGE := mkHid hgse
        clear hHeld hw5 hgse
        go_simp
        rw [← HNM.out, ← HGE.out]
        refine hKr5.out _ _ ?_ (fun hHeld => ?_)
        · exact hS5
        clear hKr5 Kr5 hS5 HNM HGE
        (try simp only [Act.put, List.setIfInBounds_toArray, List.set_cons_zero, List.set_cons_succ])
        refine wpAnyH_ready (rs := [6]) (by kernel_rfl) (by simp) ?_
        refine AllReadyH.cons (o := ⟨some 72, .call ⟨.builtin .append, #[.tmp 69, .tmp 71], #[28, 28]⟩, 28, "ref.go:94", #[⟨3, .data⟩, ⟨5, .data⟩, ⟨3, .chain⟩], none⟩) rfl (fun Kr6 hKr6 => ?_) AllReadyH.nil
        refine step_append_lies _ rfl (.tmp 69) (.tmp 71) 28 rfl V.heap.size 75 i0 (.agg #[.int .i64 0, .int .i64 0, .int .i64 0, .bool false, .slice none 0 0]) 5 56 Try.underlying28 hi0 hz0 hz1 hz2 rfl (by decide) (.slice q3 m c3) m cs rfl r3V ⟨gs, 0, none⟩ 1 1 (objC y (some ⟨gw, 0, none⟩) s) rfl rfl (HNW.out _ gs hgs) (fun u hu => one5 u hu) (by decide) (by unfold maxLen; omega) (by omega) hb_w5.size _ rfl ?_
        intro g cp w6 r6 g6 _ _
        have hb6 : Below V.heap.size V w6 := grown_below hb_w5 hb_w5.size r3V g6
        have hS6 := HSx.out _ hb6
        clear hHeld g6
        refine hKr6.out _ _ ?_ (fun hHeld => ?_)
        · exact hS6
        clear hKr6 Kr6 hS6
        (try simp only [Act.put, List.setIfInBounds_toArray, List.set_cons_zero, List.set_cons_succ])
        refine wpAnyH_take (i := 7) (oi := ⟨some 73, .fieldAddr 30 (.tmp 5) 2, 0, "ref.go:94", #[⟨0, .phase⟩, ⟨1, .phase⟩, ⟨2, .phase⟩, ⟨3, .phase⟩, ⟨4, .phase⟩, ⟨5, .phase⟩, ⟨6, .phase⟩], none⟩) (v := .pointer (some ⟨w.heap.size, 2, none⟩)) rfl (by kernel_rfl) (by kernel_rfl) (by kernel_rfl) (fun _ _ _ h => h) (Or.inl ⟨by rfl, ?_⟩) hHeld ?_
        · intro wq hSq
          obtain ⟨s0, s1, s2, s3, s4⟩ := hSq
          clear hHeld
          go_simp
        (try simp only [Act.put, List.setIfInBounds_toArray, List.set_cons_zero, List.set_cons_succ])
        refine wpAnyH_ready (rs := [8]) (by kernel_rfl) (by simp) ?_
        refine AllReadyH.cons (o := ⟨none, .store 28 (.tmp 73) (.tmp 72), 0, "ref.go:94", #[⟨7, .data⟩, ⟨6, .data⟩, ⟨6, .chain⟩, ⟨0, .phase⟩, ⟨1, .phase⟩, ⟨2, .phase⟩, ⟨3, .phase⟩, ⟨4, .phase⟩, ⟨5, .phase⟩, ⟨6, .phase⟩], none⟩) rfl (fun Kr8 hKr8 => ?_) AllReadyH.nil
        have kM := (hb6.block _ HVL.out).trans HMV.out
        have cM : World.cell? w6 ⟨w.heap.size, 2, none⟩ = some (.slice ha m hc) := cell_of_row _ _ 2 _ _ _ kM
        have fM := ice5 kM 2
        have hS8 := HSy.out _ hb6 (.slice (some ⟨g, 0, none⟩) (m + 1) cp)
        obtain ⟨w7, hw7⟩ : ∃ w7, w7 = w6.setCell ⟨w.heap.size, 2, none⟩ (.slice (some ⟨g, 0, none⟩) (m + 1) cp) := ⟨_, rfl⟩
        rw [← hw7] at hS8
        have HW7 := mkHid hw7
        have gB : V.heap.size ≤ g := by
          rcases r6.2 with ⟨h0, _⟩ | ⟨g', cap, cur, h0, h1, _⟩
          · cases h0
          · cases h0; exact h1
        have hgM : g ≠ w.heap.size := by have := HVL.out; omega
        have HFA : Hid (ApF own' w V (m + 1) (fun g cp => #[.int .i64 (cap : Int), .slice la n lc, .slice (some ⟨g, 0, none⟩) (m + 1) cp, .int .i64 (e : Int), .bool true]) (cs ++ objC y (some ⟨gw, 0, none⟩) s) w7 g cp) := by
          refine ⟨?_, ?_, ?_, ?_, gB, ?_⟩
          · rw [hw7, heap_setCell_same w6 w.heap.size 2 _ _ _ kM]; rfl
          · rw [hw7, set1_ne w6 (by omega)]; exact (hb6.block _ HVL2.out).trans HRV.out
          · rw [hw7]
            exact row_sameM r6 fun k hk => by
              have : g = k := by simpa [Value.ownBlock] using hk
              rw [← this, set1_ne w6 hgM]
          · rw [hw7]
            exact ((HBV.out.trans (hb6.mono HBV.out.size))).setCell (Nat.le_refl _) _
          · rw [hw7]
            exact (Chg.of_below hb6).setCell (b := w.heap.size) (Or.inl HOM.out) _ _
        clear hHeld kM r6 hb6 hw7
        go_simp
        rw [← HW7.out]
        refine hKr8.out _ _ ?_ (fun hHeld => ?_)
        · exact hS8
        clear hKr8 Kr8 hS8 HW7 cM fM
        (try simp only [Act.put, List.setIfInBounds_toArray, List.set_cons_zero, List.set_cons_succ])
        refine wpAnyH_done (by kernel_rfl) ?_ _
        clear hHeld
        exact HJN w7 q3 c3 gs g cp HFA.out
      · skip
        obtain ⟨w5, hw5⟩ : ∃ w5, w5 = (World.alloc V (.cells #[.int .i64 ti, .int .i64 ri, .int .i64 oi, .bool false, .slice (some ⟨gw, 0, none⟩) s s] 75)).drew := ⟨_, rfl⟩
        have hb_w5 : Below V.heap.size V w5 := by rw [hw5]; exact (Below.alloc (Below.refl _ V) (Nat.le_refl _) _).drew
        have hgs : w5.heap[(World.heap V).size]? = some (.cells #[.int .i64 ti, .int .i64 ri, .int .i64 oi, .bool false, .slice (some ⟨gw, 0, none⟩) s s] 75 (0, 0)) := by rw [hw5]; exact heap_alloc_new _ _
        obtain ⟨gs, hgse⟩ : ∃ gs, gs = (World.heap V).size := ⟨_, rfl⟩
        rw [← hgse] at hgs
        have hS5 := HSx.out _ hb_w5
        have HNM := mkHid hw5
        have HGE := mkHid hgse
        clear hHeld hw5 hgse
        go_simp
        rw [← HNM.out, ← HGE.out]
        refine hKr5.out _ _ ?_ (fun hHeld => ?_)
        · exact hS5
        clear hKr5 Kr5 hS5 HNM HGE
        (try simp only [Act.put, List.setIfInBounds_toArray, List.set_cons_zero, List.set_cons_succ])
        refine wpAnyH_ready (rs := [3]) (by kernel_rfl) (by simp) ?_
        refine AllReadyH.cons (o := ⟨some 69, .call ⟨.builtin .append, #[.tmp 66, .tmp 68], #[28, 28]⟩, 28, "ref.go:94", #[⟨0, .data⟩, ⟨2, .data⟩], none⟩) rfl (fun Kr3 hKr3 => ?_) AllReadyH.nil
        refine step_dup rfl (.tmp 66) (.tmp 68) 28 rfl 75 i0 (.agg #[.int .i64 0, .int .i64 0, .int .i64 0, .bool false, .slice none 0 0]) 5 56 Try.underlying28 hi0 hz0 hz1 hz2 rfl (by decide) rfl ha m hc cs rfl hnone' hclen (HCV.out _ hb_w5) HON.out (by unfold maxLen; omega) (by omega) ?_
        intro q3 c3 w4 r3 b3
        have hb_w4 : Below V.heap.size V w4 := hb_w5.trans (b3.mono hb_w5.size)
        have r3V : World.ownsRow w4 V.heap.size 75 5 (.slice q3 m c3) m cs := own_low r3 hb_w5.size
        have hS3 := HSx.out _ hb_w4
        clear hHeld r3
        refine hKr3.out _ _ ?_ (fun hHeld => ?_)
        · exact hS3
        clear hKr3 Kr3 hS3
        (try simp only [Act.put, List.setIfInBounds_toArray, List.set_cons_zero, List.set_cons_succ])
        refine wpAnyH_ready (rs := [6]) (by kernel_rfl) (by simp) ?_
        refine AllReadyH.cons (o := ⟨some 72, .call ⟨.builtin .append, #[.tmp 69, .tmp 71], #[28, 28]⟩, 28, "ref.go:94", #[⟨3, .data⟩, ⟨5, .data⟩, ⟨3, .chain⟩], none⟩) rfl (fun Kr6 hKr6 => ?_) AllReadyH.nil
        have hgs : w4.heap[gs]? = some (.cells #[.int .i64 ti, .int .i64 ri, .int .i64 oi, .bool false, .slice (some ⟨gw, 0, none⟩) s s] 75 (0, 0)) := (b3.block gs (Array.getElem?_eq_some_iff.1 hgs).1).trans hgs
        refine step_append_lies _ rfl (.tmp 69) (.tmp 71) 28 rfl V.heap.size 75 i0 (.agg #[.int .i64 0, .int .i64 0, .int .i64 0, .bool false, .slice none 0 0]) 5 56 Try.underlying28 hi0 hz0 hz1 hz2 rfl (by decide) (.slice q3 m c3) m cs rfl r3V ⟨gs, 0, none⟩ 1 1 (objC y (some ⟨gw, 0, none⟩) s) rfl rfl (HNW.out _ gs hgs) (fun u hu => one5 u hu) (by decide) (by unfold maxLen; omega) (by omega) hb_w4.size _ rfl ?_
        intro g cp w6 r6 g6 _ _
        have hb6 : Below V.heap.size V w6 := grown_below hb_w4 hb_w4.size r3V g6
        have hS6 := HSx.out _ hb6
        clear hHeld g6
        refine hKr6.out _ _ ?_ (fun hHeld => ?_)
        · exact hS6
        clear hKr6 Kr6 hS6
        (try simp only [Act.put, List.setIfInBounds_toArray, List.set_cons_zero, List.set_cons_succ])
        refine wpAnyH_take (i := 7) (oi := ⟨some 73, .fieldAddr 30 (.tmp 5) 2, 0, "ref.go:94", #[⟨0, .phase⟩, ⟨1, .phase⟩, ⟨2, .phase⟩, ⟨3, .phase⟩, ⟨4, .phase⟩, ⟨5, .phase⟩, ⟨6, .phase⟩], none⟩) (v := .pointer (some ⟨w.heap.size, 2, none⟩)) rfl (by kernel_rfl) (by kernel_rfl) (by kernel_rfl) (fun _ _ _ h => h) (Or.inl ⟨by rfl, ?_⟩) hHeld ?_
        · intro wq hSq
          obtain ⟨s0, s1, s2, s3, s4⟩ := hSq
          clear hHeld
          go_simp
        (try simp only [Act.put, List.setIfInBounds_toArray, List.set_cons_zero, List.set_cons_succ])
        refine wpAnyH_ready (rs := [8]) (by kernel_rfl) (by simp) ?_
        refine AllReadyH.cons (o := ⟨none, .store 28 (.tmp 73) (.tmp 72), 0, "ref.go:94", #[⟨7, .data⟩, ⟨6, .data⟩, ⟨6, .chain⟩, ⟨0, .phase⟩, ⟨1, .phase⟩, ⟨2, .phase⟩, ⟨3, .phase⟩, ⟨4, .phase⟩, ⟨5, .phase⟩, ⟨6, .phase⟩], none⟩) rfl (fun Kr8 hKr8 => ?_) AllReadyH.nil
        have kM := (hb6.block _ HVL.out).trans HMV.out
        have cM : World.cell? w6 ⟨w.heap.size, 2, none⟩ = some (.slice ha m hc) := cell_of_row _ _ 2 _ _ _ kM
        have fM := ice5 kM 2
        have hS8 := HSy.out _ hb6 (.slice (some ⟨g, 0, none⟩) (m + 1) cp)
        obtain ⟨w7, hw7⟩ : ∃ w7, w7 = w6.setCell ⟨w.heap.size, 2, none⟩ (.slice (some ⟨g, 0, none⟩) (m + 1) cp) := ⟨_, rfl⟩
        rw [← hw7] at hS8
        have HW7 := mkHid hw7
        have gB : V.heap.size ≤ g := by
          rcases r6.2 with ⟨h0, _⟩ | ⟨g', cap, cur, h0, h1, _⟩
          · cases h0
          · cases h0; exact h1
        have hgM : g ≠ w.heap.size := by have := HVL.out; omega
        have HFA : Hid (ApF own' w V (m + 1) (fun g cp => #[.int .i64 (cap : Int), .slice la n lc, .slice (some ⟨g, 0, none⟩) (m + 1) cp, .int .i64 (e : Int), .bool true]) (cs ++ objC y (some ⟨gw, 0, none⟩) s) w7 g cp) := by
          refine ⟨?_, ?_, ?_, ?_, gB, ?_⟩
          · rw [hw7, heap_setCell_same w6 w.heap.size 2 _ _ _ kM]; rfl
          · rw [hw7, set1_ne w6 (by omega)]; exact (hb6.block _ HVL2.out).trans HRV.out
          · rw [hw7]
            exact row_sameM r6 fun k hk => by
              have : g = k := by simpa [Value.ownBlock] using hk
              rw [← this, set1_ne w6 hgM]
          · rw [hw7]
            exact ((HBV.out.trans (hb6.mono HBV.out.size))).setCell (Nat.le_refl _) _
          · rw [hw7]
            exact (Chg.of_below hb6).setCell (b := w.heap.size) (Or.inl HOM.out) _ _
        clear hHeld kM r6 hb6 hw7
        go_simp
        rw [← HW7.out]
        refine hKr8.out _ _ ?_ (fun hHeld => ?_)
        · exact hS8
        clear hKr8 Kr8 hS8 HW7 cM fM
        (try simp only [Act.put, List.setIfInBounds_toArray, List.set_cons_zero, List.set_cons_succ])
        refine wpAnyH_done (by kernel_rfl) ?_ _
        clear hHeld
        exact HJN w7 q3 c3 gs g cp HFA.out
    · skip
      obtain ⟨w5, hw5⟩ : ∃ w5, w5 = (World.alloc V (.cells #[.int .i64 ti, .int .i64 ri, .int .i64 oi, .bool false, .slice (some ⟨gw, 0, none⟩) s s] 75)).drew := ⟨_, rfl⟩
      have hb_w5 : Below V.heap.size V w5 := by rw [hw5]; exact (Below.alloc (Below.refl _ V) (Nat.le_refl _) _).drew
      have hgs : w5.heap[(World.heap V).size]? = some (.cells #[.int .i64 ti, .int .i64 ri, .int .i64 oi, .bool false, .slice (some ⟨gw, 0, none⟩) s s] 75 (0, 0)) := by rw [hw5]; exact heap_alloc_new _ _
      obtain ⟨gs, hgse⟩ : ∃ gs, gs = (World.heap V).size := ⟨_, rfl⟩
      rw [← hgse] at hgs
      have hS5 := HSx.out _ hb_w5
      have HNM := mkHid hw5
      have HGE := mkHid hgse
      clear hHeld hw5 hgse
      go_simp
      rw [← HNM.out, ← HGE.out]
      refine hKr5.out _ _ ?_ (fun hHeld => ?_)
      · exact hS5
      clear hKr5 Kr5 hS5 HNM HGE
      (try simp only [Act.put, List.setIfInBounds_toArray, List.set_cons_zero, List.set_cons_succ])
      refine wpAnyH_ready (rs := [2]) (by kernel_rfl) (by simp) ?_
      refine AllReadyH.cons (o := ⟨some 68, .load 28 (.tmp 67), 28, "ref.go:94", #[⟨1, .data⟩], none⟩) rfl (fun Kr2 hKr2 => ?_) AllReadyH.nil
      have hc2 : World.cell? _ ⟨w.heap.size, 2, none⟩ = some (.slice ha m hc) := cell_of_row _ _ 2 _ _ _ ((hb_w5.block _ HVL.out).trans HMV.out)
      have hS2 := hHeld
      clear hHeld
      go_simp
      refine hKr2.out _ _ ?_ (fun hHeld => ?_)
      · exact hS2
      clear hKr2 Kr2 hS2 hc2
      (try simp only [Act.put, List.setIfInBounds_toArray, List.set_cons_zero, List.set_cons_succ])
      refine wpAnyH_ready (rs := [3]) (by kernel_rfl) (by simp) ?_
      refine AllReadyH.cons (o := ⟨some 69, .call ⟨.builtin .append, #[.tmp 66, .tmp 68], #[28, 28]⟩, 28, "ref.go:94", #[⟨0, .data⟩, ⟨2, .data⟩], none⟩) rfl (fun Kr3 hKr3 => ?_) AllReadyH.nil
      refine step_dup rfl (.tmp 66) (.tmp 68) 28 rfl 75 i0 (.agg #[.int .i64 0, .int .i64 0, .int .i64 0, .bool false, .slice none 0 0]) 5 56 Try.underlying28 hi0 hz0 hz1 hz2 rfl (by decide) rfl ha m hc cs rfl hnone' hclen (HCV.out _ hb_w5) HON.out (by unfold maxLen; omega) (by omega) ?_
      intro q3 c3 w4 r3 b3
      have hb_w4 : Below V.heap.size V w4 := hb_w5.trans (b3.mono hb_w5.size)
      have r3V : World.ownsRow w4 V.heap.size 75 5 (.slice q3 m c3) m cs := own_low r3 hb_w5.size
      have hS3 := HSx.out _ hb_w4
      clear hHeld r3
      refine hKr3.out _ _ ?_ (fun hHeld => ?_)
      · exact hS3
      clear hKr3 Kr3 hS3
      (try simp only [Act.put, List.setIfInBounds_toArray, List.set_cons_zero, List.set_cons_succ])
      refine wpAnyH_ready (rs := [6]) (by kernel_rfl) (by simp) ?_
      refine AllReadyH.cons (o := ⟨some 72, .call ⟨.builtin .append, #[.tmp 69, .tmp 71], #[28, 28]⟩, 28, "ref.go:94", #[⟨3, .data⟩, ⟨5, .data⟩, ⟨3, .chain⟩], none⟩) rfl (fun Kr6 hKr6 => ?_) AllReadyH.nil
      have hgs : w4.heap[gs]? = some (.cells #[.int .i64 ti, .int .i64 ri, .int .i64 oi, .bool false, .slice (some ⟨gw, 0, none⟩) s s] 75 (0, 0)) := (b3.block gs (Array.getElem?_eq_some_iff.1 hgs).1).trans hgs
      refine step_append_lies _ rfl (.tmp 69) (.tmp 71) 28 rfl V.heap.size 75 i0 (.agg #[.int .i64 0, .int .i64 0, .int .i64 0, .bool false, .slice none 0 0]) 5 56 Try.underlying28 hi0 hz0 hz1 hz2 rfl (by decide) (.slice q3 m c3) m cs rfl r3V ⟨gs, 0, none⟩ 1 1 (objC y (some ⟨gw, 0, none⟩) s) rfl rfl (HNW.out _ gs hgs) (fun u hu => one5 u hu) (by decide) (by unfold maxLen; omega) (by omega) hb_w4.size _ rfl ?_
      intro g cp w6 r6 g6 _ _
      have hb6 : Below V.heap.size V w6 := grown_below hb_w4 hb_w4.size r3V g6
      have hS6 := HSx.out _ hb6
      clear hHeld g6
      refine hKr6.out _ _ ?_ (fun hHeld => ?_)
      · exact hS6
      clear hKr6 Kr6 hS6
      (try simp only [Act.put, List.setIfInBounds_toArray, List.set_cons_zero, List.set_cons_succ])
      refine wpAnyH_take (i := 7) (oi := ⟨some 73, .fieldAddr 30 (.tmp 5) 2, 0, "ref.go:94", #[⟨0, .phase⟩, ⟨1, .phase⟩, ⟨2, .phase⟩, ⟨3, .phase⟩, ⟨4, .phase⟩, ⟨5, .phase⟩, ⟨6, .phase⟩], none⟩) (v := .pointer (some ⟨w.heap.size, 2, none⟩)) rfl (by kernel_rfl) (by kernel_rfl) (by kernel_rfl) (fun _ _ _ h => h) (Or.inl ⟨by rfl, ?_⟩) hHeld ?_
      · intro wq hSq
        obtain ⟨s0, s1, s2, s3, s4⟩ := hSq
        clear hHeld
        go_simp
      (try simp only [Act.put, List.setIfInBounds_toArray, List.set_cons_zero, List.set_cons_succ])
      refine wpAnyH_ready (rs := [8]) (by kernel_rfl) (by simp) ?_
      refine AllReadyH.cons (o := ⟨none, .store 28 (.tmp 73) (.tmp 72), 0, "ref.go:94", #[⟨7, .data⟩, ⟨6, .data⟩, ⟨6, .chain⟩, ⟨0, .phase⟩, ⟨1, .phase⟩, ⟨2, .phase⟩, ⟨3, .phase⟩, ⟨4, .phase⟩, ⟨5, .phase⟩, ⟨6, .phase⟩], none⟩) rfl (fun Kr8 hKr8 => ?_) AllReadyH.nil
      have kM := (hb6.block _ HVL.out).trans HMV.out
      have cM : World.cell? w6 ⟨w.heap.size, 2, none⟩ = some (.slice ha m hc) := cell_of_row _ _ 2 _ _ _ kM
      have fM := ice5 kM 2
      have hS8 := HSy.out _ hb6 (.slice (some ⟨g, 0, none⟩) (m + 1) cp)
      obtain ⟨w7, hw7⟩ : ∃ w7, w7 = w6.setCell ⟨w.heap.size, 2, none⟩ (.slice (some ⟨g, 0, none⟩) (m + 1) cp) := ⟨_, rfl⟩
      rw [← hw7] at hS8
      have HW7 := mkHid hw7
      have gB : V.heap.size ≤ g := by
        rcases r6.2 with ⟨h0, _⟩ | ⟨g', cap, cur, h0, h1, _⟩
        · cases h0
        · cases h0; exact h1
      have hgM : g ≠ w.heap.size := by have := HVL.out; omega
      have HFA : Hid (ApF own' w V (m + 1) (fun g cp => #[.int .i64 (cap : Int), .slice la n lc, .slice (some ⟨g, 0, none⟩) (m + 1) cp, .int .i64 (e : Int), .bool true]) (cs ++ objC y (some ⟨gw, 0, none⟩) s) w7 g cp) := by
        refine ⟨?_, ?_, ?_, ?_, gB, ?_⟩
        · rw [hw7, heap_setCell_same w6 w.heap.size 2 _ _ _ kM]; rfl
        · rw [hw7, set1_ne w6 (by omega)]; exact (hb6.block _ HVL2.out).trans HRV.out
        · rw [hw7]
          exact row_sameM r6 fun k hk => by
            have : g = k := by simpa [Value.ownBlock] using hk
            rw [← this, set1_ne w6 hgM]
        · rw [hw7]
          exact ((HBV.out.trans (hb6.mono HBV.out.size))).setCell (Nat.le_refl _) _
        · rw [hw7]
          exact (Chg.of_below hb6).setCell (b := w.heap.size) (Or.inl HOM.out) _ _
      clear hHeld kM r6 hb6 hw7
      go_simp
      rw [← HW7.out]
      refine hKr8.out _ _ ?_ (fun hHeld => ?_)
      · exact hS8
      clear hKr8 Kr8 hS8 HW7 cM fM
      (try simp only [Act.put, List.setIfInBounds_toArray, List.set_cons_zero, List.set_cons_succ])
      refine wpAnyH_done (by kernel_rfl) ?_ _
      clear hHeld
      exact HJN w7 q3 c3 gs g cp HFA.out
  case h2 =>
    rintro W7 q3 c3 gs g cp ⟨kM, kR, hr7, hb7, hgV, hc7⟩
    have HC7 := mkHid hc7
    have HKR := mkHid kR
    have HR7 := mkHid hr7
    have HB7 := mkHid hb7
    obtain ⟨p0, p1, p2, p3, p4⟩ := five_cells kM
    obtain ⟨x0, x1, x2, x3, x4⟩ := five_cells kR
    have z0 := ice5 kR 0
    have z1 := ice5 kR 1
    have z2 := ice5 kR 2
    have z3 := ice5 kR 3
    have z4 := ice5 kR 4
    have HGV := mkHid hgV
    clear kM kR hr7 hb7 hgV hc7
    go_wp2_with fail
    have hfin := put5 HKR.out (.int .i64 (cap : Int)) (.slice la n lc) (.slice (some ⟨g, 0, none⟩) (m + 1) cp) (.int .i64 (e : Int)) (.bool true) 
    obtain ⟨e0, e1, e2, e3, e4⟩ := five_cells hfin
    have hbw := set5_below HB7.out (b := w.heap.size + 1) (by omega) (.int .i64 (cap : Int)) (.slice la n lc) (.slice (some ⟨g, 0, none⟩) (m + 1) cp) (.int .i64 (e : Int)) (.bool true)
    refine bodyPost_ret (by simp [results, Try.results26, go_sem, e0, e1, e2, e3, e4]; rfl) rfl ?_
    have r8 := row_set5 HR7.out (b := w.heap.size + 1) (fun q hq => by
      have : g = q := by simpa [Value.ownBlock] using hq
      have := HGV.out
      have := HVL2.out
      omega) (.int .i64 (cap : Int)) (.slice la n lc) (.slice (some ⟨g, 0, none⟩) (m + 1) cp) (.int .i64 (e : Int)) (.bool true)
    have hrr := (((HCS.out.chg (Chg.of_below HBV.out)).more HYW.out).chg HC7.out).chg (set5_chg HOR.out (.int .i64 (cap : Int)) (.slice la n lc) (.slice (some ⟨g, 0, none⟩) (m + 1) cp) (.int .i64 (e : Int)) (.bool true))
    obtain ⟨a7, c7, e7, h7⟩ := ObR.of_own hrr r8 (by rw [HY.out]; exact HLN.out) (fun q hq ho => by
      have : g = q := by simpa [Value.ownBlock] using hq
      have := HO3.out q ho
      have := HGV.out
      have := HVL2.out
      omega)
    rw [HY.out] at h7
    refine ⟨⟨la, lc, a7, c7, ?_, MA.weaken (own' := own') ⟨(HMA.out.below hbw).lo, h7⟩ HO2.out⟩, hbw⟩
    unfold mV
    rw [HLN.out, ← HNN.out, e7]
set_option maxHeartbeats 2000000 in
set_option maxRecDepth 100000 in
theorem rAlloc_lo (h : MA own w la lc ha hc Lo Hi) (hl : tot Lo ≤ 1048576) (hh : e + tot Hi ≤ 1048576) (hcap : cap ≤ 1048576) (t r s o : Nat) (h1 : 1 ≤ t) (h2 : t < 256) (h3 : r ≤ s) (h4 : s ≤ 4096) (h5 : o < 1048576) (hown : ∀ k, own k → k < w.heap.size) (hroom : topOf Lo Hi e false + 1 + s ≤ cap) : Calls Try.prog 26 #[mV cap la lc ha hc Lo Hi e false, .int .i64 t, .int .i64 r, .int .i64 s, .int .i64 o] w fun x w' => AllocSay own w' cap (Lo ++ [⟨t, r, o, false, List.replicate s 0⟩]) Hi e false (topOf Lo Hi e false) x ∧ Below w.heap.size w w' := by
  obtain ⟨i0, hi0, hz0, hz1, hz2⟩ := info_parts infoOb
  obtain ⟨ti, hti⟩ : ∃ ti : Int, ti = (t : Int) := ⟨_, rfl⟩
  obtain ⟨ri, hri⟩ : ∃ ri : Int, ri = (r : Int) := ⟨_, rfl⟩
  obtain ⟨si, hsi⟩ : ∃ si : Int, si = (s : Int) := ⟨_, rfl⟩
  obtain ⟨oi, hoi⟩ : ∃ oi : Int, oi = (o : Int) := ⟨_, rfl⟩
  rw [← hti, ← hri, ← hsi, ← hoi]
  have f1 : ¬ ti < 1 := by omega
  have f2 : ¬ 255 < ti := by omega
  have f3 : ¬ si < 0 := by omega
  have f4 : ¬ 4096 < si := by omega
  have f5 : ¬ ri < 0 := by omega
  have f6 : ¬ si < ri := by omega
  have f7 : ¬ oi < 0 := by omega
  have f8 : ¬ 1048576 ≤ oi := by omega
  have HTP := mkHid (fun (u : World) (b : Below w.heap.size w u) => rTop_any (cap := cap) (op := false) (h.below b) hl hh)
  obtain ⟨T, hT⟩ : ∃ T, T = topOf Lo Hi e false := ⟨_, rfl⟩
  rw [← hT] at HTP hroom
  have hfew := MA.few hl hh
  have hmore : Lo.length + 1 ≤ 1048576 := by
    have := len_tot Lo
    have : T = tot Lo := by rw [hT]; rfl
    omega
  rw [← hT]
  obtain ⟨own', hown'⟩ : ∃ own' : Nat → Prop, own' = fun k => own k ∨ k = w.heap.size ∨ k = w.heap.size + 1 := ⟨_, rfl⟩
  have hW : MA own' w la lc ha hc Lo Hi := h.widen fun k hk => by
    rw [hown'] at hk
    rcases hk with hk | hk | hk
    · exact Or.inl hk
    · exact Or.inr (by omega)
    · exact Or.inr (by omega)
  have HO2 : Hid (∀ k, own k → own' k) := fun k hk => by rw [hown']; exact Or.inl hk
  have HOM : Hid (own' w.heap.size) := by rw [hown']; exact Or.inr (Or.inl rfl)
  have HOR : Hid (own' (w.heap.size + 1)) := by rw [hown']; exact Or.inr (Or.inr rfl)
  have HO3 : Hid (∀ k, own' k → k < w.heap.size + 2) := fun k hk => by
    rw [hown'] at hk
    rcases hk with hk | hk | hk
    · have := hown k hk; omega
    · omega
    · omega
  obtain ⟨cs, hcs, hcell, hone⟩ := hW.lo.row2
  have hclen := hcs.1
  have hnone := hW.lo.nn
  have HMA := mkHid hW
  have HCS := mkHid hcs
  have HCE := mkHid hcell
  have HON := mkHid hone
  have HMK := mkHid (fun u : World => run_make_row' (P := Try.prog) 41 33 (.int .u64 0) 8 Try.underlying41 (by kernel_rfl) rfl .i64 .i64 s (by omega) (by omega) u)
  rw [← hsi] at HMK
  have HTI := mkHid hti
  have HRI := mkHid hri
  have HSI := mkHid hsi
  have HOI := mkHid hoi
  unfold mV at HTP ⊢
  obtain ⟨W0, hW0, hb0, hs0, k0, k1⟩ := boxes5 w (.int .i64 (cap : Int)) (.slice la Lo.length lc) (.slice ha Hi.length hc) (.int .i64 (e : Int)) (.bool false) (.int .i64 0) (.slice none 0 0) (.slice none 0 0) (.int .i64 0) (.bool false) 30 30
  have HB0 := mkHid hb0
  have HW0 := mkHid hW0
  have HS0 := mkHid hs0
  have HK0 := mkHid k0
  have HK1 := mkHid k1
  obtain ⟨n, hn⟩ : ∃ n, n = Lo.length := ⟨_, rfl⟩
  obtain ⟨m, hm⟩ : ∃ m, m = Hi.length := ⟨_, rfl⟩
  have hnone' : la = none → n = 0 ∧ lc = 0 := fun e => by
    obtain ⟨e1, e2⟩ := hnone e
    rw [e1] at hn
    exact ⟨hn, e2⟩
  have hnb : n + 1 ≤ 1048576 := by omega
  rw [← hn] at hclen
  have HLN : Hid ((Lo ++ [(⟨t, r, o, false, List.replicate s 0⟩ : Ob)]).length = n + 1) := by show _ = _; rw [List.length_append, hn]; rfl
  rw [← hn, ← hm] at HTP HW0 HK0 ⊢
  have HNN := mkHid hn
  have HMM := mkHid hm
  have hlt : ¬ (cap : Int) - (T : Int) < si + 1 := by omega
  have hTb : T ≤ 1048576 := by omega
  obtain ⟨y, hy⟩ : ∃ y : Ob, y = ⟨t, r, o, false, List.replicate s 0⟩ := ⟨_, rfl⟩
  have HY := mkHid hy
  clear h hW hl hh hW0 hb0 hs0 k0 k1 hT hown hown' hcs hcell hone hnone hn hm hfew hmore hroom hy hti hri hsi hoi
  go_enter Try.func26, Try.ntmps26
  refine wp_seq_k (fun K1 hkA => ?_)
  have HK := mkHid hkA
  clear hkA
  go_wp2_with fail
  rw [← HW0.out]
  refine HK.out _ _ ?_
  clear HK
  obtain ⟨p0, p1, p2, p3, p4⟩ := five_cells HK0.out
  go_wp2_with fail
  refine (HTP.out _ HB0.out).mono ?_
  rintro x w2 ⟨rfl, b2⟩
  have k0 := HK0.out
  rw [← b2.block _ (by have := HS0.out; omega)] at k0
  have k1 := HK1.out
  rw [← b2.block _ (by have := HS0.out; omega)] at k1
  have hs2 : w.heap.size + 2 ≤ w2.heap.size := by have := b2.size; have := HS0.out; omega
  have HB2 := mkHid (HB0.out.trans (b2.mono HB0.out.size))
  have hm2 := HMK.out w2
  obtain ⟨W3, hW3⟩ : ∃ W3, W3 = w2.alloc (.cells (madeCells #[.int .u64 0] s) 33) := ⟨_, rfl⟩
  rw [← hW3] at hm2
  obtain ⟨gw, hgw⟩ : ∃ gw, gw = w2.heap.size := ⟨_, rfl⟩
  rw [← hgw] at hm2
  obtain ⟨N, hN⟩ : ∃ N, N = W3.heap.size := ⟨_, rfl⟩
  obtain ⟨V, hV⟩ : ∃ V, V = W3.alloc (.cells #[.int .i64 ti, .int .i64 ri, .int .i64 oi, .bool false, .slice (some ⟨gw, 0, none⟩) s s] 75) := ⟨_, rfl⟩
  have b3 : Below w2.heap.size w2 W3 := by rw [hW3]; exact (Below.refl _ _).alloc (Nat.le_refl _) _
  have b4 : Below W3.heap.size W3 V := by rw [hV]; exact (Below.refl _ _).alloc (Nat.le_refl _) _
  have s3 : W3.heap.size = w2.heap.size + 1 := by rw [hW3]; simp
  have s4 : V.heap.size = W3.heap.size + 1 := by rw [hV]; simp
  have b24 := b3.trans (b4.mono b3.size)
  have HMV : Hid (V.heap[w.heap.size]? = _) := mkHid ((b24.block _ (by omega)).trans k0)
  have HRV : Hid (V.heap[w.heap.size + 1]? = _) := mkHid ((b24.block _ (by omega)).trans k1)
  have HBV := mkHid (HB2.out.trans (b24.mono (by omega)))
  have HVL : Hid (w.heap.size < V.heap.size) := by show _ < _; omega
  have HVL2 : Hid (w.heap.size + 1 < V.heap.size) := by show _ < _; omega
  have kN : V.heap[N]? = some (.cells #[.int .i64 ti, .int .i64 ri, .int .i64 oi, .bool false, .slice (some ⟨gw, 0, none⟩) s s] 75 (0, 0)) := by rw [hN, hV]; exact heap_alloc_new W3 _
  have kw : V.heap[gw]? = some (.cells (wcells (List.replicate s 0)) 33 (0, 0)) := by
    rw [b4.block gw (by omega), hgw, hW3, made_words]
    exact heap_alloc_new w2 _
  have hyw : OWs own' V y (some ⟨gw, 0, none⟩) s := by
    rw [HY.out]
    refine ⟨fun h => (by cases h), Or.inr ⟨gw, 0, rfl, by omega, fun hg => by have := HO3.out gw hg; omega, fun q hq => ?_⟩, fun q => ?_, ?_⟩
    · rw [Nat.zero_add, cell_of_row V gw q _ _ _ kw]
      have hq' : q < s := by simpa using hq
      simp [wcells, hq']
    · dsimp only
      rw [rep_zero]; decide
    · dsimp only
      rw [List.length_replicate]; omega
  have HYW := mkHid hyw
  have hNM : N ≠ w.heap.size := by omega
  have hNl : N < V.heap.size := by omega
  have HSx : Hid (∀ u, Below V.heap.size V u → u.cell? ⟨N, 0, none⟩ = some (.int .i64 ti) ∧ u.cell? ⟨N, 1, none⟩ = some (.int .i64 ri) ∧ u.cell? ⟨N, 2, none⟩ = some (.int .i64 oi) ∧ u.cell? ⟨N, 3, none⟩ = some (.bool false) ∧ u.cell? ⟨N, 4, none⟩ = some (.slice (some ⟨gw, 0, none⟩) s s)) := fun u hu => five_cells ((hu.block N hNl).trans kN)
  have HSy : Hid (∀ u, Below V.heap.size V u → ∀ v, (u.setCell ⟨w.heap.size, 1, none⟩ v).cell? ⟨N, 0, none⟩ = some (.int .i64 ti) ∧ (u.setCell ⟨w.heap.size, 1, none⟩ v).cell? ⟨N, 1, none⟩ = some (.int .i64 ri) ∧ (u.setCell ⟨w.heap.size, 1, none⟩ v).cell? ⟨N, 2, none⟩ = some (.int .i64 oi) ∧ (u.setCell ⟨w.heap.size, 1, none⟩ v).cell? ⟨N, 3, none⟩ = some (.bool false) ∧ (u.setCell ⟨w.heap.size, 1, none⟩ v).cell? ⟨N, 4, none⟩ = some (.slice (some ⟨gw, 0, none⟩) s s)) := fun u hu v => by
    obtain ⟨a0, a1, a2, a3, a4⟩ := HSx.out u hu
    exact ⟨(cell_set1 u hNM).trans a0, (cell_set1 u hNM).trans a1, (cell_set1 u hNM).trans a2, (cell_set1 u hNM).trans a3, (cell_set1 u hNM).trans a4⟩
  have HCV := mkHid (fun (u : World) (hu : Below V.heap.size V u) => HCE.out u (HBV.out.trans (hu.mono HBV.out.size)))
  have HNW : Hid (∀ (u : World) (gs : Nat), u.heap[gs]? = some (.cells #[.int .i64 ti, .int .i64 ri, .int .i64 oi, .bool false, .slice (some ⟨gw, 0, none⟩) s s] 75 (0, 0)) → ∀ (j : Nat) (v : Value), (objC y (some ⟨gw, 0, none⟩) s)[j]? = some v → u.cell? ((⟨gs, 0, none⟩ : Addr).add j) = some v) := fun u gs hg j v hv => by
    refine news5 (y := y) ?_ j v hv
    rw [hg, HY.out, HTI.out, HRI.out, HOI.out]
    simp
  have HVE := mkHid hV
  have HW3 := mkHid hW3
  have HNE := mkHid hN
  obtain ⟨p0, p1, p2, p3, p4⟩ := five_cells k0
  clear b2 b3 b4 b24 k0 k1 kN kw hyw hV hW3 hgw hN HMK s3 s4
  go_upto_region 8 with fail
  rw [← HNE.out, ← HVE.out]
  obtain ⟨p0, p1, p2, p3, p4⟩ := five_cells HMV.out
  go_upto_region 10 with fail
  clear p0 p1 p2 p3 p4 hm2
  refine' ap_join _ (fun W q c gs g cp => ApF own' w V (n + 1) (fun g cp => #[.int .i64 (cap : Int), .slice (some ⟨g, 0, none⟩) (n + 1) cp, .slice ha m hc, .int .i64 (e : Int), .bool false]) (cs ++ objC y (some ⟨gw, 0, none⟩) s) W g cp) ?h1 ?h2
  case h1 =>
    intro HJN
    have hb0 : Below V.heap.size V V.drew := (Below.refl _ V).drew
    refine wp_region_held_drew (S := fun u => u.cell? ⟨N, 0, none⟩ = some (.int .i64 ti) ∧ u.cell? ⟨N, 1, none⟩ = some (.int .i64 ri) ∧ u.cell? ⟨N, 2, none⟩ = some (.int .i64 oi) ∧ u.cell? ⟨N, 3, none⟩ = some (.bool false) ∧ u.cell? ⟨N, 4, none⟩ = some (.slice (some ⟨gw, 0, none⟩) s s)) (by kernel_rfl) ?_ (fun hHeld => ?_)
    · exact HSx.out _ hb0
    refine wpAnyH_take (i := 0) (oi := ⟨some 74, .move (.tmp 15), 28, "ref.go:96", #[], none⟩) (v := .slice none 0 0) rfl (by kernel_rfl) (by kernel_rfl) (by kernel_rfl) (fun _ _ _ h => h) (Or.inl ⟨by rfl, ?_⟩) hHeld ?_
    · intro wq hSq
      obtain ⟨s0, s1, s2, s3, s4⟩ := hSq
      clear hHeld
      go_simp
    (try simp only [Act.put, List.setIfInBounds_toArray, List.set_cons_zero, List.set_cons_succ])
    refine wpAnyH_take (i := 1) (oi := ⟨some 75, .fieldAddr 30 (.tmp 5) 1, 0, "ref.go:96", #[], none⟩) (v := .pointer (some ⟨w.heap.size, 1, none⟩)) rfl (by kernel_rfl) (by kernel_rfl) (by kernel_rfl) (fun _ _ _ h => h) (Or.inl ⟨by rfl, ?_⟩) hHeld ?_
    · intro wq hSq
      obtain ⟨s0, s1, s2, s3, s4⟩ := hSq
      clear hHeld
      go_simp
    (try simp only [Act.put, List.setIfInBounds_toArray, List.set_cons_zero, List.set_cons_succ])
    refine wpAnyH_take (i := 4) (oi := ⟨some 78, .load 75 (.tmp 14), 75, "ref.go:96", #[], none⟩) (v := .agg #[.int .i64 ti, .int .i64 ri, .int .i64 oi, .bool false, .slice (some ⟨gw, 0, none⟩) s s]) rfl (by kernel_rfl) (by kernel_rfl) (by kernel_rfl) (fun _ _ _ h => h) (Or.inl ⟨by rfl, ?_⟩) hHeld ?_
    · intro wq hSq
      obtain ⟨s0, s1, s2, s3, s4⟩ := hSq
      clear hHeld
      go_simp
    (try simp only [Act.put, List.setIfInBounds_toArray, List.set_cons_zero, List.set_cons_succ])
    refine wpAnyH_ready (rs := [2, 5]) (by kernel_rfl) (by simp) ?_
    refine AllReadyH.cons (o := ⟨some 76, .load 28 (.tmp 75), 28, "ref.go:96", #[⟨1, .data⟩], none⟩) rfl (fun Kr2 hKr2 => ?_) (AllReadyH.cons (o := ⟨some 79, .buildSlice 28 1 #[(0, .tmp 78)], 28, "ref.go:96", #[⟨4, .data⟩], none⟩) rfl (fun Kr5 hKr5 => ?_) AllReadyH.nil)
    · skip
      have hc2 : World.cell? _ ⟨w.heap.size, 1, none⟩ = some (.slice la n lc) := cell_of_row _ _ 1 _ _ _ ((hb0.block _ HVL.out).trans HMV.out)
      have hS2 := hHeld
      clear hHeld
      go_simp
      refine hKr2.out _ _ ?_ (fun hHeld => ?_)
      · exact hS2
      clear hKr2 Kr2 hS2 hc2
      (try simp only [Act.put, List.setIfInBounds_toArray, List.set_cons_zero, List.set_cons_succ])
      refine wpAnyH_ready (rs := [3, 5]) (by kernel_rfl) (by simp) ?_
      refine AllReadyH.cons (o := ⟨some 77, .call ⟨.builtin .append, #[.tmp 74, .tmp 76], #[28, 28]⟩, 28, "ref.go:96", #[⟨0, .data⟩, ⟨2, .data⟩], none⟩) rfl (fun Kr3 hKr3 => ?_) (AllReadyH.cons (o := ⟨some 79, .buildSlice 28 1 #[(0, .tmp 78)], 28, "ref.go:96", #[⟨4, .data⟩], none⟩) rfl (fun Kr5 hKr5 => ?_) AllReadyH.nil)
      · skip
        refine step_dup rfl (.tmp 74) (.tmp 76) 28 rfl 75 i0 (.agg #[.int .i64 0, .int .i64 0, .int .i64 0, .bool false, .slice none 0 0]) 5 56 Try.underlying28 hi0 hz0 hz1 hz2 rfl (by decide) rfl la n lc cs rfl hnone' hclen (HCV.out _ hb0) HON.out (by unfold maxLen; omega) (by omega) ?_
        intro q3 c3 w4 r3 b3
        have hb_w4 : Below V.heap.size V w4 := hb0.trans (b3.mono hb0.size)
        have r3V : World.ownsRow w4 V.heap.size 75 5 (.slice q3 n c3) n cs := own_low r3 hb0.size
        have hS3 := HSx.out _ hb_w4
        clear hHeld r3
        refine hKr3.out _ _ ?_ (fun hHeld => ?_)
        · exact hS3
        clear hKr3 Kr3 hS3
        (try simp only [Act.put, List.setIfInBounds_toArray, List.set_cons_zero, List.set_cons_succ])
        refine wpAnyH_ready (rs := [5]) (by kernel_rfl) (by simp) ?_
        refine AllReadyH.cons (o := ⟨some 79, .buildSlice 28 1 #[(0, .tmp 78)], 28, "ref.go:96", #[⟨4, .data⟩], none⟩) rfl (fun Kr5 hKr5 => ?_) AllReadyH.nil
        obtain ⟨w5, hw5⟩ : ∃ w5, w5 = (World.alloc w4 (.cells #[.int .i64 ti, .int .i64 ri, .int .i64 oi, .bool false, .slice (some ⟨gw, 0, none⟩) s s] 75)) := ⟨_, rfl⟩
        have hb_w5 : Below V.heap.size V w5 := by rw [hw5]; exact (Below.alloc hb_w4 hb_w4.size _)
        have hgs : w5.heap[(World.heap w4).size]? = some (.cells #[.int .i64 ti, .int .i64 ri, .int .i64 oi, .bool false, .slice (some ⟨gw, 0, none⟩) s s] 75 (0, 0)) := by rw [hw5]; exact heap_alloc_new _ _
        obtain ⟨gs, hgse⟩ : ∃ gs, gs = (World.heap w4).size := ⟨_, rfl⟩
        rw [← hgse] at hgs
        have r3V : World.ownsRow w5 V.heap.size 75 5 (.slice q3 n c3) n cs := by rw [hw5]; exact own_upM r3V ((Below.refl _ _).alloc (Nat.le_refl _) _)
        have hS5 := HSx.out _ hb_w5
        have HNM := mkHid hw5
        have HGE := mkHid hgse
        clear hHeld hw5 hgse
        go_simp
        rw [← HNM.out, ← HGE.out]
        refine hKr5.out _ _ ?_ (fun hHeld => ?_)
        · exact hS5
        clear hKr5 Kr5 hS5 HNM HGE
        (try simp only [Act.put, List.setIfInBounds_toArray, List.set_cons_zero, List.set_cons_succ])
        refine wpAnyH_ready (rs := [6]) (by kernel_rfl) (by simp) ?_
        refine AllReadyH.cons (o := ⟨some 80, .call ⟨.builtin .append, #[.tmp 77, .tmp 79], #[28, 28]⟩, 28, "ref.go:96", #[⟨3, .data⟩, ⟨5, .data⟩, ⟨3, .chain⟩], none⟩) rfl (fun Kr6 hKr6 => ?_) AllReadyH.nil
        refine step_append_lies _ rfl (.tmp 77) (.tmp 79) 28 rfl V.heap.size 75 i0 (.agg #[.int .i64 0, .int .i64 0, .int .i64 0, .bool false, .slice none 0 0]) 5 56 Try.underlying28 hi0 hz0 hz1 hz2 rfl (by decide) (.slice q3 n c3) n cs rfl r3V ⟨gs, 0, none⟩ 1 1 (objC y (some ⟨gw, 0, none⟩) s) rfl rfl (HNW.out _ gs hgs) (fun u hu => one5 u hu) (by decide) (by unfold maxLen; omega) (by omega) hb_w5.size _ rfl ?_
        intro g cp w6 r6 g6 _ _
        have hb6 : Below V.heap.size V w6 := grown_below hb_w5 hb_w5.size r3V g6
        have hS6 := HSx.out _ hb6
        clear hHeld g6
        refine hKr6.out _ _ ?_ (fun hHeld => ?_)
        · exact hS6
        clear hKr6 Kr6 hS6
        (try simp only [Act.put, List.setIfInBounds_toArray, List.set_cons_zero, List.set_cons_succ])
        refine wpAnyH_take (i := 7) (oi := ⟨some 81, .fieldAddr 30 (.tmp 5) 1, 0, "ref.go:96", #[⟨0, .phase⟩, ⟨1, .phase⟩, ⟨2, .phase⟩, ⟨3, .phase⟩, ⟨4, .phase⟩, ⟨5, .phase⟩, ⟨6, .phase⟩], none⟩) (v := .pointer (some ⟨w.heap.size, 1, none⟩)) rfl (by kernel_rfl) (by kernel_rfl) (by kernel_rfl) (fun _ _ _ h => h) (Or.inl ⟨by rfl, ?_⟩) hHeld ?_
        · intro wq hSq
          obtain ⟨s0, s1, s2, s3, s4⟩ := hSq
          clear hHeld
          go_simp
        (try simp only [Act.put, List.setIfInBounds_toArray, List.set_cons_zero, List.set_cons_succ])
        refine wpAnyH_ready (rs := [8]) (by kernel_rfl) (by simp) ?_
        refine AllReadyH.cons (o := ⟨none, .store 28 (.tmp 81) (.tmp 80), 0, "ref.go:96", #[⟨7, .data⟩, ⟨6, .data⟩, ⟨6, .chain⟩, ⟨0, .phase⟩, ⟨1, .phase⟩, ⟨2, .phase⟩, ⟨3, .phase⟩, ⟨4, .phase⟩, ⟨5, .phase⟩, ⟨6, .phase⟩], none⟩) rfl (fun Kr8 hKr8 => ?_) AllReadyH.nil
        have kM := (hb6.block _ HVL.out).trans HMV.out
        have cM : World.cell? w6 ⟨w.heap.size, 1, none⟩ = some (.slice la n lc) := cell_of_row _ _ 1 _ _ _ kM
        have fM := ice5 kM 1
        have hS8 := HSy.out _ hb6 (.slice (some ⟨g, 0, none⟩) (n + 1) cp)
        obtain ⟨w7, hw7⟩ : ∃ w7, w7 = w6.setCell ⟨w.heap.size, 1, none⟩ (.slice (some ⟨g, 0, none⟩) (n + 1) cp) := ⟨_, rfl⟩
        rw [← hw7] at hS8
        have HW7 := mkHid hw7
        have gB : V.heap.size ≤ g := by
          rcases r6.2 with ⟨h0, _⟩ | ⟨g', cap, cur, h0, h1, _⟩
          · cases h0
          · cases h0; exact h1
        have hgM : g ≠ w.heap.size := by have := HVL.out; omega
        have HFA : Hid (ApF own' w V (n + 1) (fun g cp => #[.int .i64 (cap : Int), .slice (some ⟨g, 0, none⟩) (n + 1) cp, .slice ha m hc, .int .i64 (e : Int), .bool false]) (cs ++ objC y (some ⟨gw, 0, none⟩) s) w7 g cp) := by
          refine ⟨?_, ?_, ?_, ?_, gB, ?_⟩
          · rw [hw7, heap_setCell_same w6 w.heap.size 1 _ _ _ kM]; rfl
          · rw [hw7, set1_ne w6 (by omega)]; exact (hb6.block _ HVL2.out).trans HRV.out
          · rw [hw7]
            exact row_sameM r6 fun k hk => by
              have : g = k := by simpa [Value.ownBlock] using hk
              rw [← this, set1_ne w6 hgM]
          · rw [hw7]
            exact ((HBV.out.trans (hb6.mono HBV.out.size))).setCell (Nat.le_refl _) _
          · rw [hw7]
            exact (Chg.of_below hb6).setCell (b := w.heap.size) (Or.inl HOM.out) _ _
        clear hHeld kM r6 hb6 hw7
        go_simp
        rw [← HW7.out]
        refine hKr8.out _ _ ?_ (fun hHeld => ?_)
        · exact hS8
        clear hKr8 Kr8 hS8 HW7 cM fM
        (try simp only [Act.put, List.setIfInBounds_toArray, List.set_cons_zero, List.set_cons_succ])
        refine wpAnyH_done (by kernel_rfl) ?_ _
        clear hHeld
        exact HJN w7 q3 c3 gs g cp HFA.out
      · skip
        obtain ⟨w5, hw5⟩ : ∃ w5, w5 = (World.alloc V (.cells #[.int .i64 ti, .int .i64 ri, .int .i64 oi, .bool false, .slice (some ⟨gw, 0, none⟩) s s] 75)).drew := ⟨_, rfl⟩
        have hb_w5 : Below V.heap.size V w5 := by rw [hw5]; exact (Below.alloc (Below.refl _ V) (Nat.le_refl _) _).drew
        have hgs : w5.heap[(World.heap V).size]? = some (.cells #[.int .i64 ti, .int .i64 ri, .int .i64 oi, .bool false, .slice (some ⟨gw, 0, none⟩) s s] 75 (0, 0)) := by rw [hw5]; exact heap_alloc_new _ _
        obtain ⟨gs, hgse⟩ : ∃ gs, gs = (World.heap V).size := ⟨_, rfl⟩
        rw [← hgse] at hgs
        have hS5 := HSx.out _ hb_w5
        have HNM := mkHid hw5
        have HGE := mkHid hgse
        clear hHeld hw5 hgse
        go_simp
        rw [← HNM.out, ← HGE.out]
        refine hKr5.out _ _ ?_ (fun hHeld => ?_)
        · exact hS5
        clear hKr5 Kr5 hS5 HNM HGE
        (try simp only [Act.put, List.setIfInBounds_toArray, List.set_cons_zero, List.set_cons_succ])
        refine wpAnyH_ready (rs := [3]) (by kernel_rfl) (by simp) ?_
        refine AllReadyH.cons (o := ⟨some 77, .call ⟨.builtin .append, #[.tmp 74, .tmp 76], #[28, 28]⟩, 28, "ref.go:96", #[⟨0, .data⟩, ⟨2, .data⟩], none⟩) rfl (fun Kr3 hKr3 => ?_) AllReadyH.nil
        refine step_dup rfl (.tmp 74) (.tmp 76) 28 rfl 75 i0 (.agg #[.int .i64 0, .int .i64 0, .int .i64 0, .bool false, .slice none 0 0]) 5 56 Try.underlying28 hi0 hz0 hz1 hz2 rfl (by decide) rfl la n lc cs rfl hnone' hclen (HCV.out _ hb_w5) HON.out (by unfold maxLen; omega) (by omega) ?_
        intro q3 c3 w4 r3 b3
        have hb_w4 : Below V.heap.size V w4 := hb_w5.trans (b3.mono hb_w5.size)
        have r3V : World.ownsRow w4 V.heap.size 75 5 (.slice q3 n c3) n cs := own_low r3 hb_w5.size
        have hS3 := HSx.out _ hb_w4
        clear hHeld r3
        refine hKr3.out _ _ ?_ (fun hHeld => ?_)
        · exact hS3
        clear hKr3 Kr3 hS3
        (try simp only [Act.put, List.setIfInBounds_toArray, List.set_cons_zero, List.set_cons_succ])
        refine wpAnyH_ready (rs := [6]) (by kernel_rfl) (by simp) ?_
        refine AllReadyH.cons (o := ⟨some 80, .call ⟨.builtin .append, #[.tmp 77, .tmp 79], #[28, 28]⟩, 28, "ref.go:96", #[⟨3, .data⟩, ⟨5, .data⟩, ⟨3, .chain⟩], none⟩) rfl (fun Kr6 hKr6 => ?_) AllReadyH.nil
        have hgs : w4.heap[gs]? = some (.cells #[.int .i64 ti, .int .i64 ri, .int .i64 oi, .bool false, .slice (some ⟨gw, 0, none⟩) s s] 75 (0, 0)) := (b3.block gs (Array.getElem?_eq_some_iff.1 hgs).1).trans hgs
        refine step_append_lies _ rfl (.tmp 77) (.tmp 79) 28 rfl V.heap.size 75 i0 (.agg #[.int .i64 0, .int .i64 0, .int .i64 0, .bool false, .slice none 0 0]) 5 56 Try.underlying28 hi0 hz0 hz1 hz2 rfl (by decide) (.slice q3 n c3) n cs rfl r3V ⟨gs, 0, none⟩ 1 1 (objC y (some ⟨gw, 0, none⟩) s) rfl rfl (HNW.out _ gs hgs) (fun u hu => one5 u hu) (by decide) (by unfold maxLen; omega) (by omega) hb_w4.size _ rfl ?_
        intro g cp w6 r6 g6 _ _
        have hb6 : Below V.heap.size V w6 := grown_below hb_w4 hb_w4.size r3V g6
        have hS6 := HSx.out _ hb6
        clear hHeld g6
        refine hKr6.out _ _ ?_ (fun hHeld => ?_)
        · exact hS6
        clear hKr6 Kr6 hS6
        (try simp only [Act.put, List.setIfInBounds_toArray, List.set_cons_zero, List.set_cons_succ])
        refine wpAnyH_take (i := 7) (oi := ⟨some 81, .fieldAddr 30 (.tmp 5) 1, 0, "ref.go:96", #[⟨0, .phase⟩, ⟨1, .phase⟩, ⟨2, .phase⟩, ⟨3, .phase⟩, ⟨4, .phase⟩, ⟨5, .phase⟩, ⟨6, .phase⟩], none⟩) (v := .pointer (some ⟨w.heap.size, 1, none⟩)) rfl (by kernel_rfl) (by kernel_rfl) (by kernel_rfl) (fun _ _ _ h => h) (Or.inl ⟨by rfl, ?_⟩) hHeld ?_
        · intro wq hSq
          obtain ⟨s0, s1, s2, s3, s4⟩ := hSq
          clear hHeld
          go_simp
        (try simp only [Act.put, List.setIfInBounds_toArray, List.set_cons_zero, List.set_cons_succ])
        refine wpAnyH_ready (rs := [8]) (by kernel_rfl) (by simp) ?_
        refine AllReadyH.cons (o := ⟨none, .store 28 (.tmp 81) (.tmp 80), 0, "ref.go:96", #[⟨7, .data⟩, ⟨6, .data⟩, ⟨6, .chain⟩, ⟨0, .phase⟩, ⟨1, .phase⟩, ⟨2, .phase⟩, ⟨3, .phase⟩, ⟨4, .phase⟩, ⟨5, .phase⟩, ⟨6, .phase⟩], none⟩) rfl (fun Kr8 hKr8 => ?_) AllReadyH.nil
        have kM := (hb6.block _ HVL.out).trans HMV.out
        have cM : World.cell? w6 ⟨w.heap.size, 1, none⟩ = some (.slice la n lc) := cell_of_row _ _ 1 _ _ _ kM
        have fM := ice5 kM 1
        have hS8 := HSy.out _ hb6 (.slice (some ⟨g, 0, none⟩) (n + 1) cp)
        obtain ⟨w7, hw7⟩ : ∃ w7, w7 = w6.setCell ⟨w.heap.size, 1, none⟩ (.slice (some ⟨g, 0, none⟩) (n + 1) cp) := ⟨_, rfl⟩
        rw [← hw7] at hS8
        have HW7 := mkHid hw7
        have gB : V.heap.size ≤ g := by
          rcases r6.2 with ⟨h0, _⟩ | ⟨g', cap, cur, h0, h1, _⟩
          · cases h0
          · cases h0; exact h1
        have hgM : g ≠ w.heap.size := by have := HVL.out; omega
        have HFA : Hid (ApF own' w V (n + 1) (fun g cp => #[.int .i64 (cap : Int), .slice (some ⟨g, 0, none⟩) (n + 1) cp, .slice ha m hc, .int .i64 (e : Int), .bool false]) (cs ++ objC y (some ⟨gw, 0, none⟩) s) w7 g cp) := by
          refine ⟨?_, ?_, ?_, ?_, gB, ?_⟩
          · rw [hw7, heap_setCell_same w6 w.heap.size 1 _ _ _ kM]; rfl
          · rw [hw7, set1_ne w6 (by omega)]; exact (hb6.block _ HVL2.out).trans HRV.out
          · rw [hw7]
            exact row_sameM r6 fun k hk => by
              have : g = k := by simpa [Value.ownBlock] using hk
              rw [← this, set1_ne w6 hgM]
          · rw [hw7]
            exact ((HBV.out.trans (hb6.mono HBV.out.size))).setCell (Nat.le_refl _) _
          · rw [hw7]
            exact (Chg.of_below hb6).setCell (b := w.heap.size) (Or.inl HOM.out) _ _
        clear hHeld kM r6 hb6 hw7
        go_simp
        rw [← HW7.out]
        refine hKr8.out _ _ ?_ (fun hHeld => ?_)
        · exact hS8
        clear hKr8 Kr8 hS8 HW7 cM fM
        (try simp only [Act.put, List.setIfInBounds_toArray, List.set_cons_zero, List.set_cons_succ])
        refine wpAnyH_done (by kernel_rfl) ?_ _
        clear hHeld
        exact HJN w7 q3 c3 gs g cp HFA.out
    · skip
      obtain ⟨w5, hw5⟩ : ∃ w5, w5 = (World.alloc V (.cells #[.int .i64 ti, .int .i64 ri, .int .i64 oi, .bool false, .slice (some ⟨gw, 0, none⟩) s s] 75)).drew := ⟨_, rfl⟩
      have hb_w5 : Below V.heap.size V w5 := by rw [hw5]; exact (Below.alloc (Below.refl _ V) (Nat.le_refl _) _).drew
      have hgs : w5.heap[(World.heap V).size]? = some (.cells #[.int .i64 ti, .int .i64 ri, .int .i64 oi, .bool false, .slice (some ⟨gw, 0, none⟩) s s] 75 (0, 0)) := by rw [hw5]; exact heap_alloc_new _ _
      obtain ⟨gs, hgse⟩ : ∃ gs, gs = (World.heap V).size := ⟨_, rfl⟩
      rw [← hgse] at hgs
      have hS5 := HSx.out _ hb_w5
      have HNM := mkHid hw5
      have HGE := mkHid hgse
      clear hHeld hw5 hgse
      go_simp
      rw [← HNM.out, ← HGE.out]
      refine hKr5.out _ _ ?_ (fun hHeld => ?_)
      · exact hS5
      clear hKr5 Kr5 hS5 HNM HGE
      (try simp only [Act.put, List.setIfInBounds_toArray, List.set_cons_zero, List.set_cons_succ])
      refine wpAnyH_ready (rs := [2]) (by kernel_rfl) (by simp) ?_
      refine AllReadyH.cons (o := ⟨some 76, .load 28 (.tmp 75), 28, "ref.go:96", #[⟨1, .data⟩], none⟩) rfl (fun Kr2 hKr2 => ?_) AllReadyH.nil
      have hc2 : World.cell? _ ⟨w.heap.size, 1, none⟩ = some (.slice la n lc) := cell_of_row _ _ 1 _ _ _ ((hb_w5.block _ HVL.out).trans HMV.out)
      have hS2 := hHeld
      clear hHeld
      go_simp
      refine hKr2.out _ _ ?_ (fun hHeld => ?_)
      · exact hS2
      clear hKr2 Kr2 hS2 hc2
      (try simp only [Act.put, List.setIfInBounds_toArray, List.set_cons_zero, List.set_cons_succ])
      refine wpAnyH_ready (rs := [3]) (by kernel_rfl) (by simp) ?_
      refine AllReadyH.cons (o := ⟨some 77, .call ⟨.builtin .append, #[.tmp 74, .tmp 76], #[28, 28]⟩, 28, "ref.go:96", #[⟨0, .data⟩, ⟨2, .data⟩], none⟩) rfl (fun Kr3 hKr3 => ?_) AllReadyH.nil
      refine step_dup rfl (.tmp 74) (.tmp 76) 28 rfl 75 i0 (.agg #[.int .i64 0, .int .i64 0, .int .i64 0, .bool false, .slice none 0 0]) 5 56 Try.underlying28 hi0 hz0 hz1 hz2 rfl (by decide) rfl la n lc cs rfl hnone' hclen (HCV.out _ hb_w5) HON.out (by unfold maxLen; omega) (by omega) ?_
      intro q3 c3 w4 r3 b3
      have hb_w4 : Below V.heap.size V w4 := hb_w5.trans (b3.mono hb_w5.size)
      have r3V : World.ownsRow w4 V.heap.size 75 5 (.slice q3 n c3) n cs := own_low r3 hb_w5.size
      have hS3 := HSx.out _ hb_w4
      clear hHeld r3
      refine hKr3.out _ _ ?_ (fun hHeld => ?_)
      · exact hS3
      clear hKr3 Kr3 hS3
      (try simp only [Act.put, List.setIfInBounds_toArray, List.set_cons_zero, List.set_cons_succ])
      refine wpAnyH_ready (rs := [6]) (by kernel_rfl) (by simp) ?_
      refine AllReadyH.cons (o := ⟨some 80, .call ⟨.builtin .append, #[.tmp 77, .tmp 79], #[28, 28]⟩, 28, "ref.go:96", #[⟨3, .data⟩, ⟨5, .data⟩, ⟨3, .chain⟩], none⟩) rfl (fun Kr6 hKr6 => ?_) AllReadyH.nil
      have hgs : w4.heap[gs]? = some (.cells #[.int .i64 ti, .int .i64 ri, .int .i64 oi, .bool false, .slice (some ⟨gw, 0, none⟩) s s] 75 (0, 0)) := (b3.block gs (Array.getElem?_eq_some_iff.1 hgs).1).trans hgs
      refine step_append_lies _ rfl (.tmp 77) (.tmp 79) 28 rfl V.heap.size 75 i0 (.agg #[.int .i64 0, .int .i64 0, .int .i64 0, .bool false, .slice none 0 0]) 5 56 Try.underlying28 hi0 hz0 hz1 hz2 rfl (by decide) (.slice q3 n c3) n cs rfl r3V ⟨gs, 0, none⟩ 1 1 (objC y (some ⟨gw, 0, none⟩) s) rfl rfl (HNW.out _ gs hgs) (fun u hu => one5 u hu) (by decide) (by unfold maxLen; omega) (by omega) hb_w4.size _ rfl ?_
      intro g cp w6 r6 g6 _ _
      have hb6 : Below V.heap.size V w6 := grown_below hb_w4 hb_w4.size r3V g6
      have hS6 := HSx.out _ hb6
      clear hHeld g6
      refine hKr6.out _ _ ?_ (fun hHeld => ?_)
      · exact hS6
      clear hKr6 Kr6 hS6
      (try simp only [Act.put, List.setIfInBounds_toArray, List.set_cons_zero, List.set_cons_succ])
      refine wpAnyH_take (i := 7) (oi := ⟨some 81, .fieldAddr 30 (.tmp 5) 1, 0, "ref.go:96", #[⟨0, .phase⟩, ⟨1, .phase⟩, ⟨2, .phase⟩, ⟨3, .phase⟩, ⟨4, .phase⟩, ⟨5, .phase⟩, ⟨6, .phase⟩], none⟩) (v := .pointer (some ⟨w.heap.size, 1, none⟩)) rfl (by kernel_rfl) (by kernel_rfl) (by kernel_rfl) (fun _ _ _ h => h) (Or.inl ⟨by rfl, ?_⟩) hHeld ?_
      · intro wq hSq
        obtain ⟨s0, s1, s2, s3, s4⟩ := hSq
        clear hHeld
        go_simp
      (try simp only [Act.put, List.setIfInBounds_toArray, List.set_cons_zero, List.set_cons_succ])
      refine wpAnyH_ready (rs := [8]) (by kernel_rfl) (by simp) ?_
      refine AllReadyH.cons (o := ⟨none, .store 28 (.tmp 81) (.tmp 80), 0, "ref.go:96", #[⟨7, .data⟩, ⟨6, .data⟩, ⟨6, .chain⟩, ⟨0, .phase⟩, ⟨1, .phase⟩, ⟨2, .phase⟩, ⟨3, .phase⟩, ⟨4, .phase⟩, ⟨5, .phase⟩, ⟨6, .phase⟩], none⟩) rfl (fun Kr8 hKr8 => ?_) AllReadyH.nil
      have kM := (hb6.block _ HVL.out).trans HMV.out
      have cM : World.cell? w6 ⟨w.heap.size, 1, none⟩ = some (.slice la n lc) := cell_of_row _ _ 1 _ _ _ kM
      have fM := ice5 kM 1
      have hS8 := HSy.out _ hb6 (.slice (some ⟨g, 0, none⟩) (n + 1) cp)
      obtain ⟨w7, hw7⟩ : ∃ w7, w7 = w6.setCell ⟨w.heap.size, 1, none⟩ (.slice (some ⟨g, 0, none⟩) (n + 1) cp) := ⟨_, rfl⟩
      rw [← hw7] at hS8
      have HW7 := mkHid hw7
      have gB : V.heap.size ≤ g := by
        rcases r6.2 with ⟨h0, _⟩ | ⟨g', cap, cur, h0, h1, _⟩
        · cases h0
        · cases h0; exact h1
      have hgM : g ≠ w.heap.size := by have := HVL.out; omega
      have HFA : Hid (ApF own' w V (n + 1) (fun g cp => #[.int .i64 (cap : Int), .slice (some ⟨g, 0, none⟩) (n + 1) cp, .slice ha m hc, .int .i64 (e : Int), .bool false]) (cs ++ objC y (some ⟨gw, 0, none⟩) s) w7 g cp) := by
        refine ⟨?_, ?_, ?_, ?_, gB, ?_⟩
        · rw [hw7, heap_setCell_same w6 w.heap.size 1 _ _ _ kM]; rfl
        · rw [hw7, set1_ne w6 (by omega)]; exact (hb6.block _ HVL2.out).trans HRV.out
        · rw [hw7]
          exact row_sameM r6 fun k hk => by
            have : g = k := by simpa [Value.ownBlock] using hk
            rw [← this, set1_ne w6 hgM]
        · rw [hw7]
          exact ((HBV.out.trans (hb6.mono HBV.out.size))).setCell (Nat.le_refl _) _
        · rw [hw7]
          exact (Chg.of_below hb6).setCell (b := w.heap.size) (Or.inl HOM.out) _ _
      clear hHeld kM r6 hb6 hw7
      go_simp
      rw [← HW7.out]
      refine hKr8.out _ _ ?_ (fun hHeld => ?_)
      · exact hS8
      clear hKr8 Kr8 hS8 HW7 cM fM
      (try simp only [Act.put, List.setIfInBounds_toArray, List.set_cons_zero, List.set_cons_succ])
      refine wpAnyH_done (by kernel_rfl) ?_ _
      clear hHeld
      exact HJN w7 q3 c3 gs g cp HFA.out
  case h2 =>
    rintro W7 q3 c3 gs g cp ⟨kM, kR, hr7, hb7, hgV, hc7⟩
    have HC7 := mkHid hc7
    have HKR := mkHid kR
    have HR7 := mkHid hr7
    have HB7 := mkHid hb7
    obtain ⟨p0, p1, p2, p3, p4⟩ := five_cells kM
    obtain ⟨x0, x1, x2, x3, x4⟩ := five_cells kR
    have z0 := ice5 kR 0
    have z1 := ice5 kR 1
    have z2 := ice5 kR 2
    have z3 := ice5 kR 3
    have z4 := ice5 kR 4
    have HGV := mkHid hgV
    clear kM kR hr7 hb7 hgV hc7
    go_wp2_with fail
    have hfin := put5 HKR.out (.int .i64 (cap : Int)) (.slice (some ⟨g, 0, none⟩) (n + 1) cp) (.slice ha m hc) (.int .i64 (e : Int)) (.bool false) 
    obtain ⟨e0, e1, e2, e3, e4⟩ := five_cells hfin
    have hbw := set5_below HB7.out (b := w.heap.size + 1) (by omega) (.int .i64 (cap : Int)) (.slice (some ⟨g, 0, none⟩) (n + 1) cp) (.slice ha m hc) (.int .i64 (e : Int)) (.bool false)
    refine bodyPost_ret (by simp [results, Try.results26, go_sem, e0, e1, e2, e3, e4]; rfl) rfl ?_
    have r8 := row_set5 HR7.out (b := w.heap.size + 1) (fun q hq => by
      have : g = q := by simpa [Value.ownBlock] using hq
      have := HGV.out
      have := HVL2.out
      omega) (.int .i64 (cap : Int)) (.slice (some ⟨g, 0, none⟩) (n + 1) cp) (.slice ha m hc) (.int .i64 (e : Int)) (.bool false)
    have hrr := (((HCS.out.chg (Chg.of_below HBV.out)).more HYW.out).chg HC7.out).chg (set5_chg HOR.out (.int .i64 (cap : Int)) (.slice (some ⟨g, 0, none⟩) (n + 1) cp) (.slice ha m hc) (.int .i64 (e : Int)) (.bool false))
    obtain ⟨a7, c7, e7, h7⟩ := ObR.of_own hrr r8 (by rw [HY.out]; exact HLN.out) (fun q hq ho => by
      have : g = q := by simpa [Value.ownBlock] using hq
      have := HO3.out q ho
      have := HGV.out
      have := HVL2.out
      omega)
    rw [HY.out] at h7
    refine ⟨⟨a7, c7, ha, hc, ?_, MA.weaken (own' := own') ⟨h7, (HMA.out.below hbw).hi⟩ HO2.out⟩, hbw⟩
    unfold mV
    rw [HLN.out, ← HMM.out, e7]
end
end Go.Proofs.Ytlfgolnnkcehbaa
