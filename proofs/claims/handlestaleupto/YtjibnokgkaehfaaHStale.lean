/- The walk of the statement HandleStale. -/
import Derived.Test.YtjibnokgkaehfaaHSS
import Derived.Test.YtjibnokgkaehfaaArgD
namespace Go.Proofs.Ytjibnokgkaehfaa
open Go.RowKit

theorem infoInt : (Try.prog.info? 3).map (fun i => (i.zero, i.size, i.bytes)) = some (some (.int .i64 0), 1, 8) := by kernel_rfl
theorem far_deed : Far 42 := by unfold Far; decide
theorem VRow.cellU {w : World} {e : Nat} {a : Option Addr} {n c : Nat} {V : List Nat} (h : VRow w e (.slice a n c) (ucells V)) {k : Nat} (hk : k < V.length) : ∃ g, a = some ⟨g, 0, none⟩ ∧ w.cell? ⟨g, k, none⟩ = some (.int .u64 ((V.getD k 0 : Nat) : Int)) := by
  obtain ⟨g, c', cs, e1, _, _, _, _, hc⟩ := h.open (by rw [ucells_len]; omega)
  cases e1
  exact ⟨g, rfl, hc k _ (by simp [ucells, hk])⟩
theorem VRow.cellI {w : World} {e : Nat} {a : Option Addr} {n c : Nat} {V : List Int} (h : VRow w e (.slice a n c) (icells V)) {k : Nat} (hk : k < V.length) : ∃ g, a = some ⟨g, 0, none⟩ ∧ w.cell? ⟨g, k, none⟩ = some (.int .i64 (V.getD k 0)) := by
  obtain ⟨g, c', cs, e1, _, _, _, _, hc⟩ := h.open (by rw [icells_len]; omega)
  cases e1
  exact ⟨g, rfl, hc k _ (by simp [icells, hk])⟩
theorem VRow.slice {w : World} {e : Nat} {u : Value} {xs : List Value} (h : VRow w e u xs) : ∃ a c, u = .slice a xs.length c := by
  obtain ⟨a, c, e1, _⟩ := h
  exact ⟨a, c, e1⟩
theorem Apart.appL {w : World} {B e g cap m H : Nat} {u v : Value} {xs : List Value} (h : Apart u v) (hv : LRow w B e v xs) (hH : w.heap.size ≤ H) (hat : u.ownBlock = some g ∨ g = H) : Apart (.slice (some ⟨g, 0, none⟩) m cap) v := by
  intro k hk e
  cases hk
  rcases hat with hat | hat
  · exact h g hat e
  · have h1 : g < w.heap.size := (hv.blockLt e).2
    omega
theorem Apart.cut {w : World} {B e g : Nat} {u u' v : Value} {xs : List Value} (h : Apart u v) (hu : u.ownBlock = some g) (hv : LRow w B e v xs) (hat : ∀ b, u'.ownBlock = some b → b = g ∨ w.heap.size ≤ b) : Apart u' v := by
  intro k hk e
  rcases hat k hk with rfl | hb
  · exact h _ hu e
  · have := (hv.blockLt e).2; omega
theorem one_cells (V : List Nat) : ∀ u ∈ ucells V, u.oneCell' = true := by
  intro u hu
  obtain ⟨x, _, rfl⟩ := List.mem_map.1 hu
  rfl
theorem one_icells (V : List Int) : ∀ u ∈ icells V, u.oneCell' = true := by
  intro u hu
  obtain ⟨x, _, rfl⟩ := List.mem_map.1 hu
  rfl
/-- Between the deeds. -/
structure Sta (B : Nat) (w wr : World) (T n g : Nat) (u6 u7 u8 : Value) (L : List RS) (F V : List Nat) (N : List Int) (G : List Nat) : Prop where
  ab : Ab B wr T n L F
  live : LRow wr B 25 u6 (ucells V)
  at_ : LRow wr B 3 u7 (icells N)
  gone : LRow wr B 25 u8 (ucells G)
  ap : Apart u6 u8
  bel : RowKit.Below B w wr
  ss : SS g L V N G
theorem Sta.below {B : Nat} {w wr w' : World} {T n g : Nat} {u6 u7 u8 : Value} {L : List RS} {F V : List Nat} {N : List Int} {G : List Nat} (h : Sta B w wr T n g u6 u7 u8 L F V N G) (hb : RowKit.Below wr.heap.size wr w') : Sta B w w' T n g u6 u7 u8 L F V N G :=
  ⟨h.ab.below hb, h.live.below hb, h.at_.below hb, h.gone.below hb, h.ap, h.bel.trans (hb.mono (Nat.le_of_lt h.ab.lt)), h.ss⟩
theorem Sta.few {B : Nat} {w wr : World} {T n g : Nat} {u6 u7 u8 : Value} {L : List RS} {F V : List Nat} {N : List Int} {G : List Nat} (h : Sta B w wr T n g u6 u7 u8 L F V N G) : V.length ≤ n := by
  have h1 := h.ab.valid.2
  have h2 := h.ab.few.2.1
  have h3 := h.ss.cnt
  omega
set_option maxHeartbeats 8000000 in
set_option maxRecDepth 1000000 in
theorem stale_any (a : Option Addr) (m c : Nat) (z : Nat → Dd) (s : Int) (w : World) (hm : m ≤ 9223372036854775807) (hr : DRow w a m z) (hmb : m ≤ 1048576) :
    Calls Try.prog 5 #[.slice a m c, .int .i64 s] w fun e w' => e = .returned (.bool true) ∧ RowKit.Below w.heap.size w w' := by
  obtain ⟨i0, hi, hz0, hz1, hz2⟩ := info_parts infoU64
  obtain ⟨j0, hj, hy0, hy1, hy2⟩ := info_parts infoInt
  obtain ⟨k0, hk0⟩ : ∃ k0 : Nat, s % 8 = (k0 : Int) := ⟨(s % 8).toNat, by omega⟩
  have h7 : bits .and .i64 s 7 = (k0 : Int) := by rw [land_7, hk0]
  obtain ⟨n, hn⟩ : ∃ n, n = 1 + k0 := ⟨_, rfl⟩
  have hk8 : k0 < 8 := by omega
  have hn1 : 1 ≤ n := by omega
  have hn2 : n ≤ 8 := by omega
  have hkk : (1 : Int) + (k0 : Int) = (n : Int) := by omega
  have HF := mkHid (fun u : World => fresh_any n u hn1 (by omega))
  have HR := mkHid hr
  have HN := mkHid hn
  clear hn hk0 hr
  go_enter Try.func5, Try.ntmps5
  go_wp2_with fail
  refine (awake_any _).mono ?_
  rintro e w0 ⟨rfl, b0⟩
  go_wp2_with fail
  refine (HF.out _).mono ?_
  rintro e w1 ⟨rfl, b1, a1⟩
  have S1 : Hid (Sta w.heap.size w w1 w0.heap.size n 1 (.slice none 0 0) (.slice none 0 0) (.slice none 0 0) [] [] [] [] []) :=
    ⟨a1.mono b0.size, Or.inl (World.ownsRow_nil _ _ _ _), Or.inl (World.ownsRow_nil _ _ _ _), Or.inl (World.ownsRow_nil _ _ _ _), fun k hk => by (cases hk), b0.trans (b1.mono b0.size), List.nodup_nil, rfl, fun j hj => absurd hj (Nat.not_lt_zero _), fun x hx => by (simp at hx), rfl, fun i hi => absurd hi (Nat.not_lt_zero _)⟩
  clear b0 b1 a1
  go_wp2_with fail
  go_loopw [6, 7, 8, 9] (fun u6 u7 u8 x wr => ∃ (i : Nat) (L : List RS) (F V : List Nat) (N : List Int) (G : List Nat), x = .int .i64 i ∧ i ≤ m ∧ G.length ≤ i ∧ Sta w.heap.size w wr w0.heap.size n (i + 1) u6 u7 u8 L F V N G) (fun _ _ _ x _ => m - (intOf x).toNat)
  case atStart => exact ⟨0, _, _, _, _, _, rfl, by omega, by simp, S1.out⟩
  case round =>
    clear S1
    obtain ⟨i, L, F, V, N, G, rfl, him, hGi, hS⟩ := hrel
    by_cases hlt : i < m
    · obtain ⟨b, o, rfl, hb, hc⟩ : ∃ b o, a = some ⟨b, o, none⟩ ∧ b < w.heap.size ∧ ∀ i, i < m → w.cell? ⟨b, o + i * 4, none⟩ = some (.int .i64 (z i).do_) ∧ w.cell? ⟨b, o + i * 4 + 1, none⟩ = some (.int .i64 (z i).who) ∧ w.cell? ⟨b, o + i * 4 + 2, none⟩ = some (.int .i64 (z i).at_) ∧ w.cell? ⟨b, o + i * 4 + 3, none⟩ = some (.int .u64 (z i).h) ∧ (Lit.int .i64 (z i).at_).wf = true ∧ (Lit.int .u64 (z i).h).wf = true := by
        rcases HR.out with h | h
        · omega
        · exact h
      obtain ⟨c0, c1, c2, c3, _, _⟩ := hc i hlt
      rw [← hS.bel.cell (p := ⟨b, o + i * 4, none⟩) hb] at c0
      rw [← hS.bel.cell (p := ⟨b, o + i * 4 + 1, none⟩) hb] at c1
      rw [← hS.bel.cell (p := ⟨b, o + i * 4 + 2, none⟩) hb] at c2
      rw [← hS.bel.cell (p := ⟨b, o + i * 4 + 3, none⟩) hb] at c3
      generalize z i = dz at c0 c1 c2 c3
      obtain ⟨d0, d1, d2, d3⟩ := dz
      dsimp only at c0 c1 c2 c3
      clear hc hb
      have HBX : Hid (RowKit.Below wr.heap.size wr (wr.alloc (.cells #[.int .i64 d0, .int .i64 d1, .int .i64 d2, .int .u64 d3] 42))) := (RowKit.Below.refl _ wr).alloc (Nat.le_refl _) _
      have hSX := hS.below HBX.out
      have hVn := hS.few
      obtain ⟨a6, c6, e6⟩ := hS.live.vrow.slice
      rw [ucells_len] at e6
      obtain ⟨a7, c7, e7⟩ := hS.at_.vrow.slice
      rw [icells_len, hS.ss.len] at e7
      obtain ⟨a8, c8, e8⟩ := hS.gone.vrow.slice
      rw [ucells_len] at e8
      subst e6 e7 e8
      have HX := mkHid hSX
      have HV8 : Hid (V.length ≤ 8) := by show _ ≤ _; omega
      clear hS hSX
      by_cases hdo : d0 ≤ 3
      · by_cases hful : V.length = n
        · have HMF := mkHid (ab_Make_full HX.out.ab i (by have := HX.out.ss.cnt; omega))
          have hg1 : ((k0 : Int) < (V.length : Int)) := by have := HN.out; omega
          clear hful
          go_wp2_with fail
          refine HMF.out.mono ?_
          rintro e w3 ⟨rfl, rfl⟩
          go_wp2_with fail
          go_roundw
          case rel => exact ⟨i + 1, _, _, _, _, _, by go_num, by omega, by omega, ⟨HX.out.ab, HX.out.live, HX.out.at_, HX.out.gone, HX.out.ap, HX.out.bel, HX.out.ss.mono (by omega)⟩⟩
          case measure => simp [intOf]; omega
        · have hab := HX.out.ab
          have hfew := hab.few
          obtain ⟨hv, hall⟩ := hab.valid
          have hcnt := HX.out.ss.cnt
          have hM := ab_Mk hab i (by omega) (by omega)
          obtain ⟨hneV, hneG, hss2⟩ := HX.out.ss.make (by omega) hv (by omega) i
          have hx1 : 1 ≤ hnd (mkP L F) (mkG L F) := by unfold hnd; omega
          have HM := mkHid hM
          have HSS := mkHid (hss2.mono (show i + 1 ≤ i + 1 + 1 by omega))
          have HNV := mkHid hneV
          have HNG := mkHid hneG
          obtain ⟨x, hx⟩ : ∃ x, x = hnd (mkP L F) (mkG L F) := ⟨_, rfl⟩
          rw [← hx] at HM HSS HNV HNG hx1
          have hg1 : ¬ ((k0 : Int) < (V.length : Int)) := by have := HN.out; omega
          have hg1b : decide ((k0 : Int) < (V.length : Int)) = false := by simp; omega
          have hx0 : ((x : Int) == 0) = false := beq_eq_false_iff_ne.2 (by omega)
          clear hab hfew hv hall hcnt hM hneV hneG hss2 hx
          go_wp2_with fail
          refine HM.out.mono ?_
          rintro e w3 ⟨rfl, s3, a3⟩
          have HL3 := mkHid (HX.out.live.step s3 far_u64)
          have HA3 := mkHid (HX.out.at_.step s3 far_int)
          have HG3 := mkHid (HX.out.gone.step s3 far_u64)
          have HAB3 := mkHid a3
          have HB3 := mkHid (HX.out.bel.trans s3.below)
          have hsz3 : w.heap.size ≤ w3.heap.size := HB3.out.size
          clear s3 a3
          go_wp2_with fail
          go_loop [13] (fun y => ∃ k : Nat, y = .int .i64 k ∧ k ≤ V.length) (fun y => V.length - (intOf y).toNat)
          case atStart => exact ⟨0, rfl, by omega⟩
          case round =>
            obtain ⟨k, rfl, hk⟩ := hrel
            by_cases hk2 : k < V.length
            · obtain ⟨g6, rfl, q6⟩ := HL3.out.vrow.cellU hk2
              have hy : V.getD k 0 ≠ x := HNV.out _ (by rw [List.getD_eq_getElem?_getD, List.getElem?_eq_getElem hk2]; exact List.getElem_mem hk2)
              have hyb : (((V.getD k 0 : Nat) : Int) == (x : Int)) = false := beq_eq_false_iff_ne.2 (by omega)
              generalize V.getD k 0 = yy at q6 hyb
              have hk0' : (0 : Int) ≤ (k : Int) := by omega
              have hk1' : (k : Int) < (V.length : Int) := by omega
              have hk3' : k < 4294967296 := by have := HV8.out; omega
              clear hy
              go_wp2_with fail
              go_round
              case rel => exact ⟨k + 1, by go_num, by omega⟩
              case measure => simp [intOf]; omega
            · go_wp2_with fail
              go_loop [14] (fun y => ∃ k : Nat, y = .int .i64 k ∧ k ≤ G.length) (fun y => G.length - (intOf y).toNat)
              case atStart => exact ⟨0, rfl, by omega⟩
              case round =>
                obtain ⟨k, rfl, hk⟩ := hrel
                by_cases hk2 : k < G.length
                · obtain ⟨g8, rfl, q8⟩ := HG3.out.vrow.cellU hk2
                  have hy : G.getD k 0 ≠ x := HNG.out _ (by rw [List.getD_eq_getElem?_getD, List.getElem?_eq_getElem hk2]; exact List.getElem_mem hk2)
                  have hyb : (((G.getD k 0 : Nat) : Int) == (x : Int)) = false := beq_eq_false_iff_ne.2 (by omega)
                  generalize G.getD k 0 = yy at q8 hyb
                  have hk0' : (0 : Int) ≤ (k : Int) := by omega
                  have hk1' : (k : Int) < (G.length : Int) := by omega
                  have hk3' : k < 4294967296 := by omega
                  clear hy
                  go_wp2_with fail
                  go_round
                  case rel => exact ⟨k + 1, by go_num, by omega⟩
                  case measure => simp [intOf]; omega
                · have hlu : (ucells V).length = V.length := ucells_len V
                  have hli : (icells N).length = V.length := by rw [icells_len]; exact HX.out.ss.len
                  have hV8 := HV8.out
                  go_wp2_with (at_builtin; refine wpList_append_l rfl _ _ 40 rfl w.heap.size 25 i0 (.int .u64 0) 8 Try.underlying40 hi hz0 hz1 hz2 rfl _ (ucells V) rfl (HL3.out.below ((RowKit.Below.refl _ _).alloc (Nat.le_refl _) _)) _ (.int .u64 (x : Int)) rfl (cell_one_new _ _ _) (one_int _ _) (by unfold maxLen; omega) (by omega) (by simp; omega) ?_)
                  intro g4 cap4 w4 hown4 hgr4 hat4
                  have hal : RowKit.Below w3.heap.size w3 (w3.alloc (.cells #[.int .u64 (x : Int)] 25)) := (RowKit.Below.refl _ w3).alloc (Nat.le_refl _) _
                  have A4 := mkHid (LRow.tab (HL3.out.below hal) far_u64 (HAB3.out.below hal) hgr4)
                  have L4 : Hid (LRow w4 w.heap.size 25 (.slice (some ⟨g4, 0, none⟩) (V.length + 1) cap4) (ucells (V ++ [x]))) := by
                    left; rw [ucells_snoc, List.length_append, hlu]; exact hown4
                  have N4 := mkHid ((HA3.out.below hal).grown hgr4 ((HL3.out.below hal).apart (HA3.out.below hal) (by decide)))
                  have G4 := mkHid ((HG3.out.below hal).grown hgr4 HX.out.ap)
                  have P4 : Hid (Apart (.slice (some ⟨g4, 0, none⟩) (V.length + 1) cap4) (.slice a8 G.length c8)) := HX.out.ap.appL (HG3.out.below hal) (by simp) hat4
                  have B4 : Hid (RowKit.Below w.heap.size w w4) := (HB3.out.alloc (by omega) _).grown hgr4 (by simp; omega) (fun y hy => ((HL3.out.below hal).blockLt hy).1)
                  have hsz4 : w.heap.size ≤ w4.heap.size := B4.out.size
                  clear hown4 hgr4 hat4 hal
                  go_wp2_with (at_builtin; refine wpList_append_l rfl _ _ 37 rfl w.heap.size 3 j0 (.int .i64 0) 8 Try.underlying37 hj hy0 hy1 hy2 rfl _ (icells N) rfl (N4.out.below ((RowKit.Below.refl _ _).alloc (Nat.le_refl _) _)) _ (.int .i64 (i : Int)) rfl (cell_one_new _ _ _) (one_int _ _) (by unfold maxLen; omega) (by omega) (by simp; omega) ?_)
                  intro g5 cap5 w5 hown5 hgr5 hat5
                  have hal : RowKit.Below w4.heap.size w4 (w4.alloc (.cells #[.int .i64 (i : Int)] 3)) := (RowKit.Below.refl _ w4).alloc (Nat.le_refl _) _
                  have HST : Hid (Sta w.heap.size w w5 w0.heap.size n (i + 1 + 1) (.slice (some ⟨g4, 0, none⟩) (V.length + 1) cap4) (.slice (some ⟨g5, 0, none⟩) (V.length + 1) cap5) (.slice a8 G.length c8) (mkL L i F) F.tail (V ++ [x]) (N ++ [(i : Int)]) G) :=
                    ⟨LRow.tab (N4.out.below hal) far_int (A4.out.below hal) hgr5, (L4.out.below hal).grown hgr5 ((N4.out.below hal).apart (L4.out.below hal) (by decide)), Or.inl (by rw [icells_snoc, List.length_append, hli]; exact hown5), (G4.out.below hal).grown hgr5 ((N4.out.below hal).apart (G4.out.below hal) (by decide)), P4.out, (B4.out.alloc (by omega) _).grown hgr5 (by simp; omega) (fun y hy => ((N4.out.below hal).blockLt hy).1), HSS.out⟩
                  have HLV : Hid ((V ++ [x]).length = V.length + 1) := by show _ = _; simp
                  have HLG : Hid (G.length = G.length) := rfl
                  have HGI : Hid (G.length ≤ i + 1) := by show _ ≤ _; omega
                  have HLT : Hid (V.length + 1 ≤ 9) := by show _ ≤ _; omega
                  have HLT2 : Hid (G.length ≤ 1048576) := by show _ ≤ _; omega
                  clear hown5 hgr5 hat5 hal hlu hli L4 N4 G4 P4 B4 A4 HL3 HA3 HG3 HB3 HAB3 HSS HNV HNG HM HX
                  go_wp2_with fail
                  go_loop [16] (fun y => ∃ k : Nat, y = .int .i64 k ∧ k ≤ (V.length + 1)) (fun y => (V.length + 1) - (intOf y).toNat)
                  case atStart => exact ⟨0, rfl, by omega⟩
                  case round =>
                    obtain ⟨k, rfl, hk⟩ := hrel
                    by_cases hk2 : k < (V.length + 1)
                    · have hkV : k < (V ++ [x]).length := by have := HLV.out; omega
                      obtain ⟨p, hlk, hnn⟩ := HST.out.ss.live k hkV
                      obtain ⟨g6, e6, q6⟩ := HST.out.live.vrow.cellU hkV
                      obtain ⟨g7, e7, q7⟩ := HST.out.at_.vrow.cellI (k := k) (by rw [HST.out.ss.len]; exact hkV)
                      have hfw := HST.out.ab.few
                      have hxx : (V ++ [x]).getD k 0 < 18446744073709551616 := by
                        have h1 := look_eq hlk
                        obtain ⟨_, h2, _, _⟩ := look_some hlk
                        have := hfw.2.2 p h2
                        rw [h1]; exact hnd_lt (by omega) this
                      have hAT := ab_At HST.out.ab ((V ++ [x]).getD k 0) p hxx hlk
                      rw [← hnn] at hAT
                      have HAT := mkHid hAT
                      generalize (V ++ [x]).getD k 0 = yy at HAT q6
                      generalize (N ++ [(i : Int)]).getD k 0 = nn at HAT q7
                      have hne : (nn != nn) = false := by simp
                      have hk0' : (0 : Int) ≤ (k : Int) := by omega
                      have hk1' : (k : Int) < (((V.length + 1) : Nat) : Int) := by omega
                      have hk3' : k < 4294967296 := by have := HLT.out; omega
                      skip
                      clear hlk hnn hfw hxx hAT hkV
                      cases e6
                      cases e7
                      go_wp2_with fail
                      refine HAT.out.mono ?_
                      rintro e wz ⟨rfl, rfl⟩
                      go_wp2_with fail
                      go_round
                      case rel => exact ⟨k + 1, by go_num, by omega⟩
                      case measure => simp [intOf]; omega
                    · go_wp2_with fail
                      go_loop [19] (fun y => ∃ k : Nat, y = .int .i64 k ∧ k ≤ G.length) (fun y => G.length - (intOf y).toNat)
                      case atStart => exact ⟨0, rfl, by omega⟩
                      case round =>
                        obtain ⟨k, rfl, hk⟩ := hrel
                        by_cases hk2 : k < G.length
                        · have hkV : k < (G).length := by have := HLG.out; omega
                          obtain ⟨g8, e8, q8⟩ := HST.out.gone.vrow.cellU hkV
                          have hol : Old _ ((G).getD k 0) := HST.out.ss.gone _ (by rw [List.getD_eq_getElem?_getD, List.getElem?_eq_getElem hkV]; exact List.getElem_mem hkV)
                          have hlk := hol.look
                          have hfw := HST.out.ab.few
                          have hxx : (G).getD k 0 < 18446744073709551616 := by
                            obtain ⟨p, gg, h1, h2, h3, h4⟩ := hol
                            have := hfw.2.2 p h2
                            rw [h1]; exact hnd_lt h3 (by omega)
                          have H1 := mkHid (ab_At_no HST.out.ab _ hxx hlk)
                          have H2 := mkHid (ab_Move_no HST.out.ab _ 1 hxx hlk)
                          have H3 := mkHid (ab_Free_no HST.out.ab _ hxx hlk)
                          generalize (G).getD k 0 = yy at H1 H2 H3 q8
                          have hk0' : (0 : Int) ≤ (k : Int) := by omega
                          have hk1' : (k : Int) < ((G.length : Nat) : Int) := by omega
                          have hk3' : k < 4294967296 := by have := HLT2.out; omega
                          skip
                          clear hlk hfw hxx hkV hol
                          cases e8
                          go_wp2_with fail
                          refine H1.out.mono ?_
                          rintro e wz ⟨rfl, rfl⟩
                          go_wp2_with fail
                          refine H2.out.mono ?_
                          rintro e wz ⟨rfl, rfl⟩
                          go_wp2_with fail
                          refine H3.out.mono ?_
                          rintro e wz ⟨rfl, rfl⟩
                          go_wp2_with fail
                          go_round
                          case rel => exact ⟨k + 1, by go_num, by omega⟩
                          case measure => simp [intOf]; omega
                        · go_wp2_with fail
                          go_roundw
                          case rel => exact ⟨i + 1, _, _, _, _, _, by go_num, by omega, by have := HLG.out; have := HGI.out; omega, HST.out⟩
                          case measure => simp [intOf]; omega
      · have hdob : decide (d0 ≤ 3) = false := decide_eq_false hdo
        by_cases hV : 0 < V.length
        · have hVi : (0 : Int) < (V.length : Int) := by omega
          have hVib : decide ((0 : Int) < (V.length : Int)) = true := decide_eq_true hVi
          have hVz : ((V.length : Int) == 0) = false := beq_eq_false_iff_ne.2 (by omega)
          obtain ⟨q, hqa⟩ : ∃ q, q = (Int.tmod d1 (V.length : Int)).natAbs := ⟨_, rfl⟩
          have hq : q < V.length := by rw [hqa, Int.natAbs_tmod]; exact Nat.mod_lt _ (by simpa using hV)
          have hor : (Int.tmod d1 (V.length : Int) = (q : Int)) ∨ (Int.tmod d1 (V.length : Int) = -(q : Int) ∧ 1 ≤ q) := by omega
          clear hqa
          rcases hor with hmod | ⟨hmod, hqp⟩
          · have hqn : ¬ ((q : Int) < 0) := by omega
            have hqnb : decide ((q : Int) < 0) = false := decide_eq_false hqn
            have hab := HX.out.ab
            have hfew := hab.few
            obtain ⟨p, hlk, hnn⟩ := HX.out.ss.live q hq
            have hss2 := HX.out.ss.free (by omega) hq hlk
            have hgen := HX.out.ss.gens p (look_some hlk).2.1
            have hxx : V.getD q 0 < 18446744073709551616 := by
              have h1 := look_eq hlk
              obtain ⟨_, h2, _, _⟩ := look_some hlk
              have := hfew.2.2 p h2
              rw [h1]; exact hnd_lt (by omega) this
            obtain ⟨g6, rfl, gx⟩ := HX.out.live.vrow.cellU hq
            have HF1 := mkHid (ab_Free hab (V.getD q 0) p hxx hlk (by omega))
            have HSS := mkHid hss2
            obtain ⟨y, hy⟩ : ∃ y, y = V.getD q 0 := ⟨_, rfl⟩
            rw [← hy] at gx HF1 HSS
            obtain ⟨L2, hL2⟩ : ∃ L2, L2 = frL L p := ⟨_, rfl⟩
            rw [show L.set p ⟨(rs L p).gen + 1, (rs L p).at_, false⟩ = frL L p from rfl, ← hL2] at HF1
            rw [← hL2] at HSS
            have HQ := mkHid hq
            have hq0 : (0 : Int) ≤ (q : Int) := by omega
            have hq1 : (q : Int) < (V.length : Int) := by omega
            have hq2 : (0 : Int) ≤ (q : Int) + 1 := by omega
            have hq3 : (q : Int) + 1 ≤ (V.length : Int) := by omega
            have hq4 : ((q : Int) + 1).toNat = q + 1 := by omega
            have hqw : IntKind.i64.wrap ((q : Int) + 1) = (q : Int) + 1 := by rw [IntKind.wrap_i64]; omega
            have HLI : Hid ((icells N).length = V.length) := by show _ = _; rw [icells_len]; exact HX.out.ss.len
            clear hab hfew hlk hnn hss2 hgen hxx hy hL2 hq
            go_wp2_with fail
            refine HF1.out.mono ?_
            rintro e w3 ⟨rfl, s3, a3⟩
            have HL3 := mkHid (HX.out.live.step s3 far_u64)
            have HA3 := mkHid (HX.out.at_.step s3 far_int)
            have HG3 := mkHid (HX.out.gone.step s3 far_u64)
            have HAB3 := mkHid a3
            have HB3 := mkHid (HX.out.bel.trans s3.below)
            have hsz3 : w.heap.size ≤ w3.heap.size := HB3.out.size
            obtain ⟨gg, cc, cs3, e3, hcc1, hcc2, hgc3, hcs3, hcell3⟩ := HL3.out.vrow.open (by rw [ucells_len]; omega)
            rw [ucells_len] at e3 hcc1
            cases e3
            have gx3 : w3.cell? ⟨g6, q, none⟩ = some (.int .u64 (y : Int)) := by
              have h1 := s3.keeps
              obtain ⟨_, _, csx, ex, _, _, hgx, hcx, hcellx⟩ := HX.out.live.vrow.open (by rw [ucells_len]; omega)
              rw [ucells_len] at ex
              cases ex
              have h2 := s3.keeps _ _ _ _ hgx far_u64
              rw [cell_of_row w3 g6 q _ _ _ h2, ← cell_of_row _ g6 q _ _ _ hgx]; exact gx
            have hcap6 : V.length ≤ c6 := hcc1
            have hlu : (ucells V).length = V.length := ucells_len V
            have hlg : (ucells G).length = G.length := ucells_len G
            have hV8 := HV8.out
            clear s3 a3 gx hgc3 hcs3 hcell3 hcc1 hcc2
            go_wp2_with (at_builtin; refine wpList_append_l rfl _ _ 40 rfl w.heap.size 25 i0 (.int .u64 0) 8 Try.underlying40 hi hz0 hz1 hz2 rfl _ (ucells G) rfl (HG3.out.below ((RowKit.Below.refl _ _).alloc (Nat.le_refl _) _)) _ (.int .u64 (y : Int)) rfl (cell_one_new _ _ _) (one_int _ _) (by unfold maxLen; omega) (by omega) (by simp; omega) ?_)
            intro g4 cap4 w4 hown4 hgr4 hat4
            have hal : RowKit.Below w3.heap.size w3 (w3.alloc (.cells #[.int .u64 (y : Int)] 25)) := (RowKit.Below.refl _ w3).alloc (Nat.le_refl _) _
            have A4 := mkHid (LRow.tab (HG3.out.below hal) far_u64 (HAB3.out.below hal) hgr4)
            have G4 : Hid (LRow w4 w.heap.size 25 (.slice (some ⟨g4, 0, none⟩) (G.length + 1) cap4) (ucells (G ++ [y]))) := by
              left; rw [ucells_snoc, List.length_append, hlg]; exact hown4
            have N4 := mkHid ((HA3.out.below hal).grown hgr4 ((HG3.out.below hal).apart (HA3.out.below hal) (by decide)))
            have L4 := mkHid ((HL3.out.below hal).grown hgr4 HX.out.ap.symm)
            have P4 : Hid (Apart (.slice (some ⟨g4, 0, none⟩) (G.length + 1) cap4) (.slice (some ⟨g6, 0, none⟩) V.length c6)) := HX.out.ap.symm.appL (HL3.out.below hal) (by simp) hat4
            have B4 : Hid (RowKit.Below w.heap.size w w4) := (HB3.out.alloc (by omega) _).grown hgr4 (by simp; omega) (fun y hy => ((HG3.out.below hal).blockLt hy).1)
            have hsz4 : w.heap.size ≤ w4.heap.size := B4.out.size
            obtain ⟨gg, cc, cs4, e4, _, _, hgc4, hcs4, _⟩ := L4.out.vrow.open (by rw [ucells_len]; omega)
            rw [ucells_len] at e4
            cases e4
            have HGC4 : Hid (w4.heap[g6]? = some (.cells cs4 25 (0, 0))) := hgc4
            have HCS4 := mkHid hcs4
            have HBG : Hid (w.heap.size ≤ g6) := (L4.out.blockLt rfl).1
            obtain ⟨AD, hAD, HAD⟩ : ∃ AD : Addr, (if c6 = q + 1 then some (⟨g6, 0, none⟩ : Addr) else some ⟨g6, q + 1, none⟩) = some AD ∧ Hid (0 < V.length - (q + 1) → AD = ⟨g6, q + 1, none⟩) := by
              by_cases h : c6 = q + 1
              · exact ⟨_, by rw [if_pos h], fun h2 => by omega⟩
              · exact ⟨_, by rw [if_neg h], fun _ => rfl⟩
            have hqc6 : (q : Int) ≤ (c6 : Int) := by omega
            clear hown4 hgr4 hat4 hal hgc4 hcs4 hlu hlg
            go_wp2_with fail
            go_region_law (refine step_cutL rfl (.tmp 127) (.tmp 131) 40 rfl w.heap.size 25 i0 (.int .u64 0) 8 Try.underlying40 hi hz0 hz1 hz2 rfl g6 q (ucells V) (by simp [Act.eval, Act.put]) (by rw [ucells_len]; exact HQ.out) cs4 HGC4.out HCS4.out AD (V.length - (q + 1)) (c6 - (q + 1)) (by rw [ucells_len]) (by simp [Act.eval, Act.put]) HAD.out (one_cells V) (by rw [ucells_len]; omega) (by rw [ucells_len]; omega) HBG.out (by simpa using hsz4) ?_; intro v5 w5 hl5 hb5 hat5; replace hl5 := mkHid hl5; replace hb5 := mkHid hb5; replace hat5 := mkHid hat5)
            obtain ⟨v1, hv1⟩ : ∃ v1, v1 = V.length - 1 := ⟨_, rfl⟩
            have HB5 : Hid (RowKit.Below w4.heap.size w4 w5) := (RowKit.Below.refl _ w4).drew.trans hb5.out
            obtain ⟨a5, c5, e5⟩ := hl5.out.vrow.slice
            rw [List.length_eraseIdx_of_lt (by rw [ucells_len]; exact HQ.out), ucells_len, ← hv1] at e5
            subst e5
            have L5 : Hid (LRow w5 w.heap.size 25 (.slice a5 v1 c5) (ucells (V.eraseIdx q))) := by rw [ucells_erase']; exact hl5.out
            have N5 := mkHid (N4.out.below HB5.out)
            have hsz5 : w.heap.size ≤ w5.heap.size := Nat.le_trans hsz4 HB5.out.size
            have P5 : Hid (Apart (.slice a5 v1 c5) (.slice (some ⟨g4, 0, none⟩) (G.length + 1) cap4)) := P4.out.symm.cut (g := g6) rfl G4.out hat5.out
            obtain ⟨g7, c7', cs7, e7, hcc7, _, hgc7, hcs7, _⟩ := N5.out.vrow.open (by rw [HLI.out]; omega)
            rw [HLI.out] at e7 hcc7
            cases e7
            have HGC7 : Hid (w5.heap[g7]? = some (.cells cs7 3 (0, 0))) := hgc7
            have HCS7 := mkHid hcs7
            have HBG7 : Hid (w.heap.size ≤ g7) := (N5.out.blockLt rfl).1
            obtain ⟨AD7, hAD7, HAD7⟩ : ∃ AD : Addr, (if c7 = q + 1 then some (⟨g7, 0, none⟩ : Addr) else some ⟨g7, q + 1, none⟩) = some AD ∧ Hid (0 < V.length - (q + 1) → AD = ⟨g7, q + 1, none⟩) := by
              by_cases h : c7 = q + 1
              · exact ⟨_, by rw [if_pos h], fun h2 => by omega⟩
              · exact ⟨_, by rw [if_neg h], fun _ => rfl⟩
            have hqc7 : (q : Int) ≤ (c7 : Int) := by omega
            have HV1 := mkHid hv1
            clear hgc7 hcs7 hv1 hl5 hb5 hat5
            go_wp2_with fail
            go_region_law (refine step_cutL rfl (.tmp 136) (.tmp 140) 37 rfl w.heap.size 3 j0 (.int .i64 0) 8 Try.underlying37 hj hy0 hy1 hy2 rfl g7 q (icells N) (by simp [Act.eval, Act.put]) (by rw [HLI.out]; exact HQ.out) cs7 HGC7.out HCS7.out AD7 (V.length - (q + 1)) (c7 - (q + 1)) (by rw [HLI.out]) (by simp [Act.eval, Act.put]) HAD7.out (one_icells N) (by rw [HLI.out]; omega) (by rw [HLI.out]; omega) HBG7.out (by simpa using hsz5) ?_; intro v6 w6 hl6 hb6 hat6; replace hl6 := mkHid hl6; replace hb6 := mkHid hb6; clear hat6)
            have HB6 : Hid (RowKit.Below w5.heap.size w5 w6) := (RowKit.Below.refl _ w5).drew.trans hb6.out
            obtain ⟨a7, c7, e7⟩ := hl6.out.vrow.slice
            rw [List.length_eraseIdx_of_lt (by rw [HLI.out]; exact HQ.out), HLI.out, ← HV1.out] at e7
            subst e7
            have HST : Hid (Sta w.heap.size w w6 w0.heap.size n (i + 1 + 1) (.slice a5 v1 c5) (.slice a7 v1 c7) (.slice (some ⟨g4, 0, none⟩) (G.length + 1) cap4) L2 (p :: F) (V.eraseIdx q) (N.eraseIdx q) (G ++ [y])) :=
              ⟨(A4.out.below HB5.out).below HB6.out, L5.out.below HB6.out, by rw [icells_erase]; exact hl6.out, (G4.out.below HB5.out).below HB6.out, P5.out, (B4.out.trans (HB5.out.mono hsz4)).trans (HB6.out.mono hsz5), HSS.out⟩
            have HLV : Hid ((V.eraseIdx q).length = v1) := by show _ = _; rw [List.length_eraseIdx_of_lt HQ.out]; exact HV1.out.symm
            have HLG : Hid ((G ++ [y]).length = G.length + 1) := by show _ = _; simp
            have HGI : Hid (G.length + 1 ≤ i + 1) := by show _ ≤ _; omega
            have HLT : Hid (v1 ≤ 8) := by show _ ≤ _; have := HV1.out; omega
            have HLT2 : Hid (G.length + 1 ≤ 1048577) := by show _ ≤ _; omega
            clear HL3 HA3 HG3 HB3 HAB3 A4 G4 N4 L4 P4 B4 L5 N5 P5 hl6 hb6 HB5 HB6 HF1 HSS HX HGC4 HCS4 HGC7 HCS7 HAD HAD7
            go_wp2_with fail
            go_loop [16] (fun y => ∃ k : Nat, y = .int .i64 k ∧ k ≤ v1) (fun y => v1 - (intOf y).toNat)
            case atStart => exact ⟨0, rfl, by omega⟩
            case round =>
              obtain ⟨k, rfl, hk⟩ := hrel
              by_cases hk2 : k < v1
              · have hkV : k < (V.eraseIdx q).length := by have := HLV.out; omega
                obtain ⟨p, hlk, hnn⟩ := HST.out.ss.live k hkV
                obtain ⟨g6, e6, q6⟩ := HST.out.live.vrow.cellU hkV
                obtain ⟨g7, e7, q7⟩ := HST.out.at_.vrow.cellI (k := k) (by rw [HST.out.ss.len]; exact hkV)
                have hfw := HST.out.ab.few
                have hxx : (V.eraseIdx q).getD k 0 < 18446744073709551616 := by
                  have h1 := look_eq hlk
                  obtain ⟨_, h2, _, _⟩ := look_some hlk
                  have := hfw.2.2 p h2
                  rw [h1]; exact hnd_lt (by omega) this
                have hAT := ab_At HST.out.ab ((V.eraseIdx q).getD k 0) p hxx hlk
                rw [← hnn] at hAT
                have HAT := mkHid hAT
                generalize (V.eraseIdx q).getD k 0 = yy at HAT q6
                generalize (N.eraseIdx q).getD k 0 = nn at HAT q7
                have hne : (nn != nn) = false := by simp
                have hk0' : (0 : Int) ≤ (k : Int) := by omega
                have hk1' : (k : Int) < ((v1 : Nat) : Int) := by omega
                have hk3' : k < 4294967296 := by have := HLT.out; omega
                skip
                clear hlk hnn hfw hxx hAT hkV
                cases e6
                cases e7
                go_wp2_with fail
                refine HAT.out.mono ?_
                rintro e wz ⟨rfl, rfl⟩
                go_wp2_with fail
                go_round
                case rel => exact ⟨k + 1, by go_num, by omega⟩
                case measure => simp [intOf]; omega
              · go_wp2_with fail
                go_loop [19] (fun y => ∃ k : Nat, y = .int .i64 k ∧ k ≤ (G.length + 1)) (fun y => (G.length + 1) - (intOf y).toNat)
                case atStart => exact ⟨0, rfl, by omega⟩
                case round =>
                  obtain ⟨k, rfl, hk⟩ := hrel
                  by_cases hk2 : k < (G.length + 1)
                  · have hkV : k < (G ++ [y]).length := by have := HLG.out; omega
                    obtain ⟨g8, e8, q8⟩ := HST.out.gone.vrow.cellU hkV
                    have hol : Old _ ((G ++ [y]).getD k 0) := HST.out.ss.gone _ (by rw [List.getD_eq_getElem?_getD, List.getElem?_eq_getElem hkV]; exact List.getElem_mem hkV)
                    have hlk := hol.look
                    have hfw := HST.out.ab.few
                    have hxx : (G ++ [y]).getD k 0 < 18446744073709551616 := by
                      obtain ⟨p, gg, h1, h2, h3, h4⟩ := hol
                      have := hfw.2.2 p h2
                      rw [h1]; exact hnd_lt h3 (by omega)
                    have H1 := mkHid (ab_At_no HST.out.ab _ hxx hlk)
                    have H2 := mkHid (ab_Move_no HST.out.ab _ 1 hxx hlk)
                    have H3 := mkHid (ab_Free_no HST.out.ab _ hxx hlk)
                    generalize (G ++ [y]).getD k 0 = yy at H1 H2 H3 q8
                    have hk0' : (0 : Int) ≤ (k : Int) := by omega
                    have hk1' : (k : Int) < (((G.length + 1) : Nat) : Int) := by omega
                    have hk3' : k < 4294967296 := by have := HLT2.out; omega
                    skip
                    clear hlk hfw hxx hkV hol
                    cases e8
                    go_wp2_with fail
                    refine H1.out.mono ?_
                    rintro e wz ⟨rfl, rfl⟩
                    go_wp2_with fail
                    refine H2.out.mono ?_
                    rintro e wz ⟨rfl, rfl⟩
                    go_wp2_with fail
                    refine H3.out.mono ?_
                    rintro e wz ⟨rfl, rfl⟩
                    go_wp2_with fail
                    go_round
                    case rel => exact ⟨k + 1, by go_num, by omega⟩
                    case measure => simp [intOf]; omega
                  · go_wp2_with fail
                    go_roundw
                    case rel => exact ⟨i + 1, _, _, _, _, _, by go_num, by omega, by have := HLG.out; have := HGI.out; omega, HST.out⟩
                    case measure => simp [intOf]; omega
          · have hqn : (-(q : Int) < 0) := by omega
            have hqnb : decide (-(q : Int) < 0) = true := decide_eq_true hqn
            have hab := HX.out.ab
            have hfew := hab.few
            obtain ⟨p, hlk, hnn⟩ := HX.out.ss.live q hq
            have hss2 := HX.out.ss.free (by omega) hq hlk
            have hgen := HX.out.ss.gens p (look_some hlk).2.1
            have hxx : V.getD q 0 < 18446744073709551616 := by
              have h1 := look_eq hlk
              obtain ⟨_, h2, _, _⟩ := look_some hlk
              have := hfew.2.2 p h2
              rw [h1]; exact hnd_lt (by omega) this
            obtain ⟨g6, rfl, gx⟩ := HX.out.live.vrow.cellU hq
            have HF1 := mkHid (ab_Free hab (V.getD q 0) p hxx hlk (by omega))
            have HSS := mkHid hss2
            obtain ⟨y, hy⟩ : ∃ y, y = V.getD q 0 := ⟨_, rfl⟩
            rw [← hy] at gx HF1 HSS
            obtain ⟨L2, hL2⟩ : ∃ L2, L2 = frL L p := ⟨_, rfl⟩
            rw [show L.set p ⟨(rs L p).gen + 1, (rs L p).at_, false⟩ = frL L p from rfl, ← hL2] at HF1
            rw [← hL2] at HSS
            have HQ := mkHid hq
            have hq0 : (0 : Int) ≤ (q : Int) := by omega
            have hq1 : (q : Int) < (V.length : Int) := by omega
            have hq2 : (0 : Int) ≤ (q : Int) + 1 := by omega
            have hq3 : (q : Int) + 1 ≤ (V.length : Int) := by omega
            have hq4 : ((q : Int) + 1).toNat = q + 1 := by omega
            have hqw : IntKind.i64.wrap ((q : Int) + 1) = (q : Int) + 1 := by rw [IntKind.wrap_i64]; omega
            have HLI : Hid ((icells N).length = V.length) := by show _ = _; rw [icells_len]; exact HX.out.ss.len
            clear hab hfew hlk hnn hss2 hgen hxx hy hL2 hq
            go_wp2_with fail
            refine HF1.out.mono ?_
            rintro e w3 ⟨rfl, s3, a3⟩
            have HL3 := mkHid (HX.out.live.step s3 far_u64)
            have HA3 := mkHid (HX.out.at_.step s3 far_int)
            have HG3 := mkHid (HX.out.gone.step s3 far_u64)
            have HAB3 := mkHid a3
            have HB3 := mkHid (HX.out.bel.trans s3.below)
            have hsz3 : w.heap.size ≤ w3.heap.size := HB3.out.size
            obtain ⟨gg, cc, cs3, e3, hcc1, hcc2, hgc3, hcs3, hcell3⟩ := HL3.out.vrow.open (by rw [ucells_len]; omega)
            rw [ucells_len] at e3 hcc1
            cases e3
            have gx3 : w3.cell? ⟨g6, q, none⟩ = some (.int .u64 (y : Int)) := by
              have h1 := s3.keeps
              obtain ⟨_, _, csx, ex, _, _, hgx, hcx, hcellx⟩ := HX.out.live.vrow.open (by rw [ucells_len]; omega)
              rw [ucells_len] at ex
              cases ex
              have h2 := s3.keeps _ _ _ _ hgx far_u64
              rw [cell_of_row w3 g6 q _ _ _ h2, ← cell_of_row _ g6 q _ _ _ hgx]; exact gx
            have hcap6 : V.length ≤ c6 := hcc1
            have hlu : (ucells V).length = V.length := ucells_len V
            have hlg : (ucells G).length = G.length := ucells_len G
            have hV8 := HV8.out
            clear s3 a3 gx hgc3 hcs3 hcell3 hcc1 hcc2
            go_wp2_with (at_builtin; refine wpList_append_l rfl _ _ 40 rfl w.heap.size 25 i0 (.int .u64 0) 8 Try.underlying40 hi hz0 hz1 hz2 rfl _ (ucells G) rfl (HG3.out.below ((RowKit.Below.refl _ _).alloc (Nat.le_refl _) _)) _ (.int .u64 (y : Int)) rfl (cell_one_new _ _ _) (one_int _ _) (by unfold maxLen; omega) (by omega) (by simp; omega) ?_)
            intro g4 cap4 w4 hown4 hgr4 hat4
            have hal : RowKit.Below w3.heap.size w3 (w3.alloc (.cells #[.int .u64 (y : Int)] 25)) := (RowKit.Below.refl _ w3).alloc (Nat.le_refl _) _
            have A4 := mkHid (LRow.tab (HG3.out.below hal) far_u64 (HAB3.out.below hal) hgr4)
            have G4 : Hid (LRow w4 w.heap.size 25 (.slice (some ⟨g4, 0, none⟩) (G.length + 1) cap4) (ucells (G ++ [y]))) := by
              left; rw [ucells_snoc, List.length_append, hlg]; exact hown4
            have N4 := mkHid ((HA3.out.below hal).grown hgr4 ((HG3.out.below hal).apart (HA3.out.below hal) (by decide)))
            have L4 := mkHid ((HL3.out.below hal).grown hgr4 HX.out.ap.symm)
            have P4 : Hid (Apart (.slice (some ⟨g4, 0, none⟩) (G.length + 1) cap4) (.slice (some ⟨g6, 0, none⟩) V.length c6)) := HX.out.ap.symm.appL (HL3.out.below hal) (by simp) hat4
            have B4 : Hid (RowKit.Below w.heap.size w w4) := (HB3.out.alloc (by omega) _).grown hgr4 (by simp; omega) (fun y hy => ((HG3.out.below hal).blockLt hy).1)
            have hsz4 : w.heap.size ≤ w4.heap.size := B4.out.size
            obtain ⟨gg, cc, cs4, e4, _, _, hgc4, hcs4, _⟩ := L4.out.vrow.open (by rw [ucells_len]; omega)
            rw [ucells_len] at e4
            cases e4
            have HGC4 : Hid (w4.heap[g6]? = some (.cells cs4 25 (0, 0))) := hgc4
            have HCS4 := mkHid hcs4
            have HBG : Hid (w.heap.size ≤ g6) := (L4.out.blockLt rfl).1
            obtain ⟨AD, hAD, HAD⟩ : ∃ AD : Addr, (if c6 = q + 1 then some (⟨g6, 0, none⟩ : Addr) else some ⟨g6, q + 1, none⟩) = some AD ∧ Hid (0 < V.length - (q + 1) → AD = ⟨g6, q + 1, none⟩) := by
              by_cases h : c6 = q + 1
              · exact ⟨_, by rw [if_pos h], fun h2 => by omega⟩
              · exact ⟨_, by rw [if_neg h], fun _ => rfl⟩
            have hqc6 : (q : Int) ≤ (c6 : Int) := by omega
            clear hown4 hgr4 hat4 hal hgc4 hcs4 hlu hlg
            go_wp2_with fail
            go_region_law (refine step_cutL rfl (.tmp 127) (.tmp 131) 40 rfl w.heap.size 25 i0 (.int .u64 0) 8 Try.underlying40 hi hz0 hz1 hz2 rfl g6 q (ucells V) (by simp [Act.eval, Act.put]) (by rw [ucells_len]; exact HQ.out) cs4 HGC4.out HCS4.out AD (V.length - (q + 1)) (c6 - (q + 1)) (by rw [ucells_len]) (by simp [Act.eval, Act.put]) HAD.out (one_cells V) (by rw [ucells_len]; omega) (by rw [ucells_len]; omega) HBG.out (by simpa using hsz4) ?_; intro v5 w5 hl5 hb5 hat5; replace hl5 := mkHid hl5; replace hb5 := mkHid hb5; replace hat5 := mkHid hat5)
            obtain ⟨v1, hv1⟩ : ∃ v1, v1 = V.length - 1 := ⟨_, rfl⟩
            have HB5 : Hid (RowKit.Below w4.heap.size w4 w5) := (RowKit.Below.refl _ w4).drew.trans hb5.out
            obtain ⟨a5, c5, e5⟩ := hl5.out.vrow.slice
            rw [List.length_eraseIdx_of_lt (by rw [ucells_len]; exact HQ.out), ucells_len, ← hv1] at e5
            subst e5
            have L5 : Hid (LRow w5 w.heap.size 25 (.slice a5 v1 c5) (ucells (V.eraseIdx q))) := by rw [ucells_erase']; exact hl5.out
            have N5 := mkHid (N4.out.below HB5.out)
            have hsz5 : w.heap.size ≤ w5.heap.size := Nat.le_trans hsz4 HB5.out.size
            have P5 : Hid (Apart (.slice a5 v1 c5) (.slice (some ⟨g4, 0, none⟩) (G.length + 1) cap4)) := P4.out.symm.cut (g := g6) rfl G4.out hat5.out
            obtain ⟨g7, c7', cs7, e7, hcc7, _, hgc7, hcs7, _⟩ := N5.out.vrow.open (by rw [HLI.out]; omega)
            rw [HLI.out] at e7 hcc7
            cases e7
            have HGC7 : Hid (w5.heap[g7]? = some (.cells cs7 3 (0, 0))) := hgc7
            have HCS7 := mkHid hcs7
            have HBG7 : Hid (w.heap.size ≤ g7) := (N5.out.blockLt rfl).1
            obtain ⟨AD7, hAD7, HAD7⟩ : ∃ AD : Addr, (if c7 = q + 1 then some (⟨g7, 0, none⟩ : Addr) else some ⟨g7, q + 1, none⟩) = some AD ∧ Hid (0 < V.length - (q + 1) → AD = ⟨g7, q + 1, none⟩) := by
              by_cases h : c7 = q + 1
              · exact ⟨_, by rw [if_pos h], fun h2 => by omega⟩
              · exact ⟨_, by rw [if_neg h], fun _ => rfl⟩
            have hqc7 : (q : Int) ≤ (c7 : Int) := by omega
            have HV1 := mkHid hv1
            clear hgc7 hcs7 hv1 hl5 hb5 hat5
            go_wp2_with fail
            go_region_law (refine step_cutL rfl (.tmp 136) (.tmp 140) 37 rfl w.heap.size 3 j0 (.int .i64 0) 8 Try.underlying37 hj hy0 hy1 hy2 rfl g7 q (icells N) (by simp [Act.eval, Act.put]) (by rw [HLI.out]; exact HQ.out) cs7 HGC7.out HCS7.out AD7 (V.length - (q + 1)) (c7 - (q + 1)) (by rw [HLI.out]) (by simp [Act.eval, Act.put]) HAD7.out (one_icells N) (by rw [HLI.out]; omega) (by rw [HLI.out]; omega) HBG7.out (by simpa using hsz5) ?_; intro v6 w6 hl6 hb6 hat6; replace hl6 := mkHid hl6; replace hb6 := mkHid hb6; clear hat6)
            have HB6 : Hid (RowKit.Below w5.heap.size w5 w6) := (RowKit.Below.refl _ w5).drew.trans hb6.out
            obtain ⟨a7, c7, e7⟩ := hl6.out.vrow.slice
            rw [List.length_eraseIdx_of_lt (by rw [HLI.out]; exact HQ.out), HLI.out, ← HV1.out] at e7
            subst e7
            have HST : Hid (Sta w.heap.size w w6 w0.heap.size n (i + 1 + 1) (.slice a5 v1 c5) (.slice a7 v1 c7) (.slice (some ⟨g4, 0, none⟩) (G.length + 1) cap4) L2 (p :: F) (V.eraseIdx q) (N.eraseIdx q) (G ++ [y])) :=
              ⟨(A4.out.below HB5.out).below HB6.out, L5.out.below HB6.out, by rw [icells_erase]; exact hl6.out, (G4.out.below HB5.out).below HB6.out, P5.out, (B4.out.trans (HB5.out.mono hsz4)).trans (HB6.out.mono hsz5), HSS.out⟩
            have HLV : Hid ((V.eraseIdx q).length = v1) := by show _ = _; rw [List.length_eraseIdx_of_lt HQ.out]; exact HV1.out.symm
            have HLG : Hid ((G ++ [y]).length = G.length + 1) := by show _ = _; simp
            have HGI : Hid (G.length + 1 ≤ i + 1) := by show _ ≤ _; omega
            have HLT : Hid (v1 ≤ 8) := by show _ ≤ _; have := HV1.out; omega
            have HLT2 : Hid (G.length + 1 ≤ 1048577) := by show _ ≤ _; omega
            clear HL3 HA3 HG3 HB3 HAB3 A4 G4 N4 L4 P4 B4 L5 N5 P5 hl6 hb6 HB5 HB6 HF1 HSS HX HGC4 HCS4 HGC7 HCS7 HAD HAD7
            go_wp2_with fail
            go_loop [16] (fun y => ∃ k : Nat, y = .int .i64 k ∧ k ≤ v1) (fun y => v1 - (intOf y).toNat)
            case atStart => exact ⟨0, rfl, by omega⟩
            case round =>
              obtain ⟨k, rfl, hk⟩ := hrel
              by_cases hk2 : k < v1
              · have hkV : k < (V.eraseIdx q).length := by have := HLV.out; omega
                obtain ⟨p, hlk, hnn⟩ := HST.out.ss.live k hkV
                obtain ⟨g6, e6, q6⟩ := HST.out.live.vrow.cellU hkV
                obtain ⟨g7, e7, q7⟩ := HST.out.at_.vrow.cellI (k := k) (by rw [HST.out.ss.len]; exact hkV)
                have hfw := HST.out.ab.few
                have hxx : (V.eraseIdx q).getD k 0 < 18446744073709551616 := by
                  have h1 := look_eq hlk
                  obtain ⟨_, h2, _, _⟩ := look_some hlk
                  have := hfw.2.2 p h2
                  rw [h1]; exact hnd_lt (by omega) this
                have hAT := ab_At HST.out.ab ((V.eraseIdx q).getD k 0) p hxx hlk
                rw [← hnn] at hAT
                have HAT := mkHid hAT
                generalize (V.eraseIdx q).getD k 0 = yy at HAT q6
                generalize (N.eraseIdx q).getD k 0 = nn at HAT q7
                have hne : (nn != nn) = false := by simp
                have hk0' : (0 : Int) ≤ (k : Int) := by omega
                have hk1' : (k : Int) < ((v1 : Nat) : Int) := by omega
                have hk3' : k < 4294967296 := by have := HLT.out; omega
                skip
                clear hlk hnn hfw hxx hAT hkV
                cases e6
                cases e7
                go_wp2_with fail
                refine HAT.out.mono ?_
                rintro e wz ⟨rfl, rfl⟩
                go_wp2_with fail
                go_round
                case rel => exact ⟨k + 1, by go_num, by omega⟩
                case measure => simp [intOf]; omega
              · go_wp2_with fail
                go_loop [19] (fun y => ∃ k : Nat, y = .int .i64 k ∧ k ≤ (G.length + 1)) (fun y => (G.length + 1) - (intOf y).toNat)
                case atStart => exact ⟨0, rfl, by omega⟩
                case round =>
                  obtain ⟨k, rfl, hk⟩ := hrel
                  by_cases hk2 : k < (G.length + 1)
                  · have hkV : k < (G ++ [y]).length := by have := HLG.out; omega
                    obtain ⟨g8, e8, q8⟩ := HST.out.gone.vrow.cellU hkV
                    have hol : Old _ ((G ++ [y]).getD k 0) := HST.out.ss.gone _ (by rw [List.getD_eq_getElem?_getD, List.getElem?_eq_getElem hkV]; exact List.getElem_mem hkV)
                    have hlk := hol.look
                    have hfw := HST.out.ab.few
                    have hxx : (G ++ [y]).getD k 0 < 18446744073709551616 := by
                      obtain ⟨p, gg, h1, h2, h3, h4⟩ := hol
                      have := hfw.2.2 p h2
                      rw [h1]; exact hnd_lt h3 (by omega)
                    have H1 := mkHid (ab_At_no HST.out.ab _ hxx hlk)
                    have H2 := mkHid (ab_Move_no HST.out.ab _ 1 hxx hlk)
                    have H3 := mkHid (ab_Free_no HST.out.ab _ hxx hlk)
                    generalize (G ++ [y]).getD k 0 = yy at H1 H2 H3 q8
                    have hk0' : (0 : Int) ≤ (k : Int) := by omega
                    have hk1' : (k : Int) < (((G.length + 1) : Nat) : Int) := by omega
                    have hk3' : k < 4294967296 := by have := HLT2.out; omega
                    skip
                    clear hlk hfw hxx hkV hol
                    cases e8
                    go_wp2_with fail
                    refine H1.out.mono ?_
                    rintro e wz ⟨rfl, rfl⟩
                    go_wp2_with fail
                    refine H2.out.mono ?_
                    rintro e wz ⟨rfl, rfl⟩
                    go_wp2_with fail
                    refine H3.out.mono ?_
                    rintro e wz ⟨rfl, rfl⟩
                    go_wp2_with fail
                    go_round
                    case rel => exact ⟨k + 1, by go_num, by omega⟩
                    case measure => simp [intOf]; omega
                  · go_wp2_with fail
                    go_roundw
                    case rel => exact ⟨i + 1, _, _, _, _, _, by go_num, by omega, by have := HLG.out; have := HGI.out; omega, HST.out⟩
                    case measure => simp [intOf]; omega
        · have hVi : ¬ ((0 : Int) < (V.length : Int)) := by omega
          have hVib : decide ((0 : Int) < (V.length : Int)) = false := decide_eq_false hVi
          have HST : Hid (Sta w.heap.size w (wr.alloc (.cells #[.int .i64 d0, .int .i64 d1, .int .i64 d2, .int .u64 d3] 42)) w0.heap.size n (i + 1 + 1) (.slice a6 V.length c6) (.slice a7 V.length c7) (.slice a8 G.length c8) L F V N G) :=
            ⟨HX.out.ab, HX.out.live, HX.out.at_, HX.out.gone, HX.out.ap, HX.out.bel, HX.out.ss.mono (by omega)⟩
          have HLV : Hid (V.length = V.length) := rfl
          have HLG : Hid (G.length = G.length) := rfl
          have HGI : Hid (G.length ≤ i + 1) := by show _ ≤ _; omega
          have HLT : Hid (V.length ≤ 8) := HV8.out
          have HLT2 : Hid (G.length ≤ 1048576) := by show _ ≤ _; omega
          clear HX
          go_wp2_with fail
          go_loop [16] (fun y => ∃ k : Nat, y = .int .i64 k ∧ k ≤ V.length) (fun y => V.length - (intOf y).toNat)
          case atStart => exact ⟨0, rfl, by omega⟩
          case round =>
            obtain ⟨k, rfl, hk⟩ := hrel
            by_cases hk2 : k < V.length
            · have hkV : k < (V).length := by have := HLV.out; omega
              obtain ⟨p, hlk, hnn⟩ := HST.out.ss.live k hkV
              obtain ⟨g6, e6, q6⟩ := HST.out.live.vrow.cellU hkV
              obtain ⟨g7, e7, q7⟩ := HST.out.at_.vrow.cellI (k := k) (by rw [HST.out.ss.len]; exact hkV)
              have hfw := HST.out.ab.few
              have hxx : (V).getD k 0 < 18446744073709551616 := by
                have h1 := look_eq hlk
                obtain ⟨_, h2, _, _⟩ := look_some hlk
                have := hfw.2.2 p h2
                rw [h1]; exact hnd_lt (by omega) this
              have hAT := ab_At HST.out.ab ((V).getD k 0) p hxx hlk
              rw [← hnn] at hAT
              have HAT := mkHid hAT
              generalize (V).getD k 0 = yy at HAT q6
              generalize (N).getD k 0 = nn at HAT q7
              have hne : (nn != nn) = false := by simp
              have hk0' : (0 : Int) ≤ (k : Int) := by omega
              have hk1' : (k : Int) < ((V.length : Nat) : Int) := by omega
              have hk3' : k < 4294967296 := by have := HLT.out; omega
              skip
              clear hlk hnn hfw hxx hAT hkV
              cases e6
              cases e7
              go_wp2_with fail
              refine HAT.out.mono ?_
              rintro e wz ⟨rfl, rfl⟩
              go_wp2_with fail
              go_round
              case rel => exact ⟨k + 1, by go_num, by omega⟩
              case measure => simp [intOf]; omega
            · go_wp2_with fail
              go_loop [19] (fun y => ∃ k : Nat, y = .int .i64 k ∧ k ≤ G.length) (fun y => G.length - (intOf y).toNat)
              case atStart => exact ⟨0, rfl, by omega⟩
              case round =>
                obtain ⟨k, rfl, hk⟩ := hrel
                by_cases hk2 : k < G.length
                · have hkV : k < (G).length := by have := HLG.out; omega
                  obtain ⟨g8, e8, q8⟩ := HST.out.gone.vrow.cellU hkV
                  have hol : Old _ ((G).getD k 0) := HST.out.ss.gone _ (by rw [List.getD_eq_getElem?_getD, List.getElem?_eq_getElem hkV]; exact List.getElem_mem hkV)
                  have hlk := hol.look
                  have hfw := HST.out.ab.few
                  have hxx : (G).getD k 0 < 18446744073709551616 := by
                    obtain ⟨p, gg, h1, h2, h3, h4⟩ := hol
                    have := hfw.2.2 p h2
                    rw [h1]; exact hnd_lt h3 (by omega)
                  have H1 := mkHid (ab_At_no HST.out.ab _ hxx hlk)
                  have H2 := mkHid (ab_Move_no HST.out.ab _ 1 hxx hlk)
                  have H3 := mkHid (ab_Free_no HST.out.ab _ hxx hlk)
                  generalize (G).getD k 0 = yy at H1 H2 H3 q8
                  have hk0' : (0 : Int) ≤ (k : Int) := by omega
                  have hk1' : (k : Int) < ((G.length : Nat) : Int) := by omega
                  have hk3' : k < 4294967296 := by have := HLT2.out; omega
                  skip
                  clear hlk hfw hxx hkV hol
                  cases e8
                  go_wp2_with fail
                  refine H1.out.mono ?_
                  rintro e wz ⟨rfl, rfl⟩
                  go_wp2_with fail
                  refine H2.out.mono ?_
                  rintro e wz ⟨rfl, rfl⟩
                  go_wp2_with fail
                  refine H3.out.mono ?_
                  rintro e wz ⟨rfl, rfl⟩
                  go_wp2_with fail
                  go_round
                  case rel => exact ⟨k + 1, by go_num, by omega⟩
                  case measure => simp [intOf]; omega
                · go_wp2_with fail
                  go_roundw
                  case rel => exact ⟨i + 1, _, _, _, _, _, by go_num, by omega, by have := HLG.out; have := HGI.out; omega, HST.out⟩
                  case measure => simp [intOf]; omega
    · have HS := mkHid hS
      clear hS
      go_wp2_with fail
      go_ret
      exact ⟨rfl, HS.out.bel⟩
end Go.Proofs.Ytjibnokgkaehfaa
