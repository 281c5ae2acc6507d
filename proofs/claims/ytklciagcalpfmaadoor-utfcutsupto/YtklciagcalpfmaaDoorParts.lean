/- The walk of the statement UtfParts: for any text and any row of bytes the call returns true; nothing that was there is changed. Conditions: text and row no longer than a machine's memory allows. -/
import Derived.Test.YtklciagcalpfmaaDoorAwake
import Derived.Test.YtklciagcalpfmaaDoorCutw
import Derived.OpenShut
namespace Go.Proofs.YtklciagcalpfmaaDoor
open Go.RowKit

def IsRow (k : IntKind) (w : World) (a : Option Addr) (len cap : Nat) (zs : List Int) : Prop :=
  (a = none ∧ len = 0 ∧ cap = 0 ∧ zs = []) ∨
  ∃ x, a = some x ∧ len ≤ cap ∧ cap ≤ maxLen ∧ zs.length = cap ∧ (∀ i, i < zs.length → w.cell? (x.add i) = some (.int k (zs.getD i 0))) ∧ ∀ n ∈ zs, (Lit.int k n).wf = true

/-- An element of such a row, its cell and its range. -/
theorem IsRow.at8 {w : World} {a : Option Addr} {len cap : Nat} {zs : List Int} (h : IsRow .u8 w a len cap zs) :
    len = 0 ∨ ∃ b off, a = some ⟨b, off, none⟩ ∧ b < w.heap.size ∧ ∀ i, i < len → w.cell? ⟨b, off + i, none⟩ = some (.int .u8 (zs.getD i 0)) ∧ 0 ≤ zs.getD i 0 ∧ zs.getD i 0 ≤ 255 := by
  rcases h with ⟨_, h, _⟩ | ⟨x, rfl, hl, hm, hz, hcell, hwz⟩
  · exact Or.inl h
  · by_cases h0 : len = 0
    · exact Or.inl h0
    · obtain ⟨b, off, rfl, hc⟩ := ints_at hcell (by omega)
      refine Or.inr ⟨b, off, rfl, ?_, fun i hi => ⟨hc i (by omega), ?_⟩⟩
      · have h1 := hc 0 (by omega)
        by_cases hb : b < w.heap.size
        · exact hb
        · simp [World.cell?, Array.getElem?_eq_none (Nat.le_of_not_lt hb)] at h1
      · have := range_u8 hwz i
        simpa using this

theorem sub_len (rs : List Nat) (a b : Nat) (h : a ≤ b) : (bytesOf ((rs.take b).drop a)).length ≤ (bytesOf rs).length := by
  have e1 : rs = rs.take b ++ rs.drop b := (List.take_append_drop b rs).symm
  have e2 : rs.take b = rs.take a ++ (rs.take b).drop a := by
    have := (List.take_append_drop a (rs.take b)).symm
    rwa [List.take_take, Nat.min_eq_left h] at this
  have e3 : bytesOf rs = bytesOf (rs.take a) ++ (bytesOf ((rs.take b).drop a) ++ bytesOf (rs.drop b)) := by
    rw [← bytesOf_append, ← bytesOf_append, ← List.append_assoc, ← e2, ← e1]
  rw [e3, List.length_append, List.length_append]
  omega
theorem sub_count (rs : List Nat) (a b : Nat) (hb : b ≤ rs.length) : ((rs.take b).drop a).length = b - a := by
  rw [List.length_drop, List.length_take]; omega
theorem sub_ok (rs : List Nat) (a b : Nat) (h : allOk rs) : allOk ((rs.take b).drop a) :=
  fun r hr => h r (List.mem_of_mem_take (List.mem_of_mem_drop hr))
theorem take_step (rs : List Nat) (a b : Nat) (h : a ≤ b) : bytesOf (rs.take b) = bytesOf (rs.take a) ++ bytesOf ((rs.take b).drop a) := by
  have e2 : rs.take b = rs.take a ++ (rs.take b).drop a := by
    have := (List.take_append_drop a (rs.take b)).symm
    rwa [List.take_take, Nat.min_eq_left h] at this
  rw [← bytesOf_append, ← e2]

set_option maxRecDepth 10000 in
theorem and7 (z : Int) (h0 : 0 ≤ z) (h1 : z ≤ 255) : bits BinOp.and IntKind.u8 z 7 = z % 8 := by
  have key : ∀ n : Nat, n < 256 → bits BinOp.and IntKind.u8 (n : Int) 7 = (n : Int) % 8 := by decide +kernel
  have := key z.toNat (by omega)
  rwa [Int.toNat_of_nonneg h0] at this

set_option maxHeartbeats 4000000 in
set_option maxRecDepth 1000000 in
theorem parts_good (s : ByteArray) (rs : List Nat) (a1 : Option Addr) (len1 cap1 : Nat) (z1 : List Int) (w : World) (hs : s.size ≤ 140737488355328) (hlen : len1 ≤ 140737488355328) (ho : allOk rs) (he : s.data.toList = bytesOf rs) (row : IsRow .u8 w a1 len1 cap1 z1) :
    Calls Tryd.prog 8 #[.string s, .slice a1 len1 cap1] w fun e w' => e = .returned (.bool true) ∧ Below w.heap.size w w' := by
  have hs0 : s.size ≤ maxLen := by unfold maxLen; omega
  have hrl := len_le rs
  rw [← he, size_list] at hrl
  have HE : Hid (s.data.toList = bytesOf rs) := he
  have HO : Hid (allOk rs) := ho
  have HROW : Hid _ := row.at8
  clear he ho row
  go_enter Tryd.func8, Tryd.ntmps8
  go_wp2_with fail
  refine (awake_any _).mono ?_
  rintro e w1 ⟨rfl, b1⟩
  go_wp2_with fail
  refine (count_good s rs _ hs0 HO.out HE.out).mono ?_
  rintro e w2 ⟨rfl, b2⟩
  have hB2 : Below w.heap.size w w2 := b1.trans (b2.mono b1.size)
  clear b1 b2
  go_wp2_with fail
  go_loopw [7, 8, 9] (fun t7 t8 t9 wr => ∃ (at_ i : Nat) (al : ByteArray), t7 = .int .i64 at_ ∧ t8 = .string al ∧ t9 = .int .i64 i ∧ at_ ≤ rs.length ∧ i ≤ len1 + 1 ∧ (i = len1 + 1 → at_ = rs.length) ∧ al.data.toList = bytesOf (rs.take at_) ∧ Below w.heap.size w wr) (fun _ _ t9 _ => len1 + 1 - (intOf t9).toNat)
  case atStart =>
    exact ⟨0, 0, ⟨#[]⟩, rfl, rfl, rfl, by omega, by omega, by omega, by simp [bytesOf_nil], hB2⟩
  case round =>
    obtain ⟨at_, i, al, rfl, rfl, rfl, hat, hi, hend, hal, hbw⟩ := hrel
    have HAL : Hid (al.data.toList = bytesOf (rs.take at_)) := hal
    have hals : al.size ≤ s.size := by
      have h1 := take_len_le rs at_ rs.length hat
      rw [List.take_length, ← HE.out, size_list, ← hal, size_list] at h1
      exact h1
    have HEND : Hid (i = len1 + 1 → at_ = rs.length) := hend
    clear hal hend
    by_cases hle : i ≤ len1
    · by_cases hlt : i < len1
      · obtain ⟨b, off, rfl, hb, hcells⟩ : ∃ b off, a1 = some ⟨b, off, none⟩ ∧ b < w.heap.size ∧ ∀ i, i < len1 → w.cell? ⟨b, off + i, none⟩ = some (.int .u8 (z1.getD i 0)) ∧ 0 ≤ z1.getD i 0 ∧ z1.getD i 0 ≤ 255 := by
          rcases HROW.out with h | h
          · omega
          · exact h
        obtain ⟨hc, hz0, hz1⟩ := hcells i hlt
        clear hcells
        have hcw : wr.cell? ⟨b, off + i, none⟩ = some (.int .u8 (z1.getD i 0)) := by
          rw [hbw.cell (p := ⟨b, off + i, none⟩) hb]; exact hc
        clear hc
        have h7 := and7 _ hz0 hz1
        generalize z1.getD i 0 = z at hcw hz0 hz1 h7
        obtain ⟨d, hd⟩ : ∃ d : Nat, z % 8 = (d : Int) := ⟨(z % 8).toNat, by omega⟩
        have hd7 : d ≤ 7 := by omega
        rw [hd] at h7
        clear hd
        have hmn : min ((at_ : Int) + (d : Int)) (rs.length : Int) = ((min (at_ + d) rs.length : Nat) : Int) := by omega
        go_wp2_with fail
        clear hmn
        have hto1 : at_ ≤ min (at_ + d) rs.length := by omega
        have hto2 : min (at_ + d) rs.length ≤ rs.length := by omega
        generalize min (at_ + d) rs.length = to at hto1 hto2 ⊢
        refine (cut_good s rs at_ to _ hs HO.out HE.out hto1 hto2).mono ?_
        rintro e w3 ⟨p, rfl, hp, b3⟩
        have hps : p.size ≤ s.size := by
          rw [← size_list, ← size_list, hp, HE.out]; exact sub_len rs at_ to hto1
        have HP : Hid (p.data.toList = bytesOf ((rs.take to).drop at_)) := hp
        clear hp
        go_wp2_with fail
        refine (count_good p ((rs.take to).drop at_) _ (by unfold maxLen; omega) (sub_ok rs at_ to HO.out) HP.out).mono ?_
        rw [sub_count rs at_ to hto2]
        rintro e w4 ⟨rfl, b4⟩
        have hsub : ((to - at_ : Nat) : Int) = (to : Int) - (at_ : Int) := by omega
        rw [hsub]
        clear hsub
        go_wp2_with fail
        refine ⟨⟨to, i + 1, al ++ p, rfl, rfl, by go_num, hto2, by omega, fun h => by omega, ?_, hbw.trans ((b3.trans (b4.mono b3.size)).mono hbw.size)⟩, by simp [intOf]; omega⟩
        rw [ByteArray.data_append, Array.toList_append, HAL.out, HP.out, take_step rs at_ to hto1]
      · have hto1 : at_ ≤ rs.length := hat
        have hil : (i : Int) = (len1 : Int) := by omega
        have hnl : ¬ (i : Int) < (len1 : Int) := by omega
        have HIL : Hid (i = len1) := by show i = len1; omega
        clear hil
        go_wp2_with fail
        refine (cut_good s rs at_ rs.length _ hs HO.out HE.out hat (Nat.le_refl _)).mono ?_
        rintro e w3 ⟨p, rfl, hp, b3⟩
        have hps : p.size ≤ s.size := by
          rw [← size_list, ← size_list, hp, HE.out]; exact sub_len rs at_ rs.length hat
        have HP : Hid (p.data.toList = bytesOf ((rs.take rs.length).drop at_)) := hp
        clear hp
        go_wp2_with fail
        refine (count_good p ((rs.take rs.length).drop at_) _ (by unfold maxLen; omega) (sub_ok rs at_ rs.length HO.out) HP.out).mono ?_
        rw [sub_count rs at_ rs.length (Nat.le_refl _)]
        rintro e w4 ⟨rfl, b4⟩
        have hsub : ((rs.length - at_ : Nat) : Int) = (rs.length : Int) - (at_ : Int) := by omega
        rw [hsub]
        clear hsub
        go_wp2_with fail
        refine ⟨⟨rs.length, i + 1, al ++ p, rfl, rfl, by go_num, Nat.le_refl _, by omega, fun _ => rfl, ?_, hbw.trans ((b3.trans (b4.mono b3.size)).mono hbw.size)⟩, by simp [intOf]; omega⟩
        rw [ByteArray.data_append, Array.toList_append, HAL.out, HP.out, take_step rs at_ rs.length hat]
    · have hall : (al.toList == s.toList) = true := by
        have ha := HEND.out (by omega)
        rw [ByteArray.toList_eq, ByteArray.toList_eq, HAL.out, HE.out, ha, List.take_length]
        simp
      go_wp2_with fail
      go_ret
      exact ⟨rfl, hbw⟩

set_option maxHeartbeats 4000000 in
set_option maxRecDepth 1000000 in
theorem parts_bad (s : ByteArray) (a1 : Option Addr) (len1 cap1 : Nat) (w : World) (hs : s.size ≤ maxLen) (hv : validB s = false) :
    Calls Tryd.prog 8 #[.string s, .slice a1 len1 cap1] w fun e w' => e = .returned (.bool true) ∧ Below w.heap.size w w' := by
  go_enter Tryd.func8, Tryd.ntmps8
  go_wp2_with fail
  refine (awake_any _).mono ?_
  rintro e w1 ⟨rfl, b1⟩
  go_wp2_with fail
  refine (count_bad s _ hs hv).mono ?_
  rintro e w2 ⟨rfl, b2⟩
  go_wp2_with fail
  go_ret
  exact ⟨rfl, b1.trans (b2.mono b1.size)⟩

theorem parts_any (s : ByteArray) (a1 : Option Addr) (len1 cap1 : Nat) (z1 : List Int) (w : World) (hs : s.size ≤ 140737488355328) (hlen : len1 ≤ 140737488355328) (row : IsRow .u8 w a1 len1 cap1 z1) :
    Calls Tryd.prog 8 #[.string s, .slice a1 len1 cap1] w fun e w' => e = .returned (.bool true) ∧ Below w.heap.size w w' := by
  cases hv : validB s
  · exact parts_bad s a1 len1 cap1 w (by unfold maxLen; omega) hv
  · obtain ⟨rs, ho, he⟩ := valid_runes s hv
    exact parts_good s rs a1 len1 cap1 z1 w hs hlen ho he row
end Go.Proofs.YtklciagcalpfmaaDoor
