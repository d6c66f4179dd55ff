/- The walk of PackBack: what is written is read, whatever is behind it. -/
import Derived.Test.YtiofmcjnpnokbaaPackSizes
namespace Go.Proofs.Ytiofmcjnpnokbaa
open Go.RowKit
set_option linter.unusedVariables false

theorem natI_of {zs : List Int} (h : ∀ z ∈ zs, Fits z) : natI (zs.map Int.toNat) = zs := by
  unfold natI
  rw [List.map_map]
  conv => rhs; rw [← List.map_id zs]
  apply List.map_congr_left
  intro z hz
  have := (h z hz).1
  show ((z.toNat : Nat) : Int) = z
  omega

theorem fits_nat {zs : List Int} (h : ∀ z ∈ zs, Fits z) : ∀ n ∈ zs.map Int.toNat, n < 4294967296 := by
  intro n hn
  obtain ⟨z, hz, rfl⟩ := List.mem_map.1 hn
  have := h z hz
  unfold Fits at this
  omega

theorem takeV_num (x : Nat) (b : ByteArray) (hx : x < 4294967296) : takeV (Pack.take ((str (Pack.num x)).data.toList ++ b.data.toList)) = .tuple #[.int .i64 (x : Int), .string b, .int .i64 0] := by
  rw [str_data, Pack.take_num x _ hx]
  unfold takeV
  rw [str_of]; rfl

theorem cutV_text (s b : ByteArray) (h : s.size ≤ 65535) : cutV (Pack.cut ((str (Pack.num s.size ++ s.data.toList)).data.toList ++ b.data.toList)) = .tuple #[.string s, .string b, .int .i64 0] := by
  have e := Pack.cut_text s.data.toList b.data.toList (by rw [size_list]; exact h)
  rw [size_list] at e
  rw [str_data, e]
  unfold cutV
  rw [str_of, str_of]; rfl

theorem each_list (zs : List Int) (b : ByteArray) (hl : zs.length ≤ 1000) (h : ∀ z ∈ zs, Fits z) :
    Pack.each ((str (Pack.num zs.length ++ Pack.nums (zs.map Int.toNat))).data.toList ++ b.data.toList) = (zs.map Int.toNat, b.data.toList, 0) := by
  have e := Pack.each_nums (zs.map Int.toNat) b.data.toList (by rw [List.length_map]; exact hl) (fits_nat h)
  rw [List.length_map] at e
  rw [str_data]
  exact e

set_option maxRecDepth 100000 in
set_option maxHeartbeats 4000000 in
theorem walk_PackBack_A (s : ByteArray) (v : Value) (zs : List Int) (b : ByteArray) (w : World) (hs : s.size ≤ 70000) (h65 : s.size ≤ 65535) (hb : b.size ≤ 70000) (hv : SliceI w v zs) (hz : zs.length ≤ 1100) :
    Calls Try.prog 5 #[.string s, v, .string b] w fun e w' => e = .returned (.bool true) ∧ Below w.heap.size w w' := by
  obtain ⟨a, cap, rfl, hcap, hrow⟩ := hv
  have hd : decide ((s.size : Int) ≤ 70000) = true := by simp; omega
  have hdb : decide ((b.size : Int) ≤ 70000) = true := by simp; omega
  have hd2 : decide ((1100 : Int) < (zs.length : Int)) = false := by simp; omega
  have HROW := Lib.hid hrow
  clear hrow
  have hls := size_list s
  have hn5 := (Pack.num_len_le s.size).2
  have HT : Hid (textV (Pack.text s.data.toList) = .tuple #[.string (str (Pack.num s.size ++ s.data.toList)), .int .i64 0]) := Lib.hid (by unfold Pack.text; rw [hls, if_neg (by omega)]; rfl)
  have hus : (str (Pack.num s.size ++ s.data.toList)).size ≤ 70005 := by rw [str_size, List.length_append, hls]; omega
  have HC := Lib.hid (cutV_text s b h65)
  clear hls hn5
  go_enter Try.func5, Try.ntmps5
  go_wp2_with fail
  refine (law01_short s _ (by unfold maxLen; omega)).mono ?_
  rintro e w' ⟨rfl, rfl⟩
  go_wp2_with fail
  refine (law01_short b _ (by unfold maxLen; omega)).mono ?_
  rintro e w' ⟨rfl, rfl⟩
  go_wp2_with fail
  refine (pack_Text s _ (by omega)).mono ?_
  rintro e w1 ⟨rfl, hb1⟩
  rw [HT.out]
  generalize str (Pack.num s.size ++ s.data.toList) = U at *
  have hap : (U ++ b).size ≤ 1000000000 := by rw [size_app]; omega
  have HAP := Lib.hid hap
  clear hap
  go_wp2_with fail
  refine (pack_Cut (U ++ b) _ HAP.out).mono ?_
  rintro e w2 ⟨rfl, hb2⟩
  rw [str_app, HC.out]
  have HB0 := Lib.hid (grew hb1 hb2)
  clear hb1 hb2
  go_wp2
  go_loopw [12] (fun i wr => ∃ k : Nat, k ≤ zs.length ∧ i = .int .i64 k ∧ (∀ z ∈ zs.take k, Fits z) ∧ Below w.heap.size w wr) (fun i _ => zs.length - (intOf i).toNat)
  case atStart => exact ⟨0, by omega, rfl, by simp, HB0.out⟩
  case round =>
    obtain ⟨k, hk, rfl, hfit, hbel⟩ := hrel
    have HF := Lib.hid hfit
    have HB := Lib.hid hbel
    clear hfit hbel
    by_cases hlt : k < zs.length
    · have hdk : decide ((k : Int) < (zs.length : Int)) = true := by simp; omega
      have hdn : decide (k < zs.length) = true := by simpa using hlt
      have hik : (k : Int) < (zs.length : Int) := by omega
      rcases HROW.out with h | ⟨blk, off, rfl, hblk, hcells⟩
      · subst h; simp at hlt
      · have hcell : wr.cell? ⟨blk, off + k, none⟩ = some (.int .i64 zs[k]) := by
          rw [HB.out.cell (p := ⟨blk, off + k, none⟩) hblk]; exact hcells k hlt
        clear hcells
        by_cases hf : Fits zs[k]
        · have HM : Hid (∀ z ∈ zs.take (k + 1), Fits z) := Lib.hid (fun z hz => by
            rw [List.take_succ_eq_append_getElem hlt] at hz
            rcases List.mem_append.1 hz with h | h
            · exact HF.out z h
            · rw [List.mem_singleton.1 h]; exact hf)
          obtain ⟨x, hx⟩ : ∃ x : Nat, zs[k] = (x : Int) := ⟨zs[k].toNat, by have := hf.1; omega⟩
          have hx4 : x < 4294967296 := by have := hf.2; omega
          rw [hx] at hcell
          clear hx hf
          have HSX := Lib.hid (num_str_size x)
          have hlx := (Pack.num_len_le x).2
          have HT := Lib.hid (takeV_num x b hx4)
          go_wp2_with fail
          refine (pack_Num_yes x _ hx4).mono ?_
          rintro e w2 ⟨rfl, hb2⟩
          have hcell2 : w2.cell? ⟨blk, off + k, none⟩ = some (.int .i64 (x : Int)) := by
            rw [hb2.cell (p := ⟨blk, off + k, none⟩) (block_lt_of_cell hcell)]; exact hcell
          have hsx : (str (Pack.num x)).size ≤ 5 := by rw [HSX.out]; exact hlx
          generalize str (Pack.num x) = X at *
          clear hcell hlx
          have hap : (X ++ b).size ≤ 1000000000 := by rw [size_app]; omega
          have HAP := Lib.hid hap
          clear hap
          go_wp2_with fail
          refine (pack_Take (X ++ b) _ HAP.out).mono ?_
          rintro e w3 ⟨rfl, hb3⟩
          rw [str_app, HT.out]
          have hcell3 : w3.cell? ⟨blk, off + k, none⟩ = some (.int .i64 (x : Int)) := by
            rw [hb3.cell (p := ⟨blk, off + k, none⟩) (block_lt_of_cell hcell2)]; exact hcell2
          clear hcell2
          go_wp2
          go_roundw
          case rel => exact ⟨k + 1, by omega, by go_num, HM.out, grew HB.out (grew hb2 hb3)⟩
          case measure => simp [intOf]; omega
        · have HF2 : Hid (zs[k] < 0 ∨ 4294967295 < zs[k]) := Lib.hid (by unfold Fits at hf; omega)
          clear hf
          go_wp2_with fail
          refine (pack_Num_no _ _ HF2.out).mono ?_
          rintro e w2 ⟨rfl, hb2⟩
          go_wp2_with fail
          refine (law01_live _).mono ?_
          rintro e w3 ⟨rfl, hb3⟩
          go_wp2
          go_ret
          exact ⟨rfl, grew HB.out (grew hb2 hb3)⟩
    · have hdn : decide (k < zs.length) = false := by simpa using hlt
      have e1 : zs.take k = zs := List.take_of_length_le (by omega)
      rw [e1] at HF
      clear e1
      by_cases hth : zs.length ≤ 1000
      · have hd3 : decide ((1000 : Int) < (zs.length : Int)) = false := by simp; omega
        have HL : Hid (textV (listR zs) = .tuple #[.string (str (Pack.num zs.length ++ Pack.nums (zs.map Int.toNat))), .int .i64 0]) := Lib.hid (by
          unfold listR; rw [if_neg (by omega), if_pos HF.out]; rfl)
        have HE := Lib.hid (each_list zs b hth HF.out)
        have HNI := Lib.hid (natI_of HF.out)
        have HSL : Hid (SliceI wr (.slice a zs.length cap) zs) := Lib.hid (SliceI.below ⟨a, cap, rfl, hcap, HROW.out⟩ HB.out)
        have hls : (str (Pack.num zs.length ++ Pack.nums (zs.map Int.toNat))).size ≤ 6000 := by
          have h1 := nums_len (zs.map Int.toNat)
          have h2 := (Pack.num_len_le zs.length).2
          rw [List.length_map] at h1
          rw [str_size, List.length_append]
          omega
        go_wp2_with fail
        refine (pack_List _ zs _ HSL.out (by unfold maxLen; omega)).mono ?_
        rintro e w2 ⟨rfl, hb2⟩
        rw [HL.out]
        generalize str (Pack.num zs.length ++ Pack.nums (zs.map Int.toNat)) = T at *
        have hap : (T ++ b).size ≤ 1000000000 := by rw [size_app]; omega
        have HAP := Lib.hid hap
        clear hap
        go_wp2_with fail
        refine (pack_Each (T ++ b) _ HAP.out).mono ?_
        rintro e w3 ⟨he3, hb3⟩
        rw [str_app, HE.out] at he3
        obtain ⟨v3, rfl, hsl3⟩ := he3
        have HS3 := Lib.hid (HNI.out ▸ hsl3)
        have HSL3 := Lib.hid (HSL.out.below (grew hb2 hb3))
        clear hsl3
        rw [str_of]
        go_wp2_with fail
        refine (ref01_Same v3 _ zs zs _ HS3.out HSL3.out (by omega) (by omega)).mono ?_
        rintro e w4 ⟨rfl, hb4⟩
        have htrue : decide (zs = zs) = true := by simp
        rw [htrue]
        go_wp2_with fail
        refine (law01_live _).mono ?_
        rintro e w5 ⟨rfl, hb5⟩
        go_wp2
        go_ret
        exact ⟨rfl, grew HB.out (grew hb2 (grew hb3 (grew hb4 hb5)))⟩
      · have hd3 : decide ((1000 : Int) < (zs.length : Int)) = true := by simp; omega
        go_wp2_with fail
        refine (law01_live _).mono ?_
        rintro e w3 ⟨rfl, hb3⟩
        go_wp2
        go_ret
        exact ⟨rfl, grew HB.out hb3⟩

set_option maxRecDepth 100000 in
set_option maxHeartbeats 4000000 in
theorem walk_PackBack_B (s : ByteArray) (v : Value) (zs : List Int) (b : ByteArray) (w : World) (hs : s.size ≤ 70000) (h65 : 65535 < s.size) (hb : b.size ≤ 70000) (hv : SliceI w v zs) (hz : zs.length ≤ 1100) :
    Calls Try.prog 5 #[.string s, v, .string b] w fun e w' => e = .returned (.bool true) ∧ Below w.heap.size w w' := by
  obtain ⟨a, cap, rfl, hcap, hrow⟩ := hv
  have hd : decide ((s.size : Int) ≤ 70000) = true := by simp; omega
  have hdb : decide ((b.size : Int) ≤ 70000) = true := by simp; omega
  have hd2 : decide ((1100 : Int) < (zs.length : Int)) = false := by simp; omega
  have HROW := Lib.hid hrow
  clear hrow
  have hls := size_list s
  have hn5 := (Pack.num_len_le s.size).2
  have HT : Hid (textV (Pack.text s.data.toList) = .tuple #[.string ⟨#[]⟩, .int .i64 1]) := Lib.hid (by unfold Pack.text; rw [hls, if_pos h65]; rfl)
  clear hls hn5
  go_enter Try.func5, Try.ntmps5
  go_wp2_with fail
  refine (law01_short s _ (by unfold maxLen; omega)).mono ?_
  rintro e w' ⟨rfl, rfl⟩
  go_wp2_with fail
  refine (law01_short b _ (by unfold maxLen; omega)).mono ?_
  rintro e w' ⟨rfl, rfl⟩
  go_wp2_with fail
  refine (pack_Text s _ (by omega)).mono ?_
  rintro e w1 ⟨rfl, hb1⟩
  rw [HT.out]
  have HB0 := Lib.hid hb1
  clear hb1
  go_wp2
  go_loopw [12] (fun i wr => ∃ k : Nat, k ≤ zs.length ∧ i = .int .i64 k ∧ (∀ z ∈ zs.take k, Fits z) ∧ Below w.heap.size w wr) (fun i _ => zs.length - (intOf i).toNat)
  case atStart => exact ⟨0, by omega, rfl, by simp, HB0.out⟩
  case round =>
    obtain ⟨k, hk, rfl, hfit, hbel⟩ := hrel
    have HF := Lib.hid hfit
    have HB := Lib.hid hbel
    clear hfit hbel
    by_cases hlt : k < zs.length
    · have hdk : decide ((k : Int) < (zs.length : Int)) = true := by simp; omega
      have hdn : decide (k < zs.length) = true := by simpa using hlt
      have hik : (k : Int) < (zs.length : Int) := by omega
      rcases HROW.out with h | ⟨blk, off, rfl, hblk, hcells⟩
      · subst h; simp at hlt
      · have hcell : wr.cell? ⟨blk, off + k, none⟩ = some (.int .i64 zs[k]) := by
          rw [HB.out.cell (p := ⟨blk, off + k, none⟩) hblk]; exact hcells k hlt
        clear hcells
        by_cases hf : Fits zs[k]
        · have HM : Hid (∀ z ∈ zs.take (k + 1), Fits z) := Lib.hid (fun z hz => by
            rw [List.take_succ_eq_append_getElem hlt] at hz
            rcases List.mem_append.1 hz with h | h
            · exact HF.out z h
            · rw [List.mem_singleton.1 h]; exact hf)
          obtain ⟨x, hx⟩ : ∃ x : Nat, zs[k] = (x : Int) := ⟨zs[k].toNat, by have := hf.1; omega⟩
          have hx4 : x < 4294967296 := by have := hf.2; omega
          rw [hx] at hcell
          clear hx hf
          have HSX := Lib.hid (num_str_size x)
          have hlx := (Pack.num_len_le x).2
          have HT := Lib.hid (takeV_num x b hx4)
          go_wp2_with fail
          refine (pack_Num_yes x _ hx4).mono ?_
          rintro e w2 ⟨rfl, hb2⟩
          have hcell2 : w2.cell? ⟨blk, off + k, none⟩ = some (.int .i64 (x : Int)) := by
            rw [hb2.cell (p := ⟨blk, off + k, none⟩) (block_lt_of_cell hcell)]; exact hcell
          have hsx : (str (Pack.num x)).size ≤ 5 := by rw [HSX.out]; exact hlx
          generalize str (Pack.num x) = X at *
          clear hcell hlx
          have hap : (X ++ b).size ≤ 1000000000 := by rw [size_app]; omega
          have HAP := Lib.hid hap
          clear hap
          go_wp2_with fail
          refine (pack_Take (X ++ b) _ HAP.out).mono ?_
          rintro e w3 ⟨rfl, hb3⟩
          rw [str_app, HT.out]
          have hcell3 : w3.cell? ⟨blk, off + k, none⟩ = some (.int .i64 (x : Int)) := by
            rw [hb3.cell (p := ⟨blk, off + k, none⟩) (block_lt_of_cell hcell2)]; exact hcell2
          clear hcell2
          go_wp2
          go_roundw
          case rel => exact ⟨k + 1, by omega, by go_num, HM.out, grew HB.out (grew hb2 hb3)⟩
          case measure => simp [intOf]; omega
        · have HF2 : Hid (zs[k] < 0 ∨ 4294967295 < zs[k]) := Lib.hid (by unfold Fits at hf; omega)
          clear hf
          go_wp2_with fail
          refine (pack_Num_no _ _ HF2.out).mono ?_
          rintro e w2 ⟨rfl, hb2⟩
          go_wp2_with fail
          refine (law01_live _).mono ?_
          rintro e w3 ⟨rfl, hb3⟩
          go_wp2
          go_ret
          exact ⟨rfl, grew HB.out (grew hb2 hb3)⟩
    · have hdn : decide (k < zs.length) = false := by simpa using hlt
      have e1 : zs.take k = zs := List.take_of_length_le (by omega)
      rw [e1] at HF
      clear e1
      by_cases hth : zs.length ≤ 1000
      · have hd3 : decide ((1000 : Int) < (zs.length : Int)) = false := by simp; omega
        have HL : Hid (textV (listR zs) = .tuple #[.string (str (Pack.num zs.length ++ Pack.nums (zs.map Int.toNat))), .int .i64 0]) := Lib.hid (by
          unfold listR; rw [if_neg (by omega), if_pos HF.out]; rfl)
        have HE := Lib.hid (each_list zs b hth HF.out)
        have HNI := Lib.hid (natI_of HF.out)
        have HSL : Hid (SliceI wr (.slice a zs.length cap) zs) := Lib.hid (SliceI.below ⟨a, cap, rfl, hcap, HROW.out⟩ HB.out)
        have hls : (str (Pack.num zs.length ++ Pack.nums (zs.map Int.toNat))).size ≤ 6000 := by
          have h1 := nums_len (zs.map Int.toNat)
          have h2 := (Pack.num_len_le zs.length).2
          rw [List.length_map] at h1
          rw [str_size, List.length_append]
          omega
        go_wp2_with fail
        refine (pack_List _ zs _ HSL.out (by unfold maxLen; omega)).mono ?_
        rintro e w2 ⟨rfl, hb2⟩
        rw [HL.out]
        generalize str (Pack.num zs.length ++ Pack.nums (zs.map Int.toNat)) = T at *
        have hap : (T ++ b).size ≤ 1000000000 := by rw [size_app]; omega
        have HAP := Lib.hid hap
        clear hap
        go_wp2_with fail
        refine (pack_Each (T ++ b) _ HAP.out).mono ?_
        rintro e w3 ⟨he3, hb3⟩
        rw [str_app, HE.out] at he3
        obtain ⟨v3, rfl, hsl3⟩ := he3
        have HS3 := Lib.hid (HNI.out ▸ hsl3)
        have HSL3 := Lib.hid (HSL.out.below (grew hb2 hb3))
        clear hsl3
        rw [str_of]
        go_wp2_with fail
        refine (ref01_Same v3 _ zs zs _ HS3.out HSL3.out (by omega) (by omega)).mono ?_
        rintro e w4 ⟨rfl, hb4⟩
        have htrue : decide (zs = zs) = true := by simp
        rw [htrue]
        go_wp2_with fail
        refine (law01_live _).mono ?_
        rintro e w5 ⟨rfl, hb5⟩
        go_wp2
        go_ret
        exact ⟨rfl, grew HB.out (grew hb2 (grew hb3 (grew hb4 hb5)))⟩
      · have hd3 : decide ((1000 : Int) < (zs.length : Int)) = true := by simp; omega
        go_wp2_with fail
        refine (law01_live _).mono ?_
        rintro e w3 ⟨rfl, hb3⟩
        go_wp2
        go_ret
        exact ⟨rfl, grew HB.out hb3⟩

set_option maxHeartbeats 1000000 in
theorem walk_PackBack (s : ByteArray) (a : Option Addr) (len cap : Nat) (zs : List Int) (b : ByteArray) (w : World) (hs : s.size ≤ maxLen) (hr : IsRow .i64 w a len cap zs) (hb : b.size ≤ maxLen) :
    Calls Try.prog 5 #[.string s, .slice a len cap, .string b] w fun e w' => e = .returned (.bool true) ∧ Below w.heap.size w w' := by
  obtain ⟨ys, hsl, hyl, hm, hbd⟩ := hr.slice
  have hm2 : len ≤ 2 ^ 63 - 1 := hm
  by_cases h : s.size ≤ 70000
  · have hd : decide ((s.size : Int) ≤ 70000) = true := by simp; omega
    by_cases h2 : b.size ≤ 70000
    · have hdb : decide ((b.size : Int) ≤ 70000) = true := by simp; omega
      by_cases g : len ≤ 1100
      · by_cases h65 : s.size ≤ 65535
        · exact walk_PackBack_A s _ ys b w h h65 h2 hsl (by omega)
        · exact walk_PackBack_B s _ ys b w h (by omega) h2 hsl (by omega)
      · have hg : decide ((1100 : Int) < (len : Int)) = true := by simp; omega
        clear hsl hyl hm hbd hr
        go_enter Try.func5, Try.ntmps5
        go_wp2_with fail
        refine (law01_short s _ hs).mono ?_
        rintro e w' ⟨rfl, rfl⟩
        go_wp2_with fail
        refine (law01_short b _ hb).mono ?_
        rintro e w' ⟨rfl, rfl⟩
        go_wp2_with fail
        refine (law01_live _).mono ?_
        rintro e w3 ⟨rfl, hb3⟩
        go_wp2
        go_ret
        exact ⟨rfl, hb3⟩
    · have hdb : decide ((b.size : Int) ≤ 70000) = false := by simp; omega
      clear hsl hyl hm hbd hr
      go_enter Try.func5, Try.ntmps5
      go_wp2_with fail
      refine (law01_short s _ hs).mono ?_
      rintro e w' ⟨rfl, rfl⟩
      go_wp2_with fail
      refine (law01_short b _ hb).mono ?_
      rintro e w' ⟨rfl, rfl⟩
      go_wp2_with fail
      refine (law01_live _).mono ?_
      rintro e w3 ⟨rfl, hb3⟩
      go_wp2
      go_ret
      exact ⟨rfl, hb3⟩
  · have hd : decide ((s.size : Int) ≤ 70000) = false := by simp; omega
    clear hsl hyl hm hbd hr
    go_enter Try.func5, Try.ntmps5
    go_wp2_with fail
    refine (law01_short s _ hs).mono ?_
    rintro e w' ⟨rfl, rfl⟩
    go_wp2_with fail
    refine (law01_live _).mono ?_
    rintro e w3 ⟨rfl, hb3⟩
    go_wp2
    go_ret
    exact ⟨rfl, hb3⟩
end Go.Proofs.Ytiofmcjnpnokbaa
