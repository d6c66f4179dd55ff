/- The walk of PackSizes: how many bytes numbers, texts and lists have. -/
import Derived.Test.YtiofmcjnpnokbaaPackLaws
namespace Go.Proofs.Ytiofmcjnpnokbaa
open Go.RowKit
set_option linter.unusedVariables false

theorem len_one {x : Nat} (h : x < 248) : (Pack.num x).length = 1 := by rw [Pack.num_len]; unfold Pack.behind; rw [if_pos h]
theorem len_more {x : Nat} (h : 248 ≤ x) : (((Pack.num x).length : Int) == 1) = false ∧ (((Pack.num x).length : Int) == 2) = decide ((x : Int) < 256) ∧ (((Pack.num x).length : Int) == 5) = decide ((16777216 : Int) ≤ (x : Int)) := by
  have hl := Pack.num_len x
  rw [hl]
  unfold Pack.behind
  rw [if_neg (by omega)]
  by_cases h1 : x < 256
  · rw [if_pos h1]
    refine ⟨rfl, ?_, ?_⟩
    · have : decide ((x : Int) < 256) = true := by simp; omega
      rw [this]; rfl
    · have : decide ((16777216 : Int) ≤ (x : Int)) = false := by simp; omega
      rw [this]; rfl
  · rw [if_neg h1]
    have e1 : decide ((x : Int) < 256) = false := by simp; omega
    rw [e1]
    by_cases h2 : x < 65536
    · rw [if_pos h2]
      have : decide ((16777216 : Int) ≤ (x : Int)) = false := by simp; omega
      rw [this]; exact ⟨rfl, rfl, rfl⟩
    · rw [if_neg h2]
      by_cases h3 : x < 16777216
      · rw [if_pos h3]
        have : decide ((16777216 : Int) ≤ (x : Int)) = false := by simp; omega
        rw [this]; exact ⟨rfl, rfl, rfl⟩
      · rw [if_neg h3]
        have : decide ((16777216 : Int) ≤ (x : Int)) = true := by simp; omega
        rw [this]; exact ⟨rfl, rfl, rfl⟩

set_option maxRecDepth 100000 in
set_option maxHeartbeats 4000000 in
theorem walk_PackSizes_main (s : ByteArray) (v : Value) (zs : List Int) (w : World) (hs : s.size ≤ 70000) (hv : SliceI w v zs) (hz : zs.length ≤ 1000) :
    Calls Try.prog 8 #[.string s, v] w fun e w' => e = .returned (.bool true) ∧ Below w.heap.size w w' := by
  obtain ⟨a, cap, rfl, hcap, hrow⟩ := hv
  have hd : decide ((s.size : Int) ≤ 70000) = true := by simp; omega
  have hd2 : decide ((1000 : Int) < (zs.length : Int)) = false := by simp; omega
  have HROW := Lib.hid hrow
  have hnl := (Pack.num_len_le zs.length).2
  have HSZ := Lib.hid (num_str_size zs.length)
  clear hrow
  go_enter Try.func8, Try.ntmps8
  go_wp2_with fail
  refine (law01_short s _ (by unfold maxLen; omega)).mono ?_
  rintro e w' ⟨rfl, rfl⟩
  go_wp2_with fail
  refine (pack_Num_yes zs.length _ (by omega)).mono ?_
  rintro e w1 ⟨rfl, hb1⟩
  have HB1 := Lib.hid hb1
  clear hb1
  have hsz := HSZ.out
  go_wp2
  clear hsz
  go_loopw [7, 8] (fun u i wr => ∃ k : Nat, k ≤ zs.length ∧ i = .int .i64 k ∧ u = .int .i64 ((Pack.num zs.length ++ Pack.nums ((zs.take k).map Int.toNat)).length : Int) ∧ (∀ z ∈ zs.take k, Fits z) ∧ Below w.heap.size w wr) (fun _ i _ => zs.length - (intOf i).toNat)
  case atStart => exact ⟨0, by omega, rfl, by simp [Pack.nums], by simp, HB1.out⟩
  case round =>
    obtain ⟨k, hk, rfl, rfl, hfit, hbel⟩ := hrel
    have HF := Lib.hid hfit
    have HB := Lib.hid hbel
    clear hfit hbel
    have hlen : (Pack.num zs.length ++ Pack.nums ((zs.take k).map Int.toNat)).length ≤ 6000 := by
      have h1 := nums_len ((zs.take k).map Int.toNat)
      rw [List.length_map, List.length_take] at h1
      rw [List.length_append]
      omega
    by_cases hlt : k < zs.length
    · have hdk : decide ((k : Int) < (zs.length : Int)) = true := by simp; omega
      have hdn : decide (k < zs.length) = true := by simpa using hlt
      have hik : (k : Int) < (zs.length : Int) := by omega
      rcases HROW.out with h | ⟨blk, off, rfl, hblk, hcells⟩
      · subst h; simp at hlt
      · have hcell : wr.cell? ⟨blk, off + k, none⟩ = some (.int .i64 zs[k]) := by
          rw [HB.out.cell (p := ⟨blk, off + k, none⟩) hblk]; exact hcells k hlt
        clear hcells
        by_cases hf : Fits zs[k]
        · have HS := Lib.hid (congrArg List.length (list_step zs k hlt (Pack.num zs.length)))
          have HM : Hid (∀ z ∈ zs.take (k + 1), Fits z) := Lib.hid (fun z hz => by
            rw [List.take_succ_eq_append_getElem hlt] at hz
            rcases List.mem_append.1 hz with h | h
            · exact HF.out z h
            · rw [List.mem_singleton.1 h]; exact hf)
          have hn1 : zs[k] ≤ 4294967295 := hf.2
          obtain ⟨x, hx⟩ : ∃ x : Nat, zs[k] = (x : Int) := ⟨zs[k].toNat, by have := hf.1; omega⟩
          rw [hx] at hcell hn1 HS
          clear hx hf
          have hx4 : x < 4294967296 := by omega
          have hsx := num_str_size x
          have hlx := (Pack.num_len_le x).2
          rw [List.length_append, Int.toNat_natCast] at HS
          by_cases h248 : x < 248
          · have hl1 : (Pack.num x).length = 1 := len_one h248
            have b1 : decide ((x : Int) < 248) = true := by simp; omega
            have b2 : decide ((248 : Int) ≤ (x : Int)) = false := by simp; omega
            have b3 : decide ((16777216 : Int) ≤ (x : Int)) = false := by simp; omega
            have HS2 := Lib.hid (show _ + 1 = _ from hl1 ▸ HS.out)
            rw [hl1] at hsx
            clear h248 hl1
            generalize (Pack.num zs.length ++ Pack.nums ((zs.take k).map Int.toNat)).length = la at *
            generalize hstr : str (Pack.num x) = sx at *
            have HSX := Lib.hid hstr
            clear hstr
            go_wp2_with fail
            refine (pack_Num_yes x _ hx4).mono ?_
            rintro e w2 ⟨rfl, hb2⟩
            rw [HSX.out]
            have hcell2 : w2.cell? ⟨blk, off + k, none⟩ = some (.int .i64 (x : Int)) := by
              rw [hb2.cell (p := ⟨blk, off + k, none⟩) (block_lt_of_cell hcell)]; exact hcell
            clear hcell
            go_wp2
            go_roundw
            case rel => exact ⟨k + 1, by omega, by go_num, by rw [← HS2.out]; go_num, HM.out, grew HB.out hb2⟩
            case measure => simp [intOf]; omega
          · have hm := len_more (show 248 ≤ x by omega)
            obtain ⟨m1, m2, m3⟩ := hm
            have b1 : decide ((x : Int) < 248) = false := by simp; omega
            have b2 : decide ((248 : Int) ≤ (x : Int)) = true := by simp; omega
            clear h248
            generalize (Pack.num zs.length ++ Pack.nums ((zs.take k).map Int.toNat)).length = la at *
            generalize hstr : str (Pack.num x) = sx at *
            have HSX := Lib.hid hstr
            clear hstr
            generalize (Pack.num x).length = lx at *
            go_wp2_with fail
            refine (pack_Num_yes x _ hx4).mono ?_
            rintro e w2 ⟨rfl, hb2⟩
            rw [HSX.out]
            have hcell2 : w2.cell? ⟨blk, off + k, none⟩ = some (.int .i64 (x : Int)) := by
              rw [hb2.cell (p := ⟨blk, off + k, none⟩) (block_lt_of_cell hcell)]; exact hcell
            clear hcell
            go_wp2
            all_goals
              go_roundw
              case rel => exact ⟨k + 1, by omega, by go_num, by rw [← HS.out]; go_num, HM.out, grew HB.out hb2⟩
              case measure => simp [intOf]; omega
        · have HF2 : Hid (zs[k] < 0 ∨ 4294967295 < zs[k]) := Lib.hid (by unfold Fits at hf; omega)
          clear hf
          go_wp2_with fail
          refine (pack_Num_no _ _ HF2.out).mono ?_
          rintro e w2 ⟨rfl, hb2⟩
          go_wp2_with fail
          refine (law01_live _).mono ?_
          rintro e w3 ⟨rfl, hb3⟩
          go_wp2
          go_ret
          exact ⟨rfl, grew HB.out (grew hb2 hb3)⟩
    · have hdn : decide (k < zs.length) = false := by simpa using hlt
      have e1 : zs.take k = zs := List.take_of_length_le (by omega)
      rw [e1] at HF hlen ⊢
      have HL : Hid (listR zs = (Pack.num zs.length ++ Pack.nums (zs.map Int.toNat), 0)) := Lib.hid (by
        unfold listR; rw [if_neg (by omega), if_pos HF.out])
      clear e1
      have HSL : Hid (SliceI wr (.slice a zs.length cap) zs) := Lib.hid (SliceI.below ⟨a, cap, rfl, hcap, HROW.out⟩ HB.out)
      have hts := str_size (Pack.num zs.length ++ Pack.nums (zs.map Int.toNat))
      have HTS := Lib.hid hts
      clear hts
      go_wp2_with fail
      refine (pack_List _ zs _ HSL.out (by unfold maxLen; omega)).mono ?_
      rintro e w2 ⟨rfl, hb2⟩
      rw [HL.out]
      unfold textV
      have hts := HTS.out
      generalize str (Pack.num zs.length ++ Pack.nums (zs.map Int.toNat)) = T at *
      generalize (Pack.num zs.length ++ Pack.nums (zs.map Int.toNat)).length = lt at *
      go_wp2_with fail
      refine (pack_Text s _ (by omega)).mono ?_
      rintro e w3 ⟨rfl, hb3⟩
      have hls := size_list s
      have HNS := Lib.hid (num_str_size s.size)
      have hns5 := (Pack.num_len_le s.size).2
      by_cases h6 : 65535 < s.size
      · have HT : Hid (Pack.text s.data.toList = ([], 1)) := Lib.hid (by unfold Pack.text; rw [hls, if_pos h6])
        clear hls h6
        rw [HT.out]
        unfold textV
        go_wp2_with fail
        refine (pack_Num_yes s.size _ (by omega)).mono ?_
        rintro e w4 ⟨rfl, hb4⟩
        go_wp2_with fail
        refine (law01_live _).mono ?_
        rintro e w5 ⟨rfl, hb5⟩
        go_wp2
        go_ret
        exact ⟨rfl, grew HB.out (grew hb2 (grew hb3 (grew hb4 hb5)))⟩
      · have HT : Hid (Pack.text s.data.toList = (Pack.num s.size ++ s.data.toList, 0)) := Lib.hid (by unfold Pack.text; rw [hls, if_neg h6])
        have hus : (str (Pack.num s.size ++ s.data.toList)).size = (Pack.num s.size).length + s.size := by rw [str_size, List.length_append, hls]
        have HUS := Lib.hid hus
        clear hls h6 hus
        rw [HT.out]
        unfold textV
        go_wp2_with fail
        refine (pack_Num_yes s.size _ (by omega)).mono ?_
        rintro e w4 ⟨rfl, hb4⟩
        have hus := HUS.out
        have hns := HNS.out
        generalize str (Pack.num s.size ++ s.data.toList) = U at *
        generalize str (Pack.num s.size) = V at *
        generalize (Pack.num s.size).length = lv at *
        go_wp2_with fail
        refine (law01_live _).mono ?_
        rintro e w5 ⟨rfl, hb5⟩
        go_wp2
        go_ret
        exact ⟨rfl, grew HB.out (grew hb2 (grew hb3 (grew hb4 hb5)))⟩

set_option maxHeartbeats 1000000 in
theorem walk_PackSizes (s : ByteArray) (a : Option Addr) (len cap : Nat) (zs : List Int) (w : World) (hs : s.size ≤ maxLen) (hr : IsRow .i64 w a len cap zs) :
    Calls Try.prog 8 #[.string s, .slice a len cap] w fun e w' => e = .returned (.bool true) ∧ Below w.heap.size w w' := by
  obtain ⟨ys, hsl, hyl, hm, hb⟩ := hr.slice
  have hm2 : len ≤ 2 ^ 63 - 1 := hm
  by_cases h : s.size ≤ 70000
  · by_cases g : len ≤ 1000
    · exact walk_PackSizes_main s _ ys w h hsl (by omega)
    · have hd : decide ((s.size : Int) ≤ 70000) = true := by simp; omega
      have hg : decide ((1000 : Int) < (len : Int)) = true := by simp; omega
      clear hsl hyl hm hb hr
      go_enter Try.func8, Try.ntmps8
      go_wp2_with fail
      refine (law01_short s _ hs).mono ?_
      rintro e w' ⟨rfl, rfl⟩
      go_wp2_with fail
      refine (law01_live _).mono ?_
      rintro e w3 ⟨rfl, hb3⟩
      go_wp2
      go_ret
      exact ⟨rfl, hb3⟩
  · have hd : decide ((s.size : Int) ≤ 70000) = false := by simp; omega
    clear hsl hyl hm hb hr
    go_enter Try.func8, Try.ntmps8
    go_wp2_with fail
    refine (law01_short s _ hs).mono ?_
    rintro e w' ⟨rfl, rfl⟩
    go_wp2_with fail
    refine (law01_live _).mono ?_
    rintro e w3 ⟨rfl, hb3⟩
    go_wp2
    go_ret
    exact ⟨rfl, hb3⟩
end Go.Proofs.Ytiofmcjnpnokbaa
