/- What the document's own answers of layer 1 come to: Text, List, Take. -/
import Derived.Test.YtohlnhnelkoakaaPackRef
namespace Go.Proofs.Ytohlnhnelkoakaa
open Go.RowKit
set_option linter.unusedVariables false

set_option maxHeartbeats 1000000 in
theorem ref01_List (v : Value) (zs : List Int) (w : World) (hv : SliceI w v zs) (hm : zs.length ≤ maxLen) :
    Calls Try.prog 27 #[v] w fun e w' => e = .returned (textV (listR zs)) ∧ Below w.heap.size w w' := by
  unfold maxLen at hm
  obtain ⟨a, cap, rfl, hcap, hrow⟩ := hv
  by_cases h1 : 1000 < zs.length
  · have HR : Hid (listR zs = ([], 1)) := Lib.hid (by unfold listR; rw [if_pos h1])
    have hd : decide ((1000 : Int) < (zs.length : Int)) = true := by simp; omega
    clear hrow h1
    go_enter Try.func27, Try.ntmps27
    go_wp2
    go_ret2
    exact ⟨by rw [HR.out]; rfl, Below.refl _ _⟩
  · have hd : decide ((1000 : Int) < (zs.length : Int)) = false := by simp; omega
    have hle : zs.length ≤ 1000 := by omega
    have HROW := Lib.hid hrow
    clear hrow
    have HR1 : Hid ((∀ z ∈ zs, Fits z) → listR zs = (Pack.num zs.length ++ Pack.nums (zs.map Int.toNat), 0)) := Lib.hid (fun h => by unfold listR; rw [if_neg h1, if_pos h])
    have HR2 : Hid ((¬ ∀ z ∈ zs, Fits z) → listR zs = ([], 1)) := Lib.hid (fun h => by unfold listR; rw [if_neg h1, if_neg h])
    clear h1
    go_enter Try.func27, Try.ntmps27
    go_wp2_with fail
    refine (ref01_Num_yes zs.length w (by omega)).mono ?_
    rintro e w1 ⟨rfl, hb⟩
    have HB := Lib.hid hb
    clear hb
    go_wp2
    go_loopw [4, 6] (fun t i wr => ∃ k : Nat, k ≤ zs.length ∧ i = .int .i64 k ∧ (∀ z ∈ zs.take k, Fits z) ∧ t = .string (str (Pack.num zs.length ++ Pack.nums ((zs.take k).map Int.toNat))) ∧ Below w.heap.size w wr) (fun _ i _ => zs.length - (intOf i).toNat)
    case atStart => exact ⟨0, by omega, rfl, by simp, by simp [Pack.nums], HB.out⟩
    case round =>
      obtain ⟨k, hk, rfl, hfit, rfl, hbel⟩ := hrel
      have HF := Lib.hid hfit
      have HB2 := Lib.hid hbel
      clear hfit hbel
      by_cases hlt : k < zs.length
      · have hdk : decide ((k : Int) < (zs.length : Int)) = true := by simp; omega
        have hdn : decide (k < zs.length) = true := by simpa using hlt
        have hik : (k : Int) < (zs.length : Int) := by omega
        rcases HROW.out with h | ⟨blk, off, rfl, hblk, hcells⟩
        · subst h; simp at hlt
        · have hcell : wr.cell? ⟨blk, off + k, none⟩ = some (.int .i64 zs[k]) := by
            rw [HB2.out.cell (p := ⟨blk, off + k, none⟩) hblk]; exact hcells k hlt
          clear hcells
          by_cases hf : Fits zs[k]
          · have HS := Lib.hid (congrArg str (list_step zs k hlt (Pack.num zs.length)))
            have HM : Hid (∀ z ∈ zs.take (k + 1), Fits z) := Lib.hid (fun z hz => by
              rw [List.take_succ_eq_append_getElem hlt] at hz
              rcases List.mem_append.1 hz with h | h
              · exact HF.out z h
              · rw [List.mem_singleton.1 h]; exact hf)
            have hlen : (str (Pack.num zs.length ++ Pack.nums ((zs.take k).map Int.toNat))).size ≤ 6000 := by
              have h1 := nums_len ((zs.take k).map Int.toNat)
              have h2 := (Pack.num_len_le zs.length).2
              rw [List.length_map, List.length_take] at h1
              rw [str_size, List.length_append]
              omega
            obtain ⟨x, hx⟩ : ∃ x : Nat, zs[k] = (x : Int) := ⟨zs[k].toNat, by have := hf.1; omega⟩
            have hx4 : x < 4294967296 := by have := hf.2; omega
            rw [hx] at hcell HS
            rw [← str_append, Int.toNat_natCast] at HS
            have hsx : (str (Pack.num x)).size ≤ 5 := by rw [str_size]; exact (Pack.num_len_le x).2
            clear hx hf
            generalize hP : str (Pack.num zs.length ++ Pack.nums ((zs.take k).map Int.toNat)) = P at *
            clear hP
            go_wp2_with fail
            refine (ref01_Num_yes x _ hx4).mono ?_
            rintro e w2 ⟨rfl, hb2⟩
            generalize hX : str (Pack.num x) = X at *
            clear hX
            go_wp2
            go_roundw
            case rel => exact ⟨k + 1, by omega, by go_num, HM.out, by rw [← HS.out], grew HB2.out hb2⟩
            case measure => simp [intOf]; omega
          · have HN : Hid (¬ ∀ z ∈ zs, Fits z) := Lib.hid (fun h => hf (h _ (List.getElem_mem hlt)))
            have HF2 : Hid (zs[k] < 0 ∨ 4294967295 < zs[k]) := Lib.hid (by unfold Fits at hf; omega)
            clear hf
            go_wp2_with fail
            refine (ref01_Num_no _ _ HF2.out).mono ?_
            rintro e w2 ⟨rfl, hb2⟩
            go_wp2
            go_ret2
            exact ⟨by rw [HR2.out HN.out]; rfl, grew HB2.out hb2⟩
      · have hdn : decide (k < zs.length) = false := by simpa using hlt
        have e1 : zs.take k = zs := List.take_of_length_le (by omega)
        rw [e1] at HF ⊢
        have HE := Lib.hid (HR1.out HF.out)
        clear e1
        go_wp2
        go_ret2
        exact ⟨by rw [HE.out]; rfl, HB2.out⟩

/-- Three things of what begins with a number's first byte. -/
theorem take_long (s : ByteArray) (k : Nat) (hpos : 0 < s.size) (hk : s[0].toNat = 247 + k) (hk1 : 1 ≤ k) (hk4 : k ≤ 4) (hks : k < s.size) :
    (str (Pack.num (Pack.value ((s.data.toList.drop 1).take k))) = s.extract 0 (1 + k) → Pack.take s.data.toList = (Pack.value ((s.data.toList.drop 1).take k), s.data.toList.drop (1 + k), 0))
    ∧ (str (Pack.num (Pack.value ((s.data.toList.drop 1).take k))) ≠ s.extract 0 (1 + k) → Pack.take s.data.toList = (0, [], 2)) := by
  have hl := str_first hpos
  have hdl : (s.data.toList.drop 1).length = s.size - 1 := by rw [List.length_drop, size_list]
  have hkk : s[0].toNat - 247 = k := by omega
  have hr : Pack.read s.data.toList = if Pack.behind (Pack.value ((s.data.toList.drop 1).take k)) = k then (Pack.value ((s.data.toList.drop 1).take k), 1 + k, 0) else (0, 0, 2) := by
    conv => lhs; rw [hl]
    unfold Pack.read
    simp only []
    rw [if_neg (by omega), if_neg (by omega), if_neg (by rw [hdl]; omega), hkk]
  constructor
  · intro h
    have hb : Pack.behind (Pack.value ((s.data.toList.drop 1).take k)) = k := by
      have h1 := congrArg ByteArray.size h
      rw [str_size, Pack.num_len, ByteArray.size_extract] at h1
      omega
    rw [if_pos hb] at hr
    unfold Pack.take
    rw [hr]
    simp
  · intro h
    have hb : ¬ Pack.behind (Pack.value ((s.data.toList.drop 1).take k)) = k := by
      intro hb
      rw [if_pos hb] at hr
      apply h
      rcases Pack.read_num s.data.toList with ⟨n, k', hr', hn, hk', hl'⟩ | ⟨e, hr', he⟩
      · rw [hr] at hr'
        simp only [Prod.mk.injEq] at hr'
        obtain ⟨e1, e2, _⟩ := hr'
        have t1 := congrArg (List.take k') hl'
        rw [List.take_left' hk'.symm] at t1
        rw [str_take, e1, e2, t1]
      · rw [hr] at hr'
        simp only [Prod.mk.injEq] at hr'
        omega
    rw [if_neg hb] at hr
    unfold Pack.take
    rw [hr]
    simp

theorem times_byte (n : Nat) (c : UInt8) (hn : n < 16777216) : wrap64 (256 * (n : Int) + wrap64 (c.toNat : Int)) = ((n * 256 + c.toNat : Nat) : Int) := by
  have hc := c.toNat_lt
  rw [IntWalk.wrap64_in (c.toNat : Int) ⟨by omega, by omega⟩, IntWalk.wrap64_in _ ⟨by omega, by omega⟩]
  omega

set_option maxRecDepth 100000 in
set_option maxHeartbeats 2000000 in
theorem ref01_Take (s : ByteArray) (w : World) (hs : s.size ≤ 1000000000) :
    Calls Try.prog 54 #[.string s] w fun e w' => e = .returned (takeV (Pack.take s.data.toList)) ∧ Below w.heap.size w w' := by
  by_cases h0 : s.size = 0
  · have he := str_empty h0
    have HR : Hid (Pack.take s.data.toList = (0, [], 3)) := Lib.hid (by
      have : s.data.toList = [] := List.eq_nil_of_length_eq_zero (by rw [size_list]; exact h0)
      rw [this]; rfl)
    clear h0
    go_enter Try.func54, Try.ntmps54
    go_wp2
    go_ret3
    exact ⟨by rw [HR.out]; rfl, Below.refl _ _⟩
  · have hpos : 0 < s.size := by omega
    have he := str_full hpos
    have HL := Lib.hid (str_first hpos)
    have HC := s[0].toNat_lt
    by_cases h1 : s[0].toNat < 248
    · have HR : Hid (takeV (Pack.take s.data.toList) = .tuple #[.int .i64 (s[0].toNat : Int), .string (s.extract 1 s.size), .int .i64 0]) := Lib.hid (by
        have hr : Pack.read s.data.toList = (s[0].toNat, 1, 0) := by rw [HL.out]; unfold Pack.read; simp only []; rw [if_pos h1]
        unfold Pack.take; rw [hr, str_drop]; rfl)
      have hw : wrap64 (s[0].toNat : Int) = s[0].toNat := IntWalk.wrap64_in _ ⟨by omega, by omega⟩
      have hd : decide ((s[0].toNat : Int) < 248) = true := by simp; omega
      clear h0 h1 HC
      go_enter Try.func54, Try.ntmps54
      go_wp2
      go_quiet (fail)
      go_wp2
      go_ret3
      exact ⟨by rw [HR.out, hw]; rfl, grew_drewN _ _⟩
    · by_cases h2 : s[0].toNat > 251
      · have HR : Hid (Pack.take s.data.toList = (0, [], 2)) := Lib.hid (by
          have hr : Pack.read s.data.toList = (0, 0, 2) := by rw [HL.out]; unfold Pack.read; simp only []; rw [if_neg h1, if_pos h2]
          unfold Pack.take; rw [hr]; rfl)
        obtain ⟨k, hk, hk1, hk4⟩ : ∃ k, s[0].toNat = 247 + k ∧ 5 ≤ k ∧ k ≤ 8 := ⟨s[0].toNat - 247, by omega, by omega, by omega⟩
        have hw : wrap64 (s[0].toNat : Int) = 247 + (k : Int) := by rw [IntWalk.wrap64_in _ ⟨by omega, by omega⟩]; omega
        have hd : decide (247 + (k : Int) < 248) = false := by simp; omega
        have h247 : (247 : Int) + (k : Int) - 247 = (k : Int) := by omega
        have hd2 : decide ((4 : Int) < (k : Int)) = true := by simp; omega
        clear h0 h1 h2 HC hk
        go_enter Try.func54, Try.ntmps54
        go_wp2
        go_ret3
        exact ⟨by rw [HR.out]; rfl, Below.refl _ _⟩
      · obtain ⟨k, hk, hk1, hk4⟩ : ∃ k, s[0].toNat = 247 + k ∧ 1 ≤ k ∧ k ≤ 4 := ⟨s[0].toNat - 247, by omega, by omega, by omega⟩
        have hw : wrap64 (s[0].toNat : Int) = 247 + (k : Int) := by rw [IntWalk.wrap64_in _ ⟨by omega, by omega⟩]; omega
        have hd : decide (247 + (k : Int) < 248) = false := by simp; omega
        have h247 : (247 : Int) + (k : Int) - 247 = (k : Int) := by omega
        have hd2 : decide ((4 : Int) < (k : Int)) = false := by simp; omega
        have hl : (s.data.toList.drop 1).length = s.size - 1 := by rw [List.length_drop, size_list]
        have hkk : s[0].toNat - 247 = k := by omega
        by_cases h3 : s.size ≤ k
        · have HR : Hid (Pack.take s.data.toList = (0, [], 3)) := Lib.hid (by
            have hr : Pack.read s.data.toList = (0, 0, 3) := by
              rw [HL.out]; unfold Pack.read; simp only []; rw [if_neg h1, if_neg h2, if_pos (by rw [hl, hkk]; omega)]
            unfold Pack.take; rw [hr]; rfl)
          have hd3 : decide ((s.size : Int) < 1 + (k : Int)) = true := by simp; omega
          have hd3n : s.size < 1 + k := by omega
          clear h0 h1 h2 h3 hkk hl hk HC
          go_enter Try.func54, Try.ntmps54
          go_wp2
          go_ret3
          exact ⟨by rw [HR.out]; rfl, Below.refl _ _⟩
        · obtain ⟨TY, TN⟩ := take_long s k hpos hk hk1 hk4 (by omega)
          have HTY := Lib.hid TY
          have HTN := Lib.hid TN
          have hd3 : decide ((s.size : Int) < 1 + (k : Int)) = false := by simp; omega
          have hks : k < s.size := by omega
          have hd3n : decide (s.size < 1 + k) = false := by simp; omega
          have HT : Hid (∀ m, m < k → ∀ (h : 1 + m < s.size), Pack.value ((s.data.toList.drop 1).take (m + 1)) = Pack.value ((s.data.toList.drop 1).take m) * 256 + s[1 + m].toNat) := Lib.hid (fun m hm h => by
            have hlt : m < (s.data.toList.drop 1).length := by rw [hl]; omega
            rw [List.take_succ_eq_append_getElem hlt, value_snoc, List.getElem_drop]
            rfl)
          have HV : Hid (∀ m, m ≤ 4 → Pack.value ((s.data.toList.drop 1).take m) < 256 ^ m) := Lib.hid (fun m hm => by
            have h1 := value_lt ((s.data.toList.drop 1).take m)
            have h2 : ((s.data.toList.drop 1).take m).length ≤ m := List.length_take_le _ _
            exact Nat.lt_of_lt_of_le h1 (Nat.pow_le_pow_right (by omega) h2))
          clear h0 h1 h2 h3 hkk hl hk HC TY TN
          go_enter Try.func54, Try.ntmps54
          go_wp2
          rw [hw]
          clear hw
          go_loop [7, 8] (fun v i => ∃ m : Nat, m ≤ k ∧ i = .int .i64 (1 + (m : Int)) ∧ v = .int .i64 (Pack.value ((s.data.toList.drop 1).take m) : Int)) (fun _ i => k + 1 - (intOf i).toNat)
          case atStart => exact ⟨0, by omega, rfl, rfl⟩
          case round =>
            obtain ⟨m, hm, rfl, rfl⟩ := hrel
            by_cases hmk : m < k
            · have hdm : decide ((1 : Int) + (m : Int) ≤ (k : Int)) = true := by simp; omega
              have h1m : 1 + m < s.size := by omega
              have hv := HV.out m (by omega)
              have H2 := Lib.hid (HT.out m hmk h1m)
              have hn : Pack.value ((s.data.toList.drop 1).take m) < 16777216 := by
                refine Nat.lt_of_lt_of_le hv ?_
                have := Nat.pow_le_pow_right (n := 256) (by omega) (show m ≤ 3 by omega)
                simpa using this
              clear hv
              generalize Pack.value ((s.data.toList.drop 1).take m) = V at *
              have hix : (1 : Int) + (m : Int) < (s.size : Int) := by omega
              have hix0 : (0 : Int) ≤ 1 + (m : Int) := by omega
              have HW := Lib.hid (times_byte V s[1 + m] hn)
              go_wp2
              go_round
              case rel => exact ⟨m + 1, by omega, by go_num, by rw [H2.out, HW.out]⟩
              case measure => simp [intOf]; omega
            · obtain rfl : m = k := by omega
              have hdm : decide ((1 : Int) + (m : Int) ≤ (m : Int)) = false := by simp; omega
              have hv := HV.out m hk4
              have hn : Pack.value ((s.data.toList.drop 1).take m) < 4294967296 := by
                refine Nat.lt_of_lt_of_le hv ?_
                have := Nat.pow_le_pow_right (n := 256) (by omega) hk4
                simpa using this
              clear hv
              generalize Pack.value ((s.data.toList.drop 1).take m) = V at *
              have HX := Lib.hid (str_drop s (1 + m))
              by_cases hb : str (Pack.num V) = s.extract 0 (1 + m)
              · have HE := Lib.hid (HTY.out hb)
                have hcmp := str_same hb
                clear hb
                go_wp2_with fail
                refine (ref01_Num_yes V _ hn).mono ?_
                rintro e w1 ⟨rfl, hb1⟩
                go_wp2
                go_quiet (fail)
                go_wp2
                go_ret3
                exact ⟨by rw [HE.out]; unfold takeV; rw [← HX.out]; rfl, grew hb1 (grew_drewN _ _)⟩
              · have HE := Lib.hid (HTN.out hb)
                have hcmp := str_other hb
                clear hb
                go_wp2_with fail
                refine (ref01_Num_yes V _ hn).mono ?_
                rintro e w1 ⟨rfl, hb1⟩
                go_wp2
                go_ret3
                exact ⟨by rw [HE.out]; rfl, hb1⟩
end Go.Proofs.Ytohlnhnelkoakaa
