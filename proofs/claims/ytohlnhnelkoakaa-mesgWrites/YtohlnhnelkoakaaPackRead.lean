/- What pack.read comes to. -/
import Derived.Test.YtohlnhnelkoakaaPackPut
namespace Go.Proofs.Ytohlnhnelkoakaa
open Go.RowKit
set_option linter.unusedVariables false

theorem ret_three {k : IntKind} {a a' b b' c c' : Int} (h1 : a = a') (h2 : b = b') (h3 : c = c') : Ending.returned (.tuple #[.int k a, .int k b, .int k c]) = .returned (.tuple #[.int k a', .int k b', .int k c']) := by rw [h1, h2, h3]

def readV (r : Nat × Nat × Nat) : Value := .tuple #[.int .i64 (r.1 : Int), .int .i64 (r.2.1 : Int), .int .i64 (r.2.2 : Int)]

theorem str_empty {s : ByteArray} (h : s.size = 0) : s.toList.isEmpty = true := by
  rw [ByteArray.toList_eq]
  have : s.data.toList.length = 0 := by rw [size_list]; exact h
  rw [List.eq_nil_of_length_eq_zero this]; rfl
theorem str_full {s : ByteArray} (h : 0 < s.size) : s.toList.isEmpty = false := by
  rw [ByteArray.toList_eq]
  cases hl : s.data.toList with
  | nil => have := size_list s; rw [hl] at this; simp at this; omega
  | cons _ _ => rfl
theorem str_first {s : ByteArray} (h : 0 < s.size) : s.data.toList = s[0] :: s.data.toList.drop 1 := by
  have h' : 0 < s.data.toList.length := by rw [size_list]; exact h
  conv => lhs; rw [← List.drop_zero (l := s.data.toList), List.drop_eq_getElem_cons h']
  rfl

theorem value_snoc (l : List UInt8) (c : UInt8) : Pack.value (l ++ [c]) = Pack.value l * 256 + c.toNat := by simp [Pack.value]
theorem value_lt : ∀ (l : List UInt8), Pack.value l < 256 ^ l.length := by
  intro l
  have h : ∀ (l : List UInt8) (n k : Nat), n < 256 ^ k → l.foldl (fun n c => n * 256 + c.toNat) n < 256 ^ (k + l.length) := by
    intro l
    induction l with
    | nil => intro n k hn; simpa using hn
    | cons c l ih =>
      intro n k hn
      have hc := c.toNat_lt
      have := ih (n * 256 + c.toNat) (k + 1) (by rw [Nat.pow_succ]; omega)
      rw [List.foldl_cons, List.length_cons, show k + (l.length + 1) = k + 1 + l.length by omega]
      exact this
  have := h l 0 0 (by simp)
  simpa [Pack.value] using this

theorem or_byte (n : Nat) (c : UInt8) (hn : n < 16777216) : bits .or .i64 ((n : Int) * 256) (wrap64 (c.toNat : Int)) = ((n * 256 + c.toNat : Nat) : Int) := by
  have hc := c.toNat_lt
  rw [IntWalk.wrap64_in _ ⟨by omega, by omega⟩, show (n : Int) * 256 = ((n * 256 : Nat) : Int) from by omega, i64_or_nat _ _ (by omega) (by omega)]
  have h := Nat.two_pow_add_eq_or_of_lt (i := 8) (b := c.toNat) (by simpa using hc) n
  rw [show n * 256 = 2 ^ 8 * n by omega, ← h]

set_option maxRecDepth 100000 in
set_option maxHeartbeats 1000000 in
theorem pack_read (s : ByteArray) (w : World) (hs : s.size ≤ maxLen) :
    Calls Try.prog 57 #[.string s] w fun e w' => e = .returned (readV (Pack.read s.data.toList)) ∧ w = w' := by
  unfold maxLen at hs
  by_cases h0 : s.size = 0
  · have he := str_empty h0
    have HR : Hid (Pack.read s.data.toList = (0, 0, 3)) := Lib.hid (by
      have : s.data.toList = [] := List.eq_nil_of_length_eq_zero (by rw [size_list]; exact h0)
      rw [this]; rfl)
    clear h0
    go_enter Try.func57, Try.ntmps57
    go_wp2
    go_ret3
    exact ⟨by rw [HR.out]; rfl, rfl⟩
  · have hpos : 0 < s.size := by omega
    have he := str_full hpos
    have HL := Lib.hid (str_first hpos)
    have HC := s[0].toNat_lt
    by_cases h1 : s[0].toNat < 248
    · have HR : Hid (Pack.read s.data.toList = (s[0].toNat, 1, 0)) := Lib.hid (by
        rw [HL.out]; unfold Pack.read; simp only []; rw [if_pos h1])
      have hw : wrap64 (s[0].toNat : Int) = s[0].toNat := IntWalk.wrap64_in _ ⟨by omega, by omega⟩
      have hd : decide ((s[0].toNat : Int) < 248) = true := by simp; omega
      clear h0 h1
      go_enter Try.func57, Try.ntmps57
      go_wp2
      go_ret3
      exact ⟨by rw [HR.out]; rfl, rfl⟩
    · by_cases h2 : s[0].toNat > 251
      · have HR : Hid (Pack.read s.data.toList = (0, 0, 2)) := Lib.hid (by
          rw [HL.out]; unfold Pack.read; simp only []; rw [if_neg h1, if_pos h2])
        obtain ⟨k, hk, hk1, hk4⟩ : ∃ k, s[0].toNat = 247 + k ∧ 5 ≤ k ∧ k ≤ 8 := ⟨s[0].toNat - 247, by omega, by omega, by omega⟩
        have hw : wrap64 (s[0].toNat : Int) = 247 + (k : Int) := by rw [IntWalk.wrap64_in _ ⟨by omega, by omega⟩]; omega
        have hd : decide (247 + (k : Int) < 248) = false := by simp; omega
        have h247 : (247 : Int) + (k : Int) - 247 = (k : Int) := by omega
        have hd2 : decide ((4 : Int) < (k : Int)) = true := by simp; omega
        clear h0 h1 h2 HC hk
        go_enter Try.func57, Try.ntmps57
        go_wp2
        go_ret3
        exact ⟨by rw [HR.out]; rfl, rfl⟩
      · obtain ⟨k, hk, hk1, hk4⟩ : ∃ k, s[0].toNat = 247 + k ∧ 1 ≤ k ∧ k ≤ 4 := ⟨s[0].toNat - 247, by omega, by omega, by omega⟩
        have hw : wrap64 (s[0].toNat : Int) = 247 + (k : Int) := by rw [IntWalk.wrap64_in _ ⟨by omega, by omega⟩]; omega
        have hd : decide (247 + (k : Int) < 248) = false := by simp; omega
        have h247 : (247 : Int) + (k : Int) - 247 = (k : Int) := by omega
        have hd2 : decide ((4 : Int) < (k : Int)) = false := by simp; omega
        have hl : (s.data.toList.drop 1).length = s.size - 1 := by rw [List.length_drop, size_list]
        have hkk : s[0].toNat - 247 = k := by omega
        by_cases h3 : s.size ≤ k
        · have HR : Hid (Pack.read s.data.toList = (0, 0, 3)) := Lib.hid (by
            rw [HL.out]; unfold Pack.read; simp only []; rw [if_neg h1, if_neg h2, if_pos (by rw [hl, hkk]; omega)])
          have hd3 : decide ((s.size : Int) ≤ (k : Int)) = true := by simp; omega
          have hd3n : s.size ≤ k := h3
          clear h0 h1 h2 h3 hkk hl hk HC
          go_enter Try.func57, Try.ntmps57
          go_wp2
          go_ret3
          exact ⟨by rw [HR.out]; rfl, rfl⟩
        · have HR : Hid (Pack.read s.data.toList = if Pack.behind (Pack.value ((s.data.toList.drop 1).take k)) = k then (Pack.value ((s.data.toList.drop 1).take k), 1 + k, 0) else (0, 0, 2)) := Lib.hid (by
            rw [HL.out]; unfold Pack.read; simp only []; rw [if_neg h1, if_neg h2, if_neg (by rw [hl, hkk]; omega), hkk]; rfl)
          have hd3 : decide ((s.size : Int) ≤ (k : Int)) = false := by simp; omega
          have hks : k < s.size := by omega
          have hd3n : decide (s.size ≤ k) = false := by simp; omega
          have HT : Hid (∀ m, m < k → ∀ (h : 1 + m < s.size), Pack.value ((s.data.toList.drop 1).take (m + 1)) = Pack.value ((s.data.toList.drop 1).take m) * 256 + s[1 + m].toNat) := Lib.hid (fun m hm h => by
            have hlt : m < (s.data.toList.drop 1).length := by rw [hl]; omega
            rw [List.take_succ_eq_append_getElem hlt, value_snoc, List.getElem_drop]
            rfl)
          have HV : Hid (∀ m, m ≤ 4 → Pack.value ((s.data.toList.drop 1).take m) < 256 ^ m) := Lib.hid (fun m hm => by
            have h1 := value_lt ((s.data.toList.drop 1).take m)
            have h2 : ((s.data.toList.drop 1).take m).length ≤ m := List.length_take_le _ _
            exact Nat.lt_of_lt_of_le h1 (Nat.pow_le_pow_right (by omega) h2))
          clear h0 h1 h2 h3 hkk hl hk HC
          go_enter Try.func57, Try.ntmps57
          go_wp2
          rw [hw]
          clear hw
          go_loop [7, 26] (fun v i => ∃ m : Nat, m ≤ k ∧ i = .int .i64 m ∧ v = .int .i64 (Pack.value ((s.data.toList.drop 1).take m) : Int)) (fun _ i => k - (intOf i).toNat)
          case atStart => exact ⟨0, by omega, rfl, rfl⟩
          case round =>
            obtain ⟨m, hm, rfl, rfl⟩ := hrel
            by_cases hmk : m < k
            · have hdm : decide ((m : Int) < (k : Int)) = true := by simp; omega
              have h1m : 1 + m < s.size := by omega
              have hv := HV.out m (by omega)
              have H2 := Lib.hid (HT.out m hmk h1m)
              have hn : Pack.value ((s.data.toList.drop 1).take m) < 16777216 := by
                refine Nat.lt_of_lt_of_le hv ?_
                have := Nat.pow_le_pow_right (n := 256) (by omega) (show m ≤ 3 by omega)
                simpa using this
              clear hv
              generalize Pack.value ((s.data.toList.drop 1).take m) = V at *
              have hix : (1 : Int) + (m : Int) < (s.size : Int) := by omega
              have hix0 : (0 : Int) ≤ 1 + (m : Int) := by omega
              have hor := or_byte V s[1 + m] hn
              go_wp2
              go_round
              case rel => exact ⟨m + 1, by omega, by go_num, by rw [H2.out]; go_num⟩
              case measure => simp [intOf]; omega
            · obtain rfl : m = k := by omega
              have hv := HV.out m hk4
              have hn : Pack.value ((s.data.toList.drop 1).take m) < 4294967296 := by
                refine Nat.lt_of_lt_of_le hv ?_
                have := Nat.pow_le_pow_right (n := 256) (by omega) hk4
                simpa using this
              clear hv
              generalize hV : Pack.value ((s.data.toList.drop 1).take m) = V at *
              have HVV := Lib.hid hV
              clear hV
              by_cases hb : Pack.behind V = m
              · have hb2 : ((Pack.behind V : Int) != (m : Int)) = false := by simp [hb]
                rw [if_pos hb] at HR
                clear hb
                go_wp2_with fail
                refine (pack_behind V _).mono ?_
                rintro e w' ⟨rfl, rfl⟩
                go_wp2
                go_ret3
                exact ⟨by rw [HR.out]; rfl, rfl⟩
              · have hb2 : ((Pack.behind V : Int) != (m : Int)) = true := by simp; omega
                rw [if_neg hb] at HR
                clear hb
                go_wp2_with fail
                refine (pack_behind V _).mono ?_
                rintro e w' ⟨rfl, rfl⟩
                go_wp2
                go_ret3
                exact ⟨by rw [HR.out]; rfl, rfl⟩
end Go.Proofs.Ytohlnhnelkoakaa
