/- The reference's log; its calls, side by side with the code's. -/
import Derived.Test.YtcmdfjeiefgmhaaPaLive
import Derived.Test.YtcmdfjeiefgmhaaPaLine
namespace Go.Proofs.Ytcmdfjeiefgmhaa
open Go.RowKit
set_option linter.unusedVariables false

abbrev RLog (p : Nat) (L : List ByteArray) : Th := LogV 65 p L

set_option maxHeartbeats 1000000 in
theorem ref16_Get {p : Nat} {L : List ByteArray} {w : World} {F : Nat → Prop} (h : LogV 65 p L w F) (e : Int) :
    Calls Try.prog 40 #[.pointer (some ⟨p, 0, none⟩), .int .i64 e] w fun r w' => r = .returned (.tuple #[.string (Past.line L e), .bool (Past.has L e)]) ∧ w = w' := by
  obtain ⟨a, cap, c0, hc⟩ := h.cells
  clear h
  by_cases h0 : e < 0
  · obtain ⟨k1, k2⟩ := Past.line_no (L := L) (e := e) (by omega)
    rw [k1, k2]
    have d1 : decide (e < 0) = true := decide_eq_true h0
    clear k1 k2 hc
    go_enter Try.func40, Try.ntmps40
    go_wp2
    go_ret2
    exact ⟨rfl, rfl⟩
  · obtain ⟨i, rfl⟩ : ∃ i : Nat, e = i := ⟨e.toNat, by omega⟩
    have d1 : decide ((i : Int) < 0) = false := decide_eq_false h0
    by_cases hi : i < L.length
    · have d2 : decide ((L.length : Int) ≤ (i : Int)) = false := decide_eq_false (by omega)
      have d3 : decide (L.length ≤ i) = false := decide_eq_false (by omega)
      have hia : (i : Int) < (L.length : Int) := by omega
      obtain ⟨b, off, rfl, c1⟩ := hc i hi
      have HL := Lib.hid (Past.line_at hi)
      have HH : Hid (Past.has L (i : Int) = true) := Lib.hid (decide_eq_true (by omega))
      rw [HL.out, HH.out]
      clear hc HL HH
      generalize L[i] = s at *
      go_enter Try.func40, Try.ntmps40
      go_wp2
      go_ret2
      exact ⟨rfl, rfl⟩
    · have d2 : decide ((L.length : Int) ≤ (i : Int)) = true := decide_eq_true (by omega)
      have d3 : decide (L.length ≤ i) = true := decide_eq_true (by omega)
      obtain ⟨k1, k2⟩ := Past.line_no (L := L) (e := i) (by omega)
      rw [k1, k2]
      clear k1 k2 hc
      go_enter Try.func40, Try.ntmps40
      go_wp2
      go_ret2
      exact ⟨rfl, rfl⟩

set_option maxRecDepth 100000 in
set_option maxHeartbeats 2000000 in
theorem ref16_Add {p : Nat} {L : List ByteArray} {w : World} {F : Nat → Prop} (h : LogV 65 p L w F) (hL : L.length ≤ 10000) (e : Int) (s : ByteArray) :
    Calls Try.prog 38 #[.pointer (some ⟨p, 0, none⟩), .int .i64 e, .string s] w fun r w' => r = .returned (.int .i64 (Past.add L e s).1) ∧ TStep (LogV 65 p (Past.add L e s).2) w F w' := by
  have HS := Lib.hid (TStep.same (LogV.good _ _ _) h (Below.refl _ _))
  have HA : Hid (Past.add L e s = if e < 0 ∨ 20000 < s.size then (1, L) else if e < L.length then (if L.getD e.toNat ⟨#[]⟩ = s then 7 else 8, L) else if (L.length : Int) < e then (6, L) else if 10000 ≤ L.length then (5, L) else (0, L ++ [s])) := Lib.hid rfl
  generalize Past.add L e s = q at HA ⊢
  by_cases h0 : e < 0
  · obtain rfl : q = (1, L) := by rw [HA.out, if_pos (.inl h0)]
    have d1 : decide (e < 0) = true := decide_eq_true h0
    clear h HA h0
    go_enter Try.func38, Try.ntmps38
    go_wp2
    go_ret
    exact ⟨rfl, HS.out⟩
  · have d1 : decide (e < 0) = false := decide_eq_false h0
    by_cases hz : 20000 < s.size
    · obtain rfl : q = (1, L) := by rw [HA.out, if_pos (.inr hz)]
      have d2 : decide ((20000 : Int) < (s.size : Int)) = true := decide_eq_true (by omega)
      clear h HA h0 hz
      go_enter Try.func38, Try.ntmps38
      go_wp2
      go_ret
      exact ⟨rfl, HS.out⟩
    · have d2 : decide ((20000 : Int) < (s.size : Int)) = false := decide_eq_false (by omega)
      rw [if_neg (by omega)] at HA
      by_cases hi : e < L.length
      · rw [if_pos hi] at HA
        obtain ⟨i, rfl⟩ : ∃ i : Nat, e = i := ⟨e.toNat, by omega⟩
        have hin : i < L.length := by omega
        have hia : (i : Int) < (L.length : Int) := by omega
        have d3 : decide ((i : Int) < (L.length : Int)) = true := decide_eq_true hia
        have d4 : decide (i < L.length) = true := decide_eq_true hin
        obtain ⟨a, cap, c0, hc⟩ := h.cells
        obtain ⟨b, off, rfl, c1⟩ := hc i hin
        obtain rfl : q = (if L[i] = s then 7 else 8, L) := by rw [HA.out, Int.toNat_natCast, List.getD_eq_getElem?_getD, List.getElem?_eq_getElem hin]; rfl
        clear h HA h0 hz hi hc
        generalize L[i] = l at *
        by_cases hls : l = s
        · have b0 := str_same hls
          have HR : Hid ((if l = s then (7 : Int) else 8) = 7) := Lib.hid (if_pos hls)
          simp only [HR.out]
          clear hls HR
          go_enter Try.func38, Try.ntmps38
          go_wp2
          go_ret
          exact ⟨rfl, HS.out⟩
        · have b0 := str_other hls
          have HR : Hid ((if l = s then (7 : Int) else 8) = 8) := Lib.hid (if_neg hls)
          simp only [HR.out]
          clear hls HR
          go_enter Try.func38, Try.ntmps38
          go_wp2
          go_ret
          exact ⟨rfl, HS.out⟩
      · rw [if_neg hi] at HA
        obtain ⟨i, rfl⟩ : ∃ i : Nat, e = i := ⟨e.toNat, by omega⟩
        have e3 : decide ((i : Int) < (L.length : Int)) = false := decide_eq_false hi
        have e4 : decide (i < L.length) = false := decide_eq_false (by omega)
        obtain ⟨v, g1, g2, g3, g4, g5⟩ := h
        obtain ⟨a, cap, rfl⟩ := g2.form
        have c0 := g1.cell 0 (by simp)
        have f0 := g1.frozen 0
        simp only [List.getElem_cons_zero] at c0
        have HO := Lib.hid g2
        have HH := Lib.hid g1
        have H3 := Lib.hid g3
        have H5 := Lib.hid g5
        clear g1 g2 g3 g4 g5
        by_cases hgt : (L.length : Int) < (i : Int)
        · obtain rfl : q = (6, L) := by rw [HA.out, if_pos hgt]
          have d3 : decide ((L.length : Int) < (i : Int)) = true := decide_eq_true hgt
          have d3' : decide (L.length < i) = true := decide_eq_true (by omega)
          clear HA h0 hz hi hgt
          go_enter Try.func38, Try.ntmps38
          go_wp2
          go_ret
          exact ⟨rfl, HS.out⟩
        · rw [if_neg hgt] at HA
          have d3 : decide ((L.length : Int) < (i : Int)) = false := decide_eq_false hgt
          have d3' : decide (L.length < i) = false := decide_eq_false (by omega)
          by_cases hf : 10000 ≤ L.length
          · obtain rfl : q = (5, L) := by rw [HA.out, if_pos hf]
            have d4 : decide ((10000 : Int) ≤ (L.length : Int)) = true := decide_eq_true (by omega)
            clear HA h0 hz hi hgt hf
            go_enter Try.func38, Try.ntmps38
            go_wp2
            go_ret
            exact ⟨rfl, HS.out⟩
          · obtain rfl : q = (0, L ++ [s]) := by rw [HA.out, if_neg hf]
            have d4 : decide ((10000 : Int) ≤ (L.length : Int)) = false := decide_eq_false (by omega)
            clear HA h0 hz hi hgt hf
            go_enter Try.func38, Try.ntmps38
            go_wp2_with (at_builtin; refine wp_append_text rfl (.tmp 47) (.tmp 49) rfl (.slice a L.length cap) L s rfl rfl HO.out (by omega) ?_; intro v1 w1 ho1 hk1 hn1; have HH1 := Lib.hid (HH.out.keep hk1 (fun e => H3.out p e rfl)); have c1 := HH1.out.cell 0 (by simp); have f1 := HH1.out.frozen 0; simp only [List.getElem_cons_zero] at c1; have HT := Lib.hid (LogV.more (by decide) HH.out H3.out H5.out ho1 hk1 hn1); obtain ⟨a1, cap1, rfl⟩ : ∃ a1 cap1, v1 = .slice a1 (L.length + 1) cap1 := by { obtain ⟨a, c, e⟩ := ho1.form; exact ⟨a, c, by rw [e, List.length_append]; rfl⟩ }; clear ho1 hk1 hn1)
            go_ret
            exact ⟨rfl, HT.out⟩

theorem m_RAdd {Ts : List Th} {w0 w : World} {p : Nat} {L : List ByteArray} (h : Mine (RLog p L :: Ts) w0 w) (hL : L.length ≤ 10000) (e : Int) (s : ByteArray) :
    Calls Try.prog 38 #[.pointer (some ⟨p, 0, none⟩), .int .i64 e, .string s] w fun r w' => r = .returned (.int .i64 (Past.add L e s).1) ∧ Mine (RLog p (Past.add L e s).2 :: Ts) w0 w' :=
  h.call (LogV.good _ _ _) (fun F hF => ref16_Add hF hL e s)
theorem m_RGet {Ts : List Th} {w0 w : World} {p : Nat} {L : List ByteArray} (h : Mine (RLog p L :: Ts) w0 w) (e : Int) :
    Calls Try.prog 40 #[.pointer (some ⟨p, 0, none⟩), .int .i64 e] w fun r w' => r = .returned (.tuple #[.string (Past.line L e), .bool (Past.has L e)]) ∧ w = w' := by
  obtain ⟨F, hF, _⟩ := h.first
  exact ref16_Get hF e
/-- What the reference's log holds, as it is read. -/
theorem Mine.log {Ts : List Th} {w0 w : World} {t : TypeId} {p : Nat} {L : List ByteArray} (h : Mine (LogV t p L :: Ts) w0 w) : ∃ v, w.cell? ⟨p, 0, none⟩ = some v ∧ SliceS w v L := by
  obtain ⟨F, ⟨v, h1, h2, _⟩, _⟩ := h.first
  have c0 := h1.cell 0 (by simp)
  exact ⟨v, c0, h2.slice⟩
end Go.Proofs.Ytcmdfjeiefgmhaa
