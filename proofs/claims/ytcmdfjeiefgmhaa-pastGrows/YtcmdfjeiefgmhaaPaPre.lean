/- Whether one list of texts begins another one. -/
import Derived.Test.YtcmdfjeiefgmhaaPaAll
import Derived.Test.YtcmdfjeiefgmhaaTexts
namespace Go.Proofs.Ytcmdfjeiefgmhaa
open Go.RowKit
set_option linter.unusedVariables false

theorem SliceS.shape {w : World} {v : Value} {ts : List ByteArray} (h : SliceS w v ts) : ∃ a cap, v = .slice a ts.length cap ∧ ts.length ≤ cap := by
  obtain ⟨a, cap, h1, h2, _⟩ := h
  exact ⟨a, cap, h1, h2⟩
theorem texts_at {w : World} {a : Option Addr} {cap : Nat} {zs : List ByteArray} (h : SliceS w (.slice a zs.length cap) zs) {k : Nat} (hk : k < zs.length) : ∃ b off, a = some ⟨b, off, none⟩ ∧ w.cell? ⟨b, off + k, none⟩ = some (.string zs[k]) := by
  obtain ⟨a', cap', e, _, h⟩ := h
  injection e with e1 _ _
  subst e1
  rcases h with h | ⟨b, off, rfl, hlt, hc⟩
  · subst h; simp at hk
  · exact ⟨b, off, rfl, hc k hk⟩

set_option maxRecDepth 100000 in
set_option maxHeartbeats 4000000 in
theorem texts_Equal (u v : Value) (xs ys : List ByteArray) (w : World) (hu : SliceS w u xs) (hv : SliceS w v ys) (hm : xs.length ≤ 1000000000) (hm2 : ys.length ≤ 1000000000) :
    Calls Try.prog 70 #[u, v] w fun e w' => e = .returned (.bool (decide (xs = ys))) ∧ Below w.heap.size w w' := by
  have HU := Lib.hid hu
  have HV := Lib.hid hv
  obtain ⟨ua, uc, rfl, _⟩ := hu.shape
  obtain ⟨va, vc, rfl, _⟩ := hv.shape
  clear hu hv
  by_cases hl : xs.length = ys.length
  · have hd : ((xs.length : Int) != (ys.length : Int)) = false := by rw [hl]; simp
    have HL := Lib.hid hl
    clear hl
    go_enter Try.func70, Try.ntmps70
    go_wp2
    go_loopw [13] (fun i wr => ∃ k : Nat, k ≤ xs.length ∧ i = .int .i64 k ∧ xs.take k = ys.take k ∧ Below w.heap.size w wr) (fun i _ => xs.length - (intOf i).toNat)
    case atStart => exact ⟨0, by omega, rfl, by simp, Below.refl _ _⟩
    case round =>
      obtain ⟨k, hk, rfl, htk, hbel⟩ := hrel
      have HT := Lib.hid htk
      have HB := Lib.hid hbel
      clear htk hbel
      by_cases hlt : k < xs.length
      · have hdk : decide ((k : Int) < (xs.length : Int)) = true := decide_eq_true (by omega)
        have hdn : decide (k < xs.length) = true := decide_eq_true hlt
        have hik : (k : Int) < (xs.length : Int) := by omega
        have hlt2 : k < ys.length := by have := HL.out; omega
        have hik2 : (k : Int) < (ys.length : Int) := by omega
        obtain ⟨bx, ox, rfl, x0⟩ := texts_at (HU.out.below HB.out) hlt
        obtain ⟨by_, oy, rfl, y0⟩ := texts_at (HV.out.below HB.out) hlt2
        have HN : Hid (xs[k] = ys[k] → xs.take (k + 1) = ys.take (k + 1)) := Lib.hid (fun e => (take_exts hlt hlt2 HT.out).2 e)
        have HNO : Hid (xs[k] ≠ ys[k] → xs ≠ ys) := Lib.hid (fun h e => h (by subst e; rfl))
        generalize xs[k] = x at *
        generalize ys[k] = y at *
        by_cases h0 : x = y
        · subst h0
          have HN2 := Lib.hid (HN.out rfl)
          have b0 : (x.toList == x.toList) = true := str_same rfl
          go_wp2_with fail
          go_quiet (fail)
          go_wp2
          go_roundw
          case rel => exact ⟨k + 1, by omega, by go_num, HN2.out, grew HB.out (grew_drewN _ _)⟩
          case measure => simp [intOf]; omega
        · have b0 : (x.toList == y.toList) = false := str_other h0
          have HE : Hid (decide (xs = ys) = false) := Lib.hid (decide_eq_false (HNO.out h0))
          clear h0
          go_wp2_with fail
          go_quiet (fail)
          go_wp2
          go_ret
          exact ⟨by rw [HE.out]; rfl, grew HB.out (grew_drewN _ _)⟩
      · have hdn : decide (k < xs.length) = false := decide_eq_false hlt
        have hdk : decide ((k : Int) < (xs.length : Int)) = false := decide_eq_false (by omega)
        have HE : Hid (decide (xs = ys) = true) := Lib.hid (decide_eq_true (by
          have := HT.out
          have hl := HL.out
          rwa [List.take_of_length_le (by omega), List.take_of_length_le (by omega)] at this))
        go_wp2
        go_ret
        exact ⟨by rw [HE.out]; rfl, HB.out⟩
  · have hd : ((xs.length : Int) != (ys.length : Int)) = true := by simp; omega
    have HE : Hid (decide (xs = ys) = false) := Lib.hid (decide_eq_false (fun e => hl (by rw [e])))
    clear hl
    go_enter Try.func70, Try.ntmps70
    go_wp2
    go_ret
    exact ⟨by rw [HE.out]; rfl, Below.refl _ _⟩

set_option maxRecDepth 100000 in
set_option maxHeartbeats 1000000 in
theorem past_Prefix (u v : Value) (xs ys : List ByteArray) (w : World) (hu : SliceS w u xs) (hv : SliceS w v ys) (hm : xs.length ≤ 1000000000) (hm2 : ys.length ≤ 1000000000) :
    Calls Try.prog 43 #[u, v] w fun e w' => e = .returned (.bool (Past.begins xs ys)) ∧ Below w.heap.size w w' := by
  by_cases hl : xs.length ≤ ys.length
  · have d1 : decide ((xs.length : Int) ≤ (ys.length : Int)) = true := decide_eq_true (by omega)
    have d2 : decide (xs.length ≤ ys.length) = true := decide_eq_true hl
    have HR : Hid (Past.begins xs ys = decide (xs = ys.take xs.length)) := Lib.hid (by unfold Past.begins; rw [d2]; rfl)
    rw [HR.out]
    have hk : (ys.take xs.length).length = xs.length := by rw [List.length_take]; omega
    have HE := Lib.hid (fun v' (hs : SliceS w v' (ys.take xs.length)) => texts_Equal u v' xs (ys.take xs.length) w hu hs hm (by omega))
    obtain ⟨ua, uc, rfl, _⟩ := hu.shape
    obtain ⟨va, vc, rfl, hcap⟩ := hv.shape
    have hv' : SliceS w (.slice va xs.length vc) (ys.take xs.length) := by
      obtain ⟨a', c', e, h1, h2⟩ := hv
      injection e with e1 _ e3
      subst e1 e3
      refine ⟨va, vc, by rw [hk], by omega, ?_⟩
      rcases h2 with h2 | ⟨b, off, e, h3, h4⟩
      · exact .inl (by rw [h2]; simp)
      · exact .inr ⟨b, off, e, h3, fun i hi => by rw [List.getElem_take]; exact h4 i (by omega)⟩
    have HV := Lib.hid hv'
    have HB : Hid (xs.length = 0 ∨ ∃ b off, va = some ⟨b, off, none⟩ ∧ 0 < vc) := Lib.hid (by
      by_cases h0 : xs.length = 0
      · exact .inl h0
      · obtain ⟨b, off, e, _⟩ := texts_at hv (k := 0) (by omega)
        exact .inr ⟨b, off, e, by omega⟩)
    have g1 : (0 : Int) ≤ (xs.length : Int) := by omega
    have g2 : (xs.length : Int) ≤ (vc : Int) := by omega
    clear hu hv hv' HR hk
    have HF := Lib.hid (fun v' (e : v' = Value.slice va xs.length vc) => HE.out v' (by rw [e]; exact HV.out))
    rcases HB.out with h0 | ⟨b, off, rfl, hvc⟩
    · have HG := Lib.hid (fun a' c' => HE.out (.slice a' xs.length c') ⟨a', c', by rw [List.length_take, Nat.min_eq_left hl], by rw [List.length_take, Nat.min_eq_left hl, h0]; exact Nat.zero_le _, .inl (by rw [h0]; rfl)⟩)
      generalize decide (xs = ys.take xs.length) = z at HG ⊢
      clear HE HF HV HB h0
      cases vc with
      | zero =>
        go_enter Try.func43, Try.ntmps43
        go_wp2_with fail
        refine (HG.out _ _).mono ?_
        rintro e w1 ⟨rfl, hb⟩
        have HB1 := Lib.hid hb
        clear hb
        go_wp2
        go_ret
        exact ⟨rfl, HB1.out⟩
      | succ c =>
        go_enter Try.func43, Try.ntmps43
        go_wp2_with fail
        refine (HG.out _ _).mono ?_
        rintro e w1 ⟨rfl, hb⟩
        have HB1 := Lib.hid hb
        clear hb
        go_wp2
        go_ret
        exact ⟨rfl, HB1.out⟩
    · obtain ⟨c, rfl⟩ : ∃ c, vc = c + 1 := ⟨vc - 1, by omega⟩
      have HG := Lib.hid (HE.out _ HV.out)
      generalize decide (xs = ys.take xs.length) = z at HG ⊢
      clear HE HF HV HB hvc
      go_enter Try.func43, Try.ntmps43
      go_wp2_with fail
      refine HG.out.mono ?_
      rintro e w1 ⟨rfl, hb⟩
      have HB1 := Lib.hid hb
      clear hb
      go_wp2
      go_ret
      exact ⟨rfl, HB1.out⟩
  · have d1 : decide ((xs.length : Int) ≤ (ys.length : Int)) = false := decide_eq_false (by omega)
    have d2 : decide (xs.length ≤ ys.length) = false := decide_eq_false hl
    have HR : Hid (Past.begins xs ys = false) := Lib.hid (by unfold Past.begins; rw [d2]; rfl)
    rw [HR.out]
    obtain ⟨ua, uc, rfl, _⟩ := hu.shape
    obtain ⟨va, vc, rfl, _⟩ := hv.shape
    clear hu hv HR
    go_enter Try.func43, Try.ntmps43
    go_wp2
    go_ret
    exact ⟨rfl, Below.refl _ _⟩

set_option maxRecDepth 100000 in
set_option maxHeartbeats 2000000 in
theorem ref16_Prefix (u v : Value) (xs ys : List ByteArray) (w : World) (hu : SliceS w u xs) (hv : SliceS w v ys) (hm : xs.length ≤ 1000000000) (hm2 : ys.length ≤ 1000000000) :
    Calls Try.prog 44 #[u, v] w fun e w' => e = .returned (.bool (Past.begins xs ys)) ∧ Below w.heap.size w w' := by
  have HU := Lib.hid hu
  have HV := Lib.hid hv
  obtain ⟨ua, uc, rfl, _⟩ := hu.shape
  obtain ⟨va, vc, rfl, _⟩ := hv.shape
  clear hu hv
  by_cases hl : ys.length < xs.length
  · have d1 : decide ((ys.length : Int) < (xs.length : Int)) = true := decide_eq_true (by omega)
    have d2 : decide (ys.length < xs.length) = true := decide_eq_true hl
    have HR : Hid (Past.begins xs ys = false) := Lib.hid (by unfold Past.begins; rw [decide_eq_false (by omega)]; rfl)
    rw [HR.out]
    go_enter Try.func44, Try.ntmps44
    go_wp2
    go_ret
    exact ⟨rfl, Below.refl _ _⟩
  · have d1 : decide ((ys.length : Int) < (xs.length : Int)) = false := decide_eq_false (by omega)
    have d2 : decide (ys.length < xs.length) = false := decide_eq_false hl
    have HL : Hid (xs.length ≤ ys.length) := Lib.hid (by omega)
    have HR : Hid (Past.begins xs ys = decide (xs = ys.take xs.length)) := Lib.hid (by unfold Past.begins; rw [decide_eq_true HL.out]; rfl)
    rw [HR.out]
    clear hl HR
    go_enter Try.func44, Try.ntmps44
    go_wp2
    go_loopw [5] (fun i wr => ∃ k : Nat, k ≤ xs.length ∧ i = .int .i64 k ∧ xs.take k = ys.take k ∧ Below w.heap.size w wr) (fun i _ => xs.length - (intOf i).toNat)
    case atStart => exact ⟨0, by omega, rfl, by simp, Below.refl _ _⟩
    case round =>
      obtain ⟨k, hk, rfl, htk, hbel⟩ := hrel
      have HT := Lib.hid htk
      have HB := Lib.hid hbel
      clear htk hbel
      by_cases hlt : k < xs.length
      · have hdk : decide ((k : Int) < (xs.length : Int)) = true := decide_eq_true (by omega)
        have hdn : decide (k < xs.length) = true := decide_eq_true hlt
        have hik : (k : Int) < (xs.length : Int) := by omega
        have hlt2 : k < ys.length := by have := HL.out; omega
        have hik2 : (k : Int) < (ys.length : Int) := by omega
        obtain ⟨bx, ox, rfl, x0⟩ := texts_at (HU.out.below HB.out) hlt
        obtain ⟨by_, oy, rfl, y0⟩ := texts_at (HV.out.below HB.out) hlt2
        have HN : Hid (xs[k] = ys[k] → xs.take (k + 1) = ys.take (k + 1)) := Lib.hid (fun e => (take_exts hlt hlt2 HT.out).2 e)
        have HNO : Hid (xs[k] ≠ ys[k] → xs ≠ ys.take xs.length) := Lib.hid (fun h e => h (by
          have : (ys.take xs.length)[k]? = xs[k]? := by rw [← e]
          rw [List.getElem?_take, if_pos hlt, List.getElem?_eq_getElem hlt2, List.getElem?_eq_getElem hlt] at this
          exact (Option.some.inj this).symm))
        generalize xs[k] = x at *
        generalize ys[k] = y at *
        by_cases h0 : x = y
        · subst h0
          have HN2 := Lib.hid (HN.out rfl)
          have b0 : (x.toList == x.toList) = true := str_same rfl
          go_wp2_with fail
          go_quiet (fail)
          go_wp2
          go_roundw
          case rel => exact ⟨k + 1, by omega, by go_num, HN2.out, grew HB.out (grew_drewN _ _)⟩
          case measure => simp [intOf]; omega
        · have b0 : (x.toList == y.toList) = false := str_other h0
          have HE : Hid (decide (xs = ys.take xs.length) = false) := Lib.hid (decide_eq_false (HNO.out h0))
          clear h0
          go_wp2_with fail
          go_quiet (fail)
          go_wp2
          go_ret
          exact ⟨by rw [HE.out]; rfl, grew HB.out (grew_drewN _ _)⟩
      · have hdn : decide (k < xs.length) = false := decide_eq_false hlt
        have hdk : decide ((k : Int) < (xs.length : Int)) = false := decide_eq_false (by omega)
        have HE : Hid (decide (xs = ys.take xs.length) = true) := Lib.hid (decide_eq_true (by
          have := HT.out
          obtain rfl : k = xs.length := by omega
          rwa [List.take_of_length_le (Nat.le_refl _)] at this))
        go_wp2
        go_ret
        exact ⟨by rw [HE.out]; rfl, HB.out⟩
end Go.Proofs.Ytcmdfjeiefgmhaa
