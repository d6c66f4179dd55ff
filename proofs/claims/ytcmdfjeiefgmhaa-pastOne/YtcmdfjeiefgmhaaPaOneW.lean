/- Each line by its epoch: the walk of PastOne. -/
import Derived.Test.YtcmdfjeiefgmhaaPaLive
namespace Go.Proofs.Ytcmdfjeiefgmhaa
open Go.RowKit
set_option linter.unusedVariables false

theorem Past.add_next {L : List ByteArray} {t : ByteArray} (ht : t.size ≤ 20000) (hL : L.length < 10000) : Past.add L (L.length : Int) t = (0, L ++ [t]) := by
  unfold Past.add
  rw [if_neg (by omega), if_neg (by omega), if_neg (by omega), if_neg (by omega)]
theorem Past.add_at {L : List ByteArray} {i : Nat} {t : ByteArray} (ht : t.size ≤ 20000) (hi : i < L.length) : Past.add L (i : Int) t = (if L[i] = t then 7 else 8, L) := by
  unfold Past.add
  rw [if_neg (by omega), if_pos (by omega), Int.toNat_natCast, List.getD_eq_getElem?_getD, List.getElem?_eq_getElem hi]
  rfl
theorem sx_other (t : ByteArray) : t ≠ t ++ ⟨#[120]⟩ := fun e => by
  have h := congrArg ByteArray.size e
  rw [size_app] at h
  have : (⟨#[120]⟩ : ByteArray).size = 1 := rfl
  omega

set_option maxRecDepth 100000 in
set_option maxHeartbeats 4000000 in
theorem walk_PastOne (a : Option Addr) (n c : Nat) (xs : List ByteArray) (w : World) (hx : IsStrs w a n c xs) :
    Calls Try.prog 14 #[.slice a n c] w fun e w' => e = .returned (.bool true) ∧ Below w.heap.size w w' := by
  obtain ⟨ts, hs, hm, _⟩ := hx.slice
  clear hx
  obtain ⟨a', c', e, _⟩ := hs.shape
  injection e with e1 e2 e3
  subst e1 e2 e3
  have HX := Lib.hid hs
  unfold maxLen at hm
  clear hs
  by_cases h1 : 60 < ts.length
  · have d1 : decide ((60 : Int) < (ts.length : Int)) = true := decide_eq_true (by omega)
    clear h1
    go_enter Try.func14, Try.ntmps14
    go_wp2_with fail
    refine (m_New (Mine.nothing w)).mono ?_
    rintro e w1 ⟨p, rfl, h⟩
    have H := Lib.hid h
    clear h
    go_wp2_with fail
    refine (law16_live _).mono ?_
    rintro e w2 ⟨rfl, hb⟩
    go_wp2
    go_ret
    exact ⟨rfl, grew H.out.bel hb⟩
  · have d1 : decide ((60 : Int) < (ts.length : Int)) = false := decide_eq_false (by omega)
    have h60 : ts.length ≤ 60 := by omega
    clear h1 hm
    go_enter Try.func14, Try.ntmps14
    go_wp2_with fail
    refine (m_New (Mine.nothing w)).mono ?_
    rintro e w1 ⟨p, rfl, h⟩
    have H := Lib.hid h
    clear h
    go_wp2_with fail
    go_loopw [4] (fun i wr => ∃ k : Nat, k ≤ ts.length ∧ i = .int .i64 k ∧ Mine [PLog p (ts.take k)] w wr ∧ ∀ j (hj : j < ts.length), j < k → ts[j].size ≤ 300) (fun i _ => ts.length - (intOf i).toNat)
    case atStart => exact ⟨0, by omega, rfl, H.out, fun j _ h => by omega⟩
    case round =>
      obtain ⟨k, hk, rfl, hM, hsz⟩ := hrel
      have HM := Lib.hid hM
      have HSZ := Lib.hid hsz
      clear hM hsz H
      by_cases hlt : k < ts.length
      · have e1 : decide ((k : Int) < (ts.length : Int)) = true := decide_eq_true (by omega)
        have e2 : decide (k < ts.length) = true := decide_eq_true hlt
        have hia : (k : Int) < (ts.length : Int) := by omega
        obtain ⟨b, off, rfl, c0⟩ := texts_at (HX.out.below HM.out.bel) hlt
        by_cases h3 : 300 < ts[k].size
        · have e3 : decide ((300 : Int) < (ts[k].size : Int)) = true := decide_eq_true (by omega)
          generalize ts[k] = t at c0 e3
          clear h3
          go_wp2_with fail
          refine (law16_live _).mono ?_
          rintro e w2 ⟨rfl, hb⟩
          go_wp2
          go_ret
          exact ⟨rfl, grew HM.out.bel hb⟩
        · have e3 : decide ((300 : Int) < (ts[k].size : Int)) = false := decide_eq_false (by omega)
          have HA := Lib.hid (m_Add HM.out (by rw [List.length_take]; omega) (k : Int) ts[k])
          have hkl : (ts.take k).length = k := by rw [List.length_take]; omega
          have hnx := Past.add_next (L := ts.take k) (t := ts[k]) (by omega) (by omega)
          rw [hkl, ← List.take_succ_eq_append_getElem hlt] at hnx
          rw [hnx] at HA
          have HSZ2 : Hid (∀ j (hj : j < ts.length), j < k + 1 → ts[j].size ≤ 300) := Lib.hid (fun j hj hjk => by
            by_cases e : j = k
            · subst e; omega
            · exact HSZ.out j hj (by omega))
          clear hkl hnx h3
          generalize ts[k] = t at c0 e3 HA
          go_wp2_with fail
          refine HA.out.mono ?_
          rintro e w2 ⟨rfl, h⟩
          have HM2 := Lib.hid h
          clear h
          go_wp2
          go_roundw
          case rel => exact ⟨k + 1, by omega, by go_num, HM2.out, HSZ2.out⟩
          case measure => simp [intOf]; omega
      · have e1 : decide ((k : Int) < (ts.length : Int)) = false := decide_eq_false (by omega)
        have e2 : decide (k < ts.length) = false := decide_eq_false hlt
        obtain rfl : k = ts.length := by omega
        rw [List.take_length] at HM
        clear hlt
        go_wp2
        go_loopw [5] (fun i wr => ∃ k : Nat, k ≤ ts.length ∧ i = .int .i64 k ∧ Mine [PLog p ts] w wr) (fun i _ => ts.length - (intOf i).toNat)
        case atStart => exact ⟨0, by omega, rfl, HM.out⟩
        case round =>
          obtain ⟨k, hk, rfl, hM⟩ := hrel
          have HM := Lib.hid hM
          clear hM
          by_cases hlt : k < ts.length
          · have e1 : decide ((k : Int) < (ts.length : Int)) = true := decide_eq_true (by omega)
            have e2 : decide (k < ts.length) = true := decide_eq_true hlt
            have hia : (k : Int) < (ts.length : Int) := by omega
            have hsz := HSZ.out k hlt hlt
            have HG := Lib.hid (fun W (h : Mine [PLog p ts] w W) => m_Get h (k : Int))
            rw [show Past.line ts (k : Int) = ts[k] from Past.line_at hlt, show Past.has ts (k : Int) = true from decide_eq_true (by omega)] at HG
            have HA := Lib.hid (fun W (h : Mine [PLog p ts] w W) => m_Add h (by omega) (k : Int) ts[k])
            rw [Past.add_at (by omega) hlt, if_pos rfl] at HA
            have HA2 := Lib.hid (fun W (h : Mine [PLog p ts] w W) => m_Add h (by omega) (k : Int) (ts[k] ++ ⟨#[120]⟩))
            have hszx : (ts[k] ++ ⟨#[120]⟩).size ≤ 20000 := by
              rw [size_app]
              have : (⟨#[120]⟩ : ByteArray).size = 1 := rfl
              omega
            rw [Past.add_at hszx hlt, if_neg (sx_other _)] at HA2
            clear hszx
            obtain ⟨b, off, rfl, cx⟩ := texts_at HX.out hlt
            have hbl : b < w.heap.size := block_lt_of_cell cx
            have HC := Lib.hid (fun W (hb : Below w.heap.size w W) => (hb.cell (p := ⟨b, off + k, none⟩) hbl).trans cx)
            clear cx hbl
            generalize ts[k] = t at HG HA HA2 HC hsz
            have hss : (t.toList == t.toList) = true := str_same rfl
            have c0 := HC.out _ HM.out.bel
            go_wp2_with fail
            refine (HG.out _ HM.out).mono ?_
            rintro e w2 ⟨rfl, hw⟩
            subst hw
            go_wp2_with fail
            refine (HA.out _ HM.out).mono ?_
            rintro e w3 ⟨rfl, h⟩
            have HM2 := Lib.hid h
            clear h c0
            have c1 := HC.out _ HM2.out.bel
            go_wp2_with fail
            refine (HA2.out _ HM2.out).mono ?_
            rintro e w4 ⟨rfl, h⟩
            have HM3 := Lib.hid h
            clear h c1
            go_wp2
            go_roundw
            case rel => exact ⟨k + 1, by omega, by go_num, HM3.out⟩
            case measure => simp [intOf]; omega
          · have e1 : decide ((k : Int) < (ts.length : Int)) = false := decide_eq_false (by omega)
            have e2 : decide (k < ts.length) = false := decide_eq_false hlt
            have HNO := Lib.hid (Past.line_no (L := ts) (e := (ts.length : Int)) (by omega))
            have HG := Lib.hid (m_Get HM.out (ts.length : Int))
            rw [HNO.out.1, HNO.out.2] at HG
            clear hlt
            go_wp2_with fail
            refine HG.out.mono ?_
            rintro e w2 ⟨rfl, hw⟩
            subst hw
            go_wp2_with fail
            refine (m_All HM.out (by omega)).mono ?_
            rintro e w3 ⟨v3, rfl, h, _⟩
            have HM2 := Lib.hid h
            have HT := Lib.hid h.texts
            obtain ⟨ta, tc, e15, _⟩ := h.texts.shape
            subst e15
            clear h
            go_wp2_with fail
            refine (ref03_Texts _ _ ts ts _ HT.out (HX.out.below HM2.out.bel) (by omega) (by unfold maxLen; omega)).mono ?_
            rintro e w4 ⟨rfl, hb⟩
            rw [show sameS ts ts = true from by simp [sameS]]
            have HM3 := Lib.hid (HM2.out.grew hb)
            clear hb
            go_wp2_with fail
            refine (law16_live _).mono ?_
            rintro e w5 ⟨rfl, hb⟩
            go_wp2
            go_ret
            exact ⟨rfl, grew HM3.out.bel hb⟩
end Go.Proofs.Ytcmdfjeiefgmhaa
