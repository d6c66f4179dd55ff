/- Lists of texts, held against one another. -/
import Derived.Test.YtcmdfjeiefgmhaaStrs
import Derived.Deep.QuietTactic
import Derived.BigQuiet
namespace Go.Proofs.Ytcmdfjeiefgmhaa
open Go.RowKit
set_option linter.unusedVariables false

theorem take_exts {xs ys : List ByteArray} {k : Nat} (ha : k < xs.length) (hb : k < ys.length) (h : xs.take k = ys.take k) : (xs.take (k + 1) = ys.take (k + 1)) ↔ xs[k] = ys[k] := by
  rw [List.take_succ_eq_append_getElem ha, List.take_succ_eq_append_getElem hb, h]
  exact ⟨fun h => by have := List.append_cancel_left h; injection this, fun h => by rw [h]⟩

/-- Are two lists of texts the same? -/
def sameS (xs ys : List ByteArray) : Bool := decide (xs = ys)

set_option maxHeartbeats 1000000 in
theorem ref03_Texts (va vb : Value) (xs ys : List ByteArray) (w : World) (ha : SliceS w va xs) (hb : SliceS w vb ys) (hm : xs.length ≤ 1000000000) (hm2 : ys.length ≤ maxLen) :
    Calls Try.prog 41 #[va, vb] w fun e w' => e = .returned (.bool (sameS xs ys)) ∧ Below w.heap.size w w' := by
  unfold maxLen at hm2
  obtain ⟨aa, ca, rfl, hca, hra⟩ := ha
  obtain ⟨ab, cb, rfl, hcb, hrb⟩ := hb
  by_cases hl : xs.length = ys.length
  · have hd : ((xs.length : Int) != (ys.length : Int)) = false := by simp; omega
    by_cases h0 : xs.length = 0
    · obtain rfl : xs = [] := List.eq_nil_of_length_eq_zero h0
      obtain rfl : ys = [] := List.eq_nil_of_length_eq_zero hl.symm
      clear hra hrb hd
      go_enter Try.func41, Try.ntmps41
      go_wp2
      go_rounds 1
      go_ret
      exact ⟨rfl, Below.refl _ _⟩
    · rcases hra with rfl | ⟨ba, oa, rfl, _, hcellA⟩
      · exact absurd rfl h0
      · rcases hrb with rfl | ⟨bb, ob, rfl, _, hcellB⟩
        · exact absurd hl h0
        · have HA := Lib.hid hcellA
          have HB := Lib.hid hcellB
          have HL := Lib.hid hl
          clear hcellA hcellB hl
          go_enter Try.func41, Try.ntmps41
          go_wp2
          go_loopw [5] (fun i wr => ∃ k : Nat, k ≤ xs.length ∧ i = .int .i64 k ∧ xs.take k = ys.take k ∧ ∃ n, wr = w.drewN n) (fun i _ => xs.length - (intOf i).toNat)
          case atStart => exact ⟨0, by omega, rfl, rfl, 0, rfl⟩
          case round =>
            obtain ⟨k, hk, rfl, heq, n, rfl⟩ := hrel
            have HEQ := Lib.hid heq
            clear heq
            by_cases hlt : k < xs.length
            · have hdk : decide ((k : Int) < (xs.length : Int)) = true := by simp; omega
              have hdn : decide (k < xs.length) = true := by simpa using hlt
              have hlb : k < ys.length := by rw [← HL.out]; exact hlt
              have hca' := HA.out k hlt
              have hcb' := HB.out k hlb
              have HX := Lib.hid (take_exts hlt hlb HEQ.out)
              have hia : (k : Int) < (xs.length : Int) := by omega
              have hib : (k : Int) < (ys.length : Int) := by omega
              generalize hxa : xs[k] = x at *
              generalize hyb : ys[k] = y at *
              have HXA := Lib.hid hxa
              have HYB := Lib.hid hyb
              clear hxa hyb
              by_cases hxy : x = y
              · have hne := str_same hxy
                have HXY := Lib.hid hxy
                clear hxy
                go_wp2
                go_quiet (fail)
                go_wp2
                go_roundw
                case rel => exact ⟨k + 1, by omega, by go_num, HX.out.2 HXY.out, n + nq, by simp⟩
                case measure => simp [intOf]; omega
              · have hne := str_other hxy
                have HXY := Lib.hid hxy
                clear hxy
                go_wp2
                go_quiet (fail)
                go_wp2
                go_ret
                exact ⟨by
                  have : xs ≠ ys := fun h => HXY.out (by subst h; rw [← HXA.out, ← HYB.out])
                  simp [sameS, this], by rw [World.drewN_drewN]; exact grew_drewN w _⟩
            · have hdn : decide (k < xs.length) = false := by simpa using hlt
              go_wp2
              go_ret
              exact ⟨by
                have e1 : xs.take k = xs := List.take_of_length_le (by omega)
                have e2 : ys.take k = ys := List.take_of_length_le (by rw [← HL.out]; omega)
                have : xs = ys := by rw [← e1, ← e2]; exact HEQ.out
                simp [sameS, this], grew_drewN w n⟩
  · have hd : ((xs.length : Int) != (ys.length : Int)) = true := by simp; omega
    have hne : xs ≠ ys := fun h => hl (by rw [h])
    have HN := Lib.hid hne
    clear hra hrb hl hne
    go_enter Try.func41, Try.ntmps41
    go_wp2
    go_ret
    exact ⟨by simp [sameS, HN.out], Below.refl _ _⟩
end Go.Proofs.Ytcmdfjeiefgmhaa
