/- Acts, done to a line. -/
import Derived.Test.YtakjoodlediemaaEdDo
namespace Go.Proofs.Ytakjoodlediemaa
open Go.RowKit
set_option linter.unusedVariables false

theorem SliceG.act {w : World} {a : Option Addr} {cap : Nat} {ys : List EAct} (h : SliceG 3 EAct.cells w (.slice a ys.length cap) ys) {i : Nat} (hi : i < ys.length) : ∃ b off, a = some ⟨b, off, none⟩ ∧ b < w.heap.size ∧ w.cell? ⟨b, off + i * 3, none⟩ = some (.int .i64 ys[i].kind) ∧ w.cell? ⟨b, off + i * 3 + 1, none⟩ = some (.int .i64 ys[i].at') ∧ w.cell? ⟨b, off + i * 3 + 2, none⟩ = some (.int .i64 ys[i].rune) := by
  obtain ⟨b, off, e, hlt, hc⟩ := h.at hi
  exact ⟨b, off, e, hlt, hc 0 _ rfl, hc 1 _ rfl, hc 2 _ rfl⟩
theorem Ed.apply_drop {l m : List Int} {acs : List EAct} {k : Nat} (h : k < acs.length) : Ed.apply l (acs.drop k) = (Ed.one l acs[k]).bind (Ed.apply · (acs.drop (k + 1))) := by
  rw [List.drop_eq_getElem_cons h, Ed.apply]
  cases Ed.one l acs[k] <;> rfl

set_option maxRecDepth 100000 in
set_option maxHeartbeats 4000000 in
theorem edit_Apply (v u : Value) (l : List Int) (acs : List EAct) (w : World) (hv : SliceI w v l) (hu : SliceG 3 EAct.cells w u acs) (hl : l.length ≤ 1000000) (hk : acs.length ≤ 1000000) :
    Calls Try.prog 13 #[v, u] w fun e w' => ∃ V, e = .returned (.tuple #[V, .bool (Ed.apply l acs).isSome]) ∧ OwnI w' V ((Ed.apply l acs).getD []) ∧ (∀ k, V.ownBlock = some k → w.heap.size ≤ k) ∧ Below w.heap.size w w' := by
  have HV := Lib.hid hv
  have HU := Lib.hid hu
  obtain ⟨va, vc, rfl⟩ := hv.shape
  obtain ⟨ua, uc, rfl⟩ := hu.shape
  clear hv hu
  obtain ⟨X, hX⟩ : ∃ X, Ed.apply l acs = X := ⟨_, rfl⟩
  rw [hX]
  have HX := Lib.hid hX
  clear hX
  go_enter Try.func13, Try.ntmps13
  go_wp2_with fail
  refine (gap_open _ l w HV.out hl acs.length hk).mono ?_
  rintro e w1 ⟨g, r, R0, rfl, hG1, hR0⟩
  obtain ⟨n, hnn⟩ : ∃ n, l.length + acs.length = n := ⟨_, rfl⟩
  rw [hnn] at hG1 hR0
  have HG1 := Lib.hid hG1
  have HR0 := Lib.hid hR0
  have HNN := Lib.hid hnn
  clear hG1 hR0 hnn
  go_wp2_with fail
  go_loopw [8, 15] (fun s8 i wr => ∃ k : Nat, k ≤ acs.length ∧ i = .int .i64 k ∧ ∃ m R a b, Ed.apply m (acs.drop k) = X ∧ IsGap w wr g r R a b n ∧ R.take a ++ R.drop b = m ∧ acs.length ≤ (b - a) + k) (fun _ i _ => acs.length - (intOf i).toNat)
  case atStart => exact ⟨0, by omega, rfl, l, R0, l.length, n, by rw [List.drop_zero]; exact HX.out, HG1.out, HR0.out, by have := HNN.out; omega⟩
  case round =>
    obtain ⟨k, hkk, rfl, m, R, a, b, hap, hG, hm, hroom⟩ := hrel
    have HG := Lib.hid hG
    have HAP := Lib.hid hap
    have HM := Lib.hid hm
    clear hG hap hm HG1 HR0 HX
    by_cases hlt : k < acs.length
    · have d1 : decide ((k : Int) < (acs.length : Int)) = true := decide_eq_true (by omega)
      have dn : decide (k < acs.length) = true := decide_eq_true hlt
      have hia : (k : Int) < (acs.length : Int) := by omega
      obtain ⟨b0, off, e3, hb0, q0, q1, q2⟩ := HU.out.act hlt
      have p0 := (HG.out.bel.cell (p := ⟨b0, off + k * 3, none⟩) hb0).trans q0
      have p1 := (HG.out.bel.cell (p := ⟨b0, off + k * 3 + 1, none⟩) hb0).trans q1
      have p2 := (HG.out.bel.cell (p := ⟨b0, off + k * 3 + 2, none⟩) hb0).trans q2
      clear q0 q1 q2
      subst e3
      have HST : Hid (X = (Ed.one m acs[k]).bind (Ed.apply · (acs.drop (k + 1)))) := Lib.hid (by rw [← HAP.out]; exact Ed.apply_drop (m := m) hlt)
      have HLT := Lib.hid hlt
      have HRM := Lib.hid hroom
      clear hroom
      generalize acs[k] = A at p0 p1 p2 HST
      clear hlt
      obtain ⟨kd, at', rn⟩ := A
      simp only at p0 p1 p2
      have HBX := Lib.hid (Holds.new wr [.int .i64 kd, .int .i64 at', .int .i64 rn] 70)
      have x0 := HBX.out.cell 0 (by simp)
      have x1 := HBX.out.cell 1 (by simp)
      have x2 := HBX.out.cell 2 (by simp)
      simp only [List.getElem_cons_zero, List.getElem_cons_succ] at x0 x1 x2
      go_wp2_with fail
      refine (gap_do (HG.out.grew (grew_alloc wr _)) (by have := HNN.out; omega) ⟨kd, at', rn⟩ (by have := HRM.out; have := HLT.out; omega) m HM.out).mono ?_
      rintro e w5 ⟨rfl, hdone, hb5⟩
      have HDN := Lib.hid hdone
      have HB5 := Lib.hid hb5
      clear hdone hb5 p0 p1 p2 x0 x1 x2
      cases ho : Ed.one m ⟨kd, at', rn⟩ with
      | none =>
        have HE : Hid (X = none) := Lib.hid (by rw [HST.out, ho]; rfl)
        clear ho
        go_wp2
        go_ret2
        exact ⟨_, by rw [HE.out]; rfl, by rw [HE.out]; exact OwnI.nil _, (by intro k hk; cases hk), HB5.out⟩
      | some m2 =>
        have HE : Hid (X = Ed.apply m2 (acs.drop (k + 1))) := Lib.hid (by rw [HST.out, ho]; rfl)
        obtain ⟨R2, a2, b2, hG2, hm2, hr2⟩ := HDN.out m2 ho
        have HG2 := Lib.hid hG2
        have HM2 := Lib.hid hm2
        have HR2 := Lib.hid hr2
        clear ho hG2 hm2 hr2
        go_wp2
        go_roundw
        case rel => exact ⟨k + 1, by have := HLT.out; omega, by go_num, m2, R2, a2, b2, HE.out.symm, HG2.out, HM2.out, by have := HRM.out; have := HR2.out; omega⟩
        case measure => simp [intOf]; have := HLT.out; omega
    · have d1 : decide ((k : Int) < (acs.length : Int)) = false := decide_eq_false (by omega)
      have dn : decide (k < acs.length) = false := decide_eq_false hlt
      have HE : Hid (X = some m) := Lib.hid (by rw [← HAP.out, List.drop_eq_nil_of_le (by omega), Ed.apply])
      clear hlt
      go_wp2_with fail
      refine (gap_close HG.out (by have := HNN.out; omega)).mono ?_
      rintro e w5 ⟨V, rfl, ho, hnew, hb5⟩
      rw [HM.out] at ho
      have HO := Lib.hid ho
      have HNW := Lib.hid hnew
      have HB5 := Lib.hid hb5
      clear ho hnew hb5
      go_wp2
      go_ret2
      exact ⟨_, by rw [HE.out]; rfl, by rw [HE.out]; exact HO.out, HNW.out, HB5.out⟩
end Go.Proofs.Ytakjoodlediemaa
