/- Whether a site tells more of another one than that one made. -/
import Derived.Test.YtgbikhpmicddkaaFrLate
namespace Go.Proofs.Ytgbikhpmicddkaa
open Go.RowKit
set_option linter.unusedVariables false

/-- Whether one of them is above 0. -/
def Front.told (zs : List Int) : Bool := zs.any (fun z => decide (0 < z))
theorem Front.told_snoc {zs : List Int} {k : Nat} (h : k < zs.length) : Front.told (zs.take (k + 1)) = (Front.told (zs.take k) || decide (0 < zs[k])) := by
  unfold Front.told
  rw [List.take_succ_eq_append_getElem h, List.any_append]
  simp

set_option maxHeartbeats 1000000 in
theorem slices_Max (v : Value) (zs : List Int) (w : World) (hv : SliceI w v zs) (h1 : 1 ≤ zs.length) (hm : zs.length ≤ 1000000) : Calls Try.prog 34 #[v] w fun e w' => ∃ m : Int, e = .returned (.int .i64 m) ∧ decide (0 < m) = Front.told zs ∧ w' = w := by
  obtain ⟨a, cap, rfl, hcap, hrow⟩ := hv
  obtain ⟨b, off, rfl, hc0⟩ := SliceI.at (cap := cap) hrow (k := 0) (by omega)
  have HR := Lib.hid hrow
  have d1 : decide ((zs.length : Int) < 1) = false := decide_eq_false (by omega)
  have hz0 : (0 : Int) < (zs.length : Int) := by omega
  rw [Nat.add_zero] at hc0
  clear hrow hcap
  have HT : Hid (decide (0 < zs[0]) = Front.told (zs.take 1)) := Lib.hid (by have := Front.told_snoc (zs := zs) (k := 0) (by omega); rw [this]; simp [Front.told])
  generalize zs[0] = z0 at hc0 HT
  go_enter Try.func34, Try.ntmps34
  go_wp2
  clear hc0
  go_loopw [3, 4] (fun m i wr => ∃ (k : Nat) (mm : Int), 1 ≤ k ∧ k ≤ zs.length ∧ m = .int .i64 mm ∧ i = .int .i64 k ∧ decide (0 < mm) = Front.told (zs.take k) ∧ wr = w) (fun _ i _ => zs.length - (intOf i).toNat)
  case atStart => exact ⟨1, z0, by omega, by omega, rfl, rfl, HT.out, rfl⟩
  case round =>
    obtain ⟨k, mm, hk1, hk, rfl, rfl, htold, rfl⟩ := hrel
    have HTO := Lib.hid htold
    clear htold
    by_cases hlt : k < zs.length
    · have d2 : decide ((k : Int) < (zs.length : Int)) = true := decide_eq_true (by omega)
      have hia : (k : Int) < (zs.length : Int) := by omega
      obtain ⟨b', off', e, hck⟩ := SliceI.at (cap := cap) HR.out hlt
      injection e with e
      injection e with e1 e2 _
      subst e1 e2
      have HS := Lib.hid (Front.told_snoc hlt)
      generalize zs[k] = z at hck HS
      have HM : Hid (decide (0 < (if mm < z then z else mm)) = Front.told (zs.take (k + 1))) := Lib.hid (by rw [HS.out, ← HTO.out, Bool.eq_iff_iff]; simp; split <;> omega)
      go_wp2
      go_roundw
      case rel => exact ⟨k + 1, _, by omega, by omega, rfl, by go_num, HM.out, trivial⟩
      case measure => simp [intOf]; omega
    · have d2 : decide ((k : Int) < (zs.length : Int)) = false := decide_eq_false (by omega)
      have HE : Hid (decide (0 < mm) = Front.told zs) := Lib.hid (by have := HTO.out; rwa [List.take_of_length_le (by omega)] at this)
      go_wp2
      go_ret
      exact ⟨mm, rfl, HE.out, rfl⟩

/-- Whether v has more of the site o than that one made, as far as it told, and than the site s had. -/
def Front.much (rows : List (List Int)) (v : List Int) (s o : Nat) : Bool := Front.told (rows.getD o []) && decide ((rows.getD o []).getD o 0 < v.getD o 0) && decide ((rows.getD s []).getD o 0 < v.getD o 0)

set_option maxRecDepth 100000 in
set_option maxHeartbeats 4000000 in
theorem front_tooMuch {w : World} {p rb rc : Nat} {vs : List Value} {rows : List (List Int)} (h : IsFrontW w p rb rc vs rows) (s o : Nat) (hs : s < rows.length) (ho : o < rows.length) (v : Value) (zs : List Int) (hv : SliceI w v zs) (hz : zs.length = rows.length) :
    Calls Try.prog 22 #[.pointer (some ⟨p, 0, none⟩), .int .i64 s, v, .int .i64 o] w fun e w' => e = .returned (.bool (Front.much rows zs s o)) ∧ ∃ n, w' = w.drewN n := by
  have hst := h.sites
  have hlo : rows[o].length = rows.length := (h.may _ (List.getElem_mem ho)).2
  have hls : rows[s].length = rows.length := (h.may _ (List.getElem_mem hs)).2
  have HX := Lib.hid (slices_Max _ rows[o] w (h.vec o ho) (by omega) (by omega))
  have HM : Hid (Front.much rows zs s o = (Front.told rows[o] && decide (rows[o][o]'(by omega) < zs[o]'(by omega)) && decide (rows[s][o]'(by omega) < zs[o]'(by omega)))) := Lib.hid (by
    unfold Front.much
    simp only [List.getD_eq_getElem?_getD, List.getElem?_eq_getElem ho, List.getElem?_eq_getElem hs, Option.getD_some]
    rw [List.getElem?_eq_getElem (show o < rows[o].length by omega), List.getElem?_eq_getElem (show o < rows[s].length by omega), List.getElem?_eq_getElem (show o < zs.length by omega)]
    rfl)
  have c0 := h.box.cell 0 (by simp)
  simp only [List.getElem_cons_zero] at c0
  have co := h.cell ho
  have cs := h.cell hs
  obtain ⟨ao, co', eo, _, ro⟩ := h.vec o ho
  obtain ⟨as', cs', es, _, rs⟩ := h.vec s hs
  obtain ⟨az, cz', ez, _, rz⟩ := hv
  obtain ⟨bo, oo, rfl, qo⟩ := SliceI.at (cap := co') ro (k := o) (by omega)
  obtain ⟨bs, os, rfl, qs⟩ := SliceI.at (cap := cs') rs (k := o) (by omega)
  obtain ⟨bz, oz, rfl, qz⟩ := SliceI.at (cap := cz') rz (k := o) (by omega)
  rw [hlo] at eo
  rw [hls] at es
  rw [hz] at ez
  rw [eo] at co HX
  rw [es] at cs
  subst ez
  generalize (rows[o][o]'(by omega)) = a at qo HM
  generalize (rows[s][o]'(by omega)) = b at qs HM
  generalize (zs[o]'(by omega)) = c at qz HM
  have hio : (o : Int) < (rows.length : Int) := by omega
  have his : (s : Int) < (rows.length : Int) := by omega
  rw [HM.out]
  clear ro rs rz eo es hlo hls hz hst h HM
  generalize Front.told rows[o] = t at HX ⊢
  go_enter Try.func22, Try.ntmps22
  go_wp2_with fail
  refine HX.out.mono ?_
  rintro e w1 ⟨m, rfl, hm, hw1⟩
  subst hw1
  cases t
  · go_wp2_with fail
    go_quiet (fail)
    go_wp2
    go_ret
    exact ⟨rfl, _, rfl⟩
  · by_cases h1 : a < c
    · have d1 : decide (a < c) = true := decide_eq_true h1
      by_cases h2 : b < c
      · have d2 : decide (b < c) = true := decide_eq_true h2
        go_wp2_with fail
        go_quiet (fail)
        go_wp2
        go_ret
        exact ⟨ret_b (by simp [h1, h2]), _, rfl⟩
      · have d2 : decide (b < c) = false := decide_eq_false h2
        go_wp2_with fail
        go_quiet (fail)
        go_wp2
        go_ret
        exact ⟨ret_b (by simp [h2]), _, rfl⟩
    · have d1 : decide (a < c) = false := decide_eq_false h1
      go_wp2_with fail
      go_quiet (fail)
      go_wp2
      go_ret
      exact ⟨ret_b (by simp; omega), _, rfl⟩
end Go.Proofs.Ytgbikhpmicddkaa
