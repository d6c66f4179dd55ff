/- Whether there are few lines; whether a text stands in another one. -/
import Derived.Test.YtepddieblankpaaDoorSeLive
import Derived.Lib.IndexLaws
import Derived.Lib.IndexMore
namespace Srch
open Go
/-- At most 40 lines of 300 bytes. -/
def few (ts : List ByteArray) : Bool := decide (ts.length ≤ 40) && ts.all (fun t => decide (t.size ≤ 300))
theorem few_spec {ts : List ByteArray} (h : few ts = true) : ts.length ≤ 40 ∧ ∀ t ∈ ts, t.size ≤ 300 := by
  simpa [few] using h
theorem few_long {ts : List ByteArray} (h : 40 < ts.length) : few ts = false := by
  unfold few; rw [decide_eq_false (by omega)]; rfl
theorem few_big {ts : List ByteArray} {k : Nat} (h : k < ts.length) (g : 300 < ts[k].size) : few ts = false := by
  cases e : few ts with
  | false => rfl
  | true => have := (few_spec e).2 _ (List.getElem_mem h); omega
theorem few_all {ts : List ByteArray} (h : ts.length ≤ 40) (g : ∀ j, j < ts.length → ∀ t, ts[j]? = some t → t.size ≤ 300) : few ts = true := by
  simp only [few, Bool.and_eq_true, decide_eq_true_eq, List.all_eq_true]
  refine ⟨h, fun t ht => ?_⟩
  obtain ⟨j, hj, rfl⟩ := List.getElem_of_mem ht
  exact g j hj _ (List.getElem?_eq_getElem hj)

theorem fits_yes {q t : ByteArray} {i : Nat} (hi : i ≤ t.size) (h : Lib.occAt t.data.toList q.data.toList i = true) : fits q t = true := by
  unfold fits Lib.contains
  rcases Lib.index_spec t.data.toList q.data.toList with ⟨_, h2⟩ | ⟨j, h2, _⟩
  · rw [h2 i (by simpa using hi)] at h; cases h
  · rw [h2]; simp
theorem fits_no {q t : ByteArray} (h : ∀ j, j ≤ t.size → Lib.occAt t.data.toList q.data.toList j = false) : fits q t = false := by
  unfold fits Lib.contains
  rw [Lib.index_none (fun j hj => h j (by simpa using hj))]
  rfl
theorem occ_cut {q t : ByteArray} {i : Nat} (h : i + q.size ≤ t.size) : Lib.occAt t.data.toList q.data.toList i = true ↔ t.extract i (i + q.size) = q := by
  rw [Lib.occAt_iff_take _ _ _ (by simpa using h), beq_iff_eq]
  have e : (t.extract i (i + q.size)).data.toList = (t.data.toList.drop i).take q.data.toList.length := by
    rw [Lib.extract_data]
    congr 1
    simp
  constructor
  · intro g; exact ByteArray.ext (Array.toList_inj.1 (by rw [e, g]))
  · intro g; rw [← e, g]
theorem occ_far {q t : ByteArray} {i : Nat} (h : t.size < i + q.size) (hi : i ≤ t.size) : Lib.occAt t.data.toList q.data.toList i = false := by
  cases e : Lib.occAt t.data.toList q.data.toList i with
  | false => rfl
  | true =>
    rcases Lib.occAt_room e with g | g
    · simp at g; omega
    · have : q.size = 0 := by have := congrArg List.length g; simpa using this
      omega
end Srch
namespace Go.Proofs.YtepddieblankpaaDoor
open Go.RowKit
set_option linter.unusedVariables false

set_option maxHeartbeats 1000000 in
theorem law19_few (v : Value) (ts : List ByteArray) (w : World) (hv : SliceS w v ts) (hm : ts.length ≤ maxLen) :
    Calls Tryd.prog 14 #[v] w fun e w' => e = .returned (.bool (Srch.few ts)) ∧ w = w' := by
  unfold maxLen at hm
  have HV := Lib.hid hv
  obtain ⟨a, cap, rfl⟩ : ∃ a cap, v = .slice a ts.length cap := by obtain ⟨a, cap, e, _⟩ := hv; exact ⟨a, cap, e⟩
  clear hv
  by_cases h1 : 40 < ts.length
  · have d1 : decide ((40 : Int) < (ts.length : Int)) = true := decide_eq_true (by omega)
    have HR := Lib.hid (Srch.few_long h1)
    clear h1
    go_enter Tryd.func14, Tryd.ntmps14
    go_wp2
    go_ret
    exact ⟨by rw [HR.out]; rfl, rfl⟩
  have d1 : decide ((40 : Int) < (ts.length : Int)) = false := decide_eq_false (by omega)
  have h40 : ts.length ≤ 40 := by omega
  have HFA : Hid ((∀ j, j < ts.length → ∀ t, ts[j]? = some t → t.size ≤ 300) → Srch.few ts = true) := Lib.hid (fun g => Srch.few_all h40 g)
  clear h1
  go_enter Tryd.func14, Tryd.ntmps14
  go_wp2
  go_loopw [3] (fun i wr => ∃ k : Nat, k ≤ ts.length ∧ i = .int .i64 k ∧ Hid (∀ j, j < k → ∀ t, ts[j]? = some t → t.size ≤ 300) ∧ w = wr) (fun i _ => ts.length - (intOf i).toNat)
  case atStart => exact ⟨0, by omega, rfl, Lib.hid (fun j hj => by omega), rfl⟩
  case round =>
    obtain ⟨k, hk, rfl, HP, rfl⟩ := hrel
    by_cases hlt : k < ts.length
    · have hdk : decide ((k : Int) < (ts.length : Int)) = true := decide_eq_true (by omega)
      have hdn : decide (k < ts.length) = true := decide_eq_true hlt
      have hik : (k : Int) < (ts.length : Int) := by omega
      obtain ⟨a', cap', e, _, hr⟩ := HV.out
      injection e with e1 _ e3
      subst e1 e3
      rcases hr with e | ⟨b, off, rfl, hb, hc⟩
      · subst e; simp at hlt
      have hcell := hc k hlt
      have HB := Lib.hid (@Srch.few_big ts k hlt)
      have HG : Hid (ts[k]? = some ts[k]) := Lib.hid (List.getElem?_eq_getElem hlt)
      generalize ts[k] = t at *
      clear hc
      by_cases hs : 300 < t.size
      · have d2 : decide ((300 : Int) < (t.size : Int)) = true := decide_eq_true (by omega)
        have HR := Lib.hid (HB.out hs)
        clear hs
        go_wp2
        go_ret
        exact ⟨by rw [HR.out]; rfl, rfl⟩
      · have d2 : decide ((300 : Int) < (t.size : Int)) = false := decide_eq_false (by omega)
        have HP2 : Hid (∀ j, j < k + 1 → ∀ t, ts[j]? = some t → t.size ≤ 300) := Lib.hid (fun j hj u hu => by
          rcases Nat.lt_or_ge j k with g | g
          · exact HP.out j g u hu
          · obtain rfl : j = k := by omega
            rw [HG.out] at hu
            cases hu
            omega)
        clear hs
        go_wp2
        go_roundw
        case rel => exact ⟨k + 1, by omega, by go_num, HP2, trivial⟩
        case measure => simp [intOf]; omega
    · have hdk : decide ((k : Int) < (ts.length : Int)) = false := decide_eq_false (by omega)
      have HR : Hid (Srch.few ts = true) := Lib.hid (HFA.out (fun j hj => HP.out j (by omega)))
      go_wp2
      go_ret
      exact ⟨by rw [HR.out]; rfl, rfl⟩

set_option maxHeartbeats 1000000 in
theorem law19_has (s q : ByteArray) (w : World) (hs : s.size ≤ 1000000000) (hq : q.size ≤ 1000000000) :
    Calls Tryd.prog 33 #[.string s, .string q] w fun e w' => e = .returned (.bool (Srch.fits q s)) ∧ w = w' := by
  go_enter Tryd.func33, Tryd.ntmps33
  go_wp2
  go_loopw [5] (fun i wr => ∃ k : Nat, i = .int .i64 k ∧ k ≤ s.size + 1 ∧ Hid (∀ j, j < k → j ≤ s.size → Lib.occAt s.data.toList q.data.toList j = false) ∧ w = wr) (fun i _ => s.size + 1 - (intOf i).toNat)
  case atStart => exact ⟨0, rfl, by omega, Lib.hid (fun j hj => by omega), rfl⟩
  case round =>
    obtain ⟨k, rfl, hk, HP, rfl⟩ := hrel
    have hw : wrap64 ((k : Int) + (q.size : Int)) = (k : Int) + (q.size : Int) := IntWalk.wrap64_in _ ⟨by omega, by omega⟩
    by_cases hlt : k + q.size ≤ s.size
    · have hd : decide ((k : Int) + (q.size : Int) ≤ (s.size : Int)) = true := decide_eq_true (by omega)
      have HO := Lib.hid (@Srch.occ_cut q s k hlt)
      have h1 : (k : Int) ≤ (k : Int) + (q.size : Int) := by omega
      have h2 : (k : Int) + (q.size : Int) ≤ (s.size : Int) := by omega
      have hx : ((k : Int) + (q.size : Int)).toNat = k + q.size := by omega
      by_cases hc : s.extract k (k + q.size) = q
      · have e1 : ((s.extract k (k + q.size)).toList == q.toList) = true := str_same hc
        have HR : Hid (Srch.fits q s = true) := Lib.hid (Srch.fits_yes (by omega) (HO.out.2 hc))
        clear hc
        go_wp2
        go_ret
        exact ⟨by rw [HR.out]; rfl, rfl⟩
      · have e1 : ((s.extract k (k + q.size)).toList == q.toList) = false := str_other hc
        have HP2 : Hid (∀ j, j < k + 1 → j ≤ s.size → Lib.occAt s.data.toList q.data.toList j = false) := Lib.hid (fun j hj hjs => by
          rcases Nat.lt_or_ge j k with g | g
          · exact HP.out j g hjs
          · obtain rfl : j = k := by omega
            cases e : Lib.occAt s.data.toList q.data.toList j with
            | false => rfl
            | true => exact absurd (HO.out.1 e) hc)
        clear hc
        go_wp2
        go_roundw
        case rel => exact ⟨k + 1, by go_num, by omega, HP2, trivial⟩
        case measure => simp [intOf]; omega
    · have hd : decide ((k : Int) + (q.size : Int) ≤ (s.size : Int)) = false := decide_eq_false (by omega)
      have HR : Hid (Srch.fits q s = false) := Lib.hid (Srch.fits_no (fun j hj => by
        rcases Nat.lt_or_ge j k with g | g
        · exact HP.out j g hj
        · exact Srch.occ_far (by omega) hj))
      go_wp2
      go_ret
      exact ⟨by rw [HR.out]; rfl, rfl⟩
end Go.Proofs.YtepddieblankpaaDoor
