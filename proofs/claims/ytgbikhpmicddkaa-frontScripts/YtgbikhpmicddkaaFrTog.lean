/- All rows of a front, put together. -/
import Derived.Test.YtgbikhpmicddkaaFrMem
namespace Go.Proofs.Ytgbikhpmicddkaa
open Go.RowKit
set_option linter.unusedVariables false

/-- The first k rows put together, two by two. -/
def Front.upto (op : List Int → List Int → List Int) (rows : List (List Int)) (k : Nat) : List Int := ((rows.take k).drop 1).foldl op (rows.headD [])
def Front.all (op : List Int → List Int → List Int) (rows : List (List Int)) : List Int := (rows.drop 1).foldl op (rows.headD [])
theorem Front.upto_all (op : List Int → List Int → List Int) (rows : List (List Int)) : Front.upto op rows rows.length = Front.all op rows := by
  unfold Front.upto Front.all
  rw [List.take_length]
theorem Front.upto_one {op : List Int → List Int → List Int} {rows : List (List Int)} (h : 0 < rows.length) : Front.upto op rows 1 = rows[0] := by
  match rows, h with
  | r :: rs, _ => rfl
theorem Front.upto_succ {op : List Int → List Int → List Int} {rows : List (List Int)} {k : Nat} (h1 : 1 ≤ k) (h : k < rows.length) : Front.upto op rows (k + 1) = op (Front.upto op rows k) rows[k] := by
  unfold Front.upto
  rw [List.take_succ_eq_append_getElem h, List.drop_append_of_le_length (by rw [List.length_take]; omega), List.foldl_append]
  rfl
theorem Front.upto_may {op : List Int → List Int → List Int} (hop : ∀ a b, Vecs.may a = true → Vecs.may b = true → a.length = b.length → Vecs.may (op a b) = true ∧ (op a b).length = a.length) {rows : List (List Int)} (hm : ∀ r ∈ rows, Vecs.may r = true ∧ r.length = rows.length) : ∀ {k : Nat}, 1 ≤ k → k ≤ rows.length → Vecs.may (Front.upto op rows k) = true ∧ (Front.upto op rows k).length = rows.length
  | 0, h, _ => by omega
  | 1, _, h => by rw [Front.upto_one (by omega)]; exact hm _ (List.getElem_mem _)
  | k + 2, _, h => by
    have ih := Front.upto_may hop hm (k := k + 1) (by omega) (by omega)
    have hr := hm _ (List.getElem_mem (show k + 1 < rows.length by omega))
    rw [Front.upto_succ (by omega) (by omega)]
    have h2 := hop _ _ ih.1 hr.1 (by rw [ih.2, hr.2])
    exact ⟨h2.1, by rw [h2.2, ih.2]⟩

/-- Where the loop over the rows stands. -/
def TogW (w : World) (p rb rc : Nat) (vs : List Value) (rows : List (List Int)) (op : List Int → List Int → List Int) (k : Nat) (v : Value) (wr : World) : Prop := Below w.heap.size w wr ∧ SliceI wr v (Front.upto op rows k)

theorem Front.join_ok {a b : List Int} (ha : Vecs.may a = true) (hb : Vecs.may b = true) (h : a.length = b.length) : Vecs.may (Vecs.join a b) = true ∧ (Vecs.join a b).length = a.length := ⟨Vecs.may_join (Vecs.together_iff.2 ⟨ha, hb, h⟩), Vecs.join_len h⟩
theorem Front.meet_ok {a b : List Int} (ha : Vecs.may a = true) (hb : Vecs.may b = true) (h : a.length = b.length) : Vecs.may (Vecs.meet a b) = true ∧ (Vecs.meet a b).length = a.length := ⟨Vecs.may_meet (Vecs.together_iff.2 ⟨ha, hb, h⟩), Vecs.meet_len h⟩

set_option maxRecDepth 100000 in
set_option maxHeartbeats 2000000 in
theorem front_togMeet {w : World} {p rb rc : Nat} {vs : List Value} {rows : List (List Int)} (h : IsFrontW w p rb rc vs rows) : Calls Try.prog 26 #[.pointer (some ⟨p, 0, none⟩), .func (.func 27) #[] #[]] w fun e w' => ∃ v, e = .returned v ∧ SliceI w' v (Front.all Vecs.meet rows) ∧ Below w.heap.size w w' := by
  have HW := Lib.hid h
  have hs := h.sites
  clear h
  go_enter Try.func26, Try.ntmps26
  go_wp2_with fail
  refine (front_Row HW.out 0 (by omega)).mono ?_
  rintro e w1 ⟨v1, rfl, hv1, _, hb1⟩
  obtain ⟨va, vc, e⟩ := hv1.shape
  subst e
  have HT : Hid (TogW w p rb rc vs rows Vecs.meet 1 (.slice va rows[0].length vc) w1) := Lib.hid ⟨hb1, by rw [Front.upto_one (by omega)]; exact hv1⟩
  clear hv1 hb1
  go_wp2_with fail
  go_loopw [5, 6] (fun v i wr => ∃ k : Nat, 1 ≤ k ∧ k ≤ rows.length ∧ i = .int .i64 k ∧ TogW w p rb rc vs rows Vecs.meet k v wr) (fun _ i _ => rows.length - (intOf i).toNat)
  case atStart => exact ⟨1, by omega, by omega, rfl, HT.out⟩
  case round =>
    obtain ⟨k, hk1, hk, rfl, hT⟩ := hrel
    have HT := Lib.hid hT
    obtain ⟨va, vc, e⟩ := hT.2.shape
    subst e
    have HW2 := Lib.hid (HW.out.below hT.1)
    have HU := Lib.hid (Front.upto_may (op := Vecs.meet) (fun a b ha hb hab => Front.meet_ok ha hb hab) HW.out.may hk1 hk)
    clear hT
    by_cases hlt : k < rows.length
    · have HH := Lib.hid (front_has HW2.out k)
      rw [decide_eq_true (show (0 : Int) ≤ k ∧ (k : Int) < rows.length by omega)] at HH
      have c0 := HW2.out.box.cell 0 (by simp)
      simp only [List.getElem_cons_zero] at c0
      have c1 := HW2.out.cell hlt
      have hv2 := HW2.out.vec k hlt
      have hmr := HW.out.may _ (List.getElem_mem hlt)
      have HC := Lib.hid (vec_Meet _ _ _ _ wr HT.out.2 hv2 (by have := HU.out.2; unfold maxLen; omega) (by have := hmr.2; unfold maxLen; omega))
      rw [show meetR (Front.upto Vecs.meet rows k) rows[k] = (Front.upto Vecs.meet rows (k + 1), 0) from by unfold meetR; rw [if_pos (Vecs.together_iff.2 ⟨HU.out.1, hmr.1, by rw [HU.out.2, hmr.2]⟩), Front.upto_succ hk1 hlt]] at HC
      obtain ⟨vb, vd, e⟩ := hv2.shape
      rw [hmr.2] at e
      rw [e] at c1 HC
      clear hmr
      have hia : (k : Int) < (rows.length : Int) := by omega
      clear hv2 e
      generalize (Front.upto Vecs.meet rows k).length = n at *
      go_wp2_with fail
      refine HH.out.mono ?_
      rintro e _ ⟨rfl, rfl⟩
      go_wp2_with fail
      refine HC.out.mono ?_
      rintro e w2 ⟨r2, rfl, ⟨v2, rfl, hs2⟩, hb2⟩
      have HT2 : Hid (TogW w p rb rc vs rows Vecs.meet (k + 1) v2 w2) := Lib.hid ⟨grew HT.out.1 hb2, hs2⟩
      clear hs2 hb2
      go_wp2
      go_roundw
      case rel => exact ⟨k + 1, by omega, by omega, by go_num, HT2.out⟩
      case measure => simp [intOf]; omega
    · have HH := Lib.hid (front_has HW2.out k)
      rw [decide_eq_false (show ¬ ((0 : Int) ≤ k ∧ (k : Int) < rows.length) by omega)] at HH
      obtain rfl : k = rows.length := by omega
      go_wp2_with fail
      refine HH.out.mono ?_
      rintro e _ ⟨rfl, rfl⟩
      go_wp2
      go_ret
      exact ⟨_, rfl, by rw [← Front.upto_all]; exact HT.out.2, HT.out.1⟩

set_option maxRecDepth 100000 in
set_option maxHeartbeats 2000000 in
theorem front_togJoin {w : World} {p rb rc : Nat} {vs : List Value} {rows : List (List Int)} (h : IsFrontW w p rb rc vs rows) : Calls Try.prog 26 #[.pointer (some ⟨p, 0, none⟩), .func (.func 21) #[] #[]] w fun e w' => ∃ v, e = .returned v ∧ SliceI w' v (Front.all Vecs.join rows) ∧ Below w.heap.size w w' := by
  have HW := Lib.hid h
  have hs := h.sites
  clear h
  go_enter Try.func26, Try.ntmps26
  go_wp2_with fail
  refine (front_Row HW.out 0 (by omega)).mono ?_
  rintro e w1 ⟨v1, rfl, hv1, _, hb1⟩
  obtain ⟨va, vc, e⟩ := hv1.shape
  subst e
  have HT : Hid (TogW w p rb rc vs rows Vecs.join 1 (.slice va rows[0].length vc) w1) := Lib.hid ⟨hb1, by rw [Front.upto_one (by omega)]; exact hv1⟩
  clear hv1 hb1
  go_wp2_with fail
  go_loopw [5, 6] (fun v i wr => ∃ k : Nat, 1 ≤ k ∧ k ≤ rows.length ∧ i = .int .i64 k ∧ TogW w p rb rc vs rows Vecs.join k v wr) (fun _ i _ => rows.length - (intOf i).toNat)
  case atStart => exact ⟨1, by omega, by omega, rfl, HT.out⟩
  case round =>
    obtain ⟨k, hk1, hk, rfl, hT⟩ := hrel
    have HT := Lib.hid hT
    obtain ⟨va, vc, e⟩ := hT.2.shape
    subst e
    have HW2 := Lib.hid (HW.out.below hT.1)
    have HU := Lib.hid (Front.upto_may (op := Vecs.join) (fun a b ha hb hab => Front.join_ok ha hb hab) HW.out.may hk1 hk)
    clear hT
    by_cases hlt : k < rows.length
    · have HH := Lib.hid (front_has HW2.out k)
      rw [decide_eq_true (show (0 : Int) ≤ k ∧ (k : Int) < rows.length by omega)] at HH
      have c0 := HW2.out.box.cell 0 (by simp)
      simp only [List.getElem_cons_zero] at c0
      have c1 := HW2.out.cell hlt
      have hv2 := HW2.out.vec k hlt
      have hmr := HW.out.may _ (List.getElem_mem hlt)
      have HC := Lib.hid (vec_Join _ _ _ _ wr HT.out.2 hv2 (by have := HU.out.2; unfold maxLen; omega) (by have := hmr.2; unfold maxLen; omega))
      rw [show joinR (Front.upto Vecs.join rows k) rows[k] = (Front.upto Vecs.join rows (k + 1), 0) from by unfold joinR; rw [if_pos (Vecs.together_iff.2 ⟨HU.out.1, hmr.1, by rw [HU.out.2, hmr.2]⟩), Front.upto_succ hk1 hlt]] at HC
      obtain ⟨vb, vd, e⟩ := hv2.shape
      rw [hmr.2] at e
      rw [e] at c1 HC
      clear hmr
      have hia : (k : Int) < (rows.length : Int) := by omega
      clear hv2 e
      generalize (Front.upto Vecs.join rows k).length = n at *
      go_wp2_with fail
      refine HH.out.mono ?_
      rintro e _ ⟨rfl, rfl⟩
      go_wp2_with fail
      refine HC.out.mono ?_
      rintro e w2 ⟨r2, rfl, ⟨v2, rfl, hs2⟩, hb2⟩
      have HT2 : Hid (TogW w p rb rc vs rows Vecs.join (k + 1) v2 w2) := Lib.hid ⟨grew HT.out.1 hb2, hs2⟩
      clear hs2 hb2
      go_wp2
      go_roundw
      case rel => exact ⟨k + 1, by omega, by omega, by go_num, HT2.out⟩
      case measure => simp [intOf]; omega
    · have HH := Lib.hid (front_has HW2.out k)
      rw [decide_eq_false (show ¬ ((0 : Int) ≤ k ∧ (k : Int) < rows.length) by omega)] at HH
      obtain rfl : k = rows.length := by omega
      go_wp2_with fail
      refine HH.out.mono ?_
      rintro e _ ⟨rfl, rfl⟩
      go_wp2
      go_ret
      exact ⟨_, rfl, by rw [← Front.upto_all]; exact HT.out.2, HT.out.1⟩
end Go.Proofs.Ytgbikhpmicddkaa
