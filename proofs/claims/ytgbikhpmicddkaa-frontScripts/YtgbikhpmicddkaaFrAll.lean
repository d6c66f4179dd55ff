/- Each site tells the same. -/
import Derived.Test.YtgbikhpmicddkaaFrNil
import Derived.Test.YtgbikhpmicddkaaVecMath2
namespace Go.Proofs.Ytgbikhpmicddkaa
open Go.RowKit
set_option linter.unusedVariables false

/-- The first k sites have told v. -/
def Front.allK (v : List Int) (k : Nat) : List (List Int) := List.replicate k v ++ List.replicate (v.length - k) (List.replicate v.length 0)
theorem Front.allK_len {v : List Int} {k : Nat} (hk : k ≤ v.length) : (Front.allK v k).length = v.length := by simp [Front.allK]; omega
theorem Front.allK_get {v : List Int} {k o : Nat} (hk : k ≤ v.length) (ho : o < v.length) : (Front.allK v k).getD o [] = if o < k then v else List.replicate v.length 0 := by
  unfold Front.allK
  rw [List.getD_eq_getElem?_getD]
  by_cases h : o < k
  · rw [if_pos h, List.getElem?_append_left (by simpa using h), List.getElem?_replicate, if_pos h]; rfl
  · rw [if_neg h, List.getElem?_append_right (by simp; omega), List.getElem?_replicate, List.length_replicate, if_pos (by omega)]; rfl
theorem Front.told_zeros (n : Nat) : Front.told (List.replicate n 0) = false := by
  unfold Front.told
  rw [List.any_eq_false]
  intro x hx
  rw [List.eq_of_mem_replicate hx]
  decide
theorem Front.hear_all {v : List Int} (hv : Vecs.may v = true) {k : Nat} (hk : k < v.length) : Front.hear (Front.allK v k) (k : Int) v = (0, Front.allK v (k + 1)) := by
  have hl := Front.allK_len (v := v) (k := k) (by omega)
  unfold Front.hear
  rw [if_pos ⟨by omega, by rw [hl]; omega, hv, hl.symm⟩, Int.toNat_natCast]
  have hd : Front.denyK (Front.allK v k) v k (Front.allK v k).length = false := by
    unfold Front.denyK
    rw [List.any_eq_false]
    intro o ho
    rw [List.mem_range, hl] at ho
    unfold Front.much
    rw [Front.allK_get (by omega) ho]
    by_cases h : o < k
    · rw [if_pos h]; simp
    · rw [if_neg h, Front.told_zeros]; simp
  rw [hd]
  have hg := Front.allK_get (v := v) (k := k) (o := k) (by omega) hk
  rw [if_neg (by omega)] at hg
  rw [hg, show Vecs.join (List.replicate v.length 0) v = v from Vecs.join_zeros hv]
  show (0, (Front.allK v k).set k v) = (0, Front.allK v (k + 1))
  congr 1
  unfold Front.allK
  obtain ⟨m, hm⟩ : ∃ m, v.length - k = m + 1 := ⟨v.length - k - 1, by omega⟩
  rw [hm, show v.length - (k + 1) = m from by omega, List.set_append_right _ _ (by simp), List.length_replicate, Nat.sub_self, List.replicate_succ, List.set_cons_zero, List.replicate_succ']
  simp
theorem Front.all_same {op : List Int → List Int → List Int} {v : List Int} (h : op v v = v) (n : Nat) (hn : 1 ≤ n) : Front.all op (List.replicate n v) = v := by
  obtain ⟨m, rfl⟩ : ∃ m, n = m + 1 := ⟨n - 1, by omega⟩
  have : ∀ m : Nat, (List.replicate m v).foldl op v = v := by
    intro m
    induction m with
    | zero => rfl
    | succ m ih => rw [List.replicate_succ, List.foldl_cons, h, ih]
  unfold Front.all
  rw [List.replicate_succ]
  exact this m
theorem Front.join_self (v : List Int) : Vecs.join v v = v := Vecs.ext_at (Vecs.join_len rfl) fun k h1 h2 => by rw [Vecs.join_at]; omega
theorem Front.meet_self (v : List Int) : Vecs.meet v v = v := Vecs.ext_at (Vecs.meet_len rfl) fun k h1 h2 => by rw [Vecs.meet_at]; omega
theorem Front.cmp_self (v : List Int) : Vecs.cmp v v = 0 := by
  have h : Vecs.below v v = true := by
    have := Vecs.below_join (xs := v) (ys := v) rfl
    rwa [Front.join_self] at this
  unfold Vecs.cmp
  rw [if_pos h, if_pos h]
theorem Front.late_same (v : List Int) (n : Nat) (hn : 1 ≤ n) : Front.late (List.replicate n v) = [] := by
  unfold Front.late Front.lateK
  rw [Front.all_same (Front.join_self v) n hn]
  have : ((List.range (List.replicate n v).length).filter (fun i => Vecs.cmp ((List.replicate n v).getD i []) v != 0)) = [] := by
    rw [List.filter_eq_nil_iff]
    intro i hi
    rw [List.mem_range, List.length_replicate] at hi
    rw [List.getD_eq_getElem?_getD, List.getElem?_replicate, if_pos hi]
    show ¬ (Vecs.cmp v v != 0) = true
    rw [Front.cmp_self]
    decide
  rw [this]
  rfl

end Go.Proofs.Ytgbikhpmicddkaa