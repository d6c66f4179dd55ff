/- Each site tells the same. -/
import Derived.Test.YteooganpnmfkbaaFrNil
import Derived.Test.YteooganpnmfkbaaVecMath2
namespace Go.Proofs.Yteooganpnmfkbaa
open Go.RowKit
set_option linter.unusedVariables false

/-- The first k sites have told v. -/
def Front.allK (v : List Int) (k : Nat) : List (List Int) := List.replicate k v ++ List.replicate (v.length - k) (List.replicate v.length 0)
theorem Front.allK_len {v : List Int} {k : Nat} (hk : k ≤ v.length) : (Front.allK v k).length = v.length := by simp [Front.allK]; omega
theorem Front.allK_get {v : List Int} {k o : Nat} (hk : k ≤ v.length) (ho : o < v.length) : (Front.allK v k).getD o [] = if o < k then v else List.replicate v.length 0 := by
  unfold Front.allK
  rw [List.getD_eq_getElem?_getD]
  by_cases h : o < k
  · rw [if_pos h, List.getElem?_append_left (by simpa using h), List.getElem?_replicate, if_pos h]; rfl
  · rw [if_neg h, List.getElem?_append_right (by simp; omega), List.getElem?_replicate, List.length_replicate, if_pos (by omega)]; rfl
theorem Front.told_zeros (n : Nat) : Front.told (List.replicate n 0) = false := by
  unfold Front.told
  rw [List.any_eq_false]
  intro x hx
  rw [List.eq_of_mem_replicate hx]
  decide
theorem Front.hear_all {v : List Int} (hv : Vecs.may v = true) {k : Nat} (hk : k < v.length) : Front.hear (Front.allK v k) (k : Int) v = (0, Front.allK v (k + 1)) := by
  have hl := Front.allK_len (v := v) (k := k) (by omega)
  unfold Front.hear
  rw [if_pos ⟨by omega, by rw [hl]; omega, hv, hl.symm⟩, Int.toNat_natCast]
  have hd : Front.denyK (Front.allK v k) v k (Front.allK v k).length = false := by
    unfold Front.denyK
    rw [List.any_eq_false]
    intro o ho
    rw [List.mem_range, hl] at ho
    unfold Front.much
    rw [Front.allK_get (by omega) ho]
    by_cases h : o < k
    · rw [if_pos h]; simp
    · rw [if_neg h, Front.told_zeros]; simp
  rw [hd]
  have hg := Front.allK_get (v := v) (k := k) (o := k) (by omega) hk
  rw [if_neg (by omega)] at hg
  rw [hg, show Vecs.join (List.replicate v.length 0) v = v from Vecs.join_zeros hv]
  show (0, (Front.allK v k).set k v) = (0, Front.allK v (k + 1))
  congr 1
  unfold Front.allK
  obtain ⟨m, hm⟩ : ∃ m, v.length - k = m + 1 := ⟨v.length - k - 1, by omega⟩
  rw [hm, show v.length - (k + 1) = m from by omega, List.set_append_right _ _ (by simp), List.length_replicate, Nat.sub_self, List.replicate_succ, List.set_cons_zero, List.replicate_succ']
  simp
theorem Front.all_same {op : List Int → List Int → List Int} {v : List Int} (h : op v v = v) (n : Nat) (hn : 1 ≤ n) : Front.all op (List.replicate n v) = v := by
  obtain ⟨m, rfl⟩ : ∃ m, n = m + 1 := ⟨n - 1, by omega⟩
  have : ∀ m : Nat, (List.replicate m v).foldl op v = v := by
    intro m
    induction m with
    | zero => rfl
    | succ m ih => rw [List.replicate_succ, List.foldl_cons, h, ih]
  unfold Front.all
  rw [List.replicate_succ]
  exact this m
theorem Front.join_self (v : List Int) : Vecs.join v v = v := Vecs.ext_at (Vecs.join_len rfl) fun k h1 h2 => by rw [Vecs.join_at]; omega
theorem Front.meet_self (v : List Int) : Vecs.meet v v = v := Vecs.ext_at (Vecs.meet_len rfl) fun k h1 h2 => by rw [Vecs.meet_at]; omega
theorem Front.cmp_self (v : List Int) : Vecs.cmp v v = 0 := by
  have h : Vecs.below v v = true := by
    have := Vecs.below_join (xs := v) (ys := v) rfl
    rwa [Front.join_self] at this
  unfold Vecs.cmp
  rw [if_pos h, if_pos h]
theorem Front.late_same (v : List Int) (n : Nat) (hn : 1 ≤ n) : Front.late (List.replicate n v) = [] := by
  unfold Front.late Front.lateK
  rw [Front.all_same (Front.join_self v) n hn]
  have : ((List.range (List.replicate n v).length).filter (fun i => Vecs.cmp ((List.replicate n v).getD i []) v != 0)) = [] := by
    rw [List.filter_eq_nil_iff]
    intro i hi
    rw [List.mem_range, List.length_replicate] at hi
    rw [List.getD_eq_getElem?_getD, List.getElem?_replicate, if_pos hi]
    show ¬ (Vecs.cmp v v != 0) = true
    rw [Front.cmp_self]
    decide
  rw [this]
  rfl

set_option maxRecDepth 100000 in
set_option maxHeartbeats 4000000 in
theorem walk_FrontAll (sa : Option Addr) (sn sc : Nat) (ws : List Int) (w : World) (hz : IsRow .i64 w sa sn sc ws) :
    Calls Try.prog 7 #[.slice sa sn sc] w fun e w' => e = .returned (.bool true) ∧ Below w.heap.size w w' := by
  obtain ⟨v, hs, rfl, hmx, _⟩ := hz.slice
  clear hz
  have HS := Lib.hid hs
  have HMX := Lib.hid hmx
  have HM := Lib.hid (ref06_May _ v w hs hmx)
  clear hs hmx
  cases hmay : Vecs.may v with
  | false =>
    rw [hmay] at HM
    clear hmay
    go_enter Try.func7, Try.ntmps7
    go_wp2_with fail
    refine HM.out.mono ?_
    rintro e w1 ⟨rfl, hw1⟩
    subst hw1
    go_wp2_with fail
    refine (law09_live _).mono ?_
    rintro e w3 ⟨rfl, hb3⟩
    go_wp2
    go_ret
    exact ⟨rfl, hb3⟩
  | true =>
    rw [hmay] at HM
    have HMAY := Lib.hid hmay
    have hvl := Vecs.may_len hmay
    clear hmay
    go_enter Try.func7, Try.ntmps7
    go_wp2_with fail
    refine HM.out.mono ?_
    rintro e w1 ⟨rfl, hw1⟩
    subst hw1
    go_wp2_with fail
    refine (front_New_yes v.length _ hvl).mono ?_
    rintro e w2 ⟨p, rb, vs, rfl, hf, hpr, hb⟩
    have H : Hid (FLive w p (Front.allK v 0) w2) := Lib.hid ⟨rb, v.length, vs, by unfold Front.allK; simpa using hf, hpr.2, hb⟩
    clear hf hpr hb
    go_wp2_with fail
    go_loopw [5] (fun i wr => ∃ k : Nat, k ≤ v.length ∧ i = .int .i64 k ∧ FLive w p (Front.allK v k) wr) (fun i _ => v.length - (intOf i).toNat)
    case atStart => exact ⟨0, by omega, rfl, H.out⟩
    case round =>
      obtain ⟨k, hk, rfl, hF⟩ := hrel
      have HF := Lib.hid hF
      clear hF
      by_cases hlt : k < v.length
      · have d1 : decide ((k : Int) < (v.length : Int)) = true := decide_eq_true (by omega)
        have HX := Lib.hid (flive_Hear HF.out k _ v (HS.out.below HF.out.bel) HMX.out)
        rw [Front.hear_all HMAY.out hlt] at HX
        go_wp2_with fail
        refine HX.out.mono ?_
        rintro e w3 ⟨rfl, hl⟩
        have HF2 := Lib.hid hl
        clear hl
        go_wp2
        go_roundw
        case rel => exact ⟨k + 1, by omega, by go_num, HF2.out⟩
        case measure => simp [intOf]; omega
      · have d1 : decide ((k : Int) < (v.length : Int)) = false := decide_eq_false (by omega)
        obtain rfl : k = v.length := by omega
        have HF : Hid (FLive w p (List.replicate v.length v) wr) := Lib.hid (by have := HF.out; unfold Front.allK at this; simpa using this)
        go_wp2_with fail
        refine (flive_of HF.out (fun _ _ _ h => front_Stable h)).mono ?_
        rintro e w3 ⟨v3, rfl, hs, hl, _⟩
        rw [Front.all_same (Front.meet_self v) _ hvl.1] at hs
        have H := Lib.hid hl
        have HS3 := Lib.hid hs
        obtain ⟨a3, c3, e⟩ := hs.shape
        subst e
        clear hs hl
        go_wp2_with fail
        refine (ref01_Same _ _ v v _ HS3.out (HS.out.below H.out.bel) (by omega) (by omega)).mono ?_
        rintro e w4 ⟨rfl, hb⟩
        rw [same_yes]
        have H := Lib.hid (H.out.grew hb)
        clear hb HS3
        go_wp2_with fail
        refine (flive_of H.out (fun _ _ _ h => front_Most h)).mono ?_
        rintro e w5 ⟨v5, rfl, hs, hl, _⟩
        rw [Front.all_same (Front.join_self v) _ hvl.1] at hs
        have H := Lib.hid hl
        have HS5 := Lib.hid hs
        obtain ⟨a5, c5, e⟩ := hs.shape
        subst e
        clear hs hl
        go_wp2_with fail
        refine (ref01_Same _ _ v v _ HS5.out (HS.out.below H.out.bel) (by omega) (by omega)).mono ?_
        rintro e w6 ⟨rfl, hb⟩
        rw [same_yes]
        have H := Lib.hid (H.out.grew hb)
        clear hb HS5
        go_wp2_with fail
        refine (flive_of H.out (fun _ _ _ h => front_Late h)).mono ?_
        rintro e w7 ⟨v7, rfl, hs, hl, _⟩
        rw [Front.late_same v _ hvl.1] at hs
        have H := Lib.hid hl
        obtain ⟨a7, c7, e⟩ := hs.shape
        subst e
        clear hs hl
        simp only [List.length_nil]
        go_wp2_with fail
        refine (law09_live _).mono ?_
        rintro e w8 ⟨rfl, hb⟩
        have HB8 := Lib.hid (grew H.out.bel hb)
        clear hb
        go_wp2
        go_ret
        exact ⟨rfl, HB8.out⟩
end Go.Proofs.Yteooganpnmfkbaa
