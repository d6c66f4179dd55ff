/- Some answers that the document gives of fronts. -/
import Derived.Test.YtgbikhpmicddkaaFrHear
namespace Go.Proofs.Ytgbikhpmicddkaa
open Go.RowKit
set_option linter.unusedVariables false

/-- A front that the call itself made, since w0. -/
def FLive (w0 : World) (p : Nat) (rows : List (List Int)) (w : World) : Prop := ∃ rb rc vs, IsFrontW w p rb rc vs rows ∧ w0.heap.size ≤ rb ∧ Below w0.heap.size w0 w
theorem FLive.grew {w0 w w' : World} {p : Nat} {rows : List (List Int)} (h : FLive w0 p rows w) (hb : Below w.heap.size w w') : FLive w0 p rows w' := by
  obtain ⟨rb, rc, vs, h1, h2, h3⟩ := h
  exact ⟨rb, rc, vs, h1.below hb, h2, Go.Proofs.Ytgbikhpmicddkaa.grew h3 hb⟩
theorem FLive.bel {w0 w : World} {p : Nat} {rows : List (List Int)} (h : FLive w0 p rows w) : Below w0.heap.size w0 w := by
  obtain ⟨_, _, _, _, _, h⟩ := h
  exact h
theorem flive_Hear {w0 w : World} {p : Nat} {rows : List (List Int)} (h : FLive w0 p rows w) (s : Int) (v : Value) (zs : List Int) (hv : SliceI w v zs) (hm : zs.length ≤ maxLen) : Calls Try.prog 7 #[.pointer (some ⟨p, 0, none⟩), .int .i64 s, v] w fun e w' => e = .returned (.int .i64 (Front.hear rows s zs).1) ∧ FLive w0 p (Front.hear rows s zs).2 w' := by
  obtain ⟨rb, rc, vs, h1, h2, h3⟩ := h
  exact (front_Hear h1 s v zs hv hm).mono fun e w' ⟨k1, vs', k2, k3⟩ => ⟨k1, rb, rc, vs', k2, h2, h3.trans (k3.below h3.size (fun i e => by have e : i = rb := e; rw [e]; exact h2))⟩
theorem flive_of {w0 w : World} {p : Nat} {rows : List (List Int)} {f : Nat} {ar : Array Value} {l : List Int} (h : FLive w0 p rows w) (hc : ∀ rb rc vs, IsFrontW w p rb rc vs rows → Calls Try.prog f ar w fun e w' => ∃ v, e = .returned v ∧ SliceI w' v l ∧ Below w.heap.size w w') : Calls Try.prog f ar w fun e w' => ∃ v, e = .returned v ∧ SliceI w' v l ∧ FLive w0 p rows w' ∧ Below w.heap.size w w' := by
  have h' := h
  obtain ⟨rb, rc, vs, h1, _⟩ := h
  exact (hc rb rc vs h1).mono fun e w' ⟨v, k1, k2, k3⟩ => ⟨v, k1, k2, h'.grew k3, k3⟩

theorem flive1 : Front.hear (List.replicate 2 (List.replicate 2 0)) 0 [2, 1] = (0, [[2, 1], [0, 0]]) := by kernel_rfl
theorem flive2 : Front.hear [[2, 1], [0, 0]] 1 [1, 3] = (0, [[2, 1], [1, 3]]) := by kernel_rfl
theorem flive3 : Front.hear [[2, 1], [1, 3]] 1 [3, 0] = (8, [[2, 1], [1, 3]]) := by kernel_rfl
theorem flive4 : Front.hear [[2, 1], [1, 3]] 2 [1, 1] = (1, [[2, 1], [1, 3]]) := by kernel_rfl
theorem flive5 : Front.all Vecs.meet [[2, 1], [1, 3]] = [1, 1] := by kernel_rfl
theorem flive6 : Front.all Vecs.join [[2, 1], [1, 3]] = [2, 3] := by kernel_rfl
theorem flive7 : Front.late [[2, 1], [1, 3]] = [0, 1] := by kernel_rfl
theorem same_yes (l : List Int) : decide (l = l) = true := decide_eq_true rfl

set_option maxRecDepth 100000 in
set_option maxHeartbeats 4000000 in
theorem law09_live (w : World) :
    Calls Try.prog 6 #[] w fun e w' => e = .returned (.bool true) ∧ Below w.heap.size w w' := by
  go_enter Try.func6, Try.ntmps6
  go_wp2_with fail
  refine (front_New_yes 2 w (by decide)).mono ?_
  rintro e w1 ⟨p, rb, vs, rfl, hf, hpr, hb⟩
  have H : Hid (FLive w p (List.replicate 2 (List.replicate 2 0)) w1) := Lib.hid ⟨rb, 2, vs, hf, hpr.2, hb⟩
  clear hf hpr hb
  go_wp2_with fail
  refine (front_New_no 17 _ (by decide)).mono ?_
  rintro e w2 ⟨rfl, hb⟩
  have H := Lib.hid (H.out.grew hb)
  clear hb
  go_wp2_with fail
  have hs := two_ints w2 2 1
  have hb := grew_alloc w2 (.cells #[.int .i64 2, .int .i64 1] 3)
  refine (flive_Hear (H.out.grew hb) 0 _ [2, 1] hs (by decide)).mono ?_
  rintro e w3 ⟨rfl, hl⟩
  rw [flive1] at hl ⊢
  have H := Lib.hid hl
  clear hs hb hl
  go_wp2_with fail
  have hs := two_ints w3 1 3
  have hb := grew_alloc w3 (.cells #[.int .i64 1, .int .i64 3] 3)
  refine (flive_Hear (H.out.grew hb) 1 _ [1, 3] hs (by decide)).mono ?_
  rintro e w4 ⟨rfl, hl⟩
  rw [flive2] at hl ⊢
  have H := Lib.hid hl
  clear hs hb hl
  go_wp2_with fail
  have hs := two_ints w4 3 0
  have hb := grew_alloc w4 (.cells #[.int .i64 3, .int .i64 0] 3)
  refine (flive_Hear (H.out.grew hb) 1 _ [3, 0] hs (by decide)).mono ?_
  rintro e w5 ⟨rfl, hl⟩
  rw [flive3] at hl ⊢
  have H := Lib.hid hl
  clear hs hb hl
  go_wp2_with fail
  have hs := two_ints w5 1 1
  have hb := grew_alloc w5 (.cells #[.int .i64 1, .int .i64 1] 3)
  refine (flive_Hear (H.out.grew hb) 2 _ [1, 1] hs (by decide)).mono ?_
  rintro e w6 ⟨rfl, hl⟩
  rw [flive4] at hl ⊢
  have H := Lib.hid hl
  clear hs hb hl
  go_wp2_with fail
  refine (flive_of H.out (fun _ _ _ h => front_Stable h)).mono ?_
  rintro e w7 ⟨v7, rfl, hs, hl, _⟩
  rw [flive5] at hs
  have H := Lib.hid hl
  have HS := Lib.hid hs
  clear hs hl
  go_wp2_with fail
  have hs := two_ints w7 1 1
  have hb := grew_alloc w7 (.cells #[.int .i64 1, .int .i64 1] 3)
  refine (ref01_Same _ _ [1, 1] [1, 1] _ (HS.out.below hb) hs (by decide) (by decide)).mono ?_
  rintro e w8 ⟨rfl, hb2⟩
  rw [same_yes]
  have H := Lib.hid (H.out.grew (grew hb hb2))
  clear hs hb hb2 HS
  go_wp2_with fail
  refine (flive_of H.out (fun _ _ _ h => front_Most h)).mono ?_
  rintro e w9 ⟨v9, rfl, hs, hl, _⟩
  rw [flive6] at hs
  have H := Lib.hid hl
  have HS := Lib.hid hs
  clear hs hl
  go_wp2_with fail
  have hs := two_ints w9 2 3
  have hb := grew_alloc w9 (.cells #[.int .i64 2, .int .i64 3] 3)
  refine (ref01_Same _ _ [2, 3] [2, 3] _ (HS.out.below hb) hs (by decide) (by decide)).mono ?_
  rintro e w10 ⟨rfl, hb2⟩
  rw [same_yes]
  have H := Lib.hid (H.out.grew (grew hb hb2))
  clear hs hb hb2 HS
  go_wp2_with fail
  refine (flive_of H.out (fun _ _ _ h => front_Late h)).mono ?_
  rintro e w11 ⟨v11, rfl, hs, hl, _⟩
  rw [flive7] at hs
  have H := Lib.hid hl
  have HS := Lib.hid hs
  clear hs hl
  go_wp2_with fail
  have hs := two_ints w11 0 1
  have hb := grew_alloc w11 (.cells #[.int .i64 0, .int .i64 1] 3)
  refine (ref01_Same _ _ [0, 1] [0, 1] _ (HS.out.below hb) hs (by decide) (by decide)).mono ?_
  rintro e w12 ⟨rfl, hb2⟩
  rw [same_yes]
  have H := Lib.hid (H.out.grew (grew hb hb2))
  clear hs hb hb2 HS
  go_wp2_with fail
  refine (flive_of H.out (l := [1, 3]) (fun _ _ _ h => (front_Row h 1 (by decide)).mono fun e w' ⟨v, k1, k2, _, k3⟩ => ⟨v, k1, k2, k3⟩)).mono ?_
  rintro e w13 ⟨v13, rfl, hs, hl, _⟩
  have H := Lib.hid hl
  have HS := Lib.hid hs
  clear hs hl
  go_wp2_with fail
  have hs := two_ints w13 1 3
  have hb := grew_alloc w13 (.cells #[.int .i64 1, .int .i64 3] 3)
  refine (ref01_Same _ _ [1, 3] [1, 3] _ (HS.out.below hb) hs (by decide) (by decide)).mono ?_
  rintro e w14 ⟨rfl, hb2⟩
  rw [same_yes]
  have H := Lib.hid (H.out.grew (grew hb hb2))
  clear hs hb hb2 HS
  go_wp2
  go_ret
  exact ⟨rfl, H.out.bel⟩
end Go.Proofs.Ytgbikhpmicddkaa
