/- Some answers that the document gives of holds: the walk. -/
import Derived.Test.YtjklfjgdmklimaaHdLive1
namespace Go.Proofs.Ytjklfjgdmklimaa
open Go.RowKit Go.Maps
set_option linter.unusedVariables false

theorem SliceI.ltb {w : World} {v : Value} {zs : List Int} (h : SliceI w v zs) (h1 : 1 ≤ zs.length) : ∀ g, v.ownBlock = some g → g < w.heap.size := by
  obtain ⟨a, cap, rfl, _, h⟩ := h
  rcases h with h | ⟨b, off, rfl, hlt, hc⟩
  · rw [h] at h1; simp at h1
  · intro g hg
    have : b = g := Option.some.inj hg
    omega

/-- A message of a caret. -/
def caretM (site seq : Int) (zs : List Int) : Mesg.Msg := ⟨site, seq, zs, ⟨5, 0, ⟨0, 0⟩, ⟨0, 0⟩, 0⟩⟩
set_option maxHeartbeats 1000000 in
theorem law07_caret (site seq : Int) (zs : List Int) (v : Value) (w : World) (hv : SliceI w v zs) :
    Calls Try.prog 23 #[.int .i64 site, .int .i64 seq, v] w fun e w' => e = .returned (msgV (caretM site seq zs) v) ∧ Below w.heap.size w w' := by
  obtain ⟨va, vc, rfl⟩ := hv.shape
  clear hv
  go_enter Try.func23, Try.ntmps23
  go_wp2
  refine bodyPost_ret (v := msgV (caretM site seq zs) (.slice va zs.length vc)) (by simp [results, Try.results23, go_sem, msgV, caretM]) rfl ?_
  exact ⟨rfl, grew_alloc _ _⟩

set_option maxRecDepth 100000 in
set_option maxHeartbeats 4000000 in
theorem law07_live (w : World) :
    Calls Try.prog 9 #[] w fun e w' => e = .returned (.bool true) ∧ Below w.heap.size w w' := by
  go_enter Try.func9, Try.ntmps9
  go_wp2_with fail
  refine (hlive_New 2 2 w w (Below.refl _ _) (by decide) (by decide) Non (fun _ h => h.elim)).mono ?_
  rintro e w1 ⟨p, rfl, hl, _⟩
  have H := Lib.hid hl
  clear hl
  go_wp2_with fail
  refine (hold_New_no 0 2 _ (by decide)).mono ?_
  rintro e w2 ⟨rfl, hb⟩
  have H := Lib.hid (H.out.grew (O' := Non) hb (fun b h => h.elim))
  clear hb
  go_wp2_with fail
  have hs := two_ints w2 1 0
  have hb := grew_alloc w2 (.cells #[.int .i64 1, .int .i64 0] 3)
  refine (law07_caret 1 1 [1, 0] _ _ hs).mono ?_
  rintro e w3 ⟨rfl, hb3⟩
  have HS := Lib.hid (hs.below hb3)
  have H := Lib.hid (H.out.grew (O' := Non) (grew hb hb3) (fun b h => h.elim))
  clear hs hb hb3
  go_wp2_with fail
  refine (hlive_Put H.out hl1 _ HS.out (by decide)).mono ?_
  rintro e w4 ⟨T1, xs1, rfl, ho, hx, _, _, hl, hk⟩
  rw [hlive_put1] at hx hl ⊢
  obtain rfl : xs1 = [] := List.map_eq_nil_iff.1 hx
  obtain ⟨a1, c1, rfl⟩ := ho.form
  have H := Lib.hid (hl.grew (O' := Non) (Below.refl _ _) (fun b h => h.elim))
  clear ho hx hl hk HS
  go_wp2_with fail
  refine (hlive_Known H.out).mono ?_
  rintro e w5 ⟨vk, rfl, hs, hl, hb⟩
  rw [hlive_known] at hs
  have HK := Lib.hid hs
  have H := Lib.hid hl
  obtain ⟨ka, kc, rfl⟩ := hs.shape
  have HKL := Lib.hid (hs.ltb (by decide))
  clear hs hl hb
  go_wp2_with fail
  have hs := two_ints w5 1 0
  have hb := grew_alloc w5 (.cells #[.int .i64 1, .int .i64 0] 3)
  refine (law07_caret 1 1 [1, 0] _ _ hs).mono ?_
  rintro e w6 ⟨rfl, hb3⟩
  have HS := Lib.hid (hs.below hb3)
  have HK := Lib.hid (HK.out.below (grew hb hb3))
  have H := Lib.hid (H.out.grew (grew hb hb3) (fun b h => .inl h))
  clear hs hb hb3
  go_wp2_with fail
  refine (hlive_Put H.out hl1 _ HS.out (by decide)).mono ?_
  rintro e w7 ⟨T2, xs2, rfl, ho, hx, _, _, hl, hk⟩
  rw [hlive_put2] at hx hl ⊢
  obtain rfl : xs2 = [] := List.map_eq_nil_iff.1 hx
  obtain ⟨a2, c2, rfl⟩ := ho.form
  have H := Lib.hid (hl.grew (Below.refl _ _) (fun b h => .inl (.inl h)))
  have HK := Lib.hid (HK.out.keep hk (fun g hg h => h (.inr ⟨hg, HKL.out g hg⟩)))
  clear ho hx hl hk HS
  go_wp2_with fail
  have hs := two_ints w7 0 0
  have hb := grew_alloc w7 (.cells #[.int .i64 0, .int .i64 0] 3)
  refine (law07_caret 0 1 [0, 0] _ _ hs).mono ?_
  rintro e w8 ⟨rfl, hb3⟩
  have HS := Lib.hid (hs.below hb3)
  have HK := Lib.hid (HK.out.below (grew hb hb3))
  have H := Lib.hid (H.out.grew (grew hb hb3) (fun b h => .inl h))
  clear hs hb hb3
  go_wp2_with fail
  refine (hlive_Put H.out hl0 _ HS.out (by decide)).mono ?_
  rintro e w9 ⟨T3, xs3, rfl, ho, hx, _, _, hl, hk⟩
  rw [hlive_put3] at hx hl ⊢
  have H := Lib.hid hl
  have HK := Lib.hid (HK.out.keep hk (fun g hg h => h (.inr ⟨hg, HKL.out g hg⟩)))
  have HT := Lib.hid ho
  have HX := Lib.hid hx
  have hl3 : xs3.length = 2 := by rw [← List.length_map (f := Prod.fst), hx]; rfl
  obtain ⟨b3, c3, rfl⟩ : ∃ g gc, T3 = .slice (some ⟨g, 0, none⟩) 2 gc := by
    rcases ho.2 with ⟨_, h0⟩ | ⟨g, cap, cur, rfl, _⟩
    · omega
    · exact ⟨g, cap, by rw [hl3]⟩
  have HTL : Hid (b3 < w9.heap.size) := Lib.hid (Owns.lt ho rfl)
  clear ho hx hl hk HS hl3
  go_wp2_with fail
  have hs := two_ints w9 0 0
  have hb := grew_alloc w9 (.cells #[.int .i64 0, .int .i64 0] 3)
  refine (law07_caret 0 1 [0, 0] _ _ hs).mono ?_
  rintro e w10 ⟨rfl, hb3⟩
  have HS := Lib.hid (hs.below hb3)
  have HK := Lib.hid (HK.out.below (grew hb hb3))
  have HT := Lib.hid (HT.out.below (grew hb hb3))
  have H := Lib.hid (H.out.grew (grew hb hb3) (fun b h => .inl h))
  clear hs hb hb3
  go_wp2_with fail
  refine (hlive_Put H.out hl0 _ HS.out (by decide)).mono ?_
  rintro e w11 ⟨T4, xs4, rfl, ho, hx, _, _, hl, hk⟩
  rw [hlive_put4] at hx hl ⊢
  obtain rfl : xs4 = [] := List.map_eq_nil_iff.1 hx
  obtain ⟨a4, c4, rfl⟩ := ho.form
  have H := Lib.hid (hl.grew (O' := Non) (Below.refl _ _) (fun b h => h.elim))
  have HK := Lib.hid (HK.out.keep hk (fun g hg h => h (.inl (.inr ⟨hg, HKL.out g hg⟩))))
  have HT := Lib.hid (Owns.keep HT.out hk (fun g hg h => h (.inr ⟨hg, by have : b3 = g := Option.some.inj hg; subst this; exact HTL.out⟩)))
  clear ho hx hl hk HS
  go_wp2_with fail
  have hs := two_ints w11 1 1
  have hb := grew_alloc w11 (.cells #[.int .i64 1, .int .i64 1] 3)
  refine (ref01_Same _ _ [1, 1] [1, 1] _ (HK.out.below hb) hs (by decide) (by decide)).mono ?_
  rintro e w12 ⟨rfl, hb3⟩
  rw [show decide ([(1 : Int), 1] = [1, 1]) = true from by decide]
  have H := Lib.hid (H.out.grew (O' := Non) (grew hb hb3) (fun b h => h.elim))
  have hT : OwnM w12 (.slice (some ⟨b3, 0, none⟩) 2 c3) xs3 := Owns.keep HT.out (Keep.of_grew (grew hb hb3) Non) (fun _ _ h => h)
  obtain ⟨x0, x1, rfl⟩ : ∃ x0 x1, xs3 = [x0, x1] := by
    have h := congrArg List.length HX.out
    rw [List.length_map] at h
    match xs3, h with
    | [x0, x1], _ => exact ⟨x0, x1, rfl⟩
  have hx0 : x0.1 = hl0 ∧ x1.1 = hl1 := by have h := HX.out; simpa using h
  have t0 : w12.cell? ⟨b3, 0, none⟩ = some (.int .i64 0) := by
    obtain ⟨b, e, _, h⟩ := OwnM.at (l := [x0, x1]) hT (k := 0) (by simp)
    have h1 := h 0 (.int .i64 0) (by show (msgL x0.1 x0.2)[0]? = _; rw [hx0.1]; rfl)
    simp only [Option.some.injEq, Addr.mk.injEq] at e
    rw [e.1]
    exact h1
  have t1 : w12.cell? ⟨b3, 10, none⟩ = some (.int .i64 1) := by
    obtain ⟨b, e, _, h⟩ := OwnM.at (l := [x0, x1]) hT (k := 1) (by simp)
    have h1 := h 0 (.int .i64 1) (by show (msgL x1.1 x1.2)[0]? = _; rw [hx0.2]; rfl)
    simp only [Option.some.injEq, Addr.mk.injEq] at e
    rw [e.1]
    exact h1
  clear hs hb hb3 hT hx0
  go_wp2_with fail
  refine (hlive_Clock H.out).mono ?_
  rintro e w13 ⟨vc, rfl, hs, hl, hb⟩
  have HC := Lib.hid hs
  have H := Lib.hid hl
  clear hs hl hb t0 t1
  go_wp2_with fail
  have hs := two_ints w13 1 1
  have hb := grew_alloc w13 (.cells #[.int .i64 1, .int .i64 1] 3)
  refine (ref01_Same _ _ [1, 1] [1, 1] _ (HC.out.below hb) hs (by decide) (by decide)).mono ?_
  rintro e w14 ⟨rfl, hb3⟩
  rw [show decide ([(1 : Int), 1] = [1, 1]) = true from by decide]
  have H := Lib.hid (H.out.grew (O' := Non) (grew hb hb3) (fun b h => h.elim))
  clear hs hb hb3
  go_wp2_with fail
  refine (hlive_Waits H.out).mono ?_
  rintro e _ ⟨rfl, rfl⟩
  rw [show ((hS2.l.length : Nat) : Int) = 0 from rfl]
  go_wp2
  go_ret
  exact ⟨rfl, H.out.below⟩
end Go.Proofs.Ytjklfjgdmklimaa
