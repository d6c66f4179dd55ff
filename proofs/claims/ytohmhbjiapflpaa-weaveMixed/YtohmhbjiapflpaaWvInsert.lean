/- What Insert of weave comes to. -/
import Derived.Test.YtohmhbjiapflpaaWvMay
import Derived.Test.YtohmhbjiapflpaaMesgCheck
namespace Go.Proofs.Ytohmhbjiapflpaa
open Go.RowKit Go.Maps
set_option linter.unusedVariables false

def Weave.insert (L : List Wel) (x ref : Int × Int) (r : Int) : Int × List Wel :=
  if Weave.mayBe x ref = false ∨ Mesg.rune r = false then (1, L)
  else if Weave.has L x = true then (7, L)
  else if ref ≠ (0, 0) ∧ Weave.has L ref = false then (6, L)
  else if 4096 ≤ L.length then (5, L)
  else (0, L ++ [⟨x, ref, r⟩])

theorem Weave.may_i64 {x ref : Int × Int} (h : Weave.mayBe x ref = true) : (I64 x.1 ∧ I64 x.2) ∧ I64 ref.1 ∧ I64 ref.2 := by
  unfold Weave.mayBe at h
  rw [Bool.and_eq_true, Bool.or_eq_true, Bool.and_eq_true] at h
  refine ⟨Idn.may_i64 h.1, ?_⟩
  rcases h.2 with h | h
  · have h := of_decide_eq_true h
    rw [h]
    unfold I64
    exact ⟨by omega, by omega⟩
  · exact Idn.may_i64 h.1
theorem Weave.insert_ok {L : List Wel} (h : Weave.Ok L) {x ref : Int × Int} {r : Int} (h1 : Weave.mayBe x ref = true) (h2 : Weave.has L x = false) (h3 : ref = (0, 0) ∨ Weave.has L ref = true) (h4 : L.length < 4096) : Weave.Ok (L ++ [⟨x, ref, r⟩]) := by
  unfold Weave.mayBe at h1
  rw [Bool.and_eq_true, Bool.or_eq_true, Bool.and_eq_true] at h1
  refine ⟨?_, ?_, ?_, by simp; omega⟩
  · rw [List.pairwise_append]
    refine ⟨h.apart, by simp, fun a ha b hb => ?_⟩
    rw [List.mem_singleton.1 hb]
    intro e
    have := List.any_eq_false.1 h2 a ha
    simp [e] at this
  · intro e he
    rcases List.mem_append.1 he with he | he
    · exact h.may e he
    · rw [List.mem_singleton.1 he]
      exact h1.1
  · intro e he
    rcases List.mem_append.1 he with he | he
    · rcases h.ref e he with q | ⟨q1, q2, d, hd, q3⟩
      · exact .inl q
      · exact .inr ⟨q1, q2, d, List.mem_append_left _ hd, q3⟩
    · rw [List.mem_singleton.1 he]
      rcases h3 with q | q
      · exact .inl q
      · by_cases hz : ref = (0, 0)
        · exact .inl hz
        · rcases h1.2 with h5 | h5
          · exact absurd (of_decide_eq_true h5) hz
          · obtain ⟨d, hd, hx⟩ := List.any_eq_true.1 q
            exact .inr ⟨h5.1, of_decide_eq_true h5.2, d, List.mem_append_left _ hd, of_decide_eq_true hx⟩

set_option maxRecDepth 100000 in
set_option maxHeartbeats 2000000 in
theorem weave_Insert {w : World} {F : Nat → Prop} {p : Nat} {L : List Wel} (h0 : IsLine w F p L) (x ref : Int × Int) (r : Int) :
    Calls Try.prog 17 #[.pointer (some ⟨p, 0, none⟩), idV x, idV ref, .int .i64 r] w fun e w' => e = .returned (.int .i64 (Weave.insert L x ref r).1) ∧ LStep w F p (Weave.insert L x ref r).2 w' := by
  have H0 := Lib.hid h0
  have HCM := Lib.hid (weave_mayBe x ref)
  have HBG := Lib.hid (weave_isBegin ref)
  have HTX := Lib.hid (fun (h : I64 x.1 ∧ I64 x.2) W (hW : Below w.heap.size w W) => weave_isThere (h0.below hW).read x h.1 h.2)
  have HTR := Lib.hid (fun (h : I64 ref.1 ∧ I64 ref.2) W (hW : Below w.heap.size w W) => weave_isThere (h0.below hW).read ref h.1 h.2)
  have HLEN := Lib.hid (fun W (hW : Below w.heap.size w W) => (h0.below hW).read.maps)
  have HPUT := Lib.hid (fun W (hW : Below w.heap.size w W) (hok : Weave.Ok (L ++ [⟨x, ref, r⟩])) => weave_put (h0.below hW) ⟨x, ref, r⟩ hok)
  have HB := Lib.hid (grew (grew_alloc w (.cells #[.int .i64 x.1, .int .i64 x.2] 24)) (grew_alloc _ (.cells #[.int .i64 ref.1, .int .i64 ref.2] 24)))
  have HX := Lib.hid ((Holds.new w [.int .i64 x.1, .int .i64 x.2] 24).keep (Keep.of_grew (grew_alloc _ (.cells #[.int .i64 ref.1, .int .i64 ref.2] 24)) Non) (fun h => h))
  have HR := Lib.hid (Holds.new (w.alloc (.cells #[.int .i64 x.1, .int .i64 x.2] 24)) [.int .i64 ref.1, .int .i64 ref.2] 24)
  have hsz : (w.alloc (.cells #[.int .i64 x.1, .int .i64 x.2] 24)).heap.size = w.heap.size + 1 := Array.size_push _
  rw [hsz] at HR
  have HI : Hid (Weave.mayBe x ref = true → (I64 x.1 ∧ I64 x.2) ∧ I64 ref.1 ∧ I64 ref.2) := Lib.hid Weave.may_i64
  have HOK : Hid (Weave.mayBe x ref = true → Weave.has L x = false → (ref = (0, 0) ∨ Weave.has L ref = true) → L.length < 4096 → Weave.Ok (L ++ [⟨x, ref, r⟩])) := Lib.hid (Weave.insert_ok h0.ok)
  have HRES : Hid (Weave.insert L x ref r = if Weave.mayBe x ref = false ∨ Mesg.rune r = false then (1, L) else if Weave.has L x = true then (7, L) else if ref ≠ (0, 0) ∧ Weave.has L ref = false then (6, L) else if 4096 ≤ L.length then (5, L) else (0, L ++ [⟨x, ref, r⟩])) := Lib.hid rfl
  have HRU := Lib.hid (fun W => mesg_Rune r W)
  generalize Weave.insert L x ref r = res at HRES ⊢
  generalize Weave.mayBe x ref = mb at *
  generalize Mesg.rune r = ru at *
  generalize Weave.has L x = hx at *
  generalize Weave.has L ref = hr at *
  have hbg : (ref = (0, 0) ∧ decide (ref = (0, 0)) = true) ∨ (ref ≠ (0, 0) ∧ decide (ref = (0, 0)) = false) := by
    by_cases h : ref = (0, 0)
    · exact .inl ⟨h, decide_eq_true h⟩
    · exact .inr ⟨h, decide_eq_false h⟩
  obtain ⟨x1, x2⟩ := x
  obtain ⟨r1, r2⟩ := ref
  simp only [idV, Wel.val] at HCM HBG HTX HTR HPUT ⊢
  simp only at HX HR HB HI
  generalize decide (((r1, r2) : Int × Int) = (0, 0)) = bg at *
  clear hsz h0
  go_enter Try.func17, Try.ntmps17
  go_wp2_with fail
  generalize ((w.alloc (.cells #[.int .i64 x1, .int .i64 x2] 24)).alloc (.cells #[.int .i64 r1, .int .i64 r2] 24)) = W at *
  refine (HCM.out _).mono ?_
  rintro e w1 ⟨rfl, hb1⟩
  have HB1 := Lib.hid hb1
  clear hb1
  cases mb with
  | false =>
    obtain rfl : res = (1, L) := by rw [HRES.out]; simp
    go_wp2
    go_ret
    exact ⟨rfl, LStep.grew H0.out (grew HB.out HB1.out)⟩
  | true =>
    have HI2 := Lib.hid (HI.out rfl)
    go_wp2_with fail
    refine (HRU.out _).mono ?_
    rintro e _ ⟨rfl, rfl⟩
    cases ru with
    | false =>
      obtain rfl : res = (1, L) := by rw [HRES.out]; simp
      go_wp2
      go_ret
      exact ⟨rfl, LStep.grew H0.out (grew HB.out HB1.out)⟩
    | true =>
      have HRES2 : Hid (res = if hx = true then (7, L) else if (r1, r2) ≠ (0, 0) ∧ hr = false then (6, L) else if 4096 ≤ L.length then (5, L) else (0, L ++ [⟨(x1, x2), (r1, r2), r⟩])) := Lib.hid (by rw [HRES.out]; simp)
      have k0 := (HX.out.keep (Keep.of_grew HB1.out Non) (fun h => h)).cell 0 (by simp)
      have k1 := (HX.out.keep (Keep.of_grew HB1.out Non) (fun h => h)).cell 1 (by simp)
      simp only [List.getElem_cons_succ, List.getElem_cons_zero] at k0 k1
      go_wp2_with fail
      refine (HTX.out HI2.out.1 _ (grew HB.out HB1.out)).mono ?_
      rintro e w2 ⟨rfl, hb2⟩
      have HB2 := Lib.hid (grew HB1.out hb2)
      clear hb2 k0 k1
      cases hx with
      | true =>
        obtain rfl : res = (7, L) := by rw [HRES2.out]; simp
        go_wp2
        go_ret
        exact ⟨rfl, LStep.grew H0.out (grew HB.out HB2.out)⟩
      | false =>
        have k0 := (HR.out.keep (Keep.of_grew HB2.out Non) (fun h => h)).cell 0 (by simp)
        have k1 := (HR.out.keep (Keep.of_grew HB2.out Non) (fun h => h)).cell 1 (by simp)
        simp only [List.getElem_cons_succ, List.getElem_cons_zero] at k0 k1
        go_wp2_with fail
        refine (HBG.out _).mono ?_
        rintro e w3 ⟨rfl, hb3⟩
        have HB3 := Lib.hid (grew HB2.out hb3)
        clear hb3 k0 k1
        have hgo : (bg = true ∧ (r1, r2) = (0, 0)) ∨ (bg = false ∧ (r1, r2) ≠ (0, 0)) := by
          rcases hbg with h | h
          · exact .inl ⟨h.2, h.1⟩
          · exact .inr ⟨h.2, h.1⟩
        rcases hgo with ⟨rfl, hz⟩ | ⟨rfl, hz⟩
        · have HREF : Hid (¬ ((r1, r2) ≠ (0, 0) ∧ hr = false) ∧ ((r1, r2) = (0, 0) ∨ hr = true)) := Lib.hid ⟨fun h => h.1 hz, .inl hz⟩
          have HB4 := HB3
          generalize w3 = w4 at *
          clear hz hbg
          obtain ⟨mh, mk, hbox, _, _, _, hlen⟩ := HLEN.out w4 (grew HB.out HB4.out)
          have hl := hlen w4 (Below.refl _ _)
          have c0 := hbox.cell 0 (by simp)
          have k0 := (HR.out.keep (Keep.of_grew HB4.out Non) (fun h => h)).cell 0 (by simp)
          have k1 := (HR.out.keep (Keep.of_grew HB4.out Non) (fun h => h)).cell 1 (by simp)
          have j0 := (HX.out.keep (Keep.of_grew HB4.out Non) (fun h => h)).cell 0 (by simp)
          have j1 := (HX.out.keep (Keep.of_grew HB4.out Non) (fun h => h)).cell 1 (by simp)
          simp only [List.getElem_cons_succ, List.getElem_cons_zero] at c0 k0 k1 j0 j1
          clear hlen hbox
          by_cases hfull : 4096 ≤ L.length
          · have d1 : decide ((4096 : Int) ≤ (L.length : Int)) = true := decide_eq_true (by omega)
            have d2 : decide (4096 ≤ L.length) = true := decide_eq_true hfull
            obtain rfl : res = (5, L) := by
              rw [HRES2.out, if_neg (by simp), if_neg HREF.out.1, if_pos hfull]
            clear hfull
            go_wp2
            go_ret
            exact ⟨rfl, LStep.grew H0.out (grew HB.out HB4.out)⟩
          · have d1 : decide ((4096 : Int) ≤ (L.length : Int)) = false := decide_eq_false (by omega)
            have d2 : decide (4096 ≤ L.length) = false := decide_eq_false hfull
            obtain rfl : res = (0, L ++ [⟨(x1, x2), (r1, r2), r⟩]) := by
              rw [HRES2.out, if_neg (by simp), if_neg HREF.out.1, if_neg hfull]
            have HP := Lib.hid (HPUT.out w4 (grew HB.out HB4.out) (HOK.out (by first | rfl | trivial) (by first | rfl | trivial) (by first | exact HREF.out.2 | trivial | simp) (by omega)))
            clear hfull
            go_wp2_with fail
            refine HP.out.mono ?_
            rintro e w5 ⟨rfl, hst⟩
            have HST := Lib.hid (LStep.after (grew HB.out HB4.out) hst)
            clear hst
            go_wp2
            go_ret
            exact ⟨rfl, HST.out⟩
        · have k0 := (HR.out.keep (Keep.of_grew HB3.out Non) (fun h => h)).cell 0 (by simp)
          have k1 := (HR.out.keep (Keep.of_grew HB3.out Non) (fun h => h)).cell 1 (by simp)
          simp only [List.getElem_cons_succ, List.getElem_cons_zero] at k0 k1
          go_wp2_with fail
          refine (HTR.out HI2.out.2 _ (grew HB.out HB3.out)).mono ?_
          rintro e w4 ⟨rfl, hb4⟩
          have HB4 := Lib.hid (grew HB3.out hb4)
          clear hb4 k0 k1
          cases hr with
          | false =>
            obtain rfl : res = (6, L) := by
              rw [HRES2.out, if_neg (by simp), if_pos ⟨hz, rfl⟩]
            clear hz hbg
            go_wp2
            go_ret
            exact ⟨rfl, LStep.grew H0.out (grew HB.out HB4.out)⟩
          | true =>
            have HREF : Hid (¬ ((r1, r2) ≠ (0, 0) ∧ true = false) ∧ ((r1, r2) = (0, 0) ∨ true = true)) := Lib.hid ⟨fun h => Bool.noConfusion h.2, .inr rfl⟩
            clear hz hbg
            obtain ⟨mh, mk, hbox, _, _, _, hlen⟩ := HLEN.out w4 (grew HB.out HB4.out)
            have hl := hlen w4 (Below.refl _ _)
            have c0 := hbox.cell 0 (by simp)
            have k0 := (HR.out.keep (Keep.of_grew HB4.out Non) (fun h => h)).cell 0 (by simp)
            have k1 := (HR.out.keep (Keep.of_grew HB4.out Non) (fun h => h)).cell 1 (by simp)
            have j0 := (HX.out.keep (Keep.of_grew HB4.out Non) (fun h => h)).cell 0 (by simp)
            have j1 := (HX.out.keep (Keep.of_grew HB4.out Non) (fun h => h)).cell 1 (by simp)
            simp only [List.getElem_cons_succ, List.getElem_cons_zero] at c0 k0 k1 j0 j1
            clear hlen hbox
            by_cases hfull : 4096 ≤ L.length
            · have d1 : decide ((4096 : Int) ≤ (L.length : Int)) = true := decide_eq_true (by omega)
              have d2 : decide (4096 ≤ L.length) = true := decide_eq_true hfull
              obtain rfl : res = (5, L) := by
                rw [HRES2.out, if_neg (by simp), if_neg HREF.out.1, if_pos hfull]
              clear hfull
              go_wp2
              go_ret
              exact ⟨rfl, LStep.grew H0.out (grew HB.out HB4.out)⟩
            · have d1 : decide ((4096 : Int) ≤ (L.length : Int)) = false := decide_eq_false (by omega)
              have d2 : decide (4096 ≤ L.length) = false := decide_eq_false hfull
              obtain rfl : res = (0, L ++ [⟨(x1, x2), (r1, r2), r⟩]) := by
                rw [HRES2.out, if_neg (by simp), if_neg HREF.out.1, if_neg hfull]
              have HP := Lib.hid (HPUT.out w4 (grew HB.out HB4.out) (HOK.out (by first | rfl | trivial) (by first | rfl | trivial) (by first | exact HREF.out.2 | trivial | simp) (by omega)))
              clear hfull
              go_wp2_with fail
              refine HP.out.mono ?_
              rintro e w5 ⟨rfl, hst⟩
              have HST := Lib.hid (LStep.after (grew HB.out HB4.out) hst)
              clear hst
              go_wp2
              go_ret
              exact ⟨rfl, HST.out⟩
end Go.Proofs.Ytohmhbjiapflpaa
