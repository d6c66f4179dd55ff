/- What Drop of weave comes to. -/
import Derived.Test.YtohmhbjiapflpaaWvTake
namespace Go.Proofs.Ytohmhbjiapflpaa
open Go.RowKit Go.Maps
set_option linter.unusedVariables false

def Weave.drop (L : List Wel) (x : Int × Int) : Int × List Wel :=
  if Weave.has L x = false then (6, L) else if Weave.kids L x ≠ [] then (8, L) else (0, Weave.less L x)

set_option maxRecDepth 100000 in
set_option maxHeartbeats 2000000 in
theorem weave_Drop {w : World} {F : Nat → Prop} {p : Nat} {L : List Wel} (h0 : IsLine w F p L) (x : Int × Int) (hx1 : I64 x.1) (hx2 : I64 x.2) :
    Calls Try.prog 15 #[.pointer (some ⟨p, 0, none⟩), idV x] w fun e w' => e = .returned (.int .i64 (Weave.drop L x).1) ∧ LStep w F p (Weave.drop L x).2 w' := by
  have H0 := Lib.hid h0
  have HRES : Hid (Weave.drop L x = if Weave.has L x = false then (6, L) else if Weave.kids L x ≠ [] then (8, L) else (0, Weave.less L x)) := Lib.hid rfl
  have HTX := Lib.hid (fun W (hW : Below w.heap.size w W) => weave_isThere (h0.below hW).read x hx1 hx2)
  have HB := Lib.hid (grew_alloc w (.cells #[.int .i64 x.1, .int .i64 x.2] 24))
  have HX := Lib.hid (Holds.new w [.int .i64 x.1, .int .i64 x.2] 24)
  have HI := Lib.hid (And.intro hx1 hx2)
  generalize hdr : Weave.drop L x = res at HRES ⊢
  clear hdr h0
  obtain ⟨x1, x2⟩ := x
  simp only [idV] at HTX ⊢
  simp only at HB HX HI
  go_enter Try.func15, Try.ntmps15
  go_wp2_with fail
  generalize (w.alloc (.cells #[.int .i64 x1, .int .i64 x2] 24)) = W at *
  have k0 := HX.out.cell 0 (by simp)
  have k1 := HX.out.cell 1 (by simp)
  simp only [List.getElem_cons_succ, List.getElem_cons_zero] at k0 k1
  go_wp2_with fail
  refine (HTX.out W HB.out).mono ?_
  rintro e w1 ⟨rfl, hb1⟩
  have HB1 := Lib.hid hb1
  clear hb1 k0 k1
  cases hh : Weave.has L (x1, x2) with
  | false =>
    obtain rfl : res = (6, L) := by rw [HRES.out, if_pos hh]
    clear hh
    go_wp2
    go_ret
    exact ⟨rfl, LStep.grew H0.out (grew HB.out HB1.out)⟩
  | true =>
    have HRES2 : Hid (res = if Weave.kids L (x1, x2) ≠ [] then (8, L) else (0, Weave.less L (x1, x2))) := Lib.hid (by rw [HRES.out, if_neg (by rw [hh]; simp)])
    have HMEM : Hid (∃ d ∈ L, d.id = (x1, x2)) := Lib.hid (by
      obtain ⟨d, hd, hx⟩ := List.any_eq_true.1 hh
      exact ⟨d, hd, of_decide_eq_true hx⟩)
    clear hh
    have hl1 := H0.out.below (grew HB.out HB1.out)
    obtain ⟨mh, mk, hbox, hkk, hhh, _, _⟩ := hl1.read.maps
    obtain ⟨v, hv, hlk⟩ := hkk (x1, x2) HI.out.1 HI.out.2
    obtain ⟨va, vc, rfl⟩ := hv.shape
    obtain ⟨d, hd, hdx⟩ := HMEM.out
    have hlh := hhh d hd
    rw [hdx] at hlh
    obtain ⟨⟨d1, d2⟩, ⟨d3, d4⟩, d5⟩ := d
    have hdx : (d1, d2) = (x1, x2) := hdx
    injection hdx with hdx1 hdx2
    subst hdx1 hdx2
    simp only [idV, Wel.val] at hlk hlh
    have HTK : Hid (Weave.kids L (d1, d2) = [] → ∀ W' (hW : Below w1.heap.size w1 W'), Calls Try.prog 49 #[.pointer (some ⟨p, 0, none⟩), .agg #[.int .i64 d1, .int .i64 d2, .int .i64 d3, .int .i64 d4, .int .i64 d5, .slice none 0 0]] W' fun r w' => r = .returned (.tuple #[]) ∧ LStep W' F p (Weave.less L (d1, d2)) w') := Lib.hid (fun hno W' hW => weave_take (hl1.below hW) ⟨(d1, d2), (d3, d4), d5⟩ hd hno)
    have HBX := Lib.hid hbox
    have HLK := Lib.hid hlk
    have HLH := Lib.hid hlh
    generalize hys : Weave.kids L (d1, d2) = ys at *
    have hne : Nonempty (Later w1) := ⟨⟨w1, Below.refl _ _⟩⟩
    have qb := HBX.out.lt
    have c1 := HBX.out.cell 1 (by simp)
    have x0 := (HX.out.keep (Keep.of_grew HB1.out Non) (fun h => h)).cell 0 (by simp)
    have x1 := (HX.out.keep (Keep.of_grew HB1.out Non) (fun h => h)).cell 1 (by simp)
    have qx := (HX.out.keep (Keep.of_grew HB1.out Non) (fun h => h)).lt
    simp only [List.getElem_cons_succ, List.getElem_cons_zero] at c1 x0 x1
    have g1 := fun (q : Later w1) => q.cell qb c1
    have g2 := fun (q : Later w1) => q.cell qx x0
    have g3 := fun (q : Later w1) => q.cell qx x1
    have g4 := fun (q : Later w1) => HLK.out q.at' q.bel
    clear hlk hlh hbox hkk hhh hv hd hl1 qb c1 x0 x1 qx
    by_cases hz : ys = []
    · have z1 : decide ((0 : Int) < (ys.length : Int)) = false := by rw [hz]; rfl
      have z2 : decide (0 < ys.length) = false := by rw [hz]; rfl
      obtain rfl : res = (0, Weave.less L (d1, d2)) := by rw [HRES2.out, if_neg (by rw [hz]; simp)]
      have HZ := Lib.hid hz
      clear hz
      go_wp2_with fail
      refine wp_region_later (by kernel_rfl) (by kernel_rfl) ?_
      repeat (go_big_quiet_step (fail))
      refine wpQuiet_nil ?_
      intro w2 hw'
      obtain ⟨q8, hw8⟩ := hw'
      have hb8 := q8.bel
      rw [← hw8] at hb8
      clear hw8 q8
      have HB2 := Lib.hid hb8
      clear hb8 g1 g2 g3 g4 hne
      go_wp2_with fail
      have c0 := (HBX.out.keep (Keep.of_grew HB2.out Non) (fun h => h)).cell 0 (by simp)
      have k0 := (HX.out.keep (Keep.of_grew (grew HB1.out HB2.out) Non) (fun h => h)).cell 0 (by simp)
      have k1 := (HX.out.keep (Keep.of_grew (grew HB1.out HB2.out) Non) (fun h => h)).cell 1 (by simp)
      simp only [List.getElem_cons_succ, List.getElem_cons_zero] at c0 k0 k1
      have hlh2 := HLH.out w2.drew (grew HB2.out (grew_drew w2))
      go_still_tail 7, (by kernel_rfl)
      repeat still_step
      change wpList _ _ _ _ _ w2.drew
      have HT := Lib.hid (HTK.out HZ.out w2.drew (grew HB2.out (grew_drew w2)))
      go_wp2_with fail
      refine HT.out.mono ?_
      rintro e w3 ⟨rfl, hst⟩
      have HST := Lib.hid (LStep.after (grew (grew HB.out HB1.out) (grew HB2.out (grew_drew w2))) hst)
      clear hst
      go_wp2
      go_ret
      exact ⟨rfl, HST.out⟩
    · have hp := List.length_pos_iff.2 hz
      have z1 : decide ((0 : Int) < (ys.length : Int)) = true := decide_eq_true (by omega)
      have z2 : decide (0 < ys.length) = true := decide_eq_true hp
      obtain rfl : res = (8, L) := by rw [HRES2.out, if_pos hz]
      clear hz
      go_wp2_with fail
      refine wp_region_later (by kernel_rfl) (by kernel_rfl) ?_
      repeat (go_big_quiet_step (fail))
      refine wpQuiet_nil ?_
      intro w2 hw'
      obtain ⟨q8, hw8⟩ := hw'
      have hb8 := q8.bel
      rw [← hw8] at hb8
      clear hw8 q8
      have HB2 := Lib.hid hb8
      clear hb8 g1 g2 g3 g4 hne
      go_wp2
      go_ret
      exact ⟨rfl, LStep.grew H0.out (grew (grew HB.out HB1.out) HB2.out)⟩
end Go.Proofs.Ytohmhbjiapflpaa
