/- Of one element that is seen its text is all: the walk. -/
import Derived.Test.YtmelaidbicaagaaViMore
import Derived.Deep.RegionHeld3
namespace Go.Proofs.Ytmelaidbicaagaa
open Go.RowKit
set_option linter.unusedVariables false

theorem View.one_take {ms : List El} {m : Nat} (hm : m < ms.length) (h : ∀ j (hj : j < ms.length), ms[j].un = if j = m then 0 else 1) : ∀ {k : Nat}, k ≤ ms.length → View.seen (ms.take k) = if m < k then [(m, ms[m])] else []
  | 0, _ => by simp [View.seen]
  | k + 1, hk => by
    rw [View.seen_take (by omega), View.one_take hm h (k := k) (by omega), h k (by omega)]
    by_cases e : k = m
    · subst e
      simp
    · rw [if_neg e]
      simp only [if_neg (show ¬ (1 : Nat) = 0 by omega), List.append_nil]
      by_cases e2 : m < k
      · rw [if_pos e2, if_pos (by omega)]
      · rw [if_neg e2, if_neg (by omega)]
theorem View.one_seen {ms : List El} {m : Nat} (hm : m < ms.length) (h : ∀ j (hj : j < ms.length), ms[j].un = if j = m then 0 else 1) : View.seen ms = [(m, ms[m])] := by
  have := View.one_take hm h (Nat.le_refl _)
  rwa [List.take_length, if_pos hm] at this
theorem View.one_all {ms : List El} {m : Nat} (hm : m < ms.length) (h : ∀ j (hj : j < ms.length), ms[j].un = if j = m then 0 else 1) :
    View.text ms = Utf8.encode ms[m].rune ∧ View.nums ms = [(m : Int)] ∧ View.refT ms 1 = (ms[m].t, ms[m].s) ∧ View.refE ms 1 = 0 ∧ View.refE ms 2 = 1 := by
  have e := View.one_seen hm h
  refine ⟨?_, ?_, ?_, ?_, ?_⟩
  · rw [View.text_eq, e]
    show ByteArray.empty ++ _ = _
    simp
  · unfold View.nums; rw [e]; rfl
  · unfold View.refT; rw [e]; rfl
  · unfold View.refE; rw [e]; rfl
  · unfold View.refE; rw [e]; rfl

theorem one_intv (w : World) (a : Int) : SliceI (w.alloc (.cells #[.int .i64 a] 3)) (.slice (some ⟨w.heap.size, 0, none⟩) 1 1) [a] := ⟨_, 1, rfl, by simp, .inr ⟨w.heap.size, 0, rfl, by simp, fun i hi => by
  rw [show 0 + i = i by omega, cell_of_row _ _ _ _ _ _ (heap_alloc_new _ _)]
  match i, hi with
  | 0, _ => rfl⟩⟩
/-- The k first elements, of which the m-th alone is seen. -/
def OneL (es : List El) (m k : Nat) (ms : List El) : Prop := ms.length = k ∧ k ≤ es.length ∧ ∀ j (hj : j < ms.length) (hj2 : j < es.length), ms[j].t = es[j].t ∧ ms[j].s = es[j].s ∧ ms[j].rune = es[j].rune ∧ ms[j].un = (if j = m then 0 else 1)
theorem OneL.step {es ms : List El} {m k : Nat} (h : OneL es m k ms) (hk : k < es.length) (x : El) (hx : x.t = es[k].t ∧ x.s = es[k].s ∧ x.rune = es[k].rune ∧ x.un = (if k = m then 0 else 1)) : OneL es m (k + 1) (ms ++ [x]) := by
  obtain ⟨h1, h2, h3⟩ := h
  refine ⟨by simp [h1], hk, fun j hj hj2 => ?_⟩
  by_cases e : j < ms.length
  · rw [List.getElem_append_left e]
    exact h3 j e hj2
  · have : j = k := by simp at hj; omega
    subst this
    rw [List.getElem_append_right (by omega)]
    simp only [h1, Nat.sub_self, List.getElem_cons_zero]
    exact hx

set_option maxRecDepth 100000 in
set_option maxHeartbeats 8000000 in
theorem walk_ViewOne (v : Value) (es : List El) (i : Int) (w : World) (hw : SliceG 6 El.cells w v es ∧ es.length ≤ maxLen ∧ ∀ e ∈ es, e.un ≤ maxLen) (hi : (Lit.int .i64 i).wf = true) :
    Calls Try.prog 7 #[v, .int .i64 i] w fun e w' => e = .returned (.bool true) ∧ Below w.heap.size w w' := by
  obtain ⟨hv, hm, hu⟩ := hw
  have HV := Lib.hid hv
  obtain ⟨va, vc, rfl⟩ := hv.shape
  have HFEW := Lib.hid (ref12_Few (.slice va es.length vc) es w hv hm hu)
  clear hv hu hi
  go_enter Try.func7, Try.ntmps7
  go_wp2_with fail
  refine HFEW.out.mono ?_
  by_cases hfew : es.length ≤ 60 ∧ ∀ e ∈ es, e.un ≤ 20
  · rintro e w1 ⟨rfl, rfl⟩
    rw [decide_eq_true hfew]
    have h60 := hfew.1
    clear hfew hm HFEW
    by_cases hr : 0 ≤ i ∧ i < es.length
    · obtain ⟨m, rfl⟩ : ∃ m : Nat, i = m := ⟨i.toNat, by omega⟩
      have hml : m < es.length := by omega
      have d1 : decide ((m : Int) < 0) = false := decide_eq_false (by omega)
      have d2 : decide ((es.length : Int) ≤ (m : Int)) = false := decide_eq_false (by omega)
      have d2' : decide (es.length ≤ m) = false := decide_eq_false (by omega)
      clear hr
      go_wp2_with fail
      go_loopw [5, 6] (fun out k' wr => ∃ (k : Nat) (ms : List El), k' = .int .i64 k ∧ OneL es m k ms ∧ OwnL wr w1.heap.size out ms ∧ Below w1.heap.size w1 wr) (fun _ k' _ => es.length - (intOf k').toNat)
      case atStart => exact ⟨0, [], rfl, ⟨rfl, by omega, fun j hj => by simp at hj⟩, OwnL.nil _ _, Below.refl _ _⟩
      case round =>
        obtain ⟨k, ms, rfl, hone, hown, hbel⟩ := hrel
        have HN := Lib.hid hone
        have HO := Lib.hid hown
        have HB := Lib.hid hbel
        have hk := hone.2.1
        have hmk := hone.1
        have HMK := Lib.hid hmk
        obtain ⟨oa, oc, e⟩ := hown.slice.shape
        rw [hmk] at e
        subst e
        clear hone hown hbel hmk
        by_cases hlt : k < es.length
        · have e1 : decide ((k : Int) < (es.length : Int)) = true := decide_eq_true (by omega)
          have hia : (k : Int) < (es.length : Int) := by omega
          obtain ⟨b, off, e, hbl, hcc⟩ := (HV.out.below HB.out).at hlt
          subst e
          have HSTP := Lib.hid (fun x hx => HN.out.step hlt x hx)
          generalize es[k] = x at hcc HSTP
          obtain ⟨t, s, rt, rs, rune, ua, un, uc⟩ := x
          have q0 := hcc 0 _ rfl
          have q1 := hcc 1 _ rfl
          have q2 := hcc 2 _ rfl
          have q3 := hcc 3 _ rfl
          have q4 := hcc 4 _ rfl
          have q5 := hcc 5 _ rfl
          simp only [Nat.add_zero] at q0
          simp only at HSTP
          clear hcc
          by_cases hkm : k = m
          · subst hkm
            have n1 : ((k : Int) == (k : Int)) = true := by simp
            have hgw := grew (grew_alloc wr (.cells #[.int .i64 t, .int .i64 s, .int .i64 rt, .int .i64 rs, .int .i64 rune, .slice none 0 0] 44)) (grew_alloc (wr.alloc (.cells #[.int .i64 t, .int .i64 s, .int .i64 rt, .int .i64 rs, .int .i64 rune, .slice none 0 0] 44)) (.cells #[.int .i64 0] 3))
            have HBD : Hid (Below w1.heap.size w1 ((wr.alloc (.cells #[.int .i64 t, .int .i64 s, .int .i64 rt, .int .i64 rs, .int .i64 rune, .slice none 0 0] 44)).alloc (.cells #[.int .i64 0] 3))) := Lib.hid (grew HB.out hgw)
            have HOD : Hid (OwnL ((wr.alloc (.cells #[.int .i64 t, .int .i64 s, .int .i64 rt, .int .i64 rs, .int .i64 rune, .slice none 0 0] 44)).alloc (.cells #[.int .i64 0] 3)) w1.heap.size (.slice oa k oc) ms) := Lib.hid (World.ownsRow.alloc (World.ownsRow.alloc HO.out _) _)
            have HLE : Hid (SliceG 6 El.cells (((wr.alloc (.cells #[.int .i64 t, .int .i64 s, .int .i64 rt, .int .i64 rs, .int .i64 rune, .slice none 0 0] 44)).alloc (.cells #[.int .i64 0] 3)).alloc (.cells #[.int .i64 t, .int .i64 s, .int .i64 rt, .int .i64 rs, .int .i64 rune, .slice none 0 0] 44)) (.slice (some ⟨wr.heap.size + 1 + 1, 0, none⟩) 1 1) [(⟨t, s, rt, rs, rune, none, 0, 0⟩ : El)]) := Lib.hid (by have := els_new ((wr.alloc (.cells #[.int .i64 t, .int .i64 s, .int .i64 rt, .int .i64 rs, .int .i64 rune, .slice none 0 0] 44)).alloc (.cells #[.int .i64 0] 3)) [(⟨t, s, rt, rs, rune, none, 0, 0⟩ : El)] #[.int .i64 t, .int .i64 s, .int .i64 rt, .int .i64 rs, .int .i64 rune, .slice none 0 0] rfl; rwa [World.size_alloc, World.size_alloc] at this)
            clear hgw
            go_wp2_with (at_builtin; refine wp_append_els rfl (.tmp 42) (.tmp 44) rfl w1.heap.size _ ms rfl (World.ownsRow.alloc HOD.out _) (Nat.le_trans HBD.out.size (grew_alloc _ _).size) _ [(⟨t, s, rt, rs, rune, none, 0, 0⟩ : El)] rfl HLE.out (by rw [HMK.out]; simp; omega) ?_; intro v4 w4 ho4 hb4; have HO4 := Lib.hid ho4; have HB4 := Lib.hid ((grew HBD.out (grew_alloc _ (.cells #[.int .i64 t, .int .i64 s, .int .i64 rt, .int .i64 rs, .int .i64 rune, .slice none 0 0] 44))).trans hb4); clear ho4 hb4)
            go_roundw
            case rel => exact ⟨k + 1, ms ++ [(⟨t, s, rt, rs, rune, none, 0, 0⟩ : El)], by go_num, HSTP.out _ ⟨rfl, rfl, rfl, (if_pos rfl).symm⟩, HO4.out, HB4.out⟩
            case measure => simp [intOf]; omega
          · have n1 : ((k : Int) == (m : Int)) = false := by simp; omega
            have n2 : decide ((k : Int) = (m : Int)) = false := decide_eq_false (by omega)
            have n3 : (k == m) = false := by simp [hkm]
            have n4 : decide (k = m) = false := decide_eq_false hkm
            have hgw := grew (grew_alloc wr (.cells #[.int .i64 t, .int .i64 s, .int .i64 rt, .int .i64 rs, .int .i64 rune, (.slice (some ⟨wr.heap.size + 1, 0, none⟩) 1 1)] 44)) (grew_alloc (wr.alloc (.cells #[.int .i64 t, .int .i64 s, .int .i64 rt, .int .i64 rs, .int .i64 rune, (.slice (some ⟨wr.heap.size + 1, 0, none⟩) 1 1)] 44)) (.cells #[.int .i64 0] 3))
            have HBD : Hid (Below w1.heap.size w1 ((wr.alloc (.cells #[.int .i64 t, .int .i64 s, .int .i64 rt, .int .i64 rs, .int .i64 rune, (.slice (some ⟨wr.heap.size + 1, 0, none⟩) 1 1)] 44)).alloc (.cells #[.int .i64 0] 3))) := Lib.hid (grew HB.out hgw)
            have HOD : Hid (OwnL ((wr.alloc (.cells #[.int .i64 t, .int .i64 s, .int .i64 rt, .int .i64 rs, .int .i64 rune, (.slice (some ⟨wr.heap.size + 1, 0, none⟩) 1 1)] 44)).alloc (.cells #[.int .i64 0] 3)) w1.heap.size (.slice oa k oc) ms) := Lib.hid (World.ownsRow.alloc (World.ownsRow.alloc HO.out _) _)
            have HLE : Hid (SliceG 6 El.cells (((wr.alloc (.cells #[.int .i64 t, .int .i64 s, .int .i64 rt, .int .i64 rs, .int .i64 rune, (.slice (some ⟨wr.heap.size + 1, 0, none⟩) 1 1)] 44)).alloc (.cells #[.int .i64 0] 3)).alloc (.cells #[.int .i64 t, .int .i64 s, .int .i64 rt, .int .i64 rs, .int .i64 rune, (.slice (some ⟨wr.heap.size + 1, 0, none⟩) 1 1)] 44)) (.slice (some ⟨wr.heap.size + 1 + 1, 0, none⟩) 1 1) [(⟨t, s, rt, rs, rune, some ⟨wr.heap.size + 1, 0, none⟩, 1, 1⟩ : El)]) := Lib.hid (by have := els_new ((wr.alloc (.cells #[.int .i64 t, .int .i64 s, .int .i64 rt, .int .i64 rs, .int .i64 rune, (.slice (some ⟨wr.heap.size + 1, 0, none⟩) 1 1)] 44)).alloc (.cells #[.int .i64 0] 3)) [(⟨t, s, rt, rs, rune, some ⟨wr.heap.size + 1, 0, none⟩, 1, 1⟩ : El)] #[.int .i64 t, .int .i64 s, .int .i64 rt, .int .i64 rs, .int .i64 rune, (.slice (some ⟨wr.heap.size + 1, 0, none⟩) 1 1)] rfl; rwa [World.size_alloc, World.size_alloc] at this)
            clear hgw
            go_wp2_with (at_builtin; refine wp_append_els rfl (.tmp 42) (.tmp 44) rfl w1.heap.size _ ms rfl (World.ownsRow.alloc HOD.out _) (Nat.le_trans HBD.out.size (grew_alloc _ _).size) _ [(⟨t, s, rt, rs, rune, some ⟨wr.heap.size + 1, 0, none⟩, 1, 1⟩ : El)] rfl HLE.out (by rw [HMK.out]; simp; omega) ?_; intro v4 w4 ho4 hb4; have HO4 := Lib.hid ho4; have HB4 := Lib.hid ((grew HBD.out (grew_alloc _ (.cells #[.int .i64 t, .int .i64 s, .int .i64 rt, .int .i64 rs, .int .i64 rune, (.slice (some ⟨wr.heap.size + 1, 0, none⟩) 1 1)] 44))).trans hb4); clear ho4 hb4)
            go_roundw
            case rel => exact ⟨k + 1, ms ++ [(⟨t, s, rt, rs, rune, some ⟨wr.heap.size + 1, 0, none⟩, 1, 1⟩ : El)], by go_num, HSTP.out _ ⟨rfl, rfl, rfl, (if_neg hkm).symm⟩, HO4.out, HB4.out⟩
            case measure => simp [intOf]; omega
        · have e1 : decide ((k : Int) < (es.length : Int)) = false := decide_eq_false (by omega)
          have hkl : k = es.length := by omega
          have hml2 : m < ms.length := by rw [HMK.out]; omega
          have HAL := Lib.hid (View.one_all hml2 (fun j hj => (HN.out.2.2 j hj (by have := HMK.out; omega)).2.2.2))
          obtain ⟨g1, g2, g3, g4⟩ := HN.out.2.2 m hml2 hml
          rw [g1, g2, g3] at HAL
          clear g1 g2 g3 g4 HN hml2
          have HMS := Lib.hid HO.out.slice
          have hms60 : ms.length ≤ 60 := by rw [HMK.out]; omega
          obtain ⟨b, off, e, hbl, hcc⟩ := HV.out.at hml
          subst e
          have q0 := hcc 0 _ rfl
          have q1 := hcc 1 _ rfl
          have q4 := hcc 4 _ rfl
          simp only [Nat.add_zero] at q0
          have hma : (m : Int) < (es.length : Int) := by omega
          generalize es[m] = x at q0 q1 q4 HAL
          clear hcc
          subst hkl
          go_wp2_with fail
          refine (view_Ref _ ms 1 _ HMS.out (by unfold maxLen; omega)).mono ?_
          rintro e w2 ⟨rfl, hb⟩
          rw [HAL.out.2.2.1, HAL.out.2.2.2.1]
          have hb := grew hb (grew_alloc w2 (.cells #[.int .i64 x.t, .int .i64 x.s] 24))
          have HB := Lib.hid (grew HB.out hb)
          have HMS := Lib.hid (HMS.out.below hb)
          have HX := Lib.hid (Holds.new w2 [.int .i64 x.t, .int .i64 x.s] 24)
          clear hb
          go_wp2_with fail
          generalize w2.alloc (.cells #[.int .i64 x.t, .int .i64 x.s] 24) = W2 at *
          generalize w2.heap.size = g at *
          refine (view_Ref _ ms 2 _ HMS.out (by unfold maxLen; omega)).mono ?_
          rintro e w3 ⟨rfl, hb⟩
          rw [HAL.out.2.2.2.2]
          have hb := grew hb (grew_alloc w3 (.cells #[.int .i64 (View.refT ms 2).1, .int .i64 (View.refT ms 2).2] 24))
          have HB := Lib.hid (grew HB.out hb)
          have HMS := Lib.hid (HMS.out.below hb)
          have HX := Lib.hid (HX.out.keep (Keep.of_grew hb Non) (fun h => h))
          clear hb
          go_wp2_with fail
          generalize w3.alloc (.cells #[.int .i64 (View.refT ms 2).1, .int .i64 (View.refT ms 2).2] 24) = W3 at *
          generalize View.refT ms 2 = rr at *
          have x0 := HX.out.cell 0 (by simp)
          have x1 := HX.out.cell 1 (by simp)
          simp only [List.getElem_cons_zero, List.getElem_cons_succ] at x0 x1
          have HSK : Hid (∀ W, Below W3.heap.size W3 W → W.cell? ⟨b, off + m * 6, none⟩ = some (.int .i64 x.t) ∧ W.cell? ⟨b, off + m * 6 + 1, none⟩ = some (.int .i64 x.s) ∧ W.cell? ⟨b, off + m * 6 + 4, none⟩ = some (.int .i64 x.rune) ∧ W.cell? ⟨g, 0, none⟩ = some (.int .i64 x.t) ∧ W.cell? ⟨g, 1, none⟩ = some (.int .i64 x.s)) := Lib.hid (fun W h => ⟨by rw [(grew HB.out h).cell (p := ⟨b, off + m * 6, none⟩) hbl]; exact q0, by rw [(grew HB.out h).cell (p := ⟨b, off + m * 6 + 1, none⟩) hbl]; exact q1, by rw [(grew HB.out h).cell (p := ⟨b, off + m * 6 + 4, none⟩) hbl]; exact q4, by rw [h.cell (p := ⟨g, 0, none⟩) HX.out.lt]; exact x0, by rw [h.cell (p := ⟨g, 1, none⟩) HX.out.lt]; exact x1⟩)
          have hq : ∀ W, (binOp .eql 24 (.agg #[.int .i64 x.t, .int .i64 x.s]) (.agg #[.int .i64 x.t, .int .i64 x.s])).run Try.prog W = .ok (.bool true) W := fun W => by rw [eql_el]; exact congrArg (fun b => Result.ok (Value.bool b) W) (decide_eq_true rfl)
          have HT := Lib.hid (fun W (h : Below W3.heap.size W3 W) => view_Text _ ms W (HMS.out.below h) (by omega))
          have HSE := Lib.hid (fun W (h : Below W3.heap.size W3 W) => view_Seen _ ms W (HMS.out.below h) (by omega))
          rw [HAL.out.1] at HT
          rw [HAL.out.2.1] at HSE
          have hsame : ((Utf8.encode x.rune).toList == (Utf8.encode x.rune).toList) = true := str_same rfl
          have HSG := Lib.hid (fun W => ref12_Sign x.rune W)
          generalize Utf8.encode x.rune = T at *
          clear q0 q1 q4 x0 x1 HAL
          go_region_held3 (fun W => W.cell? ⟨b, off + m * 6, none⟩ = some (.int .i64 x.t) ∧ W.cell? ⟨b, off + m * 6 + 1, none⟩ = some (.int .i64 x.s) ∧ W.cell? ⟨b, off + m * 6 + 4, none⟩ = some (.int .i64 x.rune) ∧ W.cell? ⟨g, 0, none⟩ = some (.int .i64 x.t) ∧ W.cell? ⟨g, 1, none⟩ = some (.int .i64 x.s))
            (first | exact HSK.out _ (grew_drew _) | exact HSK.out _ (Below.refl _ _) | exact HSK.out _ HB1.out | exact HSK.out _ HB2.out | exact HSK.out _ HB3.out | exact HSK.out _ HB4.out | exact HSK.out _ HB5.out | exact HSK.out _ (grew (grew_drew _) (grew_alloc _ _)) | exact HSK.out _ (grew HB1.out (grew_alloc _ _)) | exact HSK.out _ (grew HB2.out (grew_alloc _ _)) | exact HSK.out _ (grew HB3.out (grew_alloc _ _)))
            (first
              | (go_at_call 19; refine (HT.out _ (grew_drew _)).mono ?_; rintro e wa ⟨rfl, hb⟩; have HB1 := Lib.hid (grew (grew_drew _) hb); clear hb)
              | (go_at_call 22; refine (HSG.out _).mono ?_; rintro e wb ⟨rfl, hb⟩; have HB2 := Lib.hid (grew HB1.out hb); clear hb)
              | (go_at_call 17; refine (HSE.out _ HB2.out).mono ?_; rintro e wc ⟨rp, rfl, ho, hb⟩; have HB3 := Lib.hid (grew HB2.out hb); have HSC := Lib.hid ho.slice; obtain ⟨pa, pc, e5⟩ := ho.slice.shape; subst e5; have HWA := Lib.hid (And.intro (grew HB3.out (grew_alloc wc (.cells #[.int .i64 (m : Int)] 3))) (And.intro (HSC.out.below (grew_alloc wc (.cells #[.int .i64 (m : Int)] 3))) (one_intv wc m))); clear hb ho)
              | (go_at_call 17; refine (HSE.out _ (grew HB2.out (grew_alloc wb (.cells #[.int .i64 (m : Int)] 3)))).mono ?_; rintro e wc ⟨rp, rfl, ho, hb⟩; have HB3 := Lib.hid (grew (grew HB2.out (grew_alloc wb (.cells #[.int .i64 (m : Int)] 3))) hb); have HSC := Lib.hid ho.slice; obtain ⟨pa, pc, e5⟩ := ho.slice.shape; subst e5; have HWA := Lib.hid (And.intro HB3.out (And.intro HSC.out ((one_intv wb m).below hb))); clear hb ho)
              | (go_at_call 16; refine (ref01_Same _ _ [(m : Int)] [(m : Int)] _ HWA.out.2.1 HWA.out.2.2 (by simp) (by simp)).mono ?_; rintro e wd ⟨rfl, hb⟩; rw [decide_eq_true (Eq.refl [(m : Int)])]; have HB4 := Lib.hid (grew HWA.out.1 hb); clear hb)
              | (go_at_call 9; refine (law12_live _).mono ?_; rintro e we ⟨rfl, hb⟩; have HB5 := Lib.hid (grew HB4.out hb); clear hb))
          all_goals
            go_wp2
            go_ret
            exact ⟨rfl, grew HB.out HB5.out⟩
    · by_cases h0 : i < 0
      · have d1 : decide (i < 0) = true := decide_eq_true h0
        clear hr
        go_wp2_with fail
        refine (law12_live _).mono ?_
        rintro e w10 ⟨rfl, hb⟩
        have HBE := Lib.hid hb
        clear hb
        go_wp2
        go_ret
        exact ⟨rfl, HBE.out⟩
      · have d1 : decide (i < 0) = false := decide_eq_false h0
        have d2 : decide ((es.length : Int) ≤ i) = true := decide_eq_true (by omega)
        clear hr
        go_wp2_with fail
        refine (law12_live _).mono ?_
        rintro e w10 ⟨rfl, hb⟩
        have HBE := Lib.hid hb
        clear hb
        go_wp2
        go_ret
        exact ⟨rfl, HBE.out⟩
  · rintro e w1 ⟨rfl, rfl⟩
    rw [decide_eq_false hfew]
    clear hfew hm HFEW
    go_wp2_with fail
    refine (law12_live _).mono ?_
    rintro e w9 ⟨rfl, hb⟩
    have HBE := Lib.hid hb
    clear hb
    go_wp2
    go_ret
    exact ⟨rfl, HBE.out⟩
end Go.Proofs.Ytmelaidbicaagaa
