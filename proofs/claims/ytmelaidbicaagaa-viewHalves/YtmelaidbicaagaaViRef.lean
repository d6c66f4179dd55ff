/- The element ahead of a place. -/
import Derived.Test.YtmelaidbicaagaaViSeen
namespace Go.Proofs.Ytmelaidbicaagaa
open Go.RowKit Go.Shelf
attribute [local go_sem] Oper.semAt_some
set_option linter.unusedVariables false

/-- A block that holds just these cells, behind a turn of what is no cells. -/
theorem holds_own {β : Type} (B : Nat) (t : TypeId) (f : β → List Value) : Own (fun s W => Holds W B (f s) t) := fun s X Y row hs hg hrow => by
  have hlt := Holds.lt hs
  unfold Holds at hs ⊢
  show Y.heap[B]? = _
  rw [hg.block B hlt (fun e => ?_)]
  · exact hs
  · obtain ⟨o, ho, hc⟩ := hrow B e.symm
    rw [show X.heap[B]? = _ from hs] at ho
    cases ho
    cases hc

/-- What Ref tells. -/
def View.refT (es : List El) (i : Int) : Int × Int := if 1 ≤ i then (match (View.seen es)[i.toNat - 1]? with | some x => (x.2.t, x.2.s) | none => (0, 0)) else (0, 0)
def View.refE (es : List El) (i : Int) : Int := if 0 ≤ i ∧ i ≤ (View.seen es).length then 0 else 1

theorem View.ref_hit {es : List El} {pre : List (Nat × El)} {x : Nat × El} {i : Int} (hp : pre ++ [x] <+: View.seen es) (hi : (pre.length : Int) + 1 = i) : View.refT es i = (x.2.t, x.2.s) ∧ View.refE es i = 0 := by
  obtain ⟨r, hr⟩ := hp
  have h1 : (View.seen es)[i.toNat - 1]? = some x := by
    rw [← hr, show i.toNat - 1 = pre.length by omega]
    simp
  have h2 : i ≤ (View.seen es).length := by rw [← hr]; simp; omega
  unfold View.refT View.refE
  rw [h1, if_pos (by omega), if_pos (by omega)]
  exact ⟨rfl, rfl⟩
theorem View.ref_miss {es : List El} {i : Int} (h0 : i ≠ 0) (hi : ¬ (1 ≤ i ∧ i ≤ (View.seen es).length)) : View.refT es i = (0, 0) ∧ View.refE es i = 1 := by
  unfold View.refT View.refE
  refine ⟨?_, if_neg (by omega)⟩
  split
  · rw [List.getElem?_eq_none (by omega)]
  · rfl
theorem View.ref_zero (es : List El) : View.refT es 0 = (0, 0) ∧ View.refE es 0 = 0 := by
  unfold View.refT View.refE
  exact ⟨if_neg (by omega), if_pos (by omega)⟩
theorem Holds.alloc {w : World} {g : Nat} {cs : List Value} {t : TypeId} (h : Holds w g cs t) (o : Obj) : Holds (w.alloc o) g cs t := h.keep (Keep.alloc Non w o) (fun h => h)
theorem Holds.putObj {w : World} {g : Nat} {cs : List Value} {t : TypeId} (h : Holds w g cs t) {l : Nat} {o : Obj} (o' : Obj) (hl : w.heap[l]? = some o) (ho : o.isCells = false) : Holds (w.putObj l o') g cs t :=
  holds_own g t (fun (_ : Unit) => cs) () w _ _ h (grownBy_putObj' w l o') (fun r e => by cases e; exact ⟨_, hl, ho⟩)
theorem Holds.other {w : World} {g : Nat} {cs : List Value} {t : TypeId} (h : Holds w g cs t) {B j : Nat} (hne : g ≠ B) (u : Value) : Holds (w.setCell ⟨B, j, none⟩ u) g cs t := h.keep (Keep.setCell w B j u) (fun e => hne e)

set_option maxRecDepth 100000 in
set_option maxHeartbeats 2000000 in
theorem view_Ref (v : Value) (es : List El) (i : Int) (w : World) (hv : SliceG 6 El.cells w v es) (hm : es.length ≤ maxLen) :
    Calls Try.prog 10 #[v, .int .i64 i] w fun e w' => e = .returned (.tuple #[.agg #[.int .i64 (View.refT es i).1, .int .i64 (View.refT es i).2], .int .i64 (View.refE es i)]) ∧ Below w.heap.size w w' := by
  have HV := Lib.hid hv
  obtain ⟨va, vc, rfl⟩ := hv.shape
  clear hv
  refine (callsIn_wide (n := 3)).1 ?_
  refine callsIn_of_wp_marks Try.func10 rfl trivial ?_ rfl
  simp only [Try.ntmps10, List.size_toArray, List.length_cons, List.length_nil, Nat.reduceAdd, Nat.reduceSub, Array.replicate_succ, Array.replicate_zero, List.push_toArray, List.append_toArray, List.nil_append, List.cons_append]
  by_cases h0 : i = 0
  · subst h0
    have HB0 : Hid (Below w.heap.size w (((w.alloc (.cells #[.int .i64 0] 3)).alloc (.cells #[.int .i64 0, .int .i64 0] 24)).alloc (.cells #[.int .i64 0] 29))) := Lib.hid ((((Below.refl _ w).alloc (Nat.le_refl _) _).alloc (by simp) _).alloc (by simp; omega) _)
    gi_wp2
    rw [(View.ref_zero es).1, (View.ref_zero es).2]
    exact ⟨_, by simp [results, Try.results10, go_sem], rfl, HB0.out⟩
  · have d1 : (i == 0) = false := by simp [h0]
    have d2 : decide (i = 0) = false := decide_eq_false h0
    gi_wp2_with (refine ⟨trivial, ?_⟩; gi_at_call 24; refine (seen_in 2 _ _ _ _).mono ?_; rintro e w' ⟨rfl, rfl⟩)
    have b1 := (((Holds.new w [.int .i64 i] 3).alloc (.cells #[.int .i64 0, .int .i64 0] 24)).alloc (.cells #[.int .i64 0] 29)).alloc (.cells #[.int .i64 0] 3)
    have b2 := ((Holds.new (w.alloc (.cells #[.int .i64 i] 3)) [.int .i64 0, .int .i64 0] 24).alloc (.cells #[.int .i64 0] 29)).alloc (.cells #[.int .i64 0] 3)
    have b3 := (Holds.new ((w.alloc (.cells #[.int .i64 i] 3)).alloc (.cells #[.int .i64 0, .int .i64 0] 24)) [.int .i64 0] 29).alloc (.cells #[.int .i64 0] 3)
    have b4 := Holds.new (((w.alloc (.cells #[.int .i64 i] 3)).alloc (.cells #[.int .i64 0, .int .i64 0] 24)).alloc (.cells #[.int .i64 0] 29)) [.int .i64 0] 3
    have hB0 : Below w.heap.size w ((((w.alloc (.cells #[.int .i64 i] 3)).alloc (.cells #[.int .i64 0, .int .i64 0] 24)).alloc (.cells #[.int .i64 0] 29)).alloc (.cells #[.int .i64 0] 3)) := ((((Below.refl _ w).alloc (Nat.le_refl _) _).alloc (by simp) _).alloc (by simp; omega) _).alloc (by simp; omega) _
    have hsz : ((((w.alloc (.cells #[.int .i64 i] 3)).alloc (.cells #[.int .i64 0, .int .i64 0] 24)).alloc (.cells #[.int .i64 0] 29)).alloc (.cells #[.int .i64 0] 3)).heap.size = w.heap.size + 4 := by simp
    simp only [World.size_alloc] at b2 b3 b4
    obtain ⟨W0, hW0⟩ : ∃ W0, (((w.alloc (.cells #[.int .i64 i] 3)).alloc (.cells #[.int .i64 0, .int .i64 0] 24)).alloc (.cells #[.int .i64 0] 29)).alloc (.cells #[.int .i64 0] 3) = W0 := ⟨_, rfl⟩
    rw [hW0] at b1 b2 b3 b4 hB0 hsz ⊢
    clear hW0
    have b5 := Boxed.new W0 22 (.slice va es.length vc)
    rw [hsz] at b5
    have hB1 : Below w.heap.size w (W0.alloc (.cells #[.slice va es.length vc] 22)) := hB0.alloc hB0.size _
    have hs1 : (W0.alloc (.cells #[.slice va es.length vc] 22)).heap.size = w.heap.size + 5 := by rw [World.size_alloc, hsz]
    have c1 := b1.alloc (.cells #[.slice va es.length vc] 22)
    have c2 := b2.alloc (.cells #[.slice va es.length vc] 22)
    have c3 := b3.alloc (.cells #[.slice va es.length vc] 22)
    have c4 := b4.alloc (.cells #[.slice va es.length vc] 22)
    clear b1 b2 b3 b4 hB0 hsz
    obtain ⟨W1, hW1⟩ : ∃ W1, W0.alloc (.cells #[.slice va es.length vc] 22) = W1 := ⟨_, rfl⟩
    rw [hW1] at c1 c2 c3 c4 b5 hB1 hs1 ⊢
    clear hW1
    refine wpIn_rangeFunc_ownH (α := Nat × El) (n := 3) rfl (by decide) (gf := 27) (lb := #[.pointer (some ⟨w.heap.size + 1 + 1 + 1 + 1, 0, none⟩)]) rfl trivial (enters_of Try.func27 (by kernel_rfl) rfl)
      (seen_stops 2 (by decide) (w.heap.size + 1 + 1 + 1 + 1) w W1 _ es HV.out hm hB1 (by omega) b5.cell) belowK_t (belowK_b (by omega)) (Below.refl _ _) (fun _ => rfl)
      (fun (pre : List (Nat × El)) W => ((Holds W w.heap.size [.int .i64 i] 3 ∧ Holds W (w.heap.size + 1) [.int .i64 0, .int .i64 0] 24) ∧ (Holds W (w.heap.size + 1 + 1) [.int .i64 0] 29 ∧ Holds W (w.heap.size + 1 + 1 + 1) [.int .i64 (pre.length : Nat)] 3)) ∧ (¬ (1 ≤ i ∧ i ≤ pre.length)) ∧ Below w.heap.size w W)
      (fun c (pre : List (Nat × El)) W => (∃ p x, pre = p ++ [x] ∧ (p.length : Int) + 1 = i ∧ c = .ret ∧ Holds W (w.heap.size + 1) [.int .i64 x.2.t, .int .i64 x.2.s] 24 ∧ Holds W (w.heap.size + 1 + 1) [.int .i64 0] 29) ∧ Below w.heap.size w W)
      (OwnFrom.and (OwnFrom.and (OwnFrom.and (Own.from (holds_own _ _ (fun _ => [.int .i64 i])) _) (Own.from (holds_own _ _ (fun _ => [.int .i64 0, .int .i64 0])) _)) (OwnFrom.and (Own.from (holds_own _ _ (fun _ => [.int .i64 0])) _) (Own.from (holds_own _ _ (fun (pre : List (Nat × El)) => [.int .i64 (pre.length : Nat)])) _))) (OwnFrom.and (fun _ _ _ _ h _ _ => h) (ownFrom_below (Nat.le_refl _) (by omega))))
      (fun c => OwnFrom.and (fun pre A B row hs hg hr => by
        obtain ⟨p, x, k1, k2, k3, k4, k5⟩ := hs
        exact ⟨p, x, k1, k2, k3, holds_own _ _ (fun (_ : Unit) => _) () A B row k4 hg (fun r e => (hr r e).2), holds_own _ _ (fun (_ : Unit) => _) () A B row k5 hg (fun r e => (hr r e).2)⟩) (ownFrom_below (Nat.le_refl _) (by omega)))
      ⟨⟨⟨c1, c2⟩, ⟨c3, c4⟩⟩, by simp; omega, hB1⟩
      (fun x a' W => ∃ Bx, w.heap.size + 3 < Bx ∧ Holds W Bx x.2.cells 44 ∧ a' = { tmps := #[.slice va es.length vc, .int .i64 i, undef, .pointer (some ⟨w.heap.size, 0, none⟩), .pointer (some ⟨w.heap.size + 1, 0, none⟩), .pointer (some ⟨w.heap.size + 1 + 1, 0, none⟩), .pointer (some ⟨w.heap.size + 1 + 1 + 1, 0, none⟩), undef, .pointer (some ⟨Bx, 0, none⟩), .int .i64 i, .bool false, undef, .slice va es.length vc, .func (.func 27) #[] #[.pointer (some ⟨w.heap.size + 1 + 1 + 1 + 1, 0, none⟩)], .int .i64 (x.1 : Nat), x.2.val, undef, undef, undef, undef, undef, undef, undef, undef], defers := [] })
      (fun x a' _ X Y row hs hg hr => by obtain ⟨Bx, k1, k2, k3⟩ := hs; exact ⟨Bx, k1, holds_own Bx _ (fun (_ : Unit) => x.2.cells) () X Y row k2 hg (fun r e => (hr r e).2), k3⟩)
      ?assign ?body ?done ?stop
    case assign =>
      rintro l pre x W K ⟨⟨⟨h1, h2⟩, ⟨h3, h4⟩⟩, hne, hB⟩ hK
      obtain ⟨m, t, s, rt, rs, rune, ua, un, uc⟩ := x
      simp only [El.val]
      gi_wp2
      exact hK _ _ ((KeepsOthers.alloc _ _).from _) ((Below.refl _ W).alloc hB.size _) ⟨⟨⟨h1.alloc _, h2.alloc _⟩, ⟨h3.alloc _, h4.alloc _⟩⟩, hne, hB.alloc hB.size _⟩ ⟨W.heap.size, by have := h4.lt; omega, Holds.new W _ _, rfl⟩
    case body =>
      rintro l pre x a' W hl ⟨r, hr⟩ ⟨⟨⟨h1, h2⟩, ⟨h3, h4⟩⟩, hne, hB⟩ ⟨Bx, hBx, hX, rfl⟩ hlt
      obtain ⟨m, t, s, rt, rs, rune, ua, un, uc⟩ := x
      unfold El.cells at hX
      simp only at hX
      have HLA : Hid (∀ x : Nat × El, (((pre ++ [x]).length : Nat) : Int) = (pre.length : Int) + 1) := Lib.hid (fun x => by simp)
      have p1 := h1.cell 0 (by simp)
      have p4 := h4.cell 0 (by simp)
      have f4 := h4.frozen 0
      simp only [List.getElem_cons_zero] at p1 p4
      have g1 := (h1.other (B := w.heap.size + 1 + 1 + 1) (j := 0) (by omega) (.int .i64 ((pre.length : Int) + 1))).cell 0 (by simp)
      have gX := hX.other (B := w.heap.size + 1 + 1 + 1) (j := 0) (by omega) (.int .i64 ((pre.length : Int) + 1))
      have g2 := h2.other (B := w.heap.size + 1 + 1 + 1) (j := 0) (by omega) (.int .i64 ((pre.length : Int) + 1))
      have g3 := h3.other (B := w.heap.size + 1 + 1 + 1) (j := 0) (by omega) (.int .i64 ((pre.length : Int) + 1))
      have g4 := h4.set 0 (.int .i64 ((pre.length : Int) + 1)) (by simp)
      have q4 := g4.cell 0 (by simp)
      have x0 := gX.cell 0 (by simp)
      have x1 := gX.cell 1 (by simp)
      have f20 := g2.frozen 0
      have f21 := g2.frozen 1
      simp only [List.getElem_cons_zero, List.getElem_cons_succ, List.set_cons_zero] at g1 q4 x0 x1
      have gB := hB.setCell (p := ⟨w.heap.size + 1 + 1 + 1, 0, none⟩) (by simp; omega) (.int .i64 ((pre.length : Int) + 1))
      have gBW := (Below.refl w.heap.size W).setCell (p := ⟨w.heap.size + 1 + 1 + 1, 0, none⟩) (by simp; omega) (.int .i64 ((pre.length : Int) + 1))
      have gK := KeepsOthers.setCell W ⟨w.heap.size + 1 + 1 + 1, 0, none⟩ (.int .i64 ((pre.length : Int) + 1))
      unfold maxLen at hm
      by_cases he : (pre.length : Int) + 1 = i
      · subst he
        have r1 := g2.set 0 (.int .i64 t) (by simp)
        have r2 := r1.set 1 (.int .i64 s) (by simp)
        have r3 := ((g3.other (B := w.heap.size + 1) (j := 0) (by omega) (.int .i64 t)).other (B := w.heap.size + 1) (j := 1) (by omega) (.int .i64 s))
        have f3 := r3.frozen 0
        have w20 := g2.cell 0 (by simp)
        have w21 := r1.cell 1 (by simp)
        have wf21 := r1.frozen 1
        have w3 := r3.cell 0 (by simp)
        simp only [List.getElem_cons_zero, List.getElem_cons_succ, List.set_cons_zero] at w20 w21 w3
        gi_wp2
        exact ⟨(((gK.trans (KeepsOthers.setCell _ _ _)).trans (KeepsOthers.setCell _ _ _)).trans (KeepsOthers.setCell _ _ _)).from _, ⟨pre, _, rfl, rfl, rfl, r2.other (by omega) _, r3.set 0 _ (by simp)⟩, ((gB.setCell (p := ⟨w.heap.size + 1, 0, none⟩) (by simp) _).setCell (p := ⟨w.heap.size + 1, 1, none⟩) (by simp) _).setCell (p := ⟨w.heap.size + 1 + 1, 0, none⟩) (by simp; omega) _⟩
      · have e1 : (((pre.length : Int) + 1) == i) = false := by simp [he]
        have e2 : decide (((pre.length : Int) + 1) = i) = false := decide_eq_false he
        gi_wp2
        refine ⟨gK.from _, gBW, ⟨⟨⟨h1.other (by omega) _, g2⟩, ⟨g3, ?_⟩⟩, ?_, gB⟩⟩
        · rw [HLA.out]
          exact g4
        · rw [List.length_append]
          simp only [List.length_cons, List.length_nil]
          omega
    case done =>
      rintro D ys W hD rfl ⟨⟨⟨h1, h2⟩, ⟨h3, h4⟩⟩, hne, hB⟩ hK
      have f20 := h2.frozen 0
      have f21 := h2.frozen 1
      have p20 := h2.cell 0 (by simp)
      have p21 := h2.cell 1 (by simp)
      have r2 := (h2.set 0 (.int .i64 0) (by simp)).set 1 (.int .i64 0) (by simp)
      have r3 := ((h3.other (B := w.heap.size + 1) (j := 0) (by omega) (.int .i64 0)).other (B := w.heap.size + 1) (j := 1) (by omega) (.int .i64 0))
      have f3 := r3.frozen 0
      have p3 := r3.cell 0 (by simp)
      have r1 := h2.set 0 (.int .i64 0) (by simp)
      have w21 := r1.cell 1 (by simp)
      have wf21 := r1.frozen 1
      simp only [List.getElem_cons_zero, List.getElem_cons_succ, List.set_cons_zero] at p20 p21 p3 w21
      have z2 := r2.other (B := w.heap.size + 1 + 1) (j := 0) (by omega) (.int .i64 1)
      have z3 := r3.set 0 (.int .i64 1) (by simp)
      have HK : Hid (KeepsOthers W (((W.setCell ⟨w.heap.size + 1, 0, none⟩ (.int .i64 0)).setCell ⟨w.heap.size + 1, 1, none⟩ (.int .i64 0)).setCell ⟨w.heap.size + 1 + 1, 0, none⟩ (.int .i64 1))) := Lib.hid (((KeepsOthers.setCell _ _ _).trans (KeepsOthers.setCell _ _ _)).trans (KeepsOthers.setCell _ _ _))
      have HB2 : Hid (Below w.heap.size w (((W.setCell ⟨w.heap.size + 1, 0, none⟩ (.int .i64 0)).setCell ⟨w.heap.size + 1, 1, none⟩ (.int .i64 0)).setCell ⟨w.heap.size + 1 + 1, 0, none⟩ (.int .i64 1))) := Lib.hid (((hB.setCell (p := ⟨w.heap.size + 1, 0, none⟩) (by simp) _).setCell (p := ⟨w.heap.size + 1, 1, none⟩) (by simp) _).setCell (p := ⟨w.heap.size + 1 + 1, 0, none⟩) (by simp; omega) _)
      have HZ2 := Lib.hid z2
      have HZ3 := Lib.hid z3
      clear z2 z3 r2
      gi_wp2
      have hK' := HK.out.same D _ hK rfl
      refine ⟨by simp, .inl ⟨_, _, rfl, run_takeDeferred hK', ?_⟩⟩
      have y2 := HZ2.out.putObj (.deferred none) hK' rfl
      have y3 := HZ3.out.putObj (.deferred none) hK' rfl
      have y20 := y2.cell 0 (by simp)
      have y21 := y2.cell 1 (by simp)
      have y30 := y3.cell 0 (by simp)
      simp only [List.getElem_cons_zero, List.getElem_cons_succ, List.set_cons_zero, List.set_cons_succ] at y20 y21 y30
      refine ⟨.tuple #[.agg #[.int .i64 (View.refT es i).1, .int .i64 (View.refT es i).2], .int .i64 (View.refE es i)], ?_, rfl, HB2.out.trans (belowK_b (w := w) (Nat.le_refl _) _ D _ _ (by omega) hK' rfl rfl)⟩
      · rw [(View.ref_miss h0 hne).1, (View.ref_miss h0 hne).2]
        simp [results, Try.results10, go_sem, y20, y21, y30]
    case stop =>
      rintro D c pre W hD hpre ⟨⟨p, x, rfl, hi, rfl, h2, h3⟩, hB⟩ hK
      gi_wp2
      refine ⟨by simp, .inl ⟨_, _, rfl, run_takeDeferred hK, ?_⟩⟩
      have y2 := h2.putObj (.deferred none) hK rfl
      have y3 := h3.putObj (.deferred none) hK rfl
      have y20 := y2.cell 0 (by simp)
      have y21 := y2.cell 1 (by simp)
      have y30 := y3.cell 0 (by simp)
      simp only [List.getElem_cons_zero, List.getElem_cons_succ] at y20 y21 y30
      refine ⟨.tuple #[.agg #[.int .i64 (View.refT es i).1, .int .i64 (View.refT es i).2], .int .i64 (View.refE es i)], ?_, rfl, hB.trans (belowK_b (w := w) (Nat.le_refl _) _ D _ _ (by omega) hK rfl rfl)⟩
      · rw [(View.ref_hit hpre hi).1, (View.ref_hit hpre hi).2]
        simp [results, Try.results10, go_sem, y20, y21, y30]
end Go.Proofs.Ytmelaidbicaagaa
