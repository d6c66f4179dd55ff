/- The elements between two places. -/
import Derived.Test.YtmelaidbicaagaaViRef
import Derived.BigQuiet
import Derived.Deep.QuietTactic
import Derived.Deep.RegionHeld3
namespace Go.Proofs.Ytmelaidbicaagaa
open Go.RowKit Go.Shelf
attribute [local go_sem] Oper.semAt_some
set_option linter.unusedVariables false

/-- The Ids in a row of cells. -/
def elCells : List (Nat × El) → List Value
  | [] => []
  | x :: xs => .int .i64 x.2.t :: .int .i64 x.2.s :: elCells xs
theorem elCells_app : ∀ (xs ys : List (Nat × El)), elCells (xs ++ ys) = elCells xs ++ elCells ys
  | [], _ => rfl
  | x :: xs, ys => by simp [elCells, elCells_app xs ys]
theorem elCells_len : ∀ (xs : List (Nat × El)), (elCells xs).length = xs.length * 2
  | [] => rfl
  | x :: xs => by simp [elCells, elCells_len xs]; omega
theorem info_idv : (Try.prog.info? 24).map (fun i => (i.zero, i.size, i.bytes)) = some (some (.agg #[.int .i64 0, .int .i64 0]), 2, 16) := by kernel_rfl

theorem cell_two_new (W : World) (a b : Value) (e : TypeId) : ∀ j u, [a, b][j]? = some u → (W.alloc (.cells #[a, b] e)).cell? ((⟨W.heap.size, 0, none⟩ : Addr).add j) = some u := fun j u hu => by
  rw [show (⟨W.heap.size, 0, none⟩ : Addr).add j = ⟨W.heap.size, j, none⟩ from by unfold Addr.add; split <;> simp_all, cell_of_row _ _ _ _ _ _ (heap_alloc_new _ _)]
  simpa using hu

/-- Those between two places. -/
def View.cut (l : List (Nat × El)) (f t : Nat) : List (Nat × El) := (l.take t).drop f
theorem View.cut_in {l : List (Nat × El)} {f t : Nat} {x : Nat × El} (h1 : f ≤ l.length) (h2 : l.length < t) : View.cut (l ++ [x]) f t = View.cut l f t ++ [x] := by
  unfold View.cut
  rw [List.take_of_length_le (by simp; omega), List.take_of_length_le (by omega), List.drop_append_of_le_length h1]
theorem View.cut_out {l : List (Nat × El)} {f t : Nat} {x : Nat × El} (h : ¬ (f ≤ l.length ∧ l.length < t)) : View.cut (l ++ [x]) f t = View.cut l f t := by
  unfold View.cut
  by_cases h1 : l.length < t
  · rw [List.take_of_length_le (by simp; omega), List.take_of_length_le (by omega), List.drop_eq_nil_of_le (by simp; omega), List.drop_eq_nil_of_le (by omega)]
  · rw [List.take_append_of_le_length (by omega)]
theorem View.cut_len (l : List (Nat × El)) (f t : Nat) : (View.cut l f t).length ≤ l.length := by
  unfold View.cut
  rw [List.length_drop, List.length_take]
  omega
/-- What Range tells. -/
def View.rangeE (es : List El) (f t : Int) : Int := if 0 ≤ f ∧ f ≤ t ∧ t ≤ (View.seen es).length then 0 else 1
def View.rangeL (es : List El) (f t : Int) : List (Nat × El) := if 0 ≤ f ∧ f ≤ t ∧ t ≤ (View.seen es).length then View.cut (View.seen es) f.toNat t.toNat else []

set_option maxRecDepth 100000 in
set_option maxHeartbeats 4000000 in
theorem view_Range (v : Value) (es : List El) (f t : Int) (w : World) (hv : SliceG 6 El.cells w v es) (hm : es.length ≤ 1000000000) :
    Calls Try.prog 14 #[v, .int .i64 f, .int .i64 t] w fun e w' => ∃ r, e = .returned (.tuple #[r, .int .i64 (View.rangeE es f t)]) ∧ w'.ownsRow w.heap.size 24 2 r (View.rangeL es f t).length (elCells (View.rangeL es f t)) ∧ Below w.heap.size w w' := by
  have HV := Lib.hid hv
  obtain ⟨va, vc, rfl⟩ := hv.shape
  clear hv
  have HB0 : Hid (Below w.heap.size w ((w.alloc (.cells #[.int .i64 f] 3)).alloc (.cells #[.int .i64 t] 3))) := Lib.hid (((Below.refl _ w).alloc (Nat.le_refl _) _).alloc (by simp) _)
  have b0 := (Boxed.new w 3 (.int .i64 f)).alloc (.cells #[.int .i64 t] 3)
  have b1 := Boxed.new (w.alloc (.cells #[.int .i64 f] 3)) 3 (.int .i64 t)
  rw [World.size_alloc] at b1
  refine (callsIn_wide (n := 3)).1 ?_
  refine callsIn_of_wp_marks Try.func14 rfl trivial ?_ rfl
  simp only [Try.ntmps14, List.size_toArray, List.length_cons, List.length_nil, Nat.reduceAdd, Nat.reduceSub, Array.replicate_succ, Array.replicate_zero, List.push_toArray, List.append_toArray, List.nil_append, List.cons_append]
  by_cases hok : 0 ≤ f ∧ f ≤ t
  · obtain ⟨a, rfl⟩ : ∃ a : Nat, f = a := ⟨f.toNat, by omega⟩
    obtain ⟨b, rfl⟩ : ∃ b : Nat, t = b := ⟨t.toNat, by omega⟩
    have hab : a ≤ b := by omega
    have d1 : decide ((a : Int) < 0) = false := decide_eq_false (by omega)
    have d2 : decide ((b : Int) < (a : Int)) = false := decide_eq_false (by omega)
    have d3 : decide (b < a) = false := decide_eq_false (by omega)
    have HLA := Lib.hid (fun W (h : Below w.heap.size w W) => view_last _ es W (HV.out.below h) (by unfold maxLen; omega))
    clear hok
    have y0 := b0.cell
    have y1 := b1.cell
    have l0 := b0.lt
    have l1 := b1.lt
    by_cases hbl : (View.seen es).length < b
    · have HE1 : Hid (View.rangeE es a b = 1 ∧ View.rangeL es a b = []) := Lib.hid ⟨if_neg (by omega), if_neg (by omega)⟩
      have d4 : decide (((View.seen es).length : Int) < (b : Int)) = true := decide_eq_true (by omega)
      have d5 : decide ((View.seen es).length < b) = true := decide_eq_true hbl
      generalize (View.seen es).length = q at HLA d4 d5 hbl
      gi_wp2
      refine wpIn_wide.2 ?_
      generalize ((w.alloc (.cells #[.int .i64 (a : Int)] 3)).alloc (.cells #[.int .i64 (b : Int)] 3)) = W0 at *
      go_region_held3 (fun w' => w'.cell? ⟨w.heap.size, 0, none⟩ = some (.int .i64 a) ∧ w'.cell? ⟨w.heap.size + 1, 0, none⟩ = some (.int .i64 b))
        (first | exact ⟨y0, y1⟩ | exact ⟨y0', y1'⟩)
        (first
          | (go_at_call 25; refine (HLA.out _ (grew HB0.out (grew_drew _))).mono ?_; rintro e w2 ⟨rfl, hb2⟩; have HB2 := Lib.hid (grew (grew_drew W0) hb2); have y0' := (HB2.out.cell (p := ⟨w.heap.size, 0, none⟩) l0).trans y0; have y1' := (HB2.out.cell (p := ⟨w.heap.size + 1, 0, none⟩) l1).trans y1; clear hb2))
      gi_wp2
      refine ⟨_, results_tmp2 rfl _ _ _, _, by rw [HE1.out.1]; rfl, ?_, grew HB0.out HB2.out⟩
      rw [HE1.out.2]
      exact World.ownsRow_nil _ _ _ _
    · have hle : b ≤ (View.seen es).length := by omega
      have HE1 : Hid (View.rangeE es a b = 0 ∧ View.rangeL es a b = View.cut (View.seen es) a b) := Lib.hid ⟨if_pos (by omega), by unfold View.rangeL; rw [if_pos (by omega), Int.toNat_natCast, Int.toNat_natCast]⟩
      have d4 : decide (((View.seen es).length : Int) < (b : Int)) = false := decide_eq_false (by omega)
      have d5 : decide ((View.seen es).length < b) = false := decide_eq_false hbl
      generalize (View.seen es).length = q at HLA d4 d5 hle
      clear hbl
      gi_wp2
      refine wpIn_wide.2 ?_
      generalize ((w.alloc (.cells #[.int .i64 (a : Int)] 3)).alloc (.cells #[.int .i64 (b : Int)] 3)) = W0 at *
      go_region_held3 (fun w' => w'.cell? ⟨w.heap.size, 0, none⟩ = some (.int .i64 a) ∧ w'.cell? ⟨w.heap.size + 1, 0, none⟩ = some (.int .i64 b))
        (first | exact ⟨y0, y1⟩ | exact ⟨y0', y1'⟩)
        (first
          | (go_at_call 25; refine (HLA.out _ (grew HB0.out (grew_drew _))).mono ?_; rintro e w2 ⟨rfl, hb2⟩; have HB2 := Lib.hid (grew (grew_drew W0) hb2); have y0' := (HB2.out.cell (p := ⟨w.heap.size, 0, none⟩) l0).trans y0; have y1' := (HB2.out.cell (p := ⟨w.heap.size + 1, 0, none⟩) l1).trans y1; clear hb2))
      gi_wp2_with (refine ⟨trivial, ?_⟩; gi_at_call 24; refine (seen_in 2 _ _ _ _).mono ?_; rintro e w' ⟨rfl, rfl⟩)
      have e0 : Boxed w2 w.heap.size 3 (.int .i64 (a : Int)) := (HB2.out.block w.heap.size l0).trans b0
      have e1 : Boxed w2 (w.heap.size + 1) 3 (.int .i64 (b : Int)) := (HB2.out.block (w.heap.size + 1) l1).trans b1
      have hB2 := grew HB0.out HB2.out
      have hl2 : w.heap.size + 1 < w2.heap.size := e1.lt
      have f0 := ((e0.alloc (.cells #[.slice none 0 0] 34)).alloc (.cells #[.int .i64 0] 3)).alloc (.cells #[.slice va es.length vc] 22)
      have f1 := ((e1.alloc (.cells #[.slice none 0 0] 34)).alloc (.cells #[.int .i64 0] 3)).alloc (.cells #[.slice va es.length vc] 22)
      have f2 := ((Boxed.new w2 34 (.slice none 0 0)).alloc (.cells #[.int .i64 0] 3)).alloc (.cells #[.slice va es.length vc] 22)
      have f3 := (Boxed.new (w2.alloc (.cells #[.slice none 0 0] 34)) 3 (.int .i64 0)).alloc (.cells #[.slice va es.length vc] 22)
      have f4 := Boxed.new ((w2.alloc (.cells #[.slice none 0 0] 34)).alloc (.cells #[.int .i64 0] 3)) 22 (.slice va es.length vc)
      have hB1 : Below w.heap.size w (((w2.alloc (.cells #[.slice none 0 0] 34)).alloc (.cells #[.int .i64 0] 3)).alloc (.cells #[.slice va es.length vc] 22)) := ((hB2.alloc hB2.size _).alloc (by have := hB2.size; simp; omega) _).alloc (by have := hB2.size; simp; omega) _
      have hs1 : (((w2.alloc (.cells #[.slice none 0 0] 34)).alloc (.cells #[.int .i64 0] 3)).alloc (.cells #[.slice va es.length vc] 22)).heap.size = w2.heap.size + 3 := by simp
      simp only [World.size_alloc] at f3 f4
      clear e0 e1 y0 y1 y0' y1' b0 b1 HB0 HB2 HLA l0 l1
      generalize ((w2.alloc (.cells #[.slice none 0 0] 34)).alloc (.cells #[.int .i64 0] 3)).alloc (.cells #[.slice va es.length vc] 22) = W1 at *
      generalize w2.heap.size = B at *
      obtain ⟨i0, hi, hz0, hz1, hz2⟩ := info_parts info_idv
      refine wpIn_rangeFunc_ownH (α := Nat × El) (n := 3) rfl (by decide) (gf := 27) (lb := #[.pointer (some ⟨B + 1 + 1, 0, none⟩)]) rfl trivial (enters_of Try.func27 (by kernel_rfl) rfl)
        (seen_stops 2 (by decide) (B + 1 + 1) w W1 _ es HV.out (by unfold maxLen; omega) hB1 (by omega) f4.cell) belowK_t (belowK_b (by have := hB1.size; omega)) (Below.refl _ _) (fun _ => rfl)
        (fun (pre : List (Nat × El)) W => ((Boxed W w.heap.size 3 (.int .i64 (a : Int)) ∧ Boxed W (w.heap.size + 1) 3 (.int .i64 (b : Int))) ∧ Boxed W (B + 1) 3 (.int .i64 (pre.length : Nat))) ∧ (∃ v, Boxed W B 34 v ∧ W.ownsRow w.heap.size 24 2 v (View.cut pre a b).length (elCells (View.cut pre a b)) ∧ ∃ a n c, v = .slice a n c) ∧ Below w.heap.size w W)
        (fun _ _ _ => False)
        (OwnFrom.and (OwnFrom.and (OwnFrom.and (Own.from (boxed_own _ _ (fun _ => .int .i64 (a : Int))) _) (Own.from (boxed_own _ _ (fun _ => .int .i64 (b : Int))) _)) (Own.from (boxed_own _ _ (fun (pre : List (Nat × El)) => .int .i64 (pre.length : Nat))) _)) (OwnFrom.and (Own.from (holdsRow_own w.heap.size B 34 24 2 (fun (pre : List (Nat × El)) => (View.cut pre a b).length) (fun pre => elCells (View.cut pre a b)) (fun pre v => ∃ a n c, v = .slice a n c)) _) (ownFrom_below (Nat.le_refl _) (by have := hB1.size; omega))))
        (fun _ _ _ _ _ hs _ _ => hs)
        ⟨⟨⟨f0, f1⟩, f3⟩, ⟨_, f2, by unfold View.cut; simp only [List.take_nil, List.drop_nil]; exact World.ownsRow_nil _ _ _ _, _, _, _, rfl⟩, hB1⟩
        (fun x a' W => ∃ Bx, B + 1 < Bx ∧ Holds W Bx x.2.cells 44 ∧ a' = { tmps := #[.slice va es.length vc, .int .i64 (a : Int), .int .i64 (b : Int), undef, .pointer (some ⟨w.heap.size, 0, none⟩), .pointer (some ⟨w.heap.size + 1, 0, none⟩), .slice none 0 0, .int .i64 0, .pointer (some ⟨B, 0, none⟩), .pointer (some ⟨B + 1, 0, none⟩), undef, .pointer (some ⟨Bx, 0, none⟩), .int .i64 (a : Int), .bool false, .bool false, .int .i64 (a : Int), .int .i64 (b : Int), .bool false, .bool false, .bool false, .int .i64 (b : Int), .slice va es.length vc, .int .i64 (q : Int), .bool false, .bool false, .slice va es.length vc, .func (.func 27) #[] #[.pointer (some ⟨B + 1 + 1, 0, none⟩)], .int .i64 (x.1 : Nat), x.2.val, undef, undef, undef, undef, undef, undef, undef, undef, undef, undef, undef, undef, undef, undef, undef, undef], defers := [] })
        (fun x a' _ X Y row hs hg hr => by obtain ⟨Bx, k1, k2, k3⟩ := hs; exact ⟨Bx, k1, holds_own Bx _ (fun (_ : Unit) => x.2.cells) () X Y row k2 hg (fun r e => (hr r e).2), k3⟩)
        ?assign ?body ?done ?stop
      case assign =>
        rintro l pre x W K ⟨⟨⟨h0, h1⟩, h3⟩, ⟨v, hv, hrow, hsh⟩, hB⟩ hK
        obtain ⟨m, t, s, rt, rs, rune, ua, un, uc⟩ := x
        simp only [El.val]
        gi_wp2
        exact hK _ _ ((KeepsOthers.alloc _ _).from _) ((Below.refl _ W).alloc hB.size _) ⟨⟨⟨h0.alloc _, h1.alloc _⟩, h3.alloc _⟩, ⟨v, hv.alloc _, hrow.alloc _, hsh⟩, hB.alloc hB.size _⟩ ⟨W.heap.size, h3.lt, Holds.new W _ _, rfl⟩
      case body =>
        rintro l pre x a' W hl ⟨r, hr⟩ ⟨⟨⟨h0, h1⟩, h3⟩, ⟨v, hv, hrow, ⟨_, _, _, rfl⟩⟩, hB⟩ ⟨Bx, hBx, hX, rfl⟩ hlt
        obtain ⟨m, t, s, rt, rs, rune, ua, un, uc⟩ := x
        unfold El.cells at hX
        simp only at hX
        have HLE : Hid (∀ x : Nat × El, (((pre ++ [x]).length : Nat) : Int) = (pre.length : Int) + 1) := Lib.hid (fun x => by simp)
        have hcl := View.cut_len pre a b
        have c0 := h0.cell
        have c1 := h1.cell
        have c3 := h3.cell
        have g3 := h3.frozen
        have cv := hv.cell
        have x0 := hX.cell 0 (by simp)
        have x1 := hX.cell 1 (by simp)
        simp only [List.getElem_cons_zero, List.getElem_cons_succ] at x0 x1
        have hwB := hB.size
        by_cases hin : a ≤ pre.length ∧ pre.length < b
        · have HCI := Lib.hid (fun x => View.cut_in (x := x) hin.1 hin.2)
          have u1 : decide ((a : Int) ≤ (pre.length : Int)) = true := decide_eq_true (by omega)
          have u2 : decide ((pre.length : Int) < (b : Int)) = true := decide_eq_true (by omega)
          have u3 : decide (a ≤ pre.length) = true := decide_eq_true hin.1
          have u4 : decide (pre.length < b) = true := decide_eq_true hin.2
          gi_wp2_with (gi_at_builtin; refine wpListIn_append_own _ rfl _ _ 34 rfl w.heap.size 24 i0 (.agg #[.int .i64 0, .int .i64 0]) 2 16 Try.underlying34 hi hz0 hz1 hz2 rfl (by decide) _ _ _ rfl (hrow.alloc _) ⟨W.heap.size, 0, none⟩ 1 1 [.int .i64 t, .int .i64 s] rfl rfl (cell_two_new _ _ _ _) (by simp [Value.oneCell']) (by unfold maxLen; omega) (by omega) (by simp; omega) ?_; intro v' w1 hown' hgrow _; obtain ⟨g', cap', rfl⟩ := ownsRow_succ hown'; obtain ⟨hv1, hv2, hr2, hk2, hb2⟩ := hv.appended (by decide) hrow hwB (by omega) hown' hgrow; have hc1 := hv1.cell; have hf1 := hv1.frozen; have k3 := (((h3.alloc _).kept hgrow (h3.not_row (by decide) hrow)).other (B' := B) (by omega) (.slice (some ⟨g', 0, none⟩) ((View.cut pre a b).length + 1) cap')); have k0 := (((h0.alloc _).kept hgrow (h0.not_row (by decide) hrow)).other (B' := B) (by omega) (.slice (some ⟨g', 0, none⟩) ((View.cut pre a b).length + 1) cap')); have k1 := (((h1.alloc _).kept hgrow (h1.not_row (by decide) hrow)).other (B' := B) (by omega) (.slice (some ⟨g', 0, none⟩) ((View.cut pre a b).length + 1) cap')); have ck3 := k3.cell; have fk3 := k3.frozen)
          refine ⟨(hk2.trans (KeepsOthers.setCell _ _ _)).from _, hb2.setCell (p := ⟨B + 1, 0, none⟩) (by simp; omega) _, ⟨⟨⟨k0.other (by omega) _, k1.other (by omega) _⟩, by rw [HLE.out]; exact k3.set _⟩, ⟨_, hv2.other (by omega) _, ?_, _, _, _, rfl⟩, (hB.trans hb2).setCell (p := ⟨B + 1, 0, none⟩) (by simp; omega) _⟩⟩
          rw [HCI.out, elCells_app, List.length_append]
          exact hr2.kept (grownBy_setCell' _ (B + 1) _) (.inr (k3.not_row (by decide) hr2).symm)
        · have HCI := Lib.hid (fun x => View.cut_out (x := x) hin)
          by_cases hin2 : a ≤ pre.length
          · have u1 : decide ((a : Int) ≤ (pre.length : Int)) = true := decide_eq_true (by omega)
            have u2 : decide ((pre.length : Int) < (b : Int)) = false := decide_eq_false (by omega)
            have u3 : decide (a ≤ pre.length) = true := decide_eq_true hin2
            have u4 : decide (pre.length < b) = false := decide_eq_false (by omega)
            gi_wp2
            refine ⟨(KeepsOthers.setCell _ _ _).from _, (Below.refl _ W).setCell (p := ⟨B + 1, 0, none⟩) (by simp; omega) _, ⟨⟨⟨h0.other (by omega) _, h1.other (by omega) _⟩, by rw [HLE.out]; exact h3.set _⟩, ⟨_, hv.other (by omega) _, ?_, _, _, _, rfl⟩, hB.setCell (p := ⟨B + 1, 0, none⟩) (by simp; omega) _⟩⟩
            rw [HCI.out]
            exact hrow.kept (grownBy_setCell' _ (B + 1) _) (.inr (h3.not_row (by decide) hrow).symm)
          · have u1 : decide ((a : Int) ≤ (pre.length : Int)) = false := decide_eq_false (by omega)
            have u3 : decide (a ≤ pre.length) = false := decide_eq_false hin2
            gi_wp2
            refine ⟨(KeepsOthers.setCell _ _ _).from _, (Below.refl _ W).setCell (p := ⟨B + 1, 0, none⟩) (by simp; omega) _, ⟨⟨⟨h0.other (by omega) _, h1.other (by omega) _⟩, by rw [HLE.out]; exact h3.set _⟩, ⟨_, hv.other (by omega) _, ?_, _, _, _, rfl⟩, hB.setCell (p := ⟨B + 1, 0, none⟩) (by simp; omega) _⟩⟩
            rw [HCI.out]
            exact hrow.kept (grownBy_setCell' _ (B + 1) _) (.inr (h3.not_row (by decide) hrow).symm)
      case done =>
        rintro D ys W hD rfl ⟨⟨⟨h0, h1⟩, h3⟩, ⟨v, hv, hrow, ⟨_, _, _, rfl⟩⟩, hB⟩ hK
        have hc := hv.cell
        gi_wp2
        refine ⟨by simp, .inl ⟨_, _, rfl, run_takeDeferred hK, ?_⟩⟩
        refine ⟨_, results_tmp2 rfl _ _ _, _, by rw [HE1.out.1]; rfl, ?_, hB.trans (belowK_b (w := w) (Nat.le_refl _) W D _ _ (by have := hB1.size; omega) hK rfl rfl)⟩
        rw [HE1.out.2]
        exact ownsRow_putObj hrow (.deferred none) hK rfl
      case stop =>
        rintro D c pre W _ _ h _
        exact h.elim
  · have HE1 : Hid (View.rangeE es f t = 1 ∧ View.rangeL es f t = []) := Lib.hid ⟨if_neg (by omega), if_neg (by omega)⟩
    have y0 := b0.cell
    have y1 := b1.cell
    by_cases hf : f < 0
    · have d1 : decide (f < 0) = true := decide_eq_true hf
      gi_wp2
      refine wpIn_wide.2 ?_
      generalize ((w.alloc (.cells #[.int .i64 f] 3)).alloc (.cells #[.int .i64 t] 3)) = W0 at *
      go_quiet (fail)
      gi_wp2
      refine ⟨_, results_tmp2 rfl _ _ _, _, by rw [HE1.out.1]; rfl, ?_, grew HB0.out (grew_drewN _ _)⟩
      rw [HE1.out.2]
      exact World.ownsRow_nil _ _ _ _
    · have d1 : decide (f < 0) = false := decide_eq_false hf
      have d2 : decide (t < f) = true := decide_eq_true (by omega)
      gi_wp2
      refine wpIn_wide.2 ?_
      generalize ((w.alloc (.cells #[.int .i64 f] 3)).alloc (.cells #[.int .i64 t] 3)) = W0 at *
      go_quiet (fail)
      gi_wp2
      refine ⟨_, results_tmp2 rfl _ _ _, _, by rw [HE1.out.1]; rfl, ?_, grew HB0.out (grew_drewN _ _)⟩
      rw [HE1.out.2]
      exact World.ownsRow_nil _ _ _ _
end Go.Proofs.Ytmelaidbicaagaa
