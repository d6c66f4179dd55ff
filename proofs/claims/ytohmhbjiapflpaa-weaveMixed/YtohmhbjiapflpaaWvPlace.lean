/- Place, Elements: loops over a line's order. -/
import Derived.Test.YtohmhbjiapflpaaWvOrder
import Derived.Maps.AppendAt
import Derived.Deep.RegionHeld3
namespace Go.Proofs.Ytohmhbjiapflpaa
open Go.RowKit Go.Shelf
attribute [local go_sem] Oper.semAt_some
set_option linter.unusedVariables false

set_option maxHeartbeats 1000000 in
theorem weave_isThere {L : List Wel} {w : World} {p : Nat} (hR : LRead w p L) (x : Int × Int) (hx1 : I64 x.1) (hx2 : I64 x.2) :
    Calls Try.prog 48 #[.pointer (some ⟨p, 0, none⟩), idV x] w fun e w' => e = .returned (.bool (Weave.has L x)) ∧ Below w.heap.size w w' := by
  obtain ⟨mh, mk, hbox, _, _, hth, _⟩ := hR.maps
  have hW4 := grew_alloc w (.cells #[.int .i64 x.1, .int .i64 x.2] 24)
  have hl := hth x hx1 hx2 _ (grew hW4 (grew_drew _))
  have c0 := hbox.cell 0 (by simp)
  have hpl := hbox.lt
  simp only [List.getElem_cons_zero] at c0
  obtain ⟨x1, x2⟩ := x
  dsimp only [idV] at *
  have HTH := Lib.hid (hth (x1, x2) hx1 hx2)
  clear hth
  obtain ⟨e, he⟩ : ∃ e : Wel, (if Weave.has L (x1, x2) = true then (Weave.at' L (x1, x2)).val else Wel.val ⟨(0, 0), (0, 0), 0⟩) = e.val := by split <;> exact ⟨_, rfl⟩
  rw [he] at hl
  have HE := Lib.hid he
  clear he
  obtain ⟨⟨e1, e2⟩, ⟨e3, e4⟩, e5⟩ := e
  dsimp only [Wel.val] at hl
  go_enter Try.func48, Try.ntmps48
  go_wp2_with fail
  have c0' := (hW4.cell (p := ⟨p, 0, none⟩) hpl).trans c0
  have y0 := (Holds.new w [.int .i64 x1, .int .i64 x2] 24).cell 0 (by simp)
  have y1 := (Holds.new w [.int .i64 x1, .int .i64 x2] 24).cell 1 (by simp)
  simp only [List.getElem_cons_zero, List.getElem_cons_succ] at y0 y1
  have hs4 : w.heap.size < (w.alloc (.cells #[.int .i64 x1, .int .i64 x2] 24)).heap.size := by simp
  have hp4 : p < (w.alloc (.cells #[.int .i64 x1, .int .i64 x2] 24)).heap.size := by simp; omega
  generalize w.alloc (.cells #[.int .i64 x1, .int .i64 x2] 24) = W4 at *
  have HX : Hid (∀ W', Below W4.heap.size W4 W' → W'.cell? ⟨p, 0, none⟩ = some mh ∧ W'.cell? ⟨w.heap.size, 0, none⟩ = some (.int .i64 x1) ∧ W'.cell? ⟨w.heap.size, 1, none⟩ = some (.int .i64 x2) ∧ (Instr.lookup 81 mh (.agg #[.int .i64 x1, .int .i64 x2]) true).run Try.prog W' = .ok (.tuple #[.agg #[.int .i64 e1, .int .i64 e2, .int .i64 e3, .int .i64 e4, .int .i64 e5, .slice none 0 0], .bool (Weave.has L (x1, x2))]) W') := Lib.hid (fun W' hb => ⟨(hb.cell (p := ⟨p, 0, none⟩) hp4).trans c0', (hb.cell (p := ⟨w.heap.size, 0, none⟩) hs4).trans y0, (hb.cell (p := ⟨w.heap.size, 1, none⟩) hs4).trans y1, by
    have := HTH.out W' (grew hW4 hb)
    rw [HE.out] at this
    exact this⟩)
  clear hl y0 y1 c0'
  have HB4 := Lib.hid hW4
  clear hW4
  generalize hhas : Weave.has L (x1, x2) = bb at *
  go_region_held3 (fun w' => w'.cell? ⟨p, 0, none⟩ = some mh ∧ w'.cell? ⟨w.heap.size, 0, none⟩ = some (.int .i64 x1) ∧ w'.cell? ⟨w.heap.size, 1, none⟩ = some (.int .i64 x2) ∧ (Instr.lookup 81 mh (.agg #[.int .i64 x1, .int .i64 x2]) true).run Try.prog w' = .ok (.tuple #[.agg #[.int .i64 e1, .int .i64 e2, .int .i64 e3, .int .i64 e4, .int .i64 e5, .slice none 0 0], .bool bb]) w')
    (first
      | exact HX.out _ (grew_drew _)
      | exact HX.out _ (grew (grew_drew _) (grew_alloc _ _))
      | exact HX.out _ ((grew (grew_drew _) (grew_alloc _ _)).setCell (by simp) _))
    (fail)
  all_goals
    go_wp2
    go_ret
    refine ⟨by rw [hhas]; rfl, grew HB4.out ?_⟩
    first
      | exact (grew (grew_drew _) (grew_alloc _ _)).setCell (by simp) _
      | exact grew (grew_drew _) (grew_alloc _ _)

/-- Where an element stands. -/
def Weave.place (L : List Wel) (x : Int × Int) : Nat := if Weave.has L x then (Weave.elements L).findIdx (fun e => decide (e.id = x)) else 0

theorem findIdx_pre {α : Type} {q : α → Bool} : ∀ {pre l : List α} {e : α}, pre ++ [e] <+: l → (∀ d ∈ pre, q d = false) → q e = true → l.findIdx q = pre.length
  | [], l, e, ⟨r, h⟩, _, he => by
    subst h
    simp [List.findIdx_cons, he]
  | d :: pre, l, e, ⟨r, h⟩, hn, he => by
    subst h
    have hd := hn d (by simp)
    have ih := findIdx_pre (pre := pre) (l := pre ++ [e] ++ r) ⟨r, rfl⟩ (fun d' hd' => hn d' (by simp [hd'])) he
    simp only [List.cons_append, List.findIdx_cons, hd, cond_false, List.length_cons]
    simp only [List.append_assoc, List.cons_append, List.nil_append] at ih ⊢
    rw [ih]

theorem findIdx_all {α : Type} {q : α → Bool} {l : List α} (h : ∀ d ∈ l, q d = false) : l.findIdx q = l.length := by
  rw [List.findIdx_eq_length]
  exact h

set_option maxRecDepth 100000 in
set_option maxHeartbeats 4000000 in
theorem weave_Place {L : List Wel} (hOk : Weave.Ok L) {w : World} {p : Nat} (hR : LRead w p L) (x : Int × Int) (hx1 : I64 x.1) (hx2 : I64 x.2) (hbig : (Weave.elements L).length ≤ 1000000) :
    Calls Try.prog 19 #[.pointer (some ⟨p, 0, none⟩), idV x] w fun e w' => e = .returned (.tuple #[.int .i64 (Weave.place L x : Nat), .bool (Weave.has L x)]) ∧ Below w.heap.size w w' := by
  have hW4 := grew_alloc w (.cells #[.int .i64 x.1, .int .i64 x.2] 24)
  have HT := Lib.hid (weave_isThere (hR.below hW4) x hx1 hx2)
  obtain ⟨x1, x2⟩ := x
  dsimp only [idV] at *
  have HB4 := Lib.hid hW4
  have f3 := Holds.new w [.int .i64 x1, .int .i64 x2] 24
  have HPL : Hid (Weave.place L (x1, x2) = if Weave.has L (x1, x2) then (Weave.elements L).findIdx (fun e => decide (e.id = (x1, x2))) else 0) := Lib.hid rfl
  generalize Weave.place L (x1, x2) = pl at HPL ⊢
  generalize Weave.has L (x1, x2) = bb at *
  refine (callsIn_wide (n := 3)).1 ?_
  refine callsIn_of_wp_marks Try.func19 rfl trivial ?_ rfl
  simp only [Try.ntmps19, List.size_toArray, List.length_cons, List.length_nil, Nat.reduceAdd, Nat.reduceSub, Array.replicate_succ, Array.replicate_zero, List.push_toArray, List.append_toArray, List.nil_append, List.cons_append]
  have y0 := f3.cell 0 (by simp)
  have y1 := f3.cell 1 (by simp)
  simp only [List.getElem_cons_zero, List.getElem_cons_succ] at y0 y1
  clear hW4
  cases bb with
  | false =>
    obtain rfl : pl = 0 := by rw [HPL.out]; rfl
    gi_wp2
    generalize w.alloc (.cells #[.int .i64 x1, .int .i64 x2] 24) = W4 at *
    gi_wp2_with (refine ⟨trivial, ?_⟩; gi_at_call 48; refine (callsIn_wide.2 HT.out).mono ?_; rintro e W5 ⟨rfl, hb5⟩)
    refine ⟨_, results_tmp2 rfl _ _ _, rfl, grew HB4.out hb5⟩
  | true =>
    rw [if_pos rfl] at HPL
    gi_wp2
    generalize hW4 : w.alloc (.cells #[.int .i64 x1, .int .i64 x2] 24) = W4 at *
    have hs4 : W4.heap.size = w.heap.size + 1 := by rw [← hW4]; simp
    clear hW4
    gi_wp2_with (refine ⟨trivial, ?_⟩; gi_at_call 48; refine (callsIn_wide.2 HT.out).mono ?_; rintro e W5 ⟨rfl, hb5⟩)
    have HB5 := Lib.hid (grew HB4.out hb5)
    have g3 := f3.keep (Keep.of_grew hb5 Non) (fun h => h)
    have hs5 := hb5.size
    have f6 := Holds.new W5 [.int .i64 0] 3
    have g3' := g3.keep (Keep.alloc Non W5 (.cells #[.int .i64 0] 3)) (fun h => h)
    have HB6 := Lib.hid (grew HB5.out (grew_alloc W5 (.cells #[.int .i64 0] 3)))
    have hs6 : (W5.alloc (.cells #[.int .i64 0] 3)).heap.size = W5.heap.size + 1 := by simp
    clear hb5 y0 y1 g3 f3 HT
    generalize W5.alloc (.cells #[.int .i64 0] 3) = W6 at *
    generalize W5.heap.size = b6 at *
    have HSEQ := Lib.hid (order_deep hOk hR 2)
    have HR6 := HB6.out.size
    refine wpIn_rangeDeep (α := Wel) (m := 3) (gf := 57) (bd := #[.pointer (some ⟨p, 0, none⟩)]) (lb := #[]) rfl (enters_of Try.func57 (by kernel_rfl) rfl)
      HSEQ.out HB6.out (fun k h => by omega) (fun _ => rfl)
      (fun _ => False) (fun k h => h.elim) (fun k h => h.elim)
      (fun pre G' Wv => Holds Wv w.heap.size [.int .i64 x1, .int .i64 x2] 24 ∧ Holds Wv b6 [.int .i64 (pre.length : Nat)] 3 ∧ Below w.heap.size w Wv ∧ (∀ d ∈ pre, decide (d.id = (x1, x2)) = false) ∧ (∀ k, G' k ↔ k = b6))
      (fun c ys G' Wv => c = .exit 0 ∧ ∃ pre e, ys = pre ++ [e] ∧ (∀ d ∈ pre, decide (d.id = (x1, x2)) = false) ∧ decide (e.id = (x1, x2)) = true ∧ Holds Wv b6 [.int .i64 (pre.length : Nat)] 3 ∧ Below w.heap.size w Wv)
      (fun pre G' A B' ⟨h1, h2, h3, h4, h5⟩ hk => ⟨h1.keep hk (fun h => by omega), h2.keep hk (fun h => by omega), h3.trans (hk.below h3.size (fun i h => by omega)), h4, h5⟩)
      (fun c ys G' A B' ⟨h0, pre, e, h1, h2, h3, h4, h5⟩ hk => ⟨h0, pre, e, h1, h2, h3, h4.keep hk (fun h => by omega), h5.trans (hk.below h5.size (fun i h => by omega))⟩)
      (fun pre G' A ⟨h1, h2, h3, h4, h5⟩ k hk => by rw [(h5 k).1 hk]; exact h2.lt)
      (fun k => k = b6) (fun k h h' => by omega)
      ⟨g3', f6, HB6.out, fun d hd => by simp at hd, fun k => Iff.rfl⟩
      (fun x a' B0 Wv => ∃ Bx, B0 ≤ Bx ∧ Holds Wv Bx x.cells 49 ∧ a' = { tmps := #[.pointer (some ⟨p, 0, none⟩), .agg #[.int .i64 x1, .int .i64 x2], undef, .pointer (some ⟨w.heap.size, 0, none⟩), .int .i64 0, .bool false, .pointer (some ⟨b6, 0, none⟩), .pointer (some ⟨Bx, 0, none⟩), .pointer (some ⟨p, 0, none⟩), .bool false, .bool false, .pointer (some ⟨p, 0, none⟩), .agg #[.int .i64 x1, .int .i64 x2], .bool true, .bool false, .bool false, .pointer (some ⟨p, 0, none⟩), .func (.func 57) #[.pointer (some ⟨p, 0, none⟩)] #[], x.val, undef, undef, undef, undef, undef, undef, undef], defers := [] })
      ?assign ?body ?done ?stop
    case assign =>
      rintro l' pre ⟨⟨k1, k2⟩, ⟨k3, k4⟩, k5⟩ G' Wv K ⟨h1, h2, h3, h4, h5⟩ hK
      dsimp only [Wel.val]
      gi_wp2
      have hka := Keep.alloc Non Wv (.cells #[.int .i64 k1, .int .i64 k2, .int .i64 k3, .int .i64 k4, .int .i64 k5, .slice none 0 0] 49)
      exact hK _ _ hka ⟨h1.keep hka (fun h => h), h2.keep hka (fun h => h), h3.trans (hka.below h3.size (fun _ h => h.elim)), h4, h5⟩ (fun W'' hk => ⟨Wv.heap.size, Nat.le_refl _, (Holds.new Wv [.int .i64 k1, .int .i64 k2, .int .i64 k3, .int .i64 k4, .int .i64 k5, .slice none 0 0] 49).keep hk (fun h => by omega), rfl⟩)
    case body =>
      rintro l' pre ⟨⟨k1, k2⟩, ⟨k3, k4⟩, k5⟩ a' B0 G' Wv hl1 hl2 hgl ⟨h1, h2, h3, h4, h5⟩ hB0 hGB ⟨Bx, hBx, hX2, rfl⟩ hpx
      dsimp only [Wel.cells] at hX2
      have u0 := hX2.cell 0 (by simp)
      have u1 := hX2.cell 1 (by simp)
      have v0 := h1.cell 0 (by simp)
      have v1 := h1.cell 1 (by simp)
      have w0' := h2.cell 0 (by simp)
      have z0 := h2.frozen 0
      simp only [List.getElem_cons_zero, List.getElem_cons_succ] at u0 u1 v0 v1 w0'
      have hpl : pre.length ≤ 1000000 := by
        have := hpx.length_le
        rw [List.length_append] at this
        omega
      have hwr : IntKind.i64.wrap ((pre.length : Int) + 1) = (pre.length : Int) + 1 := by rw [IntKind.wrap_i64]; omega
      by_cases hee : k1 = x1 ∧ k2 = x2
      · have e1 : (k1 == x1) = true := by simp [hee.1]
        have e2 : (k2 == x2) = true := by simp [hee.2]
        have e3 : decide (k1 = x1) = true := decide_eq_true hee.1
        have e4 : decide (k2 = x2) = true := decide_eq_true hee.2
        have HE : Hid ((k1, k2) = (x1, x2)) := Lib.hid (by rw [hee.1, hee.2])
        clear hee
        gi_wp2
        exact ⟨G', ⟨rfl, pre, _, rfl, h4, decide_eq_true HE.out, h2, h3⟩, New.refl _ _, Keep.refl _ _⟩
      · have HE : Hid (¬ (k1, k2) = (x1, x2)) := Lib.hid (fun h => by injection h with h1 h2; exact hee ⟨h1, h2⟩)
        have fin : ∀ W', W' = Wv.setCell ⟨b6, 0, none⟩ (.int .i64 ((pre.length : Int) + 1)) → ∃ G'', (Holds W' w.heap.size [.int .i64 x1, .int .i64 x2] 24 ∧ Holds W' b6 [.int .i64 ((pre ++ [(⟨(k1, k2), (k3, k4), k5⟩ : Wel)]).length : Nat)] 3 ∧ Below w.heap.size w W' ∧ (∀ d ∈ pre ++ [(⟨(k1, k2), (k3, k4), k5⟩ : Wel)], decide (d.id = (x1, x2)) = false) ∧ (∀ k, G'' k ↔ k = b6)) ∧ New G' G'' Wv ∧ Keep G' Wv W' := by
          rintro W' rfl
          have hks := Keep.setCell Wv b6 0 (.int .i64 ((pre.length : Int) + 1))
          refine ⟨G', ⟨h1.keep hks (fun e => by have e : w.heap.size = b6 := e; omega), ?_, h3.trans (hks.below h3.size (fun i e => by have e : i = b6 := e; omega)), fun d hd => ?_, h5⟩, New.refl _ _, hks.more (fun i _ e => (h5 i).2 e)⟩
          · have := h2.set 0 (.int .i64 ((pre.length : Int) + 1)) (by simp)
            rw [List.length_append]
            exact this
          · rcases List.mem_append.1 hd with hd | hd
            · exact h4 d hd
            · rw [List.mem_singleton.1 hd]
              exact decide_eq_false HE.out
        by_cases hk1 : k1 = x1
        · have hk2 : k2 ≠ x2 := fun h => hee ⟨hk1, h⟩
          have e1 : (k1 == x1) = true := by simp [hk1]
          have e2 : (k2 == x2) = false := by simp [hk2]
          have e3 : decide (k1 = x1) = true := decide_eq_true hk1
          have e4 : decide (k2 = x2) = false := decide_eq_false hk2
          clear hee hk1 hk2
          gi_wp2
          exact fin _ rfl
        · have e1 : (k1 == x1) = false := by simp [hk1]
          have e3 : decide (k1 = x1) = false := decide_eq_false hk1
          clear hee hk1
          gi_wp2
          exact fin _ rfl
    case done =>
      rintro D G'' Wd hD ⟨h1, h2, h3, h4, h5⟩ hgD hnew hkp hK
      have c6 := h2.cell 0 (by simp)
      simp only [List.getElem_cons_zero] at c6
      have HPL2 : Hid (pl = (Weave.elements L).length) := Lib.hid (by rw [HPL.out]; exact findIdx_all h4)
      gi_wp2
      refine ⟨by simp, .inl ⟨_, _, rfl, run_takeDeferred hK, ?_⟩⟩
      refine ⟨_, results_tmp2 rfl _ _ _, by rw [HPL2.out]; rfl, h3.trans ((keep_putObj Wd D (.deferred none)).below h3.size (fun i e => by have e : i = D := e; omega))⟩
    case stop =>
      rintro D c ys G'' Wd hD hys ⟨rfl, pre, e, rfl, h1, h2, h3, h4⟩ hgD hnew hkp hK
      have c6 := h3.cell 0 (by simp)
      simp only [List.getElem_cons_zero] at c6
      have HPL2 : Hid (pl = pre.length) := Lib.hid (by rw [HPL.out]; exact findIdx_pre hys h1 h2)
      gi_wp2
      refine ⟨by simp, .inl ⟨_, _, rfl, run_takeDeferred hK, ?_⟩⟩
      refine ⟨_, results_tmp2 rfl _ _ _, by rw [HPL2.out]; rfl, h4.trans ((keep_putObj Wd D (.deferred none)).below h4.size (fun i e => by have e : i = D := e; omega))⟩
end Go.Proofs.Ytohmhbjiapflpaa
