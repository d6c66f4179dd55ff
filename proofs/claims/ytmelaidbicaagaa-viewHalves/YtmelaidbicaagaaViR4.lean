/- The document's answers: the element ahead of a place; where one is; those between two places. -/
import Derived.Test.YtmelaidbicaagaaViR3
import Derived.Test.YtmelaidbicaagaaViRange
namespace Go.Proofs.Ytmelaidbicaagaa
open Go.RowKit
set_option linter.unusedVariables false

/-- A list of Ids of the call's own, of those elements. -/
def OwnE (w : World) (base : Nat) (v : Value) (l : List (Nat × El)) : Prop := w.ownsRow base 24 2 v l.length (elCells l)
theorem OwnE.nil (w : World) (base : Nat) : OwnE w base (.slice none 0 0) [] := World.ownsRow_nil _ _ _ _
theorem OwnE.mono {w : World} {base base' : Nat} {v : Value} {l : List (Nat × El)} (h : OwnE w base v l) (hb : base' ≤ base) : OwnE w base' v l := by
  obtain ⟨h1, h2⟩ := h
  refine ⟨h1, ?_⟩
  rcases h2 with h2 | ⟨g, cap, cur, rfl, h3, r⟩
  · exact .inl h2
  · exact .inr ⟨g, cap, cur, rfl, Nat.le_trans hb h3, r⟩
theorem elCells_at : ∀ (xs : List (Nat × El)) (i : Nat) (hi : i < xs.length), (elCells xs)[i * 2]? = some (.int .i64 xs[i].2.t) ∧ (elCells xs)[i * 2 + 1]? = some (.int .i64 xs[i].2.s)
  | [], i, hi => by simp at hi
  | x :: xs, 0, _ => ⟨rfl, rfl⟩
  | x :: xs, i + 1, hi => by
    have := elCells_at xs i (by simpa using hi)
    rw [show (i + 1) * 2 = i * 2 + 1 + 1 from by omega]
    simpa [elCells] using this
def View.ids (l : List (Nat × El)) : List (Int × Int) := l.map (fun x => (x.2.t, x.2.s))
theorem OwnE.slice {w : World} {base : Nat} {v : Value} {l : List (Nat × El)} (h : OwnE w base v l) : SliceG 2 idvL w v (View.ids l) := by
  have hl : (View.ids l).length = l.length := by simp [View.ids]
  rcases h.2 with ⟨rfl, h0⟩ | ⟨g, cap, cur, rfl, hb, hg, hn, hm, hc, ht⟩
  · have : l = [] := List.eq_nil_of_length_eq_zero h0
    subst this
    exact ⟨none, 0, rfl, by simp [View.ids], .inl rfl⟩
  · refine ⟨_, cap, by rw [hl], by rw [hl]; exact hn, .inr ⟨g, 0, rfl, (Array.getElem?_eq_some_iff.1 hg).1, fun i hi j u hu => ?_⟩⟩
    have hi' : i < l.length := by rw [← hl]; exact hi
    have hget : (View.ids l)[i] = (l[i].2.t, l[i].2.s) := by simp [View.ids]
    rw [hget] at hu
    obtain ⟨k0, k1⟩ := elCells_at l i hi'
    have hcell : ∀ m u, (elCells l)[m]? = some u → w.cell? ⟨g, 0 + m, none⟩ = some u := fun m u hu => by
      have := World.ownsRow.cells h (g := g) rfl m u hu
      rwa [show (⟨g, 0, none⟩ : Addr).add m = ⟨g, 0 + m, none⟩ from by unfold Addr.add; split <;> simp_all] at this
    match j, hu with
    | 0, hu =>
      have : u = .int .i64 l[i].2.t := (Option.some.inj hu).symm
      subst this
      exact hcell _ _ k0
    | 1, hu =>
      have : u = .int .i64 l[i].2.s := (Option.some.inj hu).symm
      subst this
      have := hcell _ _ k1
      rwa [show 0 + (i * 2 + 1) = 0 + i * 2 + 1 by omega] at this
    | j + 2, hu => simp [idvL] at hu

theorem wp_append_idv {ops : Array Oper} {rest : List Oper} {o : Oper} {a : Act} {w : World} {Q : Exit → Act → World → Prop} (hgd : o.guard = none) (s x : Operand)
    (ho : o.op = .call { callee := .builtin .append, args := #[s, x], argTypes := #[34, 34] })
    (base : Nat) (v : Value) (l : List (Nat × El)) (d : Nat × El) (hs : a.eval s = v) (hx : a.eval x = .slice (some ⟨w.heap.size, 0, none⟩) 1 1)
    (hown : OwnE w base v l) (hbase : base ≤ w.heap.size) (hlen : l.length < 1000000000)
    (h : ∀ v' w', OwnE w' base v' (l ++ [d]) → Below base w w' → wpList Try.prog ops Q rest (a.put o.dst v') w') :
    wpList Try.prog ops Q (o :: rest) a (w.alloc (.cells #[.int .i64 d.2.t, .int .i64 d.2.s] 24)) := by
  obtain ⟨i0, hi, hz0, hz1, hz2⟩ := info_parts info_idv
  refine wpList_append_own (P := Try.prog) _ hgd s x 34 ho base 24 i0 (.agg #[.int .i64 0, .int .i64 0]) 2 16 Try.underlying34 hi hz0 hz1 hz2 rfl (by decide) v l.length (elCells l) hs (World.ownsRow.alloc hown _) ⟨w.heap.size, 0, none⟩ 1 1 [.int .i64 d.2.t, .int .i64 d.2.s] hx rfl ?_ ?_ ?_ ?_ ?_ ?_
  · exact cell_two_new _ _ _ _
  · intro u hu
    simp at hu
    rcases hu with rfl | rfl <;> rfl
  · unfold maxLen; omega
  · omega
  · simp; omega
  · intro v' w' h1 h2 _
    refine h v' w' ?_ ?_
    · unfold OwnE
      rw [elCells_app, List.length_append]
      exact h1
    · refine (((Below.refl base w).alloc hbase _).grown h2 (by simp; omega) ?_)
      intro k hk
      rcases hown.2 with ⟨rfl, _⟩ | ⟨g, cap, cur, rfl, hb, _⟩
      · simp [Value.ownBlock] at hk
      · obtain rfl : g = k := by simpa [Value.ownBlock] using hk
        exact hb

set_option maxRecDepth 100000 in
set_option maxHeartbeats 1000000 in
theorem ref12_Range (v : Value) (es : List El) (f t : Int) (w : World) (hv : SliceG 6 El.cells w v es) (hm : es.length ≤ 1000000) :
    Calls Try.prog 15 #[v, .int .i64 f, .int .i64 t] w fun e w' => ∃ r, e = .returned (.tuple #[r, .int .i64 (View.rangeE es f t)]) ∧ OwnE w' w.heap.size r (View.rangeL es f t) ∧ Below w.heap.size w w' := by
  have HV := Lib.hid hv
  obtain ⟨va, vc, rfl⟩ := hv.shape
  clear hv
  have hsl := View.seen_len es
  go_enter Try.func15, Try.ntmps15
  go_wp2_with fail
  refine (ref12_Seen _ es w HV.out hm).mono ?_
  rintro e w1 ⟨r1, rfl, ho, hb⟩
  have HS := Lib.hid ho.slice
  have HB1 := Lib.hid hb
  obtain ⟨sa, sc, e⟩ := ho.slice.shape
  rw [View.nums_len] at e
  subst e
  clear ho hb
  by_cases h0 : f < 0
  · have d0 : decide (f < 0) = true := decide_eq_true h0
    have HE1 : Hid (View.rangeE es f t = 1 ∧ View.rangeL es f t = []) := Lib.hid ⟨if_neg (by omega), if_neg (by omega)⟩
    go_wp2
    go_ret2
    exact ⟨_, by rw [HE1.out.1]; rfl, by rw [HE1.out.2]; exact OwnE.nil _ _, HB1.out⟩
  · have d0 : decide (f < 0) = false := decide_eq_false h0
    by_cases h1 : ((View.seen es).length : Int) < t
    · have d1 : decide (((View.seen es).length : Int) < t) = true := decide_eq_true h1
      have HE1 : Hid (View.rangeE es f t = 1 ∧ View.rangeL es f t = []) := Lib.hid ⟨if_neg (by omega), if_neg (by omega)⟩
      go_wp2
      go_ret2
      exact ⟨_, by rw [HE1.out.1]; rfl, by rw [HE1.out.2]; exact OwnE.nil _ _, HB1.out⟩
    · have d1 : decide (((View.seen es).length : Int) < t) = false := decide_eq_false h1
      by_cases h2 : t < f
      · have d2 : decide (t < f) = true := decide_eq_true h2
        have HE1 : Hid (View.rangeE es f t = 1 ∧ View.rangeL es f t = []) := Lib.hid ⟨if_neg (by omega), if_neg (by omega)⟩
        go_wp2
        go_ret2
        exact ⟨_, by rw [HE1.out.1]; rfl, by rw [HE1.out.2]; exact OwnE.nil _ _, HB1.out⟩
      · have d2 : decide (t < f) = false := decide_eq_false h2
        have HE1 : Hid (View.rangeE es f t = 0 ∧ View.rangeL es f t = View.cut (View.seen es) f.toNat t.toNat) := Lib.hid ⟨if_pos (by omega), if_pos (by omega)⟩
        obtain ⟨a, rfl⟩ : ∃ a : Nat, f = a := ⟨f.toNat, by omega⟩
        obtain ⟨b, rfl⟩ : ∃ b : Nat, t = b := ⟨t.toNat, by omega⟩
        rw [Int.toNat_natCast, Int.toNat_natCast] at HE1
        have hab : a ≤ b ∧ b ≤ (View.seen es).length := by omega
        have d3 : decide ((View.seen es).length < b) = false := decide_eq_false (by omega)
        have d4 : decide (b < a) = false := decide_eq_false (by omega)
        clear h0 h1 h2
        go_wp2_with fail
        go_loopw [9, 10] (fun out i wr => ∃ k : Nat, a ≤ k ∧ k ≤ b ∧ i = .int .i64 k ∧ OwnE wr w1.heap.size out (View.cut (View.seen es) a k) ∧ Below w1.heap.size w1 wr) (fun _ i _ => b - (intOf i).toNat)
        case atStart => exact ⟨a, Nat.le_refl _, hab.1, rfl, by unfold View.cut; rw [List.drop_eq_nil_of_le (by rw [List.length_take]; omega)]; exact OwnE.nil _ _, Below.refl _ _⟩
        case round =>
          obtain ⟨k, hak, hkb, rfl, hown, hbel⟩ := hrel
          have HO := Lib.hid hown
          have HB := Lib.hid hbel
          clear hown hbel
          by_cases hlt : k < b
          · have e1 : decide ((k : Int) < (b : Int)) = true := decide_eq_true (by omega)
            have hks : k < (View.seen es).length := by omega
            have hia : (k : Int) < ((View.seen es).length : Int) := by omega
            obtain ⟨hj, hje⟩ := View.seen_get hks
            have HC : Hid (View.cut (View.seen es) a (k + 1) = View.cut (View.seen es) a k ++ [(View.seen es)[k]]) := Lib.hid (by
              unfold View.cut
              rw [List.take_succ_eq_append_getElem hks, List.drop_append_of_le_length (by rw [List.length_take]; omega)])
            have HCL : Hid ((View.cut (View.seen es) a k).length ≤ 1000000) := Lib.hid (by have := View.cut_len (View.seen es) a k; omega)
            obtain ⟨_, _, e, _, hr⟩ := HS.out.below HB.out
            injection e with e1' e2 e3
            subst e1'
            subst e3
            rcases hr with h | ⟨b1, off, ha, hbl, hcell⟩
            · exfalso
              have : (View.nums es).length = 0 := by rw [h]; rfl
              rw [View.nums_len] at this
              omega
            · have q := hcell k (by rw [View.nums_len]; exact hks)
              rw [View.nums_get] at q
              subst ha
              obtain ⟨b2, off2, e, hbl2, hcc⟩ := (HV.out.below (grew HB1.out HB.out)).at hj
              subst e
              rw [hje] at hcc
              have q0 := hcc 0 _ rfl
              have q1 := hcc 1 _ rfl
              simp only [Nat.add_zero] at q0
              have hjj : (((View.seen es)[k].1 : Nat) : Int) < (es.length : Int) := by omega
              clear hcell hcc hje e2
              generalize (View.seen es)[k] = x at q q0 q1 hjj HC hj
              generalize View.cut (View.seen es) a k = C at HO HC HCL
              obtain ⟨j, x⟩ := x
              simp only at q q0 q1 hjj hj
              go_wp2_with (at_builtin; refine wp_append_idv rfl (.tmp 32) (.tmp 41) rfl w1.heap.size _ C (j, x) rfl rfl HO.out HB.out.size (by have := HCL.out; omega) ?_; intro v3 w3 ho3 hk3)
              go_roundw
              case rel => exact ⟨k + 1, by omega, by omega, by go_num, by rw [HC.out]; exact ho3, HB.out.trans hk3⟩
              case measure => simp [intOf]; omega
          · have e1 : decide ((k : Int) < (b : Int)) = false := decide_eq_false (by omega)
            have hkb2 : k = b := by omega
            have HO2 : Hid (OwnE wr w.heap.size _ (View.cut (View.seen es) a b)) := Lib.hid (by rw [← hkb2]; exact OwnE.mono HO.out HB1.out.size)
            clear HO
            go_wp2
            go_ret2
            exact ⟨_, by rw [HE1.out.1]; rfl, by rw [HE1.out.2]; exact HO2.out, HB1.out.trans (HB.out.mono HB1.out.size)⟩

set_option maxRecDepth 100000 in
set_option maxHeartbeats 1000000 in
theorem ref12_Ref (v : Value) (es : List El) (i : Int) (w : World) (hv : SliceG 6 El.cells w v es) (hm : es.length ≤ 1000000) :
    Calls Try.prog 11 #[v, .int .i64 i] w fun e w' => e = .returned (.tuple #[.agg #[.int .i64 (View.refT es i).1, .int .i64 (View.refT es i).2], .int .i64 (View.refE es i)]) ∧ Below w.heap.size w w' := by
  have HV := Lib.hid hv
  obtain ⟨va, vc, rfl⟩ := hv.shape
  clear hv
  have hsl := View.seen_len es
  have HB0 := Lib.hid (grew_alloc w (.cells #[.int .i64 0, .int .i64 0] 24))
  have HX0 := Lib.hid (Holds.new w [.int .i64 0, .int .i64 0] 24)
  go_enter Try.func11, Try.ntmps11
  go_wp2_with fail
  generalize w.alloc (.cells #[.int .i64 0, .int .i64 0] 24) = W0 at *
  refine (ref12_Seen _ es W0 (HV.out.below HB0.out) hm).mono ?_
  rintro e w1 ⟨r1, rfl, ho, hb⟩
  have HS := Lib.hid ho.slice
  have HB1 := Lib.hid (grew HB0.out (hb))
  have HX := Lib.hid (HX0.out.keep (Keep.of_grew hb Non) (fun h => h))
  obtain ⟨sa, sc, e⟩ := ho.slice.shape
  rw [View.nums_len] at e
  subst e
  clear ho hb
  have y0 := HX.out.cell 0 (by simp)
  have y1 := HX.out.cell 1 (by simp)
  have f0 := HX.out.frozen 0
  have f1 := HX.out.frozen 1
  simp only [List.getElem_cons_zero, List.getElem_cons_succ] at y0 y1
  have hlt := HX.out.lt
  have R2 : ∀ u1 u2 : Int, Hid (Holds ((w1.setCell ⟨w.heap.size, 0, none⟩ (.int .i64 u1)).setCell ⟨w.heap.size, 1, none⟩ (.int .i64 u2)) w.heap.size [.int .i64 u1, .int .i64 u2] 24 ∧ Below w.heap.size w ((w1.setCell ⟨w.heap.size, 0, none⟩ (.int .i64 u1)).setCell ⟨w.heap.size, 1, none⟩ (.int .i64 u2)) ∧ (w1.setCell ⟨w.heap.size, 0, none⟩ (.int .i64 u1)).cell? ⟨w.heap.size, 1, none⟩ = some (.int .i64 0) ∧ (w1.setCell ⟨w.heap.size, 0, none⟩ (.int .i64 u1)).frozen? ⟨w.heap.size, 1, none⟩ = false) := fun u1 u2 => Lib.hid ⟨(HX.out.set 0 _ (by simp)).set 1 _ (by simp), (HB1.out.setCell (p := ⟨w.heap.size, 0, none⟩) (Nat.le_refl _) _).setCell (p := ⟨w.heap.size, 1, none⟩) (Nat.le_refl _) _, (HX.out.set 0 _ (by simp)).cell 1 (by simp), (HX.out.set 0 _ (by simp)).frozen 1⟩
  by_cases h0 : i < 0
  · have d0 : decide (i < 0) = true := decide_eq_true h0
    have HE := Lib.hid (View.ref_miss (es := es) (i := i) (by omega) (by omega))
    have z1 := (R2 0 0).out.2.2.1
    have z2 := (R2 0 0).out.2.2.2
    have HZ := R2 0 0
    clear R2
    go_wp2
    have q0 := HZ.out.1.cell 0 (by simp)
    have q1 := HZ.out.1.cell 1 (by simp)
    simp only [List.getElem_cons_zero, List.getElem_cons_succ] at q0 q1
    refine bodyPost_ret (v := .tuple #[.agg #[.int .i64 (View.refT es (i)).1, .int .i64 (View.refT es (i)).2], .int .i64 (View.refE es (i))]) ?_ rfl ⟨rfl, HZ.out.2.1⟩
    rw [HE.out.1, HE.out.2]
    simp [results, Try.results11, go_sem, q0, q1]
  · have d0 : decide (i < 0) = false := decide_eq_false h0
    by_cases h1 : ((View.seen es).length : Int) < i
    · have d1 : decide (((View.seen es).length : Int) < i) = true := decide_eq_true h1
      have HE := Lib.hid (View.ref_miss (es := es) (i := i) (by omega) (by omega))
      have z1 := (R2 0 0).out.2.2.1
      have z2 := (R2 0 0).out.2.2.2
      have HZ := R2 0 0
      clear R2
      go_wp2
      have q0 := HZ.out.1.cell 0 (by simp)
      have q1 := HZ.out.1.cell 1 (by simp)
      simp only [List.getElem_cons_zero, List.getElem_cons_succ] at q0 q1
      refine bodyPost_ret (v := .tuple #[.agg #[.int .i64 (View.refT es (i)).1, .int .i64 (View.refT es (i)).2], .int .i64 (View.refE es (i))]) ?_ rfl ⟨rfl, HZ.out.2.1⟩
      rw [HE.out.1, HE.out.2]
      simp [results, Try.results11, go_sem, q0, q1]
    · have d1 : decide (((View.seen es).length : Int) < i) = false := decide_eq_false h1
      by_cases h2 : i = 0
      · subst h2
        have HE := Lib.hid (View.ref_zero es)
        have z1 := (R2 0 0).out.2.2.1
        have z2 := (R2 0 0).out.2.2.2
        have HZ := R2 0 0
        clear R2
        go_wp2
        have q0 := HZ.out.1.cell 0 (by simp)
        have q1 := HZ.out.1.cell 1 (by simp)
        simp only [List.getElem_cons_zero, List.getElem_cons_succ] at q0 q1
        refine bodyPost_ret (v := .tuple #[.agg #[.int .i64 (View.refT es (0)).1, .int .i64 (View.refT es (0)).2], .int .i64 (View.refE es (0))]) ?_ rfl ⟨rfl, HZ.out.2.1⟩
        rw [HE.out.1, HE.out.2]
        simp [results, Try.results11, go_sem, q0, q1]
      · obtain ⟨m, rfl⟩ : ∃ m : Nat, i = (m : Int) + 1 := ⟨(i - 1).toNat, by omega⟩
        have hms : m < (View.seen es).length := by omega
        have d2 : (((m : Int) + 1) == 0) = false := by simp; omega
        have d2' : decide (((m : Int) + 1) = 0) = false := decide_eq_false (by omega)
        have hw : IntKind.i64.wrap (((m : Int) + 1) - 1) = (m : Int) := by rw [IntKind.wrap_i64]; omega
        have hw2 : ((m : Int) + 1) - 1 = (m : Int) := by omega
        have hia : (m : Int) < ((View.seen es).length : Int) := by omega
        obtain ⟨hj, hje⟩ := View.seen_get hms
        have HE : Hid (View.refT es ((m : Int) + 1) = (((View.seen es)[m]).2.t, ((View.seen es)[m]).2.s) ∧ View.refE es ((m : Int) + 1) = 0) := Lib.hid (by
          have := View.ref_hit (es := es) (pre := (View.seen es).take m) (x := (View.seen es)[m]) (i := (m : Int) + 1) (by rw [← List.take_succ_eq_append_getElem hms]; exact List.take_prefix _ _) (by rw [List.length_take]; omega)
          exact this)
        obtain ⟨_, _, e, _, hr⟩ := HS.out
        injection e with e1' e2 e3
        subst e1'
        subst e3
        rcases hr with h | ⟨b1, off, ha, hbl, hcell⟩
        · exfalso
          have : (View.nums es).length = 0 := by rw [h]; rfl
          rw [View.nums_len] at this
          omega
        · have q := hcell m (by rw [View.nums_len]; exact hms)
          rw [View.nums_get] at q
          subst ha
          obtain ⟨b2, off2, e, hbl2, hcc⟩ := (HV.out.below HB1.out).at hj
          subst e
          rw [hje] at hcc
          have p0 := hcc 0 _ rfl
          have p1 := hcc 1 _ rfl
          simp only [Nat.add_zero] at p0
          have hjj : (((View.seen es)[m].1 : Nat) : Int) < (es.length : Int) := by omega
          clear hcell hcc hje e2
          generalize (View.seen es)[m] = x at q p0 p1 hjj HE hj
          obtain ⟨j, x⟩ := x
          simp only at q p0 p1 hjj hj HE
          have z1 := (R2 x.t x.s).out.2.2.1
          have z2 := (R2 x.t x.s).out.2.2.2
          have HZ := R2 x.t x.s
          clear R2
          go_wp2
          have q0 := HZ.out.1.cell 0 (by simp)
          have q1 := HZ.out.1.cell 1 (by simp)
          simp only [List.getElem_cons_zero, List.getElem_cons_succ] at q0 q1
          refine bodyPost_ret (v := .tuple #[.agg #[.int .i64 (View.refT es ((m : Int) + 1)).1, .int .i64 (View.refT es ((m : Int) + 1)).2], .int .i64 (View.refE es ((m : Int) + 1))]) ?_ rfl ⟨rfl, HZ.out.2.1⟩
          rw [HE.out.1, HE.out.2]
          simp [results, Try.results11, go_sem, q0, q1]
end Go.Proofs.Ytmelaidbicaagaa
