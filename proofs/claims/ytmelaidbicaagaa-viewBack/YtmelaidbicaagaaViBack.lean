/- Index of Ref of a place is that place: the walk. -/
import Derived.Test.YtmelaidbicaagaaViOpen
namespace Go.Proofs.Ytmelaidbicaagaa
open Go.RowKit
set_option linter.unusedVariables false

theorem View.seen_idx {es : List El} : ∀ {k : Nat}, k ≤ es.length → ((View.seen (es.take k)).map (fun x => x.1)).Nodup ∧ ∀ x ∈ View.seen (es.take k), x.1 < k
  | 0, _ => by simp [View.seen]
  | k + 1, h => by
    obtain ⟨h1, h2⟩ := View.seen_idx (es := es) (k := k) (by omega)
    rw [View.seen_take (by omega), List.map_append]
    split
    · refine ⟨List.nodup_append.2 ⟨h1, by simp, ?_⟩, fun x hx => ?_⟩
      · intro a ha b hb
        obtain ⟨x, hx, rfl⟩ := List.mem_map.1 ha
        have := h2 x hx
        simp at hb
        omega
      · rcases List.mem_append.1 hx with hx | hx
        · have := h2 x hx; omega
        · rw [List.mem_singleton.1 hx]; show k < k + 1; omega
    · simp only [List.map_nil, List.append_nil]
      exact ⟨h1, fun x hx => by have := h2 x hx; omega⟩
theorem View.seen_un {es : List El} {x : Nat × El} (h : x ∈ View.seen es) : x.2.un = 0 := by
  unfold View.seen at h
  obtain ⟨p, hp, rfl⟩ := List.mem_map.1 h
  simpa using (List.mem_filter.1 hp).2
theorem View.seen_pos {es : List El} {j : Nat} (hj : j < es.length) (hun : es[j].un = 0) : (View.seen es)[(View.seen (es.take j)).length]? = some (j, es[j]) := by
  have h1 := View.seen_take hj
  rw [if_pos hun] at h1
  have h2 := View.seen_pre (es := es) (k := j + 1) (m := es.length) (by omega) (Nat.le_refl _)
  rw [List.take_length] at h2
  obtain ⟨r, hr⟩ := h2
  rw [← hr, h1]
  simp
/-- How many are seen up to the m-th of them. -/
theorem View.seen_upto {es : List El} {m : Nat} (h : m < (View.seen es).length) : (View.seen (es.take ((View.seen es)[m].1 + 1))).length = m + 1 := by
  obtain ⟨hj, hje⟩ := View.seen_get h
  have hun : es[(View.seen es)[m].1].un = 0 := by rw [hje]; exact View.seen_un (List.getElem_mem h)
  have h1 := View.seen_take hj
  rw [if_pos hun] at h1
  have hp := View.seen_pos hj hun
  have hnd := (View.seen_idx (es := es) (k := es.length) (Nat.le_refl _)).1
  rw [List.take_length] at hnd
  rw [h1, List.length_append]
  congr 1
  obtain ⟨hlt, hget⟩ := List.getElem?_eq_some_iff.1 hp
  have hpw := List.pairwise_iff_getElem.1 hnd
  generalize (View.seen (es.take (View.seen es)[m].1)).length = p at hlt hget
  have e1 : ((View.seen es)[p]).1 = ((View.seen es)[m]).1 := by rw [hget]
  rcases Nat.lt_trichotomy p m with hlt2 | hlt2 | hlt2
  · have := hpw p m (by simpa using hlt) (by simpa using h) hlt2
    rw [List.getElem_map, List.getElem_map] at this
    exact absurd e1 this
  · exact hlt2
  · have := hpw m p (by simpa using h) (by simpa using hlt) hlt2
    rw [List.getElem_map, List.getElem_map] at this
    exact absurd e1.symm this

/-- No two of one Id, none of none. -/
def View.Apart (es : List El) : Prop := (∀ a b (ha : a < es.length) (hb : b < es.length), a < b → (es[a].t, es[a].s) ≠ (es[b].t, es[b].s)) ∧ ∀ a (ha : a < es.length), (es[a].t, es[a].s) ≠ (0, 0)
theorem View.apart_at {es : List El} (h : View.Apart es) {k : Nat} (hk : k < es.length) : View.idx es (es[k].t, es[k].s) = ((((View.seen (es.take (k + 1))).length : Nat) : Int), (0 : Int)) :=
  View.idx_at (h.2 k hk) ⟨hk, rfl, fun j hj => h.1 j k (by omega) hk hj⟩
theorem View.apart_ref {es : List El} (h : View.Apart es) {i : Int} (hi : 0 ≤ i ∧ i ≤ (View.seen es).length) : View.idx es (View.refT es i) = (i, 0) := by
  by_cases h0 : i = 0
  · subst h0
    rw [(View.ref_zero es).1]
    exact View.idx_zero es
  · obtain ⟨m, rfl⟩ : ∃ m : Nat, i = (m : Int) + 1 := ⟨(i - 1).toNat, by omega⟩
    have hm : m < (View.seen es).length := by omega
    have h1 := (View.ref_hit (es := es) (pre := (View.seen es).take m) (x := (View.seen es)[m]) (i := (m : Int) + 1) (by rw [← List.take_succ_eq_append_getElem hm]; exact List.take_prefix _ _) (by rw [List.length_take]; omega)).1
    obtain ⟨hj, hje⟩ := View.seen_get hm
    have h2 := View.apart_at h hj
    rw [h1, ← hje, h2, View.seen_upto hm]
    rfl

set_option maxRecDepth 100000 in
set_option maxHeartbeats 8000000 in
theorem walk_ViewBack (v : Value) (es : List El) (i : Int) (w : World) (hw : SliceG 6 El.cells w v es ∧ es.length ≤ maxLen ∧ ∀ e ∈ es, e.un ≤ maxLen) (hi : (Lit.int .i64 i).wf = true) :
    Calls Try.prog 4 #[v, .int .i64 i] w fun e w' => e = .returned (.bool true) ∧ Below w.heap.size w w' := by
  obtain ⟨hv, hm, hu⟩ := hw
  have HV := Lib.hid hv
  obtain ⟨va, vc, rfl⟩ := hv.shape
  have HFEW := Lib.hid (ref12_Few (.slice va es.length vc) es w hv hm hu)
  clear hv hu hi
  go_enter Try.func4, Try.ntmps4
  go_wp2_with fail
  refine HFEW.out.mono ?_
  by_cases hfew : es.length ≤ 60 ∧ ∀ e ∈ es, e.un ≤ 20
  · rintro e w1 ⟨rfl, rfl⟩
    rw [decide_eq_true hfew]
    have h60 := hfew.1
    clear hfew hm HFEW
    go_wp2_with fail
    go_loopw [5] (fun k' wr => ∃ k : Nat, k ≤ es.length ∧ k' = .int .i64 k ∧ ((∀ a b (ha : a < es.length) (hb : b < es.length), a < b → b < k → (es[a].t, es[a].s) ≠ (es[b].t, es[b].s)) ∧ ∀ a (ha : a < es.length), a < k → (es[a].t, es[a].s) ≠ (0, 0)) ∧ Below w1.heap.size w1 wr) (fun k' _ => es.length - (intOf k').toNat)
    case atStart => exact ⟨0, by omega, rfl, ⟨fun a b _ _ _ h => by omega, fun a _ h => by omega⟩, Below.refl _ _⟩
    case round =>
      obtain ⟨k, hk, rfl, hdz, hbel⟩ := hrel
      have HDZ := Lib.hid hdz
      have HB := Lib.hid hbel
      clear hdz hbel
      by_cases hlt : k < es.length
      · have d1 : decide ((k : Int) < (es.length : Int)) = true := decide_eq_true (by omega)
        have hia : (k : Int) < (es.length : Int) := by omega
        go_wp2_with fail
        go_loopw [6] (fun j' wv => ∃ j : Nat, j ≤ k ∧ j' = .int .i64 j ∧ (∀ a (ha : a < es.length), a < j → (es[a].t, es[a].s) ≠ (es[k].t, es[k].s)) ∧ Below w1.heap.size w1 wv) (fun j' _ => k - (intOf j').toNat)
        case atStart => exact ⟨0, by omega, rfl, fun a _ h => by omega, HB.out⟩
        case round =>
          obtain ⟨j, hj, rfl, hno, hbel⟩ := hrel
          have HN := Lib.hid hno
          have HB2 := Lib.hid hbel
          clear hno hbel
          have HS := Lib.hid (HV.out.below HB2.out)
          obtain ⟨b, off, e, hbl, hcc⟩ := HS.out.at hlt
          subst e
          have q0 := hcc 0 _ rfl
          have q1 := hcc 1 _ rfl
          simp only [Nat.add_zero] at q0
          by_cases hjk : j < k
          · have d2 : decide ((j : Int) < (k : Int)) = true := decide_eq_true (by omega)
            have hjl : j < es.length := by omega
            have hja : (j : Int) < (es.length : Int) := by omega
            obtain ⟨b', off', e, hbl', hcc'⟩ := HS.out.at hjl
            injection e with e
            injection e with e1 e2
            subst e1
            subst e2
            have p0 := hcc' 0 _ rfl
            have p1 := hcc' 1 _ rfl
            simp only [Nat.add_zero] at p0
            clear hcc hcc'
            by_cases he : (es[j].t, es[j].s) = (es[k].t, es[k].s)
            · have hq : ∀ W, (binOp .eql 24 (.agg #[.int .i64 es[j].t, .int .i64 es[j].s]) (.agg #[.int .i64 es[k].t, .int .i64 es[k].s])).run Try.prog W = .ok (.bool true) W := fun W => by rw [eql_el, decide_eq_true he]
              clear he HN
              generalize es[j] = ej at p0 p1 hq
              generalize es[k] = ek at q0 q1 hq
              go_wp2_with fail
              go_quiet (fail)
              go_wp2_with fail
              refine (law12_live _).mono ?_
              rintro e w9 ⟨rfl, hb⟩
              have HBE := Lib.hid (grew HB2.out (grew (grew_drewN _ _) hb))
              clear hb
              go_wp2
              go_ret
              exact ⟨rfl, HBE.out⟩
            · have hq : ∀ W, (binOp .eql 24 (.agg #[.int .i64 es[j].t, .int .i64 es[j].s]) (.agg #[.int .i64 es[k].t, .int .i64 es[k].s])).run Try.prog W = .ok (.bool false) W := fun W => by rw [eql_el, decide_eq_false he]
              have HN2 : Hid (∀ a (ha : a < es.length), a < j + 1 → (es[a].t, es[a].s) ≠ (es[k].t, es[k].s)) := Lib.hid (fun a ha haj => by
                by_cases e : a = j
                · subst e; exact he
                · exact HN.out a ha (by omega))
              clear he HN
              generalize es[j] = ej at p0 p1 hq
              generalize hek : es[k] = ek at q0 q1 hq
              have HEK := Lib.hid hek
              clear hek
              go_wp2_with fail
              go_quiet (fail)
              go_wp2
              go_roundw
              case rel => exact ⟨j + 1, by omega, by go_num, fun a ha h => by have := HN2.out a ha h; rwa [HEK.out] at this, grew HB2.out (grew_drewN _ _)⟩
              case measure => simp [intOf]; omega
          · have d2 : decide ((j : Int) < (k : Int)) = false := decide_eq_false (by omega)
            clear hcc
            by_cases he : (es[k].t, es[k].s) = (0, 0)
            · have hq : ∀ W, (binOp .eql 24 (.agg #[.int .i64 es[k].t, .int .i64 es[k].s]) (.agg #[.int .i64 0, .int .i64 0])).run Try.prog W = .ok (.bool true) W := fun W => by rw [eql_el, decide_eq_true he]
              clear he HN
              generalize es[k] = ek at q0 q1 hq
              go_wp2_with fail
              refine (law12_live _).mono ?_
              rintro e w9 ⟨rfl, hb⟩
              have HBE := Lib.hid (grew HB2.out hb)
              clear hb
              go_wp2
              go_ret
              exact ⟨rfl, HBE.out⟩
            · have hq : ∀ W, (binOp .eql 24 (.agg #[.int .i64 es[k].t, .int .i64 es[k].s]) (.agg #[.int .i64 0, .int .i64 0])).run Try.prog W = .ok (.bool false) W := fun W => by rw [eql_el, decide_eq_false he]
              have HDZ2 : Hid ((∀ a b (ha : a < es.length) (hb : b < es.length), a < b → b < k + 1 → (es[a].t, es[a].s) ≠ (es[b].t, es[b].s)) ∧ ∀ a (ha : a < es.length), a < k + 1 → (es[a].t, es[a].s) ≠ (0, 0)) := Lib.hid ⟨fun a b ha hb hab hbk => by
                by_cases e : b = k
                · subst e; exact HN.out a ha (by omega)
                · exact HDZ.out.1 a b ha hb hab (by omega), fun a ha hak => by
                by_cases e : a = k
                · subst e; exact he
                · exact HDZ.out.2 a ha (by omega)⟩
              clear he HN
              generalize hek : es[k] = ek at q0 q1 hq
              have HEK := Lib.hid hek
              clear hek
              go_wp2
              go_roundw
              case rel => exact ⟨k + 1, by omega, by go_num, HDZ2.out, HB2.out⟩
              case measure => simp [intOf]; omega
      · have d1 : decide ((k : Int) < (es.length : Int)) = false := decide_eq_false (by omega)
        have HAP : Hid (View.Apart es) := Lib.hid ⟨fun a b ha hb hab => HDZ.out.1 a b ha hb hab (by omega), fun a ha => HDZ.out.2 a ha (by omega)⟩
        have HS := Lib.hid (HV.out.below HB.out)
        clear HDZ
        have hsl := View.seen_len es
        by_cases hr : 0 ≤ i ∧ i ≤ (View.seen es).length
        · have HRE : Hid (View.refE es i = 0) := Lib.hid (if_pos hr)
          have HIX := Lib.hid (View.apart_ref HAP.out hr)
          clear hr
          go_wp2_with fail
          refine (view_Ref _ es i _ HS.out (by unfold maxLen; omega)).mono ?_
          rintro e w2 ⟨rfl, hb⟩
          rw [HRE.out]
          have hb := grew hb (grew_alloc w2 (.cells #[.int .i64 (View.refT es i).1, .int .i64 (View.refT es i).2] 24))
          have HB := Lib.hid (grew HB.out hb)
          have HS := Lib.hid (HS.out.below hb)
          have HX := Lib.hid (Holds.new w2 [.int .i64 (View.refT es i).1, .int .i64 (View.refT es i).2] 24)
          clear hb
          generalize View.refT es i = rt at *
          obtain ⟨r1, r2⟩ := rt
          simp only at HX HB HS ⊢
          have y0 := HX.out.cell 0 (by simp)
          have y1 := HX.out.cell 1 (by simp)
          simp only [List.getElem_cons_zero, List.getElem_cons_succ] at y0 y1
          go_wp2_with fail
          refine (view_Index _ es r1 r2 _ HS.out (by omega)).mono ?_
          rintro e w3 ⟨rfl, hb⟩
          rw [HIX.out]
          have HB := Lib.hid (grew HB.out hb)
          clear hb y0 y1 HX HS
          go_wp2_with fail
          go_loopw [11] (fun k' wv => ∃ j : Nat, j ≤ es.length ∧ k' = .int .i64 j ∧ Below w1.heap.size w1 wv) (fun k' _ => es.length - (intOf k').toNat)
          case atStart => exact ⟨0, by omega, rfl, HB.out⟩
          case round =>
            obtain ⟨j, hj, rfl, hbel⟩ := hrel
            have HB2 := Lib.hid hbel
            clear hbel
            by_cases hjl : j < es.length
            · have d2 : decide ((j : Int) < (es.length : Int)) = true := decide_eq_true (by omega)
              have hja : (j : Int) < (es.length : Int) := by omega
              have HS := Lib.hid (HV.out.below HB2.out)
              obtain ⟨b, off, e, hbl, hcc⟩ := HS.out.at hjl
              subst e
              have q0 := hcc 0 _ rfl
              have q1 := hcc 1 _ rfl
              simp only [Nat.add_zero] at q0
              have HIK := Lib.hid (View.apart_at HAP.out hjl)
              have HTK := Lib.hid (HV.out.take (m := j + 1) (by omega))
              have hll : (es.take (j + 1)).length = j + 1 := by rw [List.length_take]; omega
              have HLL := Lib.hid hll
              have HNL := Lib.hid (View.nums_len (es.take (j + 1)))
              have hs1 : (j : Int) + 1 ≤ (vc : Int) := by
                obtain ⟨_, c', e, hc, _⟩ := HV.out
                injection e with _ _ e3
                subst e3
                omega
              have hs2 : j + 1 ≤ vc := by omega
              clear hcc hll
              generalize es[j] = ej at q0 q1 HIK
              generalize es.take (j + 1) = tk at HTK HLL HIK HNL
              go_wp2_with fail
              refine (view_Index _ es ej.t ej.s _ HS.out (by omega)).mono ?_
              rintro e w4 ⟨rfl, hb⟩
              rw [HIK.out]
              have HB3 := Lib.hid (grew HB2.out hb)
              clear hb q0 q1
              go_wp2_with fail
              refine (view_Seen _ tk _ (HTK.out.below HB3.out) (by rw [HLL.out]; omega)).mono ?_
              rintro e w5 ⟨p, rfl, ho, hb⟩
              obtain ⟨pa, pc, e⟩ := ho.slice.shape
              rw [HNL.out] at e
              subst e
              have HB4 := Lib.hid (grew HB3.out hb)
              clear hb ho
              go_wp2
              go_roundw
              case rel => exact ⟨j + 1, by omega, by go_num, HB4.out⟩
              case measure => simp [intOf]; omega
            · have d2 : decide ((j : Int) < (es.length : Int)) = false := decide_eq_false (by omega)
              go_wp2_with fail
              refine (law12_live _).mono ?_
              rintro e w9 ⟨rfl, hb⟩
              have HBE := Lib.hid (grew HB2.out hb)
              clear hb
              go_wp2
              go_ret
              exact ⟨rfl, HBE.out⟩
        · have HRE : Hid (View.refE es i = 1) := Lib.hid (if_neg hr)
          go_wp2_with fail
          refine (view_Ref _ es i _ HS.out (by unfold maxLen; omega)).mono ?_
          rintro e w2 ⟨rfl, hb⟩
          rw [HRE.out]
          have hb := grew hb (grew_alloc w2 (.cells #[.int .i64 (View.refT es i).1, .int .i64 (View.refT es i).2] 24))
          have HB := Lib.hid (grew HB.out hb)
          have HS := Lib.hid (HS.out.below hb)
          clear hb
          by_cases h0 : i < 0
          · have e0 : decide (i < 0) = true := decide_eq_true h0
            clear hr h0
            go_wp2_with fail
            refine (law12_live _).mono ?_
            rintro e w9 ⟨rfl, hb⟩
            have HBE := Lib.hid (grew HB.out hb)
            clear hb
            go_wp2
            go_ret
            exact ⟨rfl, HBE.out⟩
          · have e0 : decide (i < 0) = false := decide_eq_false h0
            have e1 : decide (((View.seen es).length : Int) < i) = true := decide_eq_true (by omega)
            have HNL := Lib.hid (View.nums_len es)
            generalize (View.seen es).length = sl at *
            clear hr h0
            go_wp2_with fail
            refine (view_Seen _ es _ HS.out (by omega)).mono ?_
            rintro e w5 ⟨p, rfl, ho, hb⟩
            obtain ⟨pa, pc, e⟩ := ho.slice.shape
            rw [HNL.out] at e
            subst e
            have HB := Lib.hid (grew HB.out hb)
            clear hb ho
            go_wp2_with fail
            refine (law12_live _).mono ?_
            rintro e w9 ⟨rfl, hb⟩
            have HBE := Lib.hid (grew HB.out hb)
            clear hb
            go_wp2
            go_ret
            exact ⟨rfl, HBE.out⟩
  · rintro e w1 ⟨rfl, rfl⟩
    rw [decide_eq_false hfew]
    clear hfew hm HFEW
    go_wp2_with fail
    refine (law12_live _).mono ?_
    rintro e w9 ⟨rfl, hb⟩
    have HBE := Lib.hid hb
    clear hb
    go_wp2
    go_ret
    exact ⟨rfl, HBE.out⟩
end Go.Proofs.Ytmelaidbicaagaa
