/- What is said. -/
import Derived.Test.YtmelaidbicaagaaViRange
import Derived.Laws.Cover4
namespace Go.Proofs.Ytmelaidbicaagaa
open Go.RowKit Go.Shelf
attribute [local go_sem] Oper.semAt_some
set_option linter.unusedVariables false

/-- A number as a rune. -/
def View.rn (n : Int) : Int := if Utf8.valid n then n else 65533
theorem View.rn_yes {n : Int} (h : (0 ≤ n ∧ n < 55296) ∨ (57344 ≤ n ∧ n ≤ 1114111)) : View.rn n = n := by
  unfold View.rn Utf8.valid
  rw [if_pos (by simp; omega)]
theorem View.rn_no {n : Int} (h : ¬ ((0 ≤ n ∧ n < 55296) ∨ (57344 ≤ n ∧ n ≤ 1114111))) : View.rn n = 65533 := by
  unfold View.rn Utf8.valid
  rw [if_neg (by simp; omega)]
theorem View.rn_enc (n : Int) : Utf8.encode (View.rn n) = Utf8.encode n := by
  unfold View.rn
  by_cases h : Utf8.valid n = true
  · rw [if_pos h]
  · rw [if_neg h]
    unfold Utf8.encode
    simp only [Bool.eq_false_iff.2 h]
    rfl

theorem utf8_ValidRune (n : Int) (w : World) (hn : 0 ≤ n ∧ n ≤ 1114111) : Calls Try.prog 28 #[.int .i32 n] w fun e w' => e = .returned (.bool (Utf8.valid n)) ∧ w' = w := by
  have d0 : decide (0 ≤ n) = true := decide_eq_true hn.1
  have d1 : decide (n ≤ 1114111) = true := decide_eq_true hn.2
  by_cases h1 : n < 55296
  · have d2 : decide (n < 55296) = true := decide_eq_true h1
    have hv : Utf8.valid n = true := by unfold Utf8.valid; simp; omega
    have HV := Lib.hid hv
    clear hv
    go_enter Try.func28, Try.ntmps28
    go_wp2
    go_ret
    exact ⟨by rw [HV.out]; rfl, rfl⟩
  · have d2 : decide (n < 55296) = false := decide_eq_false h1
    by_cases h2 : 57343 < n
    · have d3 : decide (57343 < n) = true := decide_eq_true h2
      have hv : Utf8.valid n = true := by unfold Utf8.valid; simp; omega
      have HV := Lib.hid hv
      clear hv
      go_enter Try.func28, Try.ntmps28
      go_wp2
      go_ret
      exact ⟨by rw [HV.out]; rfl, rfl⟩
    · have d3 : decide (57343 < n) = false := decide_eq_false h2
      have hv : Utf8.valid n = false := by unfold Utf8.valid; simp; omega
      have HV := Lib.hid hv
      clear hv
      go_enter Try.func28, Try.ntmps28
      go_wp2
      go_ret
      exact ⟨by rw [HV.out]; rfl, rfl⟩

theorem view_asRune (n : Int) (w : World) : Calls Try.prog 26 #[.int .i64 n] w fun e w' => e = .returned (.int .i32 (View.rn n)) ∧ w' = w := by
  by_cases h0 : n < 0
  · have d0 : decide (n < 0) = true := decide_eq_true h0
    have HR := Lib.hid (View.rn_no (n := n) (by omega))
    go_enter Try.func26, Try.ntmps26
    go_wp2
    go_ret
    exact ⟨by rw [HR.out]; rfl, rfl⟩
  · have d0 : decide (n < 0) = false := decide_eq_false h0
    by_cases h1 : 1114111 < n
    · have d1 : decide (1114111 < n) = true := decide_eq_true h1
      have HR := Lib.hid (View.rn_no (n := n) (by omega))
      go_enter Try.func26, Try.ntmps26
      go_wp2
      go_ret
      exact ⟨by rw [HR.out]; rfl, rfl⟩
    · have d1 : decide (1114111 < n) = false := decide_eq_false h1
      have hw : IntKind.i32.wrap n = n := by rw [IntKind.wrap_i32]; omega
      have HU := Lib.hid (utf8_ValidRune n w (by omega))
      by_cases hv : Utf8.valid n = true
      · have HR : Hid (View.rn n = n) := Lib.hid (by unfold View.rn; rw [if_pos hv])
        rw [hv] at HU
        go_enter Try.func26, Try.ntmps26
        go_wp2_with fail
        refine HU.out.mono ?_
        rintro e w1 ⟨rfl, rfl⟩
        go_wp2
        go_ret
        exact ⟨by rw [HR.out]; rfl, rfl⟩
      · have HR : Hid (View.rn n = 65533) := Lib.hid (by unfold View.rn; rw [if_neg hv])
        rw [Bool.eq_false_iff.2 hv] at HU
        go_enter Try.func26, Try.ntmps26
        go_wp2_with fail
        refine HU.out.mono ?_
        rintro e w1 ⟨rfl, rfl⟩
        go_wp2
        go_ret
        exact ⟨by rw [HR.out]; rfl, rfl⟩

theorem info_i32 : (Try.prog.info? 21).map (fun i => (i.zero, i.size, i.bytes)) = some (some (.int .i32 0), 1, 4) := by kernel_rfl
/-- What is said, as bytes. -/
def View.text (es : List El) : ByteArray := runesBytes ((View.seen es).map (fun x => View.rn x.2.rune))

/-- A slice of runes of the call's own, as a text. -/
theorem conv_runes {W : World} {base : Nat} {a : Option Addr} {n c : Nat} {ns : List Int} (h : W.ownsRow base 21 1 (.slice a n c) ns.length (ns.map (Value.int .i32))) : (convert 55 9 (.slice a n c)).run Try.prog W = .ok (.string (runesBytes ns)) W := by
  rcases h.2 with ⟨e, h0⟩ | ⟨g, cap, cur, e, _, hg, hn, _, hsz, htk⟩
  · injection e with e1 e2 e3
    subst e1
    have : ns = [] := List.eq_nil_of_length_eq_zero h0
    subst this
    exact run_convert_runes_nil W _ _ _ _ _ Try.underlying55 Try.underlying21 Try.underlying9
  · injection e with e1 e2 e3
    subst e1
    subst e2
    subst e3
    have := run_convert_runes (P := Try.prog) W 55 9 21 ⟨g, 0, none⟩ ns.length c ns (Nat.le_refl _) Try.underlying55 Try.underlying21 Try.underlying9 (fun j hj => by
      rw [show (⟨g, 0, none⟩ : Addr).add j = ⟨g, j, none⟩ from by unfold Addr.add; split <;> simp_all, cell_of_row _ _ _ _ _ _ hg]
      have h9 : (ns.map (Value.int .i32))[j]? = some (.int .i32 ns[j]) := by rw [List.getElem?_map, List.getElem?_eq_getElem hj]; rfl
      rw [← htk, List.getElem?_take_of_lt (by omega)] at h9
      rw [List.getD_eq_getElem?_getD, List.getElem?_eq_getElem hj]
      simpa using h9)
    rw [List.take_length] at this
    exact this

/-- 'append' in a region that draws its order, inside a fence. -/
theorem stepIn_append {F : Fence} {n : Nat} {w w' : World} {ops : Array Oper} {o : Oper} {a : Act} {K : Act → World → Prop} {Q : Exit → Act → World → Prop} {E : Prop} (hgd : o.guard = none) (s x : Operand) {t : TypeId} {v u v' : Value}
    (ho : o.op = .call { callee := .builtin .append, args := #[s, x], argTypes := #[t, t] }) (hs : a.eval s = v) (hx : a.eval x = u) (hrun : (Builtin.append_ #[t, t] o.type #[v, u]).run Try.prog w = .ok v' w')
    (h : K (a.put o.dst v') w') : if Region.wanted o (yielded ops a.tmps) = true then Oper.wpIn F n Try.prog o a w K Q else E := by
  have hw : Region.wanted o (yielded ops a.tmps) = true := by simp [Region.wanted, hgd]
  rw [if_pos hw]
  unfold Oper.wpIn
  refine ⟨?_, ?_⟩
  · simp [Oper.about, ho, resolve, Target.leads, Sem.run_pure]
  · rw [Oper.semAt_plain F _ _ (by rw [ho]; intro c hc'; cases hc')]
    simp [execOp, ho, resolve, invoke, builtin, hs, hx, hrun, Result.andThen]
    exact h

set_option maxRecDepth 100000 in
set_option maxHeartbeats 4000000 in
theorem view_Text (v : Value) (es : List El) (w : World) (hv : SliceG 6 El.cells w v es) (hm : es.length ≤ 1000000000) :
    Calls Try.prog 19 #[v] w fun e w' => e = .returned (.string (View.text es)) ∧ Below w.heap.size w w' := by
  have HV := Lib.hid hv
  obtain ⟨va, vc, rfl⟩ := hv.shape
  clear hv
  obtain ⟨i0, hi, hz0, hz1, hz2⟩ := info_parts info_i32
  refine (callsIn_wide (n := 3)).1 ?_
  refine callsIn_of_wp_marks Try.func19 rfl trivial ?_ rfl
  simp only [Try.ntmps19, List.size_toArray, List.length_cons, List.length_nil, Nat.reduceAdd, Nat.reduceSub, Array.replicate_succ, Array.replicate_zero, List.push_toArray, List.append_toArray, List.nil_append, List.cons_append]
  gi_wp2_with (refine ⟨trivial, ?_⟩; gi_at_call 24; refine (seen_in 2 _ _ _ _).mono ?_; rintro e w' ⟨rfl, rfl⟩)
  have bS := (Boxed.new w 55 (.slice none 0 0)).alloc (.cells #[.slice va es.length vc] 22)
  have bN := Boxed.new (w.alloc (.cells #[.slice none 0 0] 55)) 22 (.slice va es.length vc)
  rw [World.size_alloc] at bN
  have hB0 : Below w.heap.size w ((w.alloc (.cells #[.slice none 0 0] 55)).alloc (.cells #[.slice va es.length vc] 22)) := ((Below.refl _ w).alloc (Nat.le_refl _) _).alloc (by simp) _
  have hs0 : ((w.alloc (.cells #[.slice none 0 0] 55)).alloc (.cells #[.slice va es.length vc] 22)).heap.size = w.heap.size + 2 := by simp
  generalize (w.alloc (.cells #[.slice none 0 0] 55)).alloc (.cells #[.slice va es.length vc] 22) = W1 at *
  refine wpIn_rangeFunc_ownH (α := Nat × El) (n := 3) rfl (by decide) (gf := 27) (lb := #[.pointer (some ⟨w.heap.size + 1, 0, none⟩)]) rfl trivial (enters_of Try.func27 (by kernel_rfl) rfl)
    (seen_stops 2 (by decide) (w.heap.size + 1) w W1 _ es HV.out (by unfold maxLen; omega) hB0 (by omega) bN.cell) belowK_t (belowK_b (by omega)) (Below.refl _ _) (fun _ => rfl)
    (fun (pre : List (Nat × El)) W => (∃ v, Boxed W w.heap.size 55 v ∧ W.ownsRow w.heap.size 21 1 v pre.length (pre.map (fun x => .int .i32 (View.rn x.2.rune))) ∧ ∃ a n c, v = .slice a n c) ∧ Below w.heap.size w W)
    (fun _ _ _ => False)
    (OwnFrom.and (Own.from (holdsRow_own w.heap.size w.heap.size 55 21 1 (fun (pre : List (Nat × El)) => pre.length) (fun pre => pre.map (fun x => .int .i32 (View.rn x.2.rune))) (fun pre v => ∃ a n c, v = .slice a n c)) _) (ownFrom_below (Nat.le_refl _) (by omega)))
    (fun _ _ _ _ _ hs _ _ => hs)
    ⟨⟨_, bS, World.ownsRow_nil _ _ _ _, _, _, _, rfl⟩, hB0⟩
    (fun x a' W => ∃ Bx, w.heap.size < Bx ∧ Holds W Bx x.2.cells 44 ∧ a' = { tmps := #[.slice va es.length vc, undef, .string ⟨#[]⟩, .pointer (some ⟨w.heap.size, 0, none⟩), undef, .pointer (some ⟨Bx, 0, none⟩), .slice va es.length vc, .func (.func 27) #[] #[.pointer (some ⟨w.heap.size + 1, 0, none⟩)], .int .i64 (x.1 : Nat), x.2.val, undef, undef, undef, undef, undef, undef, undef, undef], defers := [] })
    (fun x a' _ X Y row hs hg hr => by obtain ⟨Bx, k1, k2, k3⟩ := hs; exact ⟨Bx, k1, holds_own Bx _ (fun (_ : Unit) => x.2.cells) () X Y row k2 hg (fun r e => (hr r e).2), k3⟩)
    ?assign ?body ?done ?stop
  case assign =>
    rintro l pre x W K ⟨⟨v, hv, hrow, hsh⟩, hB⟩ hK
    obtain ⟨m, t, s, rt, rs, rune, ua, un, uc⟩ := x
    simp only [El.val]
    gi_wp2
    exact hK _ _ ((KeepsOthers.alloc _ _).from _) ((Below.refl _ W).alloc hB.size _) ⟨⟨v, hv.alloc _, hrow.alloc _, hsh⟩, hB.alloc hB.size _⟩ ⟨W.heap.size, hv.lt, Holds.new W _ _, rfl⟩
  case body =>
    rintro l pre x a' W hl ⟨r, hr⟩ ⟨⟨v, hv, hrow, ⟨_, _, _, rfl⟩⟩, hB⟩ ⟨Bx, hBx, hX, rfl⟩ hlt
    obtain ⟨m, t, s, rt, rs, rune, ua, un, uc⟩ := x
    unfold El.cells at hX
    simp only at hX
    have cv := hv.cell
    have x4 := hX.cell 4 (by simp)
    have cv2 := (hv.alloc (.cells #[.int .i32 (View.rn rune)] 21)).cell
    simp only [List.getElem_cons_zero, List.getElem_cons_succ] at x4
    have hwB := hB.size
    have mixed : Try.prog.follows .mixedOrders = true := by kernel_rfl
    have hvd : Boxed W.drew w.heap.size 55 _ := hv
    have hrd : W.drew.ownsRow w.heap.size 21 1 _ _ _ := hrow
    obtain ⟨v', w1, hrun, hown', hgrow, _⟩ := run_append_own (P := Try.prog) (W.drew.alloc (.cells #[.int .i32 (View.rn rune)] 21)) w.heap.size 55 55 21 i0 (.int .i32 0) 1 4 Try.underlying55 hi hz0 hz1 hz2 rfl (by decide) _ _ _ (hrd.alloc _) ⟨W.drew.heap.size, 0, none⟩ 1 1 [.int .i32 (View.rn rune)] rfl (cell_one_new _ _ _) (by simp [Value.oneCell']) (by unfold maxLen; omega) (by omega) (by simp; omega)
    obtain ⟨g', cap', rfl⟩ := ownsRow_succ hown'
    obtain ⟨hv1, hv2, hr2, hk2, hb2⟩ := hvd.appended (by decide) hrd hwB (Nat.le_refl _) hown' hgrow
    have hc1 := hv1.cell
    have hf1 := hv1.frozen
    have HV2 := Lib.hid hv2
    have HR2 := Lib.hid hr2
    have HK2 := Lib.hid hk2
    have HB2 := Lib.hid hb2
    clear hv2 hr2 hk2 hb2 hv1 hown' hgrow
    have HKX : Hid (KeepsOthers W (w1.setCell ⟨w.heap.size, 0, none⟩ (.slice (some ⟨g', 0, none⟩) (pre.length + 1) cap'))) := Lib.hid ((KeepsOthers.drew W).trans HK2.out)
    have HBX : Hid (Below w.heap.size W (w1.setCell ⟨w.heap.size, 0, none⟩ (.slice (some ⟨g', 0, none⟩) (pre.length + 1) cap'))) := Lib.hid ((Below.refl w.heap.size W).drew.trans HB2.out)
    have HRX : Hid ((w1.setCell ⟨w.heap.size, 0, none⟩ (.slice (some ⟨g', 0, none⟩) (pre.length + 1) cap')).ownsRow w.heap.size 21 1 (.slice (some ⟨g', 0, none⟩) (pre.length + 1) cap') (pre ++ [(m, (⟨t, s, rt, rs, rune, ua, un, uc⟩ : El))]).length ((pre ++ [(m, (⟨t, s, rt, rs, rune, ua, un, uc⟩ : El))]).map (fun x => .int .i32 (View.rn x.2.rune)))) := Lib.hid (by simpa using HR2.out)
    clear HR2 HK2 HB2
    gi_wp2
    refine wpIn_region_any (by kernel_rfl) ?_
    try (change wpAnyIn _ _ _ _ _ _ _ _ _ (World.drew _))
    refine wpAnyIn_ready (rs := [0, 1]) (by kernel_rfl) (by simp) ?_
    refine AllReadyIn.cons rfl (fun K hK => ?_) ?_
    · go_simp
      refine hK _ _ ?_
      clear hK K
      refine wpAnyIn_ready (rs := [1]) (by kernel_rfl) (by simp) ?_
      refine AllReadyIn.cons rfl (fun K hK => ?_) ?_
      · go_simp
        refine hK _ _ ?_
        clear hK K
        refine wpAnyIn_ready (rs := [2]) (by kernel_rfl) (by simp) ?_
        refine AllReadyIn.cons rfl (fun K hK => ?_) ?_
        · go_simp
          refine hK _ _ ?_
          clear hK K
          refine wpAnyIn_ready (rs := [3]) (by kernel_rfl) (by simp) ?_
          refine AllReadyIn.cons rfl (fun K hK => ?_) ?_
          · go_simp
            gi_wp2_with (refine ⟨trivial, ?_⟩; gi_at_call 26; refine (CallsIn.inRound l (callsIn_wide.2 (view_asRune _ _))).mono ?_; rintro e w' ⟨rfl, rfl⟩)
            refine wpAnyIn_ready (rs := [4]) (by kernel_rfl) (by simp) ?_
            refine AllReadyIn.cons rfl (fun K hK => ?_) ?_
            · go_simp
              refine hK _ _ ?_
              clear hK K
              refine wpAnyIn_ready (rs := [5]) (by kernel_rfl) (by simp) ?_
              refine AllReadyIn.cons rfl (fun K hK => ?_) ?_
              · refine stepIn_append rfl (.tmp 10) (.tmp 14) rfl rfl rfl hrun ?_
                refine hK _ _ ?_
                clear hK K
                refine wpAnyIn_ready (rs := [6]) (by kernel_rfl) (by simp) ?_
                refine AllReadyIn.cons rfl (fun K hK => ?_) ?_
                · go_simp
                  refine hK _ _ ?_
                  clear hK K
                  refine wpAnyIn_done (by kernel_rfl) ?_ _
                  gi_wp2
                  exact ⟨HKX.out.from _, HBX.out, ⟨_, HV2.out, HRX.out, _, _, _, rfl⟩, hB.trans HBX.out⟩
                exact AllReadyIn.nil
              exact AllReadyIn.nil
            exact AllReadyIn.nil
          exact AllReadyIn.nil
        exact AllReadyIn.nil
      exact AllReadyIn.nil
    refine AllReadyIn.cons rfl (fun K hK => ?_) ?_
    · go_simp
      refine hK _ _ ?_
      clear hK K
      refine wpAnyIn_ready (rs := [0, 2]) (by kernel_rfl) (by simp) ?_
      refine AllReadyIn.cons rfl (fun K hK => ?_) ?_
      · go_simp
        refine hK _ _ ?_
        clear hK K
        refine wpAnyIn_ready (rs := [2]) (by kernel_rfl) (by simp) ?_
        refine AllReadyIn.cons rfl (fun K hK => ?_) ?_
        · go_simp
          refine hK _ _ ?_
          clear hK K
          refine wpAnyIn_ready (rs := [3]) (by kernel_rfl) (by simp) ?_
          refine AllReadyIn.cons rfl (fun K hK => ?_) ?_
          · go_simp
            gi_wp2_with (refine ⟨trivial, ?_⟩; gi_at_call 26; refine (CallsIn.inRound l (callsIn_wide.2 (view_asRune _ _))).mono ?_; rintro e w' ⟨rfl, rfl⟩)
            refine wpAnyIn_ready (rs := [4]) (by kernel_rfl) (by simp) ?_
            refine AllReadyIn.cons rfl (fun K hK => ?_) ?_
            · go_simp
              refine hK _ _ ?_
              clear hK K
              refine wpAnyIn_ready (rs := [5]) (by kernel_rfl) (by simp) ?_
              refine AllReadyIn.cons rfl (fun K hK => ?_) ?_
              · refine stepIn_append rfl (.tmp 10) (.tmp 14) rfl rfl rfl hrun ?_
                refine hK _ _ ?_
                clear hK K
                refine wpAnyIn_ready (rs := [6]) (by kernel_rfl) (by simp) ?_
                refine AllReadyIn.cons rfl (fun K hK => ?_) ?_
                · go_simp
                  refine hK _ _ ?_
                  clear hK K
                  refine wpAnyIn_done (by kernel_rfl) ?_ _
                  gi_wp2
                  exact ⟨HKX.out.from _, HBX.out, ⟨_, HV2.out, HRX.out, _, _, _, rfl⟩, hB.trans HBX.out⟩
                exact AllReadyIn.nil
              exact AllReadyIn.nil
            exact AllReadyIn.nil
          exact AllReadyIn.nil
        exact AllReadyIn.nil
      refine AllReadyIn.cons rfl (fun K hK => ?_) ?_
      · go_simp
        refine hK _ _ ?_
        clear hK K
        refine wpAnyIn_ready (rs := [0, 3]) (by kernel_rfl) (by simp) ?_
        refine AllReadyIn.cons rfl (fun K hK => ?_) ?_
        · go_simp
          refine hK _ _ ?_
          clear hK K
          refine wpAnyIn_ready (rs := [3]) (by kernel_rfl) (by simp) ?_
          refine AllReadyIn.cons rfl (fun K hK => ?_) ?_
          · go_simp
            gi_wp2_with (refine ⟨trivial, ?_⟩; gi_at_call 26; refine (CallsIn.inRound l (callsIn_wide.2 (view_asRune _ _))).mono ?_; rintro e w' ⟨rfl, rfl⟩)
            refine wpAnyIn_ready (rs := [4]) (by kernel_rfl) (by simp) ?_
            refine AllReadyIn.cons rfl (fun K hK => ?_) ?_
            · go_simp
              refine hK _ _ ?_
              clear hK K
              refine wpAnyIn_ready (rs := [5]) (by kernel_rfl) (by simp) ?_
              refine AllReadyIn.cons rfl (fun K hK => ?_) ?_
              · refine stepIn_append rfl (.tmp 10) (.tmp 14) rfl rfl rfl hrun ?_
                refine hK _ _ ?_
                clear hK K
                refine wpAnyIn_ready (rs := [6]) (by kernel_rfl) (by simp) ?_
                refine AllReadyIn.cons rfl (fun K hK => ?_) ?_
                · go_simp
                  refine hK _ _ ?_
                  clear hK K
                  refine wpAnyIn_done (by kernel_rfl) ?_ _
                  gi_wp2
                  exact ⟨HKX.out.from _, HBX.out, ⟨_, HV2.out, HRX.out, _, _, _, rfl⟩, hB.trans HBX.out⟩
                exact AllReadyIn.nil
              exact AllReadyIn.nil
            exact AllReadyIn.nil
          exact AllReadyIn.nil
        refine AllReadyIn.cons rfl (fun K hK => ?_) ?_
        · go_simp
          gi_wp2_with (refine ⟨trivial, ?_⟩; gi_at_call 26; refine (CallsIn.inRound l (callsIn_wide.2 (view_asRune _ _))).mono ?_; rintro e w' ⟨rfl, rfl⟩)
          refine wpAnyIn_ready (rs := [0, 4]) (by kernel_rfl) (by simp) ?_
          refine AllReadyIn.cons rfl (fun K hK => ?_) ?_
          · go_simp
            refine hK _ _ ?_
            clear hK K
            refine wpAnyIn_ready (rs := [4]) (by kernel_rfl) (by simp) ?_
            refine AllReadyIn.cons rfl (fun K hK => ?_) ?_
            · go_simp
              refine hK _ _ ?_
              clear hK K
              refine wpAnyIn_ready (rs := [5]) (by kernel_rfl) (by simp) ?_
              refine AllReadyIn.cons rfl (fun K hK => ?_) ?_
              · refine stepIn_append rfl (.tmp 10) (.tmp 14) rfl rfl rfl hrun ?_
                refine hK _ _ ?_
                clear hK K
                refine wpAnyIn_ready (rs := [6]) (by kernel_rfl) (by simp) ?_
                refine AllReadyIn.cons rfl (fun K hK => ?_) ?_
                · go_simp
                  refine hK _ _ ?_
                  clear hK K
                  refine wpAnyIn_done (by kernel_rfl) ?_ _
                  gi_wp2
                  exact ⟨HKX.out.from _, HBX.out, ⟨_, HV2.out, HRX.out, _, _, _, rfl⟩, hB.trans HBX.out⟩
                exact AllReadyIn.nil
              exact AllReadyIn.nil
            exact AllReadyIn.nil
          refine AllReadyIn.cons rfl (fun K hK => ?_) ?_
          · go_simp
            refine hK _ _ ?_
            clear hK K
            refine wpAnyIn_ready (rs := [0]) (by kernel_rfl) (by simp) ?_
            refine AllReadyIn.cons rfl (fun K hK => ?_) ?_
            · go_simp
              refine hK _ _ ?_
              clear hK K
              refine wpAnyIn_ready (rs := [5]) (by kernel_rfl) (by simp) ?_
              refine AllReadyIn.cons rfl (fun K hK => ?_) ?_
              · refine stepIn_append rfl (.tmp 10) (.tmp 14) rfl rfl rfl hrun ?_
                refine hK _ _ ?_
                clear hK K
                refine wpAnyIn_ready (rs := [6]) (by kernel_rfl) (by simp) ?_
                refine AllReadyIn.cons rfl (fun K hK => ?_) ?_
                · go_simp
                  refine hK _ _ ?_
                  clear hK K
                  refine wpAnyIn_done (by kernel_rfl) ?_ _
                  gi_wp2
                  exact ⟨HKX.out.from _, HBX.out, ⟨_, HV2.out, HRX.out, _, _, _, rfl⟩, hB.trans HBX.out⟩
                exact AllReadyIn.nil
              exact AllReadyIn.nil
            exact AllReadyIn.nil
          exact AllReadyIn.nil
        exact AllReadyIn.nil
      exact AllReadyIn.nil
    exact AllReadyIn.nil
  case done =>
    rintro D ys W hD rfl ⟨⟨v, hv, hrow, ⟨ra, rn, rc, rfl⟩⟩, hB⟩ hK
    have hc := hv.cell
    have hrow2 : W.ownsRow w.heap.size 21 1 (.slice ra rn rc) ((View.seen es).map (fun x => View.rn x.2.rune)).length (((View.seen es).map (fun x => View.rn x.2.rune)).map (Value.int .i32)) := by
      rw [List.length_map, List.map_map]
      exact hrow
    have hcv := conv_runes hrow2
    gi_wp2
    refine ⟨by simp, .inl ⟨_, _, rfl, run_takeDeferred hK, ?_⟩⟩
    exact ⟨_, results_tmp rfl _ _ _, rfl, hB.trans (belowK_b (w := w) (Nat.le_refl _) W D _ _ (by omega) hK rfl rfl)⟩
  case stop =>
    rintro D c pre W _ _ h _
    exact h.elim
end Go.Proofs.Ytmelaidbicaagaa
