/- The reference's Browse: where it lies; its calls. -/
import Derived.Test.YtepddieblankpaaDoorSeHas
import Derived.Laws.AppendOwnNone
namespace Go.Proofs.YtepddieblankpaaDoor
open Go.RowKit
attribute [local go_sem] Oper.semAt_some
set_option linter.unusedVariables false

/-- 'append(v, u...)' at texts, whatever u is. -/
theorem wp_append_strs {ops : Array Oper} {rest : List Oper} {o : Oper} {a : Act} {w : World} {Q : Exit → Act → World → Prop} (hgd : o.guard = none) (s x : Operand)
    (ho : o.op = .call { callee := .builtin .append, args := #[s, x], argTypes := #[22, 22] })
    (v u : Value) (l ns : List ByteArray) (hs : a.eval s = v) (hx : a.eval x = u)
    (hown : OwnS w v l) (hsrc : SliceS w u ns) (hlen : l.length + ns.length ≤ 1000000000)
    (h : ∀ v' w', OwnS w' v' (l ++ ns) → Keep (At v) w w' → Near w v v' → wpList Tryd.prog ops Q rest (a.put o.dst v') w') :
    wpList Tryd.prog ops Q (o :: rest) a w := by
  obtain ⟨ad, cap, rfl, hcap, hrow⟩ := hsrc
  cases ad with
  | none =>
    obtain rfl : ns = [] := by
      rcases hrow with h | ⟨b, off, h, _⟩
      · exact h
      · cases h
    obtain ⟨i0, hi, hz0, hz1, hz2⟩ := info_parts info_str
    refine wpList_plain hgd fun K hK => ?_
    have hr : (Builtin.append_ #[22, 22] o.type #[v, .slice none 0 cap]).run Tryd.prog w = .ok v w := by
      rcases hown.2 with ⟨rfl, _⟩ | ⟨g, cp, cur, rfl, _, _, hn, _⟩
      · simp [Builtin.append_, run_underlying Tryd.underlying22, sizeOf, typeInfo, hi, Builtin.lenOf, Builtin.firstCells]
      · simp [Builtin.append_, run_underlying Tryd.underlying22, sizeOf, typeInfo, hi, Builtin.lenOf, Builtin.firstCells, hn, storeCells]
    unfold Oper.wp execOp
    simp only [ho, resolve, invoke, builtin, Sem.run_bind, Sem.run_pure, Result.andThen_ok, List.map_toArray, List.map_cons, List.map_nil, hs, hx, List.length_nil, hr]
    exact hK _ _ (h _ w (by simpa using hown) (Keep.refl _ _) (fun g hg => .inl hg))
  | some ad =>
    refine wp_append_any hgd s x ho Tryd.underlying22 info_str rfl (by decide) (by decide) v l.length (l.map Value.string) hs hown ad ns.length cap (ns.map Value.string) hx (by simp) ?_ ?_ hlen ?_
    · rcases hrow with rfl | ⟨b, off, e, hb, hcells⟩
      · intro j u hu; simp at hu
      · injection e with e
        subst e
        intro j u hu
        have hj : j < ns.length := by
          have := (List.getElem?_eq_some_iff.1 hu).1
          simpa using this
        rw [show (⟨b, off, Option.none⟩ : Addr).add j = ⟨b, off + j, Option.none⟩ from by unfold Addr.add; split <;> simp_all, hcells j hj]
        simpa [List.getElem?_eq_getElem hj] using hu
    · intro u hu
      obtain ⟨c, _, rfl⟩ := List.mem_map.1 hu
      rfl
    · intro v' w' k1 k2 k3
      refine h v' w' ?_ k2 k3
      unfold OwnS
      rw [List.length_append, List.map_append]
      exact k1

/-- The reference's Browse lies at p: its lines' row, where it stands. -/
structure RBro (w : World) (p : Nat) (V : Value) (L : List ByteArray) (k : Nat) : Prop where
  box : Holds w p [V, .int .i64 (k : Int)] 51
  own : OwnS w V L
  off : ∀ g, V.ownBlock = some g → g ≠ p
  lt : k < L.length
  few : L.length ≤ 1000000000
theorem RBro.keep {S : Nat → Prop} {w w' : World} {p : Nat} {V : Value} {L : List ByteArray} {k : Nat} (h : RBro w p V L k) (hk : Keep S w w') (hn : ∀ b, (b = p ∨ V.ownBlock = some b) → ¬ S b) : RBro w' p V L k :=
  ⟨h.box.keep hk (hn _ (.inl rfl)), h.own.keep hk (fun g hg => hn _ (.inr hg)), h.off, h.lt, h.few⟩
theorem RBro.below {w w' : World} {p : Nat} {V : Value} {L : List ByteArray} {k : Nat} (h : RBro w p V L k) (hb : Below w.heap.size w w') : RBro w' p V L k := h.keep (Keep.of_grew hb Non) (fun _ _ h => h)
theorem RBro.row {w : World} {p : Nat} {V : Value} {L : List ByteArray} {k : Nat} (h : RBro w p V L k) : ∃ g cap, V = .slice (some ⟨g, 0, none⟩) L.length cap ∧ g ≠ p ∧ g < w.heap.size ∧ w.cell? ⟨g, k, none⟩ = some (.string (L[k]'h.lt)) ∧ w.frozen? ⟨g, k, none⟩ = false := by
  have ho := h.own
  have hlt := h.lt
  rcases ho.2 with ⟨_, h0⟩ | ⟨g, cap, cur, rfl, hb, hg, hn, hm, hc, ht⟩
  · omega
  · refine ⟨g, cap, rfl, h.off g rfl, (Array.getElem?_eq_some_iff.1 hg).1, ?_, ?_⟩
    · have := World.ownsRow.cells ho (g := g) rfl k (.string (L[k]'hlt)) (by simp [List.getElem?_eq_getElem hlt])
      rw [show (⟨g, 0, Option.none⟩ : Addr).add k = ⟨g, k, Option.none⟩ from by unfold Addr.add; split <;> simp_all] at this
      exact this
    · unfold World.frozen?; rw [hg]; simp
theorem RBro.set {w : World} {p g cap : Nat} {L : List ByteArray} {k : Nat} (h : RBro w p (.slice (some ⟨g, 0, none⟩) L.length cap) L k) (s : ByteArray) : RBro (w.setCell ⟨g, k, none⟩ (.string s)) p (.slice (some ⟨g, 0, none⟩) L.length cap) (L.set k s) k := by
  refine ⟨h.box.keep (Keep.setCell w g k _) (fun e => h.off g rfl e.symm), ?_, h.off, by simpa using h.lt, by simpa using h.few⟩
  unfold OwnS
  rw [List.length_set, List.map_set]
  exact (World.ownsRow.stored h.own k _).1

theorem ref19_Start (v : Value) (ts : List ByteArray) (own : ByteArray) (w : World) (hv : SliceS w v ts) (hn : ts.length ≤ 1000) :
    Calls Tryd.prog 35 #[v, .string own] w fun e w' => ∃ (p : Nat) (V : Value), e = .returned (.pointer (some ⟨p, 0, none⟩)) ∧ RBro w' p V (ts ++ [own]) ts.length ∧ (∀ b, (b = p ∨ V.ownBlock = some b) → w.heap.size ≤ b) ∧ Below w.heap.size w w' := by
  have HV := Lib.hid hv
  obtain ⟨a, cap, rfl⟩ : ∃ a cap, v = .slice a ts.length cap := by obtain ⟨a, cap, e, _⟩ := hv; exact ⟨a, cap, e⟩
  have HN := Lib.hid hn
  clear hv hn
  have HH0 := Lib.hid (Holds.new w [.slice none 0 0, .int .i64 (ts.length : Nat)] 51)
  have HB0 := Lib.hid (grew_alloc w (.cells #[.slice none 0 0, .int .i64 (ts.length : Nat)] 51))
  have HS0 : Hid (w.heap.size < (w.alloc (.cells #[.slice none 0 0, .int .i64 (ts.length : Nat)] 51)).heap.size) := Lib.hid (by simp)
  have HNEW : Hid (∀ (W : World) g, g = W.heap.size → SliceS (W.alloc (.cells #[.string own] 9)) (.slice (some ⟨g, 0, none⟩) 1 1) [own]) := Lib.hid (fun W g e => by
    subst e
    refine ⟨_, 1, rfl, by simp, .inr ⟨_, 0, rfl, by simp, fun i hi => ?_⟩⟩
    obtain rfl : i = 0 := by simpa using hi
    exact (Holds.new W [.string own] 9).cell 0 (by simp))
  go_enter Tryd.func35, Tryd.ntmps35
  go_wp2_with (at_builtin; first
    | (refine wp_append_strs rfl (.tmp 14) (.tmp 15) rfl (.slice none 0 0) _ [] ts rfl rfl (OwnS.nil _) (HV.out.below HB0.out) (by have := HN.out; simp; omega) ?_
       intro v1 w1 ho1 hk1 hn1
       obtain ⟨ua, uc, e1⟩ := OwnS.form ho1
       subst e1
       have HH1 := Lib.hid (HH0.out.keep hk1 (fun e => by cases e))
       have HO1 : Hid (OwnS w1 (.slice ua ts.length uc) ts) := Lib.hid ho1
       have HB1 := Lib.hid (grew HB0.out (hk1.fresh (fun _ _ e => by cases e)))
       have HF1 : Hid (∀ g, (Value.slice ua ts.length uc).ownBlock = some g → w.heap.size < g) := Lib.hid (fun g hg => Nat.lt_of_lt_of_le HS0.out ((hn1 g hg).resolve_left (fun e => by cases e)))
       have HS1 : Hid (w.heap.size < w1.heap.size) := Lib.hid (Nat.lt_of_lt_of_le HS0.out hk1.size)
       clear ho1 hk1 hn1
       have c1 := HH1.out.cell 0 (by simp)
       have f1 := HH1.out.frozen 0
       simp only [List.getElem_cons_zero] at c1)
    | (have HH2 := Lib.hid (HH1.out.set 0 (.slice ua ts.length uc) (by simp))
       have HK2 := Lib.hid (Keep.setCell w1 w.heap.size 0 (.slice ua ts.length uc))
       refine wp_append_strs rfl (.tmp 23) (.tmp 25) rfl (.slice ua ts.length uc) _ ts [own] rfl rfl ((HO1.out.keep HK2.out (fun g hg e => Nat.lt_irrefl _ (Nat.lt_of_lt_of_le (HF1.out g hg) (Nat.le_of_eq e)))).below (grew_alloc _ _)) (HNEW.out _ _ (by simp)) (by have := HN.out; simp; omega) ?_
       intro v3 w3 ho3 hk3 hn3
       obtain ⟨ub, uk, e3⟩ := OwnS.form ho3
       subst e3
       have HO3 := Lib.hid ho3
       have HH3 := Lib.hid (((HH2.out.keep (Keep.alloc Non _ (.cells #[.string own] 9)) (fun h => h))).keep hk3 (fun e => Nat.lt_irrefl _ (HF1.out _ e)))
       have HB3 : Hid (Below w.heap.size w w3) := Lib.hid (by
         have hs := HS1.out
         exact HB1.out.trans ((HK2.out.below (Nat.le_of_lt hs) (fun i e => Nat.le_of_eq (Eq.symm e))).trans (((grew_alloc _ _).mono (by simp; omega)).trans (hk3.below (by simp; omega) (fun i e => Nat.le_of_lt (HF1.out i e))))))
       have HF3 : Hid (∀ g, (Value.slice ub (ts ++ [own]).length uk).ownBlock = some g → w.heap.size < g) := Lib.hid (fun g hg => by
         rcases hn3 g hg with k | k
         · exact HF1.out g k
         · have := HS1.out; simp at k; omega)
       clear ho3 hk3 hn3
       have c3 := HH3.out.cell 0 (by simp)
       have f3 := HH3.out.frozen 0
       simp only [List.set_cons_zero, List.getElem_cons_zero] at c3
       skip))
  go_ret
  have hlen : (ts ++ [own]).length = ts.length + 1 := by simp
  have hoo := HO3.out
  have hff := HF3.out
  have hsz := HB3.out.size
  rw [hlen] at hoo hff
  refine ⟨_, _, rfl, ⟨HH3.out.set 0 _ (by simp), hoo.keep (Keep.setCell w3 w.heap.size 0 _) (fun g hg e => Nat.lt_irrefl _ (Nat.lt_of_lt_of_le (hff g hg) (Nat.le_of_eq e))), fun g hg => Nat.ne_of_gt (hff g hg), by omega, by have := HN.out; omega⟩, ?_, HB3.out.setCell (Nat.le_refl _) _⟩
  rintro b (rfl | hb)
  · exact Nat.le_refl _
  · exact Nat.le_of_lt (hff b hb)

theorem rbro_move {w : World} {p : Nat} {V : Value} {L : List ByteArray} {k : Nat} (h : RBro w p V L k) {j : Nat} (hj : j < L.length) : RBro (w.setCell ⟨p, 1, none⟩ (.int .i64 (j : Int))) p V L j :=
  ⟨h.box.set 1 _ (by simp), h.own.keep (Keep.setCell w p 1 _) (fun g hg e => h.off g hg e), h.off, hj, h.few⟩

theorem ref19_Up {w : World} {p : Nat} {V : Value} {L : List ByteArray} {k : Nat} (h : RBro w p V L k) :
    Calls Tryd.prog 36 #[.pointer (some ⟨p, 0, none⟩)] w fun e w' => e = .returned (.bool (decide (0 < k))) ∧ RBro w' p V L (k - 1) ∧ Keep (Just p) w w' := by
  have H := Lib.hid h
  have c1 := h.box.cell 1 (by simp)
  have f1 := h.box.frozen 1
  simp only [List.getElem_cons_succ, List.getElem_cons_zero] at c1
  have hlt := h.lt
  have hfew := h.few
  clear h
  by_cases hk : k = 0
  · subst hk
    go_enter Tryd.func36, Tryd.ntmps36
    go_wp2
    go_ret
    exact ⟨rfl, H.out, Keep.refl _ _⟩
  · obtain ⟨j, rfl⟩ : ∃ j, k = j + 1 := ⟨k - 1, by omega⟩
    have d1 : (((j + 1 : Nat) : Int) == 0) = false := by rw [beq_eq_false_iff_ne]; omega
    have d2 : decide (((j + 1 : Nat) : Int) = 0) = false := decide_eq_false (by omega)
    have hw : wrap64 (((j + 1 : Nat) : Int) - 1) = (j : Int) := by rw [IntWalk.wrap64_in _ ⟨by omega, by omega⟩]; omega
    have HM := Lib.hid (rbro_move H.out (j := j) (by omega))
    have HD : Hid (decide (0 < j + 1) = true) := Lib.hid (decide_eq_true (by omega))
    generalize ((j + 1 : Nat) : Int) = z at *
    clear hk
    go_enter Tryd.func36, Tryd.ntmps36
    go_wp2
    go_ret
    exact ⟨by rw [HD.out]; rfl, HM.out, Keep.setCell _ _ _ _⟩

theorem ref19_Down {w : World} {p : Nat} {V : Value} {L : List ByteArray} {k n : Nat} (h : RBro w p V L k) (hn : L.length = n + 1) :
    Calls Tryd.prog 37 #[.pointer (some ⟨p, 0, none⟩)] w fun e w' => e = .returned (.bool (canDown n k)) ∧ RBro w' p V L (downTo n k) ∧ Keep (Just p) w w' := by
  have H := Lib.hid h
  have c0 := h.box.cell 0 (by simp)
  have f0 := h.box.frozen 0
  have c1 := h.box.cell 1 (by simp)
  have f1 := h.box.frozen 1
  simp only [List.getElem_cons_succ, List.getElem_cons_zero] at c0 c1
  obtain ⟨g, cap, rfl⟩ : ∃ g cap, V = .slice (some ⟨g, 0, none⟩) L.length cap := by obtain ⟨g, cap, e, _⟩ := h.row; exact ⟨g, cap, e⟩
  have hlt := h.lt
  have hfew := h.few
  clear h
  have hw0 : wrap64 ((L.length : Int) - 1) = (n : Int) := by rw [IntWalk.wrap64_in _ ⟨by omega, by omega⟩]; omega
  by_cases hk : k = n
  · have d1 : ((k : Int) == (L.length : Int) - 1) = true := by rw [beq_iff_eq]; omega
    have d2 : decide ((k : Int) = (L.length : Int) - 1) = true := decide_eq_true (by omega)
    have HD : Hid (canDown n k = false ∧ downTo n k = k) := Lib.hid ⟨decide_eq_false (by omega), if_neg (by omega)⟩
    have HLN := Lib.hid hn
    clear hk hn
    go_enter Tryd.func37, Tryd.ntmps37
    go_wp2_with fail
    go_quiet (fail)
    go_wp2
    go_ret
    rw [HD.out.1, HD.out.2]
    exact ⟨rfl, H.out.below (grew_drewN _ _), Keep.of_grew (grew_drewN _ _) _⟩
  · have d1 : ((k : Int) == (L.length : Int) - 1) = false := by rw [beq_eq_false_iff_ne]; omega
    have d2 : decide ((k : Int) = (L.length : Int) - 1) = false := decide_eq_false (by omega)
    have hw : wrap64 ((k : Int) + 1) = (k : Int) + 1 := IntWalk.wrap64_in _ ⟨by omega, by omega⟩
    have hz : ((k + 1 : Nat) : Int) = (k : Int) + 1 := by omega
    have HD : Hid (canDown n k = true ∧ downTo n k = k + 1) := Lib.hid ⟨decide_eq_true (by omega), if_pos (by omega)⟩
    have HM : Hid (∀ m, RBro ((w.drewN m).setCell ⟨p, 1, none⟩ (.int .i64 ((k : Int) + 1))) p (.slice (some ⟨g, 0, none⟩) L.length cap) L (k + 1)) := Lib.hid (fun m => by rw [← hz]; exact rbro_move (H.out.below (grew_drewN w m)) (by omega))
    have HKK : Hid (∀ m, Keep (Just p) w ((w.drewN m).setCell ⟨p, 1, none⟩ (.int .i64 ((k : Int) + 1)))) := Lib.hid (fun m => (Keep.of_grew (grew_drewN w m) _).trans (Keep.setCell _ _ _ _) (fun _ _ h => h))
    have HLN := Lib.hid hn
    clear hk hz hn
    go_enter Tryd.func37, Tryd.ntmps37
    go_wp2_with fail
    go_quiet (fail)
    go_wp2
    go_ret
    rw [HD.out.1, HD.out.2]
    exact ⟨rfl, by first | exact HM.out _ | exact (HM.out _).below (grew_drewN _ _), by first | exact HKK.out _⟩
end Go.Proofs.YtepddieblankpaaDoor
