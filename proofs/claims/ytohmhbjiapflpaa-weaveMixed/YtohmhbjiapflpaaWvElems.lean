/- Elements: all of a line in a row. -/
import Derived.Test.YtohmhbjiapflpaaWvPlace
import Derived.Deep.AppendLies
import Derived.Laws.MakeOwn
namespace Go.Proofs.Ytohmhbjiapflpaa
open Go.RowKit Go.Shelf
attribute [local go_sem] Oper.semAt_some
set_option linter.unusedVariables false

/-- 's = append(s, ..)' in a round, the new elements lying in a row just made for that. -/
theorem wpListIn_append_lit {F : Fence} {n : Nat} {ops : Array Oper} {rest : List Oper} {o : Oper} {a : Act} {w : World} {Q : Exit → Act → World → Prop} (hgd : o.guard = none) (s x : Operand) {t e : TypeId}
    (ho : o.op = .call { callee := .builtin .append, args := #[s, x], argTypes := #[t, t] }) (ht : Try.prog.underlying t = some (.slice e)) {z : Value} {size bytes : Nat}
    (hinf : (Try.prog.info? e).map (fun i => (i.zero, i.size, i.bytes)) = some (some z, size, bytes)) (hzs : z.cells.size = size) (hsz : 0 < size) (hby : bytes ≤ 1000)
    (base : Nat) (v : Value) (k : Nat) (xs : List Value) (hs : a.eval s = v) (hown : w.ownsRow base e size v k xs) (hbase : base ≤ w.heap.size)
    (m : Nat) (news : List Value) (cs : Array Value) (hcs : cs = news.toArray) (hx : a.eval x = .slice (some ⟨w.heap.size, 0, none⟩) m m) (hl : news.length = m * size) (h1 : ∀ u ∈ news, u.oneCell' = true)
    (hlen : k + m ≤ 1000000000)
    (h : ∀ va cap w', w'.ownsRow base e size (.slice va (k + m) cap) (k + m) (xs ++ news) → Keep (At v) w w' → Near w v (.slice va (k + m) cap) → wpListIn F n Try.prog ops Q rest (a.put o.dst (.slice va (k + m) cap)) w') :
    wpListIn F n Try.prog ops Q (o :: rest) a (w.alloc (.cells cs e)) := by
  subst hcs
  obtain ⟨i0, hi, hz0, hz1, hz2⟩ := info_parts hinf
  have hb : (k + m) * bytes ≤ 1000000000 * 1000 := Nat.mul_le_mul hlen hby
  refine wpListIn_plain hgd fun K hK' => ?_
  obtain ⟨v', w', hrun, k1, k2, _, k4⟩ := run_append_own_at (P := Try.prog) (w.alloc (.cells news.toArray e)) base t o.type e i0 z size bytes ht hi hz0 hz1 hz2 hzs hsz v k xs (World.ownsRow.alloc hown _) ⟨w.heap.size, 0, none⟩ m m news hl (fun j u hu => by
    rw [show (⟨w.heap.size, 0, none⟩ : Addr).add j = ⟨w.heap.size, j, none⟩ from by unfold Addr.add; split <;> simp_all, cell_of_row _ _ _ _ _ _ (heap_alloc_new _ _)]
    simpa using hu) h1 (by unfold maxLen; omega) (by omega) (by simp; omega)
  obtain ⟨va, cap, rfl⟩ : ∃ va cap, v' = .slice va (k + m) cap := by
    rcases k1.2 with ⟨e, h0⟩ | ⟨g, cap, cur, e, _⟩
    · exact ⟨none, 0, by rw [e, h0]⟩
    · exact ⟨_, cap, e⟩
  unfold Oper.wpIn
  refine ⟨?_, ?_⟩
  · simp [Oper.about, ho, resolve, Target.leads, Sem.run_pure]
  · rw [Oper.semAt_plain F _ _ (by rw [ho]; intro c hc'; cases hc')]
    simp [execOp, ho, resolve, invoke, builtin, hs, hx, hrun, Result.andThen]
    refine hK' _ _ (h va cap w' k1 ((Keep.alloc _ w _).trans ((Keep.of_grown k2).more (fun i _ hi => hi.symm)) (fun i _ hi => hi)) (fun g hg => ?_))
    rcases k4 with k4 | k4
    · exact .inl (by rw [← k4]; exact hg)
    · rw [k4] at hg
      injection hg with hg
      exact .inr (by simp at hg; omega)

def welsCells : List Wel → List Value
  | [] => []
  | x :: xs => x.cells ++ welsCells xs
theorem welsCells_app : ∀ (xs ys : List Wel), welsCells (xs ++ ys) = welsCells xs ++ welsCells ys
  | [], _ => rfl
  | x :: xs, ys => by simp [welsCells, welsCells_app xs ys]
theorem welsCells_len : ∀ (xs : List Wel), (welsCells xs).length = xs.length * 6
  | [] => rfl
  | x :: xs => by simp [welsCells, welsCells_len xs, Wel.cells]; omega
theorem welsCells_at : ∀ (xs : List Wel) (i : Nat) (h : i < xs.length) (j : Nat) (u : Value), xs[i].cells[j]? = some u → (welsCells xs)[i * 6 + j]? = some u
  | x :: xs, 0, h, j, u, hu => by
    have hj : j < x.cells.length := (List.getElem?_eq_some_iff.1 hu).1
    rw [welsCells, Nat.zero_mul, Nat.zero_add, List.getElem?_append_left hj]
    exact hu
  | x :: xs, i + 1, h, j, u, hu => by
    have h6 : x.cells.length = 6 := rfl
    rw [welsCells, List.getElem?_append_right (by rw [h6]; omega), h6]
    have := welsCells_at xs i (by simpa using h) j u hu
    rwa [show (i + 1) * 6 + j - 6 = i * 6 + j from by omega]
/-- The slice v owns the elements, in a block from base on. -/
def OwnW (w : World) (base : Nat) (v : Value) (es : List Wel) : Prop := w.ownsRow base 49 6 v es.length (welsCells es)
theorem OwnW.slice {w : World} {base : Nat} {v : Value} {es : List Wel} (h : OwnW w base v es) : SliceG 6 Wel.cells w v es := by
  rcases h.2 with ⟨rfl, h0⟩ | ⟨g, cap, cur, rfl, hb, hg, hn, hm, hc, ht⟩
  · exact ⟨none, 0, by rw [h0], by omega, .inl (List.eq_nil_of_length_eq_zero h0)⟩
  · refine ⟨_, cap, rfl, hn, .inr ⟨g, 0, rfl, (Array.getElem?_eq_some_iff.1 hg).1, fun i hi j u hu => ?_⟩⟩
    have := World.ownsRow.cells h (g := g) rfl (i * 6 + j) u (welsCells_at es i hi j u hu)
    rw [show (⟨g, 0, none⟩ : Addr).add (i * 6 + j) = ⟨g, 0 + i * 6 + j, none⟩ from by unfold Addr.add; split <;> simp_all] at this
    exact this
theorem info_wel : (Try.prog.info? 49).map (fun i => (i.zero, i.size, i.bytes)) = some (some (.agg #[.int .i64 0, .int .i64 0, .int .i64 0, .int .i64 0, .int .i64 0, .slice none 0 0]), 6, 64) := by kernel_rfl
theorem wels_made (n : Nat) (w : World) (hn : n ≤ 1000000) : ∃ v W, (Instr.makeSlice 28 (.int .i64 0) (.int .i64 (n : Int))).run Try.prog w = .ok v W
    ∧ OwnW W w.heap.size v [] ∧ (∃ a c, v = .slice a 0 c) ∧ Below w.heap.size w W := by
  obtain ⟨i0, hi, hz0, hz1, hz2⟩ := info_parts info_wel
  have h := run_make (P := Try.prog) w 28 49 i0 (.agg #[.int .i64 0, .int .i64 0, .int .i64 0, .int .i64 0, .int .i64 0, .slice none 0 0]) Try.underlying28 hi hz0 .i64 .i64 0 (n : Int) (by omega) (by omega) (by rw [hz2]; omega) (by omega)
  refine ⟨_, _, h, ?_, ⟨_, _, rfl⟩, grew_alloc _ _⟩
  refine World.ownsRow_made w _ _ (Nat.le_refl _) (by unfold maxLen; omega) ?_
  rw [size_madeCells, hz1]

set_option maxRecDepth 100000 in
set_option maxHeartbeats 4000000 in
theorem weave_Elements {L : List Wel} (hOk : Weave.Ok L) {w : World} {p : Nat} (hR : LRead w p L) (hbig : (Weave.elements L).length ≤ 1000000) :
    Calls Try.prog 22 #[.pointer (some ⟨p, 0, none⟩)] w fun e w' => ∃ v, e = .returned v ∧ OwnW w' w.heap.size v (Weave.elements L) ∧ Below w.heap.size w w' := by
  obtain ⟨mh, mk, hbox, _, _, _, hlen⟩ := hR.maps
  have hl := hlen w (Below.refl _ _)
  have c0 := hbox.cell 0 (by simp)
  simp only [List.getElem_cons_zero] at c0
  have hfew := hOk.few
  obtain ⟨v, W, hmk, how, ⟨va, vc, rfl⟩, hbW⟩ := wels_made L.length w (by omega)
  have hLL : ¬ ((L.length : Int) < 0) := by omega
  refine (callsIn_wide (n := 3)).1 ?_
  refine callsIn_of_wp_marks Try.func22 rfl trivial ?_ rfl
  simp only [Try.ntmps22, List.size_toArray, List.length_cons, List.length_nil, Nat.reduceAdd, Nat.reduceSub, Array.replicate_succ, Array.replicate_zero, List.push_toArray, List.append_toArray, List.nil_append, List.cons_append]
  gi_wp2
  have HB6 := Lib.hid (hbW.trans ((Keep.alloc Non W (.cells #[.slice va 0 vc] 28)).below hbW.size (fun _ h => h.elim)))
  have f6 := Holds.new W [.slice va 0 vc] 28
  have how6 : OwnW (W.alloc (.cells #[.slice va 0 vc] 28)) w.heap.size (.slice va 0 vc) [] := World.ownsRow.alloc how _
  have hlo : ∀ g, (Value.slice va 0 vc).ownBlock = some g → w.heap.size ≤ g ∧ g < W.heap.size := fun g hg => World.ownsRow.lt how g hg
  have hs6 : (W.alloc (.cells #[.slice va 0 vc] 28)).heap.size = W.heap.size + 1 := by simp
  have hsw := hbW.size
  clear hmk how hl c0 hbW
  generalize W.alloc (.cells #[.slice va 0 vc] 28) = W6 at *
  generalize W.heap.size = b6 at *
  have HSEQ := Lib.hid (order_deep hOk hR 2)
  refine wpIn_rangeDeep (α := Wel) (m := 3) (gf := 57) (bd := #[.pointer (some ⟨p, 0, none⟩)]) (lb := #[]) rfl (enters_of Try.func57 (by kernel_rfl) rfl)
    HSEQ.out HB6.out (fun k h => by omega) (fun _ => rfl)
    (fun _ => False) (fun k h => h.elim) (fun k h => h.elim)
    (fun pre G' Wv => ∃ va vc, Holds Wv b6 [.slice va pre.length vc] 28 ∧ OwnW Wv w.heap.size (.slice va pre.length vc) pre ∧ Below w.heap.size w Wv ∧ (∀ k, G' k ↔ k = b6 ∨ (Value.slice va pre.length vc).ownBlock = some k) ∧ (Value.slice va pre.length vc).ownBlock ≠ some b6)
    (fun c ys G' Wv => False)
    (fun pre G' A B' ⟨va, vc, h1, h2, h3, h4, h5⟩ hk => ⟨va, vc, h1.keep hk (fun h => h.2 ((h4 _).2 (.inl rfl))), hk.ownsRow h2 (fun g hg h => h.2 ((h4 _).2 (.inr hg))), h3.trans (hk.below h3.size (fun i h => by omega)), h4, h5⟩)
    (fun c ys G' A B' h hk => h)
    (fun pre G' A ⟨va, vc, h1, h2, h3, h4, h5⟩ k hk => by
      rcases (h4 k).1 hk with rfl | h
      · exact h1.lt
      · exact (World.ownsRow.lt h2 k h).2)
    (fun k => k = b6 ∨ (Value.slice va 0 vc).ownBlock = some k) (fun k h h' => by
      rcases h' with h' | h'
      · omega
      · have := (hlo k h').1; omega)
    ⟨va, vc, f6, how6, HB6.out, fun k => Iff.rfl, fun h => by have := (hlo _ h).2; omega⟩
    (fun x a' B0 Wv => ∃ Bx, B0 ≤ Bx ∧ Holds Wv Bx x.cells 49 ∧ a' = { tmps := #[.pointer (some ⟨p, 0, none⟩), undef, .slice none 0 0, .pointer (some ⟨b6, 0, none⟩), .pointer (some ⟨Bx, 0, none⟩), .pointer (some ⟨p, 0, none⟩), .bool false, .pointer (some ⟨p, 0, none⟩), .pointer (some ⟨p, 0, none⟩), .pointer (some ⟨p, 0, none⟩), mh, .int .i64 (L.length : Int), .slice va 0 vc, .pointer (some ⟨p, 0, none⟩), .func (.func 57) #[.pointer (some ⟨p, 0, none⟩)] #[], x.val, undef, undef, undef, undef, undef], defers := [] })
    ?assign ?body ?done ?stop
  case assign =>
    rintro l' pre ⟨⟨k1, k2⟩, ⟨k3, k4⟩, k5⟩ G' Wv K ⟨ua, uc, h1, h2, h3, h4, h5⟩ hK
    dsimp only [Wel.val]
    gi_wp2
    have hka := Keep.alloc Non Wv (.cells #[.int .i64 k1, .int .i64 k2, .int .i64 k3, .int .i64 k4, .int .i64 k5, .slice none 0 0] 49)
    exact hK _ _ hka ⟨ua, uc, h1.keep hka (fun h => h), World.ownsRow.alloc h2 _, h3.trans (hka.below h3.size (fun _ h => h.elim)), h4, h5⟩ (fun W'' hk => ⟨Wv.heap.size, Nat.le_refl _, (Holds.new Wv [.int .i64 k1, .int .i64 k2, .int .i64 k3, .int .i64 k4, .int .i64 k5, .slice none 0 0] 49).keep hk (fun h => by omega), rfl⟩)
  case body =>
    rintro l' pre ⟨⟨k1, k2⟩, ⟨k3, k4⟩, k5⟩ a' B0 G' Wv hl1 hl2 hgl ⟨ua, uc, h1, h2, h3, h4, h5⟩ hB0 hGB ⟨Bx, hBx, hX2, rfl⟩ hpx
    dsimp only [Wel.cells] at hX2
    have u0 := hX2.cell 0 (by simp)
    have u1 := hX2.cell 1 (by simp)
    have u2 := hX2.cell 2 (by simp)
    have u3 := hX2.cell 3 (by simp)
    have u4 := hX2.cell 4 (by simp)
    have u5 := hX2.cell 5 (by simp)
    have w0' := h1.cell 0 (by simp)
    simp only [List.getElem_cons_zero, List.getElem_cons_succ] at u0 u1 u2 u3 u4 u5 w0'
    have hpl : pre.length + 1 ≤ 1000000 := by
      have := hpx.length_le
      rw [List.length_append, List.length_singleton] at this
      omega
    have H1 := Lib.hid h1
    have H2 := Lib.hid h2
    have H3 := Lib.hid h3
    have H4 := Lib.hid h4
    have H5 := Lib.hid h5
    clear h1 h2 h3 h4 h5
    gi_wp2_with (gi_at_builtin; refine wpListIn_append_lit rfl (.tmp 16) (.tmp 18) rfl Try.underlying28 info_wel rfl (by decide) (by decide) w.heap.size (.slice ua pre.length uc) pre.length (welsCells pre) rfl H2.out H3.out.size 1 [.int .i64 k1, .int .i64 k2, .int .i64 k3, .int .i64 k4, .int .i64 k5, .slice none 0 0] _ rfl rfl rfl (by simp [Value.oneCell']) (by omega) ?_; intro xa xc W7 ho7 hk7 hn7; have h17 := H1.out.keep hk7 (fun h => H5.out h); have y7 := h17.cell 0 (by simp); have z7 := h17.frozen 0; simp only [List.getElem_cons_zero] at y7)
    have hks := Keep.setCell W7 b6 0 (.slice xa (pre.length + 1) xc)
    have hB7 : Below w.heap.size w W7 := H3.out.trans (hk7.below H3.out.size (fun i e => (World.ownsRow.lt H2.out i e).1))
    have hne : (Value.slice xa (pre.length + 1) xc).ownBlock ≠ some b6 := fun h => by
      rcases hn7 b6 h with h | h
      · exact H5.out h
      · have := H1.out.lt; omega
    refine ⟨fun k => k = b6 ∨ (Value.slice xa (pre.length + 1) xc).ownBlock = some k, ⟨xa, xc, ?_, ?_, hB7.trans (hks.below hB7.size (fun i e => by have e : i = b6 := e; omega)), fun k => ?_, ?_⟩, fun k h => ?_, ?_⟩
    · rw [List.length_append]
      exact h17.set 0 (.slice xa (pre.length + 1) xc) (by simp)
    · rw [List.length_append]
      unfold OwnW
      rw [List.length_append, welsCells_app]
      exact hks.ownsRow ho7 (fun g hg e => hne (by have e : g = b6 := e; rw [← e]; exact hg))
    · rw [List.length_append]; exact Iff.rfl
    · rw [List.length_append]; exact hne
    · rcases h with h | h
      · exact .inl ((H4.out k).2 (.inl h))
      · rcases hn7 k h with h | h
        · exact .inl ((H4.out k).2 (.inr h))
        · exact .inr h
    · refine (hk7.more (S' := G') (fun i _ e => (H4.out i).2 (.inr e))).trans hks (fun i _ e => (H4.out i).2 (.inl e))
  case done =>
    rintro D G'' Wd hD ⟨ua, uc, h1, h2, h3, h4, h5⟩ hgD hnew hkp hK
    have c6 := h1.cell 0 (by simp)
    simp only [List.getElem_cons_zero] at c6
    gi_wp2
    refine ⟨by simp, .inl ⟨_, _, rfl, run_takeDeferred hK, ?_⟩⟩
    refine ⟨_, results_tmp rfl _ _ _, .slice ua (Weave.elements L).length uc, rfl, ownsRow_putObj h2 (.deferred none) hK rfl, h3.trans ((keep_putObj Wd D (.deferred none)).below h3.size (fun i e => by have e : i = D := e; omega))⟩
  case stop =>
    rintro D c ys G'' Wd hD hys h
    exact h.elim
end Go.Proofs.Ytohmhbjiapflpaa
