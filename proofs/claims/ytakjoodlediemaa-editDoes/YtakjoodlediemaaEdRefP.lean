/- The reference's work on a state: where it lies; a rune put. -/
import Derived.Test.YtakjoodlediemaaEdRefT
import Derived.Deep.RegionWith
namespace Go.Proofs.Ytakjoodlediemaa
open Go.RowKit
set_option linter.unusedVariables false

/-- What the slice v holds does not lie in the block b. -/
def Off (v : Value) (l : List Int) (b : Nat) : Prop := l = [] ∨ v.ownBlock ≠ some b
theorem SliceI.keepOff {S : Nat → Prop} {w w' : World} {v : Value} {l : List Int} (h : SliceI w v l) (hk : Keep S w w') (hn : ∀ b, S b → Off v l b) : SliceI w' v l := by
  obtain ⟨a, cap, rfl, hc, h⟩ := h
  refine ⟨a, cap, rfl, hc, ?_⟩
  rcases h with h | ⟨b, off, rfl, hb, hcell⟩
  · exact .inl h
  · by_cases hl : l = []
    · exact .inl hl
    · exact .inr ⟨b, off, rfl, Nat.lt_of_lt_of_le hb hk.size, fun i hi => by
        rw [hk.cell hb (fun e => by
          rcases hn b e with k | k
          · exact hl k
          · exact k rfl)]
        exact hcell i hi⟩
theorem SliceI.off {w : World} {v : Value} {l : List Int} (h : SliceI w v l) {b : Nat} (hb : w.heap.size ≤ b) : Off v l b := by
  obtain ⟨a, cap, rfl, hc, h⟩ := h
  rcases h with h | ⟨b', off, rfl, hb', _⟩
  · exact .inl h
  · refine .inr (fun e => ?_)
    have : b' = b := Option.some.inj e
    omega

/-- A state in work: its line, caret, what was killed, the acts. -/
structure Wk where
  line : List Int
  at' : Nat
  kill : List Int
  acts : List EAct
/-- It lies at g, in blocks made since w0 where it is written to. -/
structure WkW (w0 w : World) (g : Nat) (LV KV AV : Value) (t : Wk) : Prop where
  box : Holds w g [LV, .int .i64 (t.at' : Nat), KV, AV] 64
  line : SliceI w LV t.line
  kill : SliceI w KV t.kill
  acts : OwnRA w AV t.acts
  low : w0.heap.size ≤ g
  offL : Off LV t.line g
  offK : Off KV t.kill g
  offA : ∀ b, AV.ownBlock = some b → w0.heap.size ≤ b ∧ b ≠ g ∧ Off LV t.line b ∧ Off KV t.kill b
  bel : Below w0.heap.size w0 w
section
variable {w0 w w' : World} {g : Nat} {LV KV AV : Value} {t : Wk}
theorem WkW.below (h : WkW w0 w g LV KV AV t) (hb : Below w.heap.size w w') : WkW w0 w' g LV KV AV t :=
  ⟨h.box.keep (Keep.of_grew hb Non) (fun h => h), h.line.below hb, h.kill.below hb, Owns.keep h.acts (Keep.of_grew hb Non) (fun _ _ h => h), h.low, h.offL, h.offK, h.offA, grew h.bel hb⟩
theorem WkW.cells (h : WkW w0 w g LV KV AV t) : w.cell? ⟨g, 0, none⟩ = some LV ∧ w.cell? ⟨g, 1, none⟩ = some (.int .i64 (t.at' : Nat)) ∧ w.cell? ⟨g, 2, none⟩ = some KV ∧ w.cell? ⟨g, 3, none⟩ = some AV :=
  ⟨h.box.cell 0 (by simp), h.box.cell 1 (by simp), h.box.cell 2 (by simp), h.box.cell 3 (by simp)⟩
/-- Acts put behind its own, and the row put back. -/
theorem WkW.act {AV' : Value} {A : List EAct} (h : WkW w0 w g LV KV AV t) (ho : OwnRA w' AV' A) (hk : Keep (At AV) w w') (hn : Near w AV AV') :
    Holds w' g [LV, .int .i64 (t.at' : Nat), KV, AV] 64 ∧ WkW w0 (w'.setCell ⟨g, 3, none⟩ AV') g LV KV AV' ⟨t.line, t.at', t.kill, A⟩ := by
  have hg : g < w.heap.size := h.box.lt
  have hA : ∀ b, AV'.ownBlock = some b → w0.heap.size ≤ b ∧ b ≠ g ∧ Off LV t.line b ∧ Off KV t.kill b := fun b hb => by
    rcases hn b hb with k | k
    · exact h.offA b k
    · exact ⟨Nat.le_trans h.bel.size k, by omega, h.line.off k, h.kill.off k⟩
  have hbox := h.box.keep hk (fun e => (h.offA g e).2.1 rfl)
  have hb1 : Below w0.heap.size w0 w' := h.bel.trans (hk.below h.bel.size (fun i e => (h.offA i e).1))
  refine ⟨hbox, hbox.set 3 AV' (by simp), ?_, ?_, ?_, h.low, h.offL, h.offK, hA, hb1.setCell h.low _⟩
  · exact (h.line.keepOff hk (fun b e => (h.offA b e).2.2.1)).keepOff (Keep.setCell w' g 3 AV') (fun b e => by rw [show b = g from e]; exact h.offL)
  · exact (h.kill.keepOff hk (fun b e => (h.offA b e).2.2.2)).keepOff (Keep.setCell w' g 3 AV') (fun b e => by rw [show b = g from e]; exact h.offK)
  · exact Owns.keep ho (Keep.setCell w' g 3 AV') (fun b hb e => (hA b hb).2.1 e)
/-- Its caret put. -/
theorem WkW.caret (h : WkW w0 w g LV KV AV t) (i : Nat) : WkW w0 (w.setCell ⟨g, 1, none⟩ (.int .i64 (i : Nat))) g LV KV AV ⟨t.line, i, t.kill, t.acts⟩ :=
  ⟨h.box.set 1 _ (by simp), h.line.keepOff (Keep.setCell w g 1 _) (fun b e => by rw [show b = g from e]; exact h.offL), h.kill.keepOff (Keep.setCell w g 1 _) (fun b e => by rw [show b = g from e]; exact h.offK), Owns.keep h.acts (Keep.setCell w g 1 _) (fun b hb e => (h.offA b hb).2.1 e), h.low, h.offL, h.offK, h.offA, h.bel.setCell h.low _⟩
/-- Its line put. -/
theorem WkW.lined {L : List Int} {LV' : Value} (h : WkW w0 w g LV KV AV t) (hs : SliceI w LV' L) (hg : Off LV' L g) (hA : ∀ b, AV.ownBlock = some b → Off LV' L b) : WkW w0 (w.setCell ⟨g, 0, none⟩ LV') g LV' KV AV ⟨L, t.at', t.kill, t.acts⟩ :=
  ⟨h.box.set 0 _ (by simp), hs.keepOff (Keep.setCell w g 0 _) (fun b e => by rw [show b = g from e]; exact hg), h.kill.keepOff (Keep.setCell w g 0 _) (fun b e => by rw [show b = g from e]; exact h.offK), Owns.keep h.acts (Keep.setCell w g 0 _) (fun b hb e => (h.offA b hb).2.1 e), h.low, hg, h.offK, fun b hb => ⟨(h.offA b hb).1, (h.offA b hb).2.1, hA b hb, (h.offA b hb).2.2.2⟩, h.bel.setCell h.low _⟩
/-- What was killed, put. -/
theorem WkW.killed {K : List Int} {KV' : Value} (h : WkW w0 w g LV KV AV t) (hs : SliceI w KV' K) (hg : Off KV' K g) (hA : ∀ b, AV.ownBlock = some b → Off KV' K b) : WkW w0 (w.setCell ⟨g, 2, none⟩ KV') g LV KV' AV ⟨t.line, t.at', K, t.acts⟩ :=
  ⟨h.box.set 2 _ (by simp), h.line.keepOff (Keep.setCell w g 2 _) (fun b e => by rw [show b = g from e]; exact h.offL), hs.keepOff (Keep.setCell w g 2 _) (fun b e => by rw [show b = g from e]; exact hg), Owns.keep h.acts (Keep.setCell w g 2 _) (fun b hb e => (h.offA b hb).2.1 e), h.low, h.offL, hg, fun b hb => ⟨(h.offA b hb).1, (h.offA b hb).2.1, (h.offA b hb).2.2.1, hA b hb⟩, h.bel.setCell h.low _⟩
/-- What is new lies in none of its blocks. -/
theorem WkW.fresh {V : Value} {M : List Int} (h : WkW w0 w g LV KV AV t) (hf : ∀ b, V.ownBlock = some b → w.heap.size ≤ b) : Off V M g ∧ ∀ b, AV.ownBlock = some b → Off V M b :=
  ⟨.inr (fun e => by have := hf g e; have := h.box.lt; omega), fun b hb => .inr (fun e => by have := hf b e; have := Owns.lt h.acts hb; omega)⟩
end

theorem ref04_Rune (n : Int) (w : World) : Calls Try.prog 48 #[.int .i64 n] w fun e w' => e = .returned (.bool (Mesg.rune n)) ∧ w = w' := by
  go_enter Try.func48, Try.ntmps48
  go_wp2
  all_goals go_ret
  all_goals exact ⟨ret_bool (by rw [Bool.eq_iff_iff]; simp [Mesg.rune]; try omega), rfl⟩

/-- What a step of it leaves. -/
def WkStep (w0 w' : World) (g : Nat) (t : Wk) : Prop := ∃ LV KV AV, WkW w0 w' g LV KV AV t
/-- A literal of one act. -/
theorem lit_act (w : World) (a : EAct) : SliceG 3 EAct.cells (w.alloc (.cells a.cells.toArray 69)) (.slice (some ⟨w.heap.size, 0, none⟩) 1 1) [a] := by
  refine ⟨_, 1, rfl, by simp, .inr ⟨w.heap.size, 0, rfl, by simp, fun i hi j u hu => ?_⟩⟩
  obtain rfl : i = 0 := by simpa using hi
  rw [cell_of_row _ _ _ _ _ _ (heap_alloc_new _ _)]
  simpa using hu
/-- A rune is put. -/
def Wk.put (t : Wk) (r : Int) : Wk × Bool := if Mesg.rune r = true ∧ t.line.length < 1000 then (⟨(Ed.apply t.line [⟨1, t.at', r⟩]).getD [], t.at' + 1, t.kill, t.acts ++ [⟨1, t.at', r⟩]⟩, true) else (t, false)

set_option maxRecDepth 100000 in
set_option maxHeartbeats 4000000 in
theorem ref18_put {w0 w : World} {g : Nat} {LV KV AV : Value} {t : Wk} (h : WkW w0 w g LV KV AV t) (hl : t.line.length ≤ 100000) (ha : t.at' ≤ 100000) (hn : t.acts.length ≤ 100000) (r : Int) :
    Calls Try.prog 25 #[.pointer (some ⟨g, 0, none⟩), .int .i64 r] w fun e w' => e = .returned (.bool (t.put r).2) ∧ WkStep w0 w' g (t.put r).1 := by
  have H := Lib.hid h
  obtain ⟨c0, c1, c2, c3⟩ := h.cells
  obtain ⟨la, lc, rfl⟩ := h.line.shape
  obtain ⟨aa, ac, rfl⟩ := h.acts.shape
  have HQ := Lib.hid (And.intro hl (And.intro ha hn))
  clear h
  by_cases hlt : t.line.length < 1000
  · have d1 : decide ((1000 : Int) ≤ (t.line.length : Int)) = false := decide_eq_false (by omega)
    have d2 : decide (1000 ≤ t.line.length) = false := decide_eq_false (by omega)
    cases hr : Mesg.rune r with
    | false =>
      have HE : Hid (t.put r = (t, false)) := Lib.hid (by unfold Wk.put; rw [hr, if_neg (by simp)])
      have HRU := Lib.hid (ref04_Rune r w)
      rw [hr] at HRU
      clear hr
      go_enter Try.func25, Try.ntmps25
      go_wp2_with fail
      refine HRU.out.mono ?_
      rintro e w1 ⟨rfl, h1⟩
      subst h1
      go_wp2
      go_ret
      rw [HE.out]
      exact ⟨rfl, _, _, _, H.out⟩
    | true =>
      have HE : Hid (t.put r = (⟨(Ed.apply t.line [⟨1, t.at', r⟩]).getD [], t.at' + 1, t.kill, t.acts ++ [⟨1, t.at', r⟩]⟩, true)) := Lib.hid (by unfold Wk.put; rw [if_pos ⟨hr, hlt⟩])
      have HRU := Lib.hid (ref04_Rune r w)
      rw [hr] at HRU
      clear hr hlt
      go_enter Try.func25, Try.ntmps25
      go_wp2_with fail
      refine HRU.out.mono ?_
      rintro e w1 ⟨rfl, h1⟩
      subst h1
      go_wp2_with fail
      obtain ⟨i, hi⟩ : ∃ i : Nat, t.at' = i := ⟨_, rfl⟩
      have HI := Lib.hid hi
      rw [hi] at c1 HE ⊢
      have HX0 := Lib.hid (Holds.new w [.int .i64 1, .int .i64 (i : Nat), .int .i64 r] 69)
      have HG0 := Lib.hid (grew_alloc w (.cells #[.int .i64 1, .int .i64 (i : Nat), .int .i64 r] 69))
      have HXG : Hid (w.heap.size ≠ g ∧ ∀ b, (Value.slice aa t.acts.length ac).ownBlock = some b → b ≠ w.heap.size) := Lib.hid ⟨by have := H.out.box.lt; omega, fun b hb => by have := Owns.lt H.out.acts hb; omega⟩
      clear c0 c1 c2 c3 hi
      obtain ⟨W1, hW1⟩ : ∃ W1, w.alloc (.cells #[.int .i64 1, .int .i64 (i : Nat), .int .i64 r] 69) = W1 := ⟨_, rfl⟩
      rw [hW1] at HX0 HG0 ⊢
      clear hW1
      have H1 := Lib.hid (H.out.below HG0.out)
      obtain ⟨xb, hxb⟩ : ∃ xb, w.heap.size = xb := ⟨_, rfl⟩
      rw [hxb] at HX0 HXG ⊢
      clear hxb
      have c3 := H1.out.cells.2.2.2
      have f3 := H1.out.box.frozen 3
      have x0 := HX0.out.cell 0 (by simp)
      have x1 := HX0.out.cell 1 (by simp)
      have x2 := HX0.out.cell 2 (by simp)
      simp only [List.getElem_cons_zero, List.getElem_cons_succ] at x0 x1 x2
      have y3 : (W1.alloc (.cells #[.int .i64 1, .int .i64 (i : Nat), .int .i64 r] 69)).cell? ⟨g, 3, none⟩ = some (.slice aa t.acts.length ac) := (H1.out.below (grew_alloc _ _)).cells.2.2.2
      have HX6 : Hid (∀ w6, Keep (At (.slice aa t.acts.length ac)) W1 w6 → w6.cell? ⟨g, 3, none⟩ = some (.slice aa t.acts.length ac) ∧ w6.frozen? ⟨g, 3, none⟩ = false) := Lib.hid (fun w6 hk => by
        have hh := H1.out.box.keep hk (fun e => (H1.out.offA g e).2.1 rfl)
        exact ⟨hh.cell 3 (by simp), hh.frozen 3⟩)
      have HONE : Hid (∀ u ∈ [Value.int .i64 1, .int .i64 (i : Nat), .int .i64 r], u.oneCell' = true) := Lib.hid (by intro u hu; simp at hu; rcases hu with rfl | rfl | rfl <;> rfl)
      have HOW : Hid (Owns W1 69 3 (.slice aa t.acts.length ac) t.acts.length (actCells t.acts)) := Lib.hid H1.out.acts
      go_region_law ((refine step_append_lit (w := W1) rfl (.tmp 31) (.tmp 33) rfl Try.underlying35 info_actR rfl (by decide) (by decide) (.slice aa t.acts.length ac) t.acts.length (actCells t.acts) rfl HOW.out 1 [.int .i64 1, .int .i64 (i : Nat), .int .i64 r] _ rfl rfl rfl HONE.out (by have := HQ.out; omega) ?_; intro va2 cap2 w3 ho2 hk2 hn2; have HM2 := Lib.hid (And.intro ho2 (And.intro hk2 hn2)); obtain ⟨z3, zf⟩ := HX6.out w3 hk2; clear ho2 hk2 hn2))
      all_goals
        clear c3 f3 x0 x1 x2 y3 z3 zf
        have hA := H1.out.act (A := t.acts ++ [⟨1, i, r⟩]) (by unfold OwnRA; rw [List.length_append, actCells_app]; exact HM2.out.1) HM2.out.2.1 HM2.out.2.2
        have HW4 : Hid (WkW w0 (w3.setCell ⟨g, 3, none⟩ (.slice va2 (t.acts.length + 1) cap2)) g (.slice la t.line.length lc) KV (.slice va2 (t.acts.length + 1) cap2) ⟨t.line, t.at', t.kill, t.acts ++ [⟨1, i, r⟩]⟩) := Lib.hid hA.2
        have HX4 := Lib.hid ((HX0.out.keep HM2.out.2.1 (fun e => HXG.out.2 _ e rfl)).keep (Keep.setCell w3 g 3 (.slice va2 (t.acts.length + 1) cap2)) (fun e => HXG.out.1 e))
        clear hA
        generalize w3.setCell ⟨g, 3, none⟩ (.slice va2 (t.acts.length + 1) cap2) = W4 at *
        have HAP : Hid (∀ W u, Below W4.heap.size W4 W → SliceG 3 EAct.cells W u [⟨1, i, r⟩] → Calls Try.prog 15 #[.slice la t.line.length lc, u] W fun e w' => ∃ V, e = .returned (.tuple #[V, .bool (Ed.apply t.line [⟨1, i, r⟩]).isSome]) ∧ SliceI w' V ((Ed.apply t.line [⟨1, i, r⟩]).getD []) ∧ (∀ b, V.ownBlock = some b → W4.heap.size ≤ b) ∧ Below W4.heap.size W4 w') := Lib.hid (fun W u hb hu => (ref18_Apply _ u t.line _ W (HW4.out.line.below hb) hu (by have := HQ.out; omega) (by simp)).mono fun e w' ⟨V, h1, h2, h3, h4⟩ => ⟨V, h1, h2, fun b hb' => Nat.le_trans hb.size (h3 b hb'), grew hb h4⟩)
        have c0 := HW4.out.cells.1
        have x0 := HX4.out.cell 0 (by simp)
        have x1 := HX4.out.cell 1 (by simp)
        have x2 := HX4.out.cell 2 (by simp)
        simp only [List.getElem_cons_zero, List.getElem_cons_succ] at x0 x1 x2
        have y0 : (W4.alloc (.cells #[.int .i64 1, .int .i64 (i : Nat), .int .i64 r] 69)).cell? ⟨g, 0, none⟩ = some (.slice la t.line.length lc) := (HW4.out.below (grew_alloc _ _)).cells.1
        have HLA := Lib.hid (lit_act W4 ⟨1, i, r⟩)
        go_wp2_with fail
        go_region_with ((go_at_call 15; refine (HAP.out _ _ (by first | exact grew (grew_alloc _ _) (grew_drew _) | exact grew_alloc _ _) (by first | exact HLA.out.below (grew_drew _) | exact HLA.out)).mono ?_; rintro e W5 ⟨V, rfl, hv, hf, hb5⟩; have HV := Lib.hid (And.intro hv (And.intro hf hb5)); clear hv hf hb5))
        all_goals
          obtain ⟨va, vc, rfl⟩ := HV.out.1.shape
          have H5 := Lib.hid (HW4.out.below HV.out.2.2)
          have HFR := Lib.hid (HW4.out.fresh (M := (Ed.apply t.line [⟨1, i, r⟩]).getD []) HV.out.2.1)
          have H6 := Lib.hid ((H5.out.lined HV.out.1 HFR.out.1 HFR.out.2).caret (i + 1))
          clear c0 x0 x1 x2 y0
          have k0 := H5.out.cells.1
          have k1 := H5.out.cells.2.1
          have z0 := H5.out.box.frozen 0
          have z1 := H5.out.box.frozen 1
          have hi := HI.out
          simp only at k0 k1
          rw [hi] at k1
          have hw : wrap64 ((i : Int) + 1) = (i : Int) + 1 := IntWalk.wrap64_in _ ⟨by omega, by omega⟩
          clear hi
          generalize (Ed.apply t.line [⟨1, (i : Int), r⟩]).getD [] = M at *
          go_wp2
          go_ret
          rw [HE.out]
          exact ⟨rfl, _, _, _, by have := H6.out; rw [Int.natCast_add] at this; exact this⟩
  · have d1 : decide ((1000 : Int) ≤ (t.line.length : Int)) = true := decide_eq_true (by omega)
    have d2 : decide (1000 ≤ t.line.length) = true := decide_eq_true (by omega)
    have HE : Hid (t.put r = (t, false)) := Lib.hid (by unfold Wk.put; rw [if_neg (by omega)])
    clear hlt
    go_enter Try.func25, Try.ntmps25
    go_wp2
    go_ret
    rw [HE.out]
    exact ⟨rfl, _, _, _, H.out⟩
end Go.Proofs.Ytakjoodlediemaa
