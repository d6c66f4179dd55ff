/- A key's name; numbers cloned; which method a key calls. -/
import Derived.Test.YtakjoodlediemaaEdTurn2
import Derived.Test.YtakjoodlediemaaEdYank
import Derived.Test.YtakjoodlediemaaEdDoings2
import Derived.Shelf.Abstract
namespace Go.Proofs.Ytakjoodlediemaa
open Go.RowKit Go.Shelf
set_option linter.unusedVariables false

set_option maxRecDepth 100000 in
theorem edit_name (k r : Int) (w : World) : Calls Try.prog 22 #[.agg #[.int .i64 k, .int .i64 r]] w fun e w' => e = .returned (keyV (Ed.name k r)) ∧ Below w.heap.size w w' := by
  have HX := Lib.hid (Holds.new w [.int .i64 k, .int .i64 r] 33)
  have HB := Lib.hid (grew_alloc w (.cells #[.int .i64 k, .int .i64 r] 33))
  obtain ⟨W, hW⟩ : ∃ W, w.alloc (.cells #[.int .i64 k, .int .i64 r] 33) = W := ⟨_, rfl⟩
  obtain ⟨bx, hbx⟩ : ∃ bx, w.heap.size = bx := ⟨_, rfl⟩
  rw [show ([Value.int .i64 k, .int .i64 r].toArray) = #[Value.int .i64 k, .int .i64 r] from rfl, hW, hbx] at HX
  rw [hW] at HB
  have x0 := HX.out.cell 0 (by simp)
  have x1 := HX.out.cell 1 (by simp)
  have xf := HX.out.frozen 1
  simp only [List.getElem_cons_zero, List.getElem_cons_succ] at x0 x1
  have HX2 := Lib.hid (HX.out.keep (Keep.alloc Non W (.cells #[.int .i64 0, .int .i64 0] 33)) (fun h => h))
  have HX3 := Lib.hid (HX2.out.set 1 (.int .i64 0) (by simp))
  have v0 := HX3.out.cell 0 (by simp)
  have v1 := HX3.out.cell 1 (by simp)
  simp only [List.set_cons_zero, List.set_cons_succ, List.getElem_cons_zero, List.getElem_cons_succ] at v0 v1
  have y0 := HX2.out.cell 0 (by simp)
  have y1 := HX2.out.cell 1 (by simp)
  have yf := HX2.out.frozen 1
  simp only [List.getElem_cons_zero, List.getElem_cons_succ] at y0 y1
  by_cases h2 : k = 2
  · have n2 : (k != 2) = false := by rw [bne_eq_false_iff_eq]; exact h2
    have HE : Hid (Ed.name k r = (k, r)) := Lib.hid (by unfold Ed.name; rw [if_neg (by omega)])
    clear h2
    obtain ⟨rb, hrb⟩ : ∃ rb, W.heap.size = rb := ⟨_, rfl⟩
    have HZ : Hid (Holds (W.alloc (.cells #[.int .i64 k, .int .i64 r] 33)) rb [.int .i64 k, .int .i64 r] 33) := Lib.hid (by
      rw [← hrb]
      exact Holds.new W [.int .i64 k, .int .i64 r] 33)
    have u0 := HZ.out.cell 0 (by simp)
    have u1 := HZ.out.cell 1 (by simp)
    simp only [List.getElem_cons_zero, List.getElem_cons_succ] at u0 u1
    have HBF : Hid (Below w.heap.size w (W.alloc (.cells #[.int .i64 k, .int .i64 r] 33))) := Lib.hid (grew HB.out (grew_alloc W _))
    rw [HE.out]
    go_enter Try.func22, Try.ntmps22
    go_wp2
    refine bodyPost_ret (v := keyV (k, r)) (by simp [results, Try.results22, go_sem, keyV, u0, u1]) rfl ?_
    exact ⟨rfl, HBF.out⟩
  · have n2 : (k != 2) = true := by rw [bne_iff_ne]; exact h2
    by_cases h3 : k = 3
    · have n3 : (k != 3) = false := by rw [bne_eq_false_iff_eq]; exact h3
      have HE : Hid (Ed.name k r = (k, r)) := Lib.hid (by unfold Ed.name; rw [if_neg (by omega)])
      clear h2 h3
      obtain ⟨rb, hrb⟩ : ∃ rb, W.heap.size = rb := ⟨_, rfl⟩
      have HZ : Hid (Holds (W.alloc (.cells #[.int .i64 k, .int .i64 r] 33)) rb [.int .i64 k, .int .i64 r] 33) := Lib.hid (by
        rw [← hrb]
        exact Holds.new W [.int .i64 k, .int .i64 r] 33)
      have u0 := HZ.out.cell 0 (by simp)
      have u1 := HZ.out.cell 1 (by simp)
      simp only [List.getElem_cons_zero, List.getElem_cons_succ] at u0 u1
      have HBF : Hid (Below w.heap.size w (W.alloc (.cells #[.int .i64 k, .int .i64 r] 33))) := Lib.hid (grew HB.out (grew_alloc W _))
      rw [HE.out]
      go_enter Try.func22, Try.ntmps22
      go_wp2
      refine bodyPost_ret (v := keyV (k, r)) (by simp [results, Try.results22, go_sem, keyV, u0, u1]) rfl ?_
      exact ⟨rfl, HBF.out⟩
    · have n3 : (k != 3) = true := by rw [bne_iff_ne]; exact h3
      have HE : Hid (Ed.name k r = (k, 0)) := Lib.hid (by unfold Ed.name; rw [if_pos ⟨h2, h3⟩])
      clear h2 h3
      obtain ⟨rb, hrb⟩ : ∃ rb, W.heap.size = rb := ⟨_, rfl⟩
      have HZ : Hid (Holds ((W.alloc (.cells #[.int .i64 0, .int .i64 0] 33)).setCell ⟨bx, 1, none⟩ (.int .i64 0)) rb [.int .i64 0, .int .i64 0] 33) := Lib.hid (by
        rw [← hrb]
        first
          | exact Holds.new W [.int .i64 0, .int .i64 0] 33
          | exact (Holds.new W [.int .i64 0, .int .i64 0] 33).keep (Keep.setCell _ bx 1 _) (fun e => by have e : W.heap.size = bx := e; have := HX.out.lt; omega))
      have HU : Hid (Below w.heap.size w ((W.alloc (.cells #[.int .i64 0, .int .i64 0] 33)).setCell ⟨bx, 1, none⟩ (.int .i64 0))) := Lib.hid (by
        skip
        first
          | exact grew HB.out (grew_alloc W _)
          | exact (grew HB.out (grew_alloc W _)).trans ((Keep.setCell _ bx 1 _).below (grew HB.out (grew_alloc W _)).size (fun i e => by have e : i = bx := e; omega)))
      have HZ1 := Lib.hid (HZ.out.set 0 (.int .i64 k) (by simp))
      have HZ2 := Lib.hid (HZ1.out.set 1 (.int .i64 (0)) (by simp))
      have z0 := HZ.out.cell 0 (by simp)
      have z1 := HZ1.out.cell 1 (by simp)
      have zf0 := HZ.out.frozen 0
      have zf1 := HZ1.out.frozen 1
      have u0 := HZ2.out.cell 0 (by simp)
      have u1 := HZ2.out.cell 1 (by simp)
      simp only [List.set_cons_zero, List.set_cons_succ, List.getElem_cons_zero, List.getElem_cons_succ] at z0 z1 u0 u1
      have HBF : Hid (Below w.heap.size w ((((W.alloc (.cells #[.int .i64 0, .int .i64 0] 33)).setCell ⟨bx, 1, none⟩ (.int .i64 0)).setCell ⟨rb, 0, none⟩ (.int .i64 k)).setCell ⟨rb, 1, none⟩ (.int .i64 (0)))) := Lib.hid (HU.out.trans (((Keep.setCell ((W.alloc (.cells #[.int .i64 0, .int .i64 0] 33)).setCell ⟨bx, 1, none⟩ (.int .i64 0)) rb 0 _).trans (Keep.setCell _ rb 1 _) (fun i _ e => e)).below HU.out.size (fun i e => by have e : i = rb := e; have := HB.out.size; omega)))
      rw [HE.out]
      go_enter Try.func22, Try.ntmps22
      go_wp2
      refine bodyPost_ret (v := keyV (k, 0)) (by simp [results, Try.results22, go_sem, keyV, u0, u1]) rfl ?_
      exact ⟨rfl, HBF.out⟩

/-- A row of numbers of one's own, the same as these. -/
theorem slices_CloneInts (v : Value) (zs : List Int) (w : World) (hv : SliceI w v zs) (hm : zs.length ≤ 1000000) :
    Calls Try.prog 23 #[v] w fun e w' => ∃ v', e = .returned v' ∧ OwnI w' v' zs ∧ (∀ g, v'.ownBlock = some g → w.heap.size ≤ g) ∧ Below w.heap.size w w' := by
  obtain ⟨a, cap, rfl, hcap, hrow⟩ := hv
  cases a with
  | none =>
    obtain rfl : zs = [] := by
      rcases hrow with h | ⟨b, off, h, _⟩
      · exact h
      · cases h
    have hnil : ∀ W, (binOp .eql 22 (.slice none ([] : List Int).length cap) (.slice none 0 0)).run Try.prog W = .ok (.bool true) W := fun W => by
      simp only [binOp]
      simp [run_equal_slice_nil W 22 3 _ _ _ Try.underlying22]
    simp only [List.length_nil] at hnil ⊢
    go_enter Try.func23, Try.ntmps23
    go_wp2
    go_ret
    exact ⟨_, rfl, OwnI.nil _, (by intro g hg; cases hg), Below.refl _ _⟩
  | some ad =>
    have HN : Hid (∀ j u, (intCells zs)[j]? = some u → (w.alloc (.cells #[] 3)).cell? (ad.add j) = some u) := Lib.hid (by
      rcases hrow with rfl | ⟨b, off, e, hb, hcells⟩
      · intro j u hu; simp [intCells] at hu
      · injection e with e
        subst e
        exact cells_news (fun i hi => by
          rw [(grew_alloc w _).cell (p := ⟨b, off + i, none⟩) hb]; exact hcells i hi))
    have HO : Hid (Owns (w.alloc (.cells #[] 3)) 3 1 (.slice (some ⟨w.heap.size, 0, none⟩) 0 0) 0 []) := Lib.hid (by
      have := World.ownsRow_lit (base := 0) (e := 3) (size := 1) w #[] 0 (Nat.zero_le _) (by unfold maxLen; omega) rfl
      exact this)
    have HM := Lib.hid hm
    have hnil : (binOp .eql 22 (.slice (some ad) zs.length cap) (.slice none 0 0)).run Try.prog w = .ok (.bool false) w := by
      simp only [binOp]
      simp [run_equal_slice_nil w 22 3 _ _ _ Try.underlying22]
    clear hrow hcap hm
    go_enter Try.func23, Try.ntmps23
    go_wp2_with (at_builtin; refine wp_append_any rfl (.tmp 5) (.tmp 6) rfl Try.underlying22 info_i64 rfl (by decide) (by decide) _ 0 [] rfl HO.out ad zs.length cap (intCells zs) rfl (by rw [intCells_len, Nat.mul_one]) HN.out (intCells_one zs) (by have := HM.out; omega) ?_; intro v' w' ho hk hn)
    go_ret
    refine ⟨_, rfl, ?_, ?_, ?_⟩
    · unfold OwnI
      rw [Nat.zero_add, List.nil_append] at ho
      exact ho
    · intro g hg
      rcases hn g hg with k | k
      · have : w.heap.size = g := Option.some.inj k
        omega
      · simp at k; omega
    · refine (((Keep.alloc _ w _).trans hk (fun i _ hi => hi)).fresh fun i hi hs => ?_)
      have : w.heap.size = i := Option.some.inj hs
      omega

theorem deed_enters (d : Ed.Deed) : ∀ args w, (callFunc d.fn args).run Try.prog w = .ok (.enter d.fn args) w := by
  cases d
  · exact enters_of Try.func33 (by kernel_rfl) rfl
  · exact enters_of Try.func34 (by kernel_rfl) rfl
  · exact enters_of Try.func35 (by kernel_rfl) rfl
  · exact enters_of Try.func36 (by kernel_rfl) rfl
  · exact enters_of Try.func37 (by kernel_rfl) rfl
  · exact enters_of Try.func38 (by kernel_rfl) rfl
  · exact enters_of Try.func39 (by kernel_rfl) rfl
  · exact enters_of Try.func40 (by kernel_rfl) rfl
  · exact enters_of Try.func41 (by kernel_rfl) rfl
  · exact enters_of Try.func42 (by kernel_rfl) rfl
  · exact enters_of Try.func43 (by kernel_rfl) rfl
  · exact enters_of Try.func44 (by kernel_rfl) rfl
  · exact enters_of Try.func45 (by kernel_rfl) rfl
  · exact enters_of Try.func46 (by kernel_rfl) rfl
  · exact enters_of Try.func47 (by kernel_rfl) rfl

theorem deed_runs (d : Ed.Deed) {w0 w : World} {g : Nat} {t : Tn} {lv kv av : Value} (h : IsTn w0 w g t lv kv av) (ha : t.at' ≤ t.line.length) (hl : t.line.length ≤ 100000) (hkl : t.kill.length ≤ 100000) (hlo : t.long = t.line.length) (hn : t.acts = []) :
    Calls Try.prog d.fn #[.pointer (some ⟨g, 0, none⟩)] w fun e w' => e = .returned (.tuple #[]) ∧ TnStep w0 w' g (d.run t) lv := by
  have hn2 : t.acts.length ≤ 1000000 := by rw [hn]; simp
  cases d
  · exact turn_typeRune h ha (by omega) hlo hn2
  · exact turn_toBegin h ha (by omega) hlo hn2
  · exact turn_toEnd h ha (by omega) hlo hn2
  · exact turn_oneBack h ha (by omega) hlo hn2
  · exact turn_oneOn h ha (by omega) hlo hn2
  · exact turn_wordBack h ha (by omega) hlo hn2
  · exact turn_wordOn h ha (by omega) hlo hn2
  · exact turn_cutAhead h ha (by omega) hlo hn2
  · exact turn_cutHere h ha (by omega) hlo hn2
  · exact turn_killToEnd h ha (by omega) hlo hn2
  · exact turn_killToBegin h ha (by omega) hlo hn2
  · exact turn_killWordBack h ha (by omega) hlo hn2
  · exact turn_killWordOn h ha (by omega) hlo hn2
  · exact turn_yank h (by omega) (by omega) (by omega) (by rw [hn]; simp)
  · exact turn_swap h ha (by omega) hlo hn

/-- How much a turn does. -/
theorem Ed.put_small (t : Tn) (r : Int) : (Ed.put t r).1.kill.length = t.kill.length ∧ (Ed.put t r).1.acts.length ≤ t.acts.length + 1 := by
  unfold Ed.put
  split <;> simp
theorem Ed.yank_small : ∀ (l : List Int) (t : Tn), (Ed.yank t l).kill.length = t.kill.length ∧ (Ed.yank t l).acts.length ≤ t.acts.length + l.length
  | [], t => by simp [Ed.yank]
  | r :: l, t => by
    have h1 := Ed.put_small t r
    have h2 := Ed.yank_small l (Ed.put t r).1
    unfold Ed.yank
    split
    · rw [List.length_cons]; omega
    · rw [List.length_cons]; omega
theorem Ed.cut_small (t : Tn) (a b : Nat) : (Ed.cut t a b).kill.length = t.kill.length ∧ (Ed.cut t a b).acts.length ≤ t.acts.length + t.line.length := by
  unfold Ed.cut Ed.cutActs
  simp only [List.length_append, List.length_map, List.length_drop, List.length_take, true_and]
  omega
theorem Ed.killed_small (t : Tn) (a b : Nat) : (Ed.killed t a b).kill.length ≤ t.kill.length + t.line.length ∧ (Ed.killed t a b).acts.length ≤ t.acts.length + t.line.length := by
  have h := Ed.cut_small t a b
  unfold Ed.killed
  split
  · omega
  · simp only [List.length_drop, List.length_take]
    omega
theorem Ed.run_small (d : Ed.Deed) (t : Tn) : (d.run t).kill.length ≤ t.kill.length + t.line.length ∧ (d.run t).acts.length ≤ t.acts.length + t.line.length + t.kill.length + 1 := by
  cases d <;> simp only [Ed.Deed.run]
  case typeRune => have := Ed.put_small t t.typed; omega
  case cutAhead => have := Ed.cut_small t (Ed.caret t.line (t.at' - 1)) t.at'; omega
  case cutHere => have := Ed.cut_small t t.at' (Ed.caret t.line (t.at' + 1)); omega
  case killToEnd => have := Ed.killed_small t t.at' t.line.length; omega
  case killToBegin => have := Ed.killed_small t 0 t.at'; omega
  case killWordBack => have := Ed.killed_small t (Ed.wordBack t.line (Ed.caret t.line t.at')) t.at'; omega
  case killWordOn => have := Ed.killed_small t t.at' (Ed.wordOn t.line (Ed.caret t.line t.at')); omega
  case yank => have := Ed.yank_small t.kill t; omega
  case swap =>
    unfold Ed.swap
    split
    · omega
    · split
      · have h2 := Ed.cut_small t (min t.at' (t.long - 1) - 1) (min t.at' (t.long - 1))
        refine ⟨?_, ?_⟩
        · rw [(Ed.put_small _ _).1]
          show (Ed.cut t (min t.at' (t.long - 1) - 1) (min t.at' (t.long - 1))).kill.length ≤ _
          omega
        · refine Nat.le_trans (Ed.put_small _ _).2 ?_
          show (Ed.cut t (min t.at' (t.long - 1) - 1) (min t.at' (t.long - 1))).acts.length + 1 ≤ _
          omega
      · omega
  all_goals omega
theorem Ed.turned_small (l : List Int) (z : Int) (kl : List Int) (k r : Int) : (Ed.turned l z kl k r).kill.length ≤ kl.length + l.length ∧ (Ed.turned l z kl k r).acts.length ≤ l.length + kl.length + 1 := by
  unfold Ed.turned
  split
  · simp [Ed.begun]
  · rename_i d _
    have := Ed.run_small d (Ed.begun l z kl r)
    simp only [Ed.begun, List.length_nil] at this ⊢
    omega
end Go.Proofs.Ytakjoodlediemaa
