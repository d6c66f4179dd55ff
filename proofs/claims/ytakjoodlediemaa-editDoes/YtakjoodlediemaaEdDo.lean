/- One act, done to a gap. -/
import Derived.Test.YtakjoodlediemaaEdOpen
namespace Go.Proofs.Ytakjoodlediemaa
open Go.RowKit
set_option linter.unusedVariables false

def EAct.val (a : EAct) : Value := .agg #[.int .i64 a.kind, .int .i64 a.at', .int .i64 a.rune]
/-- A number of the row is written. -/
theorem IsGap.put {w0 w : World} {g r : Nat} {R : List Int} {a b n : Nat} (h : IsGap w0 w g r R a b n) (hab : a < b) (x : Int) : IsGap w0 (w.setCell ⟨r, a, none⟩ (.int .i64 x)) g r (R.set a x) a b n := by
  have hl : a < (intCells R).length := by rw [intCells_len, h.len]; have := h.bn; omega
  refine ⟨h.box.keep (Keep.setCell w r a _) h.ne, ?_, by rw [List.length_set]; exact h.len, h.ab, h.bn, h.ne, h.newg, h.newr, h.bel.trans ((Keep.setCell w r a _).below h.bel.size (fun i e => by have e : i = r := e; rw [e]; exact h.newr))⟩
  have := h.row.set a (.int .i64 x) hl
  rwa [intCells_set] at this
/-- What the gap's do leaves. -/
def DoneBy (w0 w' : World) (g r n : Nat) (l : List Int) (a : EAct) (room : Nat) : Prop := ∀ m, Ed.one l a = some m → ∃ R' a' b', IsGap w0 w' g r R' a' b' n ∧ R'.take a' ++ R'.drop b' = m ∧ room ≤ (b' - a') + 1

set_option maxRecDepth 100000 in
set_option maxHeartbeats 4000000 in
theorem gap_do {w0 w : World} {g r : Nat} {R : List Int} {a b n : Nat} (h : IsGap w0 w g r R a b n) (hn : n ≤ 10000000) (A : EAct) (hroom : a < b) (l : List Int) (hl : R.take a ++ R.drop b = l) :
    Calls Try.prog 29 #[.pointer (some ⟨g, 0, none⟩), A.val] w fun e w' => e = .returned (.bool (Ed.one l A).isSome) ∧ DoneBy w0 w' g r n l A (b - a) ∧ Below w0.heap.size w0 w' := by
  have HG := Lib.hid h
  clear h
  have hab := HG.out.ab
  have hbn := HG.out.bn
  have hlen := HG.out.len
  have hll : l.length = a + (n - b) := by rw [← hl, List.length_append, List.length_take, List.length_drop]; omega
  obtain ⟨k, at', rn⟩ := A
  unfold EAct.val
  simp only
  have HBX := Lib.hid (Holds.new w [.int .i64 k, .int .i64 at', .int .i64 rn] 70)
  have HB0 := Lib.hid (grew_alloc w (.cells #[.int .i64 k, .int .i64 at', .int .i64 rn] 70))
  obtain ⟨W, hW⟩ : ∃ W, w.alloc (.cells #[.int .i64 k, .int .i64 at', .int .i64 rn] 70) = W := ⟨_, rfl⟩
  obtain ⟨bx, hbx⟩ : ∃ bx, w.heap.size = bx := ⟨_, rfl⟩
  have hbx0 : w0.heap.size ≤ bx := by rw [← hbx]; exact HG.out.bel.size
  have hbg : bx ≠ g ∧ bx ≠ r := by rw [← hbx]; exact ⟨by have := HG.out.box.lt; omega, by have := HG.out.row.lt; omega⟩
  rw [show ([Value.int .i64 k, .int .i64 at', .int .i64 rn].toArray) = #[Value.int .i64 k, .int .i64 at', .int .i64 rn] from rfl, hW, hbx] at HBX
  rw [hW] at HB0
  have HG1 := Lib.hid (HG.out.grew HB0.out)
  have b0 := HBX.out.cell 0 (by simp)
  have b1 := HBX.out.cell 1 (by simp)
  have b2 := HBX.out.cell 2 (by simp)
  simp only [List.getElem_cons_zero, List.getElem_cons_succ] at b0 b1 b2
  obtain ⟨c0, c1, c2, f1, f2⟩ := HG1.out.cells
  have s1 : IntKind.i64.wrap ((a : Int) + (n : Int)) = (a : Int) + (n : Int) := IntWalk.i64_in _ (by omega)
  have s2 : IntKind.i64.wrap ((a : Int) + (n : Int) - (b : Int)) = (l.length : Int) := by rw [show (a : Int) + (n : Int) - (b : Int) = (l.length : Int) from by omega]; exact IntWalk.i64_in _ (by omega)
  by_cases hk1 : k = 1 ∧ 0 ≤ at' ∧ at' ≤ l.length
  · obtain ⟨rfl, h0, h1⟩ := hk1
    obtain ⟨p, rfl⟩ : ∃ p : Nat, at' = p := ⟨at'.toNat, by omega⟩
    have hpl : p ≤ l.length := by omega
    have HONE : Hid (Ed.one l ⟨1, p, rn⟩ = some (l.take p ++ rn :: l.drop p)) := Lib.hid (Ed.one_put rn hpl)
    rw [HONE.out]
    have d1 : decide ((0 : Int) ≤ (p : Int)) = true := decide_eq_true h0
    have d2 : decide ((p : Int) ≤ (l.length : Int)) = true := decide_eq_true h1
    have d3 : decide (p ≤ l.length) = true := decide_eq_true hpl
    have HMV := Lib.hid (fun W' (hb : Below W.heap.size W W') => gap_move (HG1.out.grew hb) hn p (by omega))
    have HL := Lib.hid hl
    have HQ : Hid (a < b ∧ b ≤ n ∧ R.length = n ∧ l.length = a + (n - b) ∧ p ≤ l.length) := Lib.hid ⟨hroom, hbn, hlen, hll, hpl⟩
    clear hl hab hbn hlen hll hpl h0 h1 hroom
    go_enter Try.func29, Try.ntmps29
    go_wp2_with fail
    go_quiet (fail)
    go_wp2_with fail
    refine (HMV.out _ (grew_drewN W nq)).mono ?_
    rintro e w5 ⟨rfl, R', hG5, hR5, hK5⟩
    have HG5 := Lib.hid hG5
    have HR5 := Lib.hid hR5
    have HBX5 := Lib.hid ((HBX.out.keep (Keep.of_grew (grew_drewN W nq) Non) (fun h => h)).keep hK5 (fun e => by rcases e with e | e <;> omega))
    clear hG5 hR5 hK5 b0 b1 b2 c0 c1 c2 f1 f2
    have b2 := HBX5.out.cell 2 (by simp)
    simp only [List.getElem_cons_zero, List.getElem_cons_succ] at b2
    obtain ⟨c0, c1, c2, f1, f2⟩ := HG5.out.cells
    have hpn : p < n := by have := HQ.out; omega
    have hpR : p < (intCells R').length := by rw [intCells_len, HG5.out.len]; exact hpn
    have rc := HG5.out.row.cell p hpR
    have rf := HG5.out.row.frozen p
    generalize (intCells R')[p] = old at rc
    have hia : (p : Int) < (n : Int) := by omega
    have HG6 := Lib.hid (HG5.out.put (by have := HQ.out; omega) rn)
    have HG7 := Lib.hid ((HG6.out.set (a' := p + 1) (b' := p + (b - a)) ((w5.setCell ⟨r, p, none⟩ (.int .i64 rn)).setCell ⟨g, 1, none⟩ (.int .i64 ((p : Int) + 1))) (HG6.out.box.set 1 (.int .i64 ((p : Int) + 1)) (by simp)) (Keep.setCell _ g 1 _) (by have := HQ.out; omega) (by have := HG5.out.bn; omega)).grew (grew_drew _))
    obtain ⟨_, y1, _, yf1, _⟩ := HG6.out.cells
    have HFIN : Hid ((R'.set p rn).take (p + 1) ++ (R'.set p rn).drop (p + (b - a)) = l.take p ++ rn :: l.drop p) := Lib.hid (by
      have hq := HQ.out
      have hl5 : l = R'.take p ++ R'.drop (p + (b - a)) := by rw [HR5.out]; exact HL.out.symm
      have hlen5 := HG5.out.len
      have e1 : l.take p = R'.take p := by rw [hl5, List.take_append_of_le_length (by rw [List.length_take]; omega), List.take_take, Nat.min_self]
      have e2 : l.drop p = R'.drop (p + (b - a)) := by
        rw [hl5, List.drop_append, List.drop_eq_nil_of_le (by rw [List.length_take]; omega), List.nil_append, List.length_take]
        rw [show p - min p R'.length = 0 from by omega, List.drop_zero]
      rw [e1, e2]
      have e3 : (R'.set p rn).drop (p + (b - a)) = R'.drop (p + (b - a)) := List.drop_set_of_lt (by omega)
      have e4 : (R'.set p rn).take (p + 1) = R'.take p ++ [rn] := by
        rw [List.take_succ_eq_append_getElem (by rw [List.length_set]; omega), List.take_set_of_le (by omega)]
        simp
      rw [e3, e4, List.append_assoc]
      rfl)
    clear hpR hpn
    go_wp2_with fail
    go_still_tail 11, (by kernel_rfl)
    change wpList _ _ _ _ _ w5.drew
    go_wp2
    go_ret
    exact ⟨rfl, by intro m hm; rw [HONE.out] at hm; cases hm; exact ⟨_, _, _, HG7.out, HFIN.out, by omega⟩, HG7.out.bel⟩
  · by_cases hk2 : k = 2 ∧ 0 ≤ at' ∧ at' < l.length
    · obtain ⟨rfl, h0, h1⟩ := hk2
      obtain ⟨p, rfl⟩ : ∃ p : Nat, at' = p := ⟨at'.toNat, by omega⟩
      have hpl : p < l.length := by omega
      have HONE : Hid (Ed.one l ⟨2, p, rn⟩ = some (l.take p ++ l.drop (p + 1))) := Lib.hid (Ed.one_cut rn hpl)
      rw [HONE.out]
      have d1 : decide ((0 : Int) ≤ (p : Int)) = true := decide_eq_true h0
      have d2 : decide ((p : Int) < (l.length : Int)) = true := decide_eq_true h1
      have d3 : decide (p < l.length) = true := decide_eq_true hpl
      have HMV := Lib.hid (fun W' (hb : Below W.heap.size W W') => gap_move (HG1.out.grew hb) hn p (by omega))
      have HL := Lib.hid hl
      have HQ : Hid (a < b ∧ b ≤ n ∧ R.length = n ∧ l.length = a + (n - b) ∧ p < l.length ∧ n ≤ 10000000) := Lib.hid ⟨hroom, hbn, hlen, hll, hpl, hn⟩
      clear hl hab hbn hlen hll hpl h0 h1 hroom hk1
      go_enter Try.func29, Try.ntmps29
      go_wp2_with fail
      go_quiet (fail)
      go_wp2_with fail
      refine (HMV.out _ (grew_drewN W nq)).mono ?_
      rintro e w5 ⟨rfl, R', hG5, hR5, hK5⟩
      have HG5 := Lib.hid hG5
      have HR5 := Lib.hid hR5
      clear hG5 hR5 hK5 b0 b1 b2 c0 c1 c2 f1 f2
      obtain ⟨b', hb'⟩ : ∃ b', p + (b - a) = b' := ⟨_, rfl⟩
      rw [hb'] at HG5 HR5
      have HBB := Lib.hid hb'
      clear hb'
      have hbn' : b' < n := by have := HQ.out; have := HBB.out; omega
      have HG7 := Lib.hid (HG5.out.set (a' := p) (b' := b' + 1) (w5.setCell ⟨g, 2, none⟩ (.int .i64 ((b' : Int) + 1))) (HG5.out.box.set 2 (.int .i64 ((b' : Int) + 1)) (by simp)) (Keep.setCell _ g 2 _) (by have := HG5.out.ab; omega) (by omega))
      obtain ⟨c0, c1, c2, f1, f2⟩ := HG5.out.cells
      have HFIN : Hid (R'.take p ++ R'.drop (b' + 1) = l.take p ++ l.drop (p + 1)) := Lib.hid (by
        have hq := HQ.out
        have hbb := HBB.out
        have hl5 : l = R'.take p ++ R'.drop b' := by rw [HR5.out]; exact HL.out.symm
        have hlen5 := HG5.out.len
        have e1 : l.take p = R'.take p := by rw [hl5, List.take_append_of_le_length (by rw [List.length_take]; omega), List.take_take, Nat.min_self]
        have e2 : l.drop (p + 1) = R'.drop (b' + 1) := by
          rw [hl5, List.drop_append, List.drop_eq_nil_of_le (by rw [List.length_take]; omega), List.nil_append, List.length_take, List.drop_drop]
          congr 1
          omega
        rw [e1, e2])
      have hbb2 : b' ≤ 10000000 := by have := HQ.out; omega
      go_wp2
      go_ret
      exact ⟨rfl, by intro m hm; rw [HONE.out] at hm; cases hm; exact ⟨_, _, _, HG7.out, HFIN.out, by have := HBB.out; omega⟩, HG7.out.bel⟩
    · have HONE : Hid (Ed.one l ⟨k, at', rn⟩ = none) := Lib.hid (by unfold Ed.one; rw [if_neg hk1, if_neg hk2])
      rw [HONE.out]
      by_cases h1 : k = 1
      · subst h1
        by_cases h0 : 0 ≤ at'
        · have e2 : decide (0 ≤ at') = true := decide_eq_true h0
          have e3 : decide (at' ≤ (l.length : Int)) = false := decide_eq_false (fun h => hk1 ⟨rfl, h0, h⟩)
          clear hl hab hbn hlen hll hroom hk1 hk2
          go_enter Try.func29, Try.ntmps29
          go_wp2_with fail
          go_quiet (fail)
          go_wp2
          go_ret
          exact ⟨rfl, (by intro m hm; rw [HONE.out] at hm; cases hm), (HG1.out.grew (grew_drewN W nq)).bel⟩
        · have e2 : decide (0 ≤ at') = false := decide_eq_false h0
          clear hl hab hbn hlen hll hroom hk1 hk2
          go_enter Try.func29, Try.ntmps29
          go_wp2_with fail
          go_quiet (fail)
          go_wp2
          go_ret
          exact ⟨rfl, (by intro m hm; rw [HONE.out] at hm; cases hm), (HG1.out.grew (grew_drewN W nq)).bel⟩
      · have e1 : (k == 1) = false := by rw [beq_eq_false_iff_ne]; exact h1
        by_cases h2 : k = 2
        · subst h2
          by_cases h0 : 0 ≤ at'
          · have e2 : decide (0 ≤ at') = true := decide_eq_true h0
            have e3 : decide (at' < (l.length : Int)) = false := decide_eq_false (fun h => hk2 ⟨rfl, h0, h⟩)
            clear hl hab hbn hlen hll hroom hk1 hk2
            go_enter Try.func29, Try.ntmps29
            go_wp2_with fail
            go_quiet (fail)
            go_wp2
            go_ret
            exact ⟨rfl, (by intro m hm; rw [HONE.out] at hm; cases hm), (HG1.out.grew (grew_drewN W nq)).bel⟩
          · have e2 : decide (0 ≤ at') = false := decide_eq_false h0
            clear hl hab hbn hlen hll hroom hk1 hk2
            go_enter Try.func29, Try.ntmps29
            go_wp2_with fail
            go_quiet (fail)
            go_wp2
            go_ret
            exact ⟨rfl, (by intro m hm; rw [HONE.out] at hm; cases hm), (HG1.out.grew (grew_drewN W nq)).bel⟩
        · have e2 : (k == 2) = false := by rw [beq_eq_false_iff_ne]; exact h2
          clear hl hab hbn hlen hll hroom hk1 hk2
          go_enter Try.func29, Try.ntmps29
          go_wp2_with fail
          go_quiet (fail)
          go_wp2
          go_ret
          exact ⟨rfl, (by intro m hm; rw [HONE.out] at hm; cases hm), (HG1.out.grew (grew_drewN W nq)).bel⟩
end Go.Proofs.Ytakjoodlediemaa
