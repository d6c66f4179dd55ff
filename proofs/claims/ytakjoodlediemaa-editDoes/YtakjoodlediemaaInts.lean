/- Slices of ints: what they hold; appended to; two of them held against one another. -/
import Derived.Test.YtakjoodlediemaaOwn
import Derived.Test.YtakjoodlediemaaInts0
import Derived.BigQuiet
import Derived.Deep.QuietTactic
import Derived.Laws.MakeOwn
import Derived.OpenShut
namespace Go.Proofs.Ytakjoodlediemaa
open Go.RowKit
set_option linter.unusedVariables false

set_option maxHeartbeats 1000000 in
theorem ref01_Same (va vb : Value) (xs ys : List Int) (w : World) (ha : SliceI w va xs) (hb : SliceI w vb ys) (hm : xs.length ≤ 1000000000) (hm2 : ys.length ≤ 1000000000) :
    Calls Try.prog 16 #[va, vb] w fun e w' => e = .returned (.bool (decide (xs = ys))) ∧ Below w.heap.size w w' := by
  obtain ⟨aa, ca, rfl, hca, hra⟩ := ha
  obtain ⟨ab, cb, rfl, hcb, hrb⟩ := hb
  by_cases hl : xs.length = ys.length
  · have hd : ((xs.length : Int) != (ys.length : Int)) = false := by simp; omega
    by_cases h0 : xs.length = 0
    · obtain rfl : xs = [] := List.eq_nil_of_length_eq_zero h0
      obtain rfl : ys = [] := List.eq_nil_of_length_eq_zero hl.symm
      clear hra hrb hd
      go_enter Try.func16, Try.ntmps16
      go_wp2
      go_rounds 1
      go_ret
      exact ⟨rfl, Below.refl _ _⟩
    · rcases hra with rfl | ⟨ba, oa, rfl, _, hcellA⟩
      · exact absurd rfl h0
      · rcases hrb with rfl | ⟨bb, ob, rfl, _, hcellB⟩
        · exact absurd hl h0
        · have HA := Lib.hid hcellA
          have HB := Lib.hid hcellB
          have HL := Lib.hid hl
          clear hcellA hcellB hl
          go_enter Try.func16, Try.ntmps16
          go_wp2
          go_loopw [5] (fun i wr => ∃ k : Nat, k ≤ xs.length ∧ i = .int .i64 k ∧ xs.take k = ys.take k ∧ ∃ n, wr = w.drewN n) (fun i _ => xs.length - (intOf i).toNat)
          case atStart => exact ⟨0, by omega, rfl, rfl, 0, rfl⟩
          case round =>
            obtain ⟨k, hk, rfl, heq, n, rfl⟩ := hrel
            have HEQ := Lib.hid heq
            clear heq
            by_cases hlt : k < xs.length
            · have hdk : decide ((k : Int) < (xs.length : Int)) = true := by simp; omega
              have hdn : decide (k < xs.length) = true := by simpa using hlt
              have hlb : k < ys.length := by rw [← HL.out]; exact hlt
              have hca' := HA.out k hlt
              have hcb' := HB.out k hlb
              have HX := Lib.hid (take_ext hlt hlb HEQ.out)
              have hia : (k : Int) < (xs.length : Int) := by omega
              have hib : (k : Int) < (ys.length : Int) := by omega
              generalize hxa : xs[k] = x at *
              generalize hyb : ys[k] = y at *
              have HXA := Lib.hid hxa
              have HYB := Lib.hid hyb
              clear hxa hyb
              by_cases hxy : x = y
              · have hne : (x != y) = false := by simp [hxy]
                have HXY := Lib.hid hxy
                clear hxy
                go_wp2
                go_quiet (fail)
                go_wp2
                go_roundw
                case rel => exact ⟨k + 1, by omega, by go_num, HX.out.2 HXY.out, n + nq, by simp⟩
                case measure => simp [intOf]; omega
              · have hne : (x != y) = true := by simp [hxy]
                have HXY := Lib.hid hxy
                clear hxy
                go_wp2
                go_quiet (fail)
                go_wp2
                go_ret
                exact ⟨by
                  have : xs ≠ ys := fun h => HXY.out (by subst h; rw [← HXA.out, ← HYB.out])
                  simp [this], by rw [World.drewN_drewN]; exact grew_drewN w _⟩
            · have hdn : decide (k < xs.length) = false := by simpa using hlt
              go_wp2
              go_ret
              exact ⟨by
                have e1 : xs.take k = xs := List.take_of_length_le (by omega)
                have e2 : ys.take k = ys := List.take_of_length_le (by rw [← HL.out]; omega)
                have : xs = ys := by rw [← e1, ← e2]; exact HEQ.out
                simp [this], grew_drewN w n⟩
  · have hd : ((xs.length : Int) != (ys.length : Int)) = true := by simp; omega
    have hne : xs ≠ ys := fun h => hl (by rw [h])
    have HN := Lib.hid hne
    clear hra hrb hl hne
    go_enter Try.func16, Try.ntmps16
    go_wp2
    go_ret
    exact ⟨by simp [HN.out], Below.refl _ _⟩

/-- 'l = append(l, d)'. -/
theorem wp_append_int {ops : Array Oper} {rest : List Oper} {o : Oper} {a : Act} {w : World} {Q : Exit → Act → World → Prop} (hgd : o.guard = none) (s x : Operand)
    (ho : o.op = .call { callee := .builtin .append, args := #[s, x], argTypes := #[22, 22] })
    (base : Nat) (v : Value) (l : List Int) (d : Int) (hs : a.eval s = v) (hx : a.eval x = .slice (some ⟨w.heap.size, 0, none⟩) 1 1)
    (hown : OwnsI w base v l) (hbase : base ≤ w.heap.size) (hlen : l.length < 1000000000)
    (h : ∀ v' w', OwnsI w' base v' (l ++ [d]) → Below base w w' → wpList Try.prog ops Q rest (a.put o.dst v') w') :
    wpList Try.prog ops Q (o :: rest) a (w.alloc (.cells #[.int .i64 d] 3)) := by
  obtain ⟨i0, hi, hz0, hz1, hz2⟩ := info_parts info_i64
  refine wpList_append_own (P := Try.prog) _ hgd s x 22 ho base 3 i0 (.int .i64 0) 1 8 Try.underlying22 hi hz0 hz1 hz2 rfl (by decide) v l.length (intCells l) hs (World.ownsRow.alloc hown _) ⟨w.heap.size, 0, none⟩ 1 1 [.int .i64 d] hx rfl ?_ ?_ ?_ ?_ ?_ ?_
  · exact cell_one_new _ _ _
  · intro u hu
    simp at hu
    subst hu
    rfl
  · unfold maxLen; omega
  · omega
  · simp; omega
  · intro v' w' h1 h2 _
    refine h v' w' ?_ ?_
    · unfold OwnsI
      have e : intCells (l ++ [d]) = intCells l ++ [.int .i64 d] := by simp [intCells]
      rw [e, List.length_append]
      exact h1
    · refine (((Below.refl base w).alloc hbase _).grown h2 (by simp; omega) ?_)
      intro k hk
      exact (hown.lt k hk).1

/-- 'make([]int, 0, n)': a slice that owns nothing. -/
theorem ints_made (n : Nat) (w : World) (hn : n ≤ 1000000000) : ∃ v W, (Instr.makeSlice 22 (.int .i64 0) (.int .i64 (n : Int))).run Try.prog w = .ok v W
    ∧ OwnsI W w.heap.size v [] ∧ Below w.heap.size w W := by
  obtain ⟨i0, hi, hz0, hz1, hz2⟩ := info_parts info_i64
  have h := run_make (P := Try.prog) w 22 3 i0 (.int .i64 0) Try.underlying22 hi hz0 .i64 .i64 0 (n : Int) (by omega) (by omega) (by rw [hz2]; omega) (by omega)
  refine ⟨_, _, h, ?_, grew_alloc _ _⟩
  refine World.ownsRow_made w _ _ (Nat.le_refl _) (by unfold maxLen; omega) ?_
  rw [size_madeCells, hz1]
end Go.Proofs.Ytakjoodlediemaa
