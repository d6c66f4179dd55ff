/- Where everybody's caret is: Sites. -/
import Derived.Test.YtcmdfjeiefgmhaaPwAt
namespace Go.Proofs.Ytcmdfjeiefgmhaa
open Go.RowKit Carets
set_option linter.unusedVariables false

theorem cars_index {L : List Car} (h : L.length ≤ 16) (i : Nat) (hi : i < 16) (w : World) : (Instr.index 125 (.agg (carsL (full L)).toArray) (.int .i64 (i : Int))).run Try.prog w = .ok (.agg #[.int .i64 (carAt L i).seq, .int .i64 (carAt L i).epoch, .int .i64 (carAt L i).ref.1, .int .i64 (carAt L i).ref.2]) w := by
  refine run_index_aggs (n := 16) (size := 4) Try.underlying125 Try.underlying124 rfl (by kernel_rfl) hi _ ?_ w
  have hl : i < (full L).length := by rw [full_len h]; exact hi
  have := carsL_cut (full L) i hl
  rw [full_at hl] at this
  rw [List.extract_toArray]
  unfold List.extract
  rw [Nat.add_sub_cancel_left, this]
  rfl

set_option maxRecDepth 100000 in
set_option maxHeartbeats 2000000 in
theorem past_Sites {p : Nat} {L : List Car} {w : World} {F : Nat → Prop} (h : WhereV p L w F) (e : Int) :
    Calls Try.prog 51 #[.pointer (some ⟨p, 0, none⟩), .int .i64 e] w fun r w' => ∃ v, r = .returned v ∧ SliceI w' v (sitesK L e L.length) ∧ Below w.heap.size w w' := by
  have hL := h.2.1
  have HCELLS : Hid (∀ j v, (carsL (full L))[j]? = some v → w.cell? ⟨p, 1 + j, none⟩ = some v) := Lib.hid (fun j v hv => by
    rw [cell_of_row _ _ _ _ _ _ h.1, Nat.add_comm]
    simpa using hv)
  have HLEN : Hid ((carsL (full L)).length = 64) := Lib.hid (by rw [carsL_len, full_len hL.2])
  have HIX : Hid (∀ i : Nat, i < 16 → ∀ w, (Instr.index 125 (.agg (carsL (full L)).toArray) (.int .i64 (i : Int))).run Try.prog w = .ok (.agg #[.int .i64 (carAt L i).seq, .int .i64 (carAt L i).epoch, .int .i64 (carAt L i).ref.1, .int .i64 (carAt L i).ref.2]) w) := Lib.hid (fun i hi w => cars_index hL.2 i hi w)
  have HFIN : Hid (sitesK L e 16 = sitesK L e L.length) := Lib.hid (by
    have := sitesK_more L e (16 - L.length)
    rw [show L.length + (16 - L.length) = 16 from by omega] at this
    exact this)
  rw [← HFIN.out]
  clear h hL HFIN
  go_enter Try.func51, Try.ntmps51
  go_wp2_with (first | (refine wpList_load_at rfl 125 (.tmp 12) rfl p 1 rfl (carsL (full L)) _ HCELLS.out Try.underlying125 rfl (by rw [HLEN.out]; kernel_rfl) ?_))
  generalize (carsL (full L)).toArray = CS at HIX ⊢
  clear HCELLS HLEN
  go_loopw [5, 14] (fun o i wr => ∃ k : Nat, k ≤ 16 ∧ i = .int .i64 k ∧ OwnI wr o (sitesK L e k) ∧ (∀ g, o.ownBlock = some g → w.heap.size ≤ g) ∧ Below w.heap.size w wr) (fun _ i _ => 16 - (intOf i).toNat)
  case atStart => exact ⟨0, by omega, rfl, OwnI.nil _, fun g hg => (by cases hg), Below.refl _ _⟩
  case round =>
    obtain ⟨k, hk, rfl, ho, hn, hb⟩ := hrel
    have HO := Lib.hid ho
    have HN := Lib.hid hn
    have HB := Lib.hid hb
    clear ho hn hb
    by_cases hlt : k < 16
    · have d1 : decide ((k : Int) < 16) = true := decide_eq_true (by omega)
      have hix := HIX.out k hlt
      have HS := Lib.hid (sitesK_succ L e k)
      have HKL := Lib.hid (sitesK_len L e k)
      have HC := Lib.hid (caret_isIn (carAt L k) e)
      generalize carAt L k = c at hix HS HC
      generalize carIn c e = z at HS HC
      obtain ⟨q, ep, r1, r2⟩ := c
      simp only at hix HC
      have HB2 := Lib.hid (grew_alloc wr (.cells #[.int .i64 q, .int .i64 ep, .int .i64 r1, .int .i64 r2] 124))
      cases z
      · have HS2 : Hid (sitesK L e (k + 1) = sitesK L e k) := Lib.hid (by rw [HS.out]; simp)
        go_wp2_with fail
        refine (HC.out _).mono ?_
        rintro r w1 ⟨rfl, hb⟩
        have HB3 := Lib.hid (grew HB2.out hb)
        clear hb
        go_wp2
        go_roundw
        case rel => exact ⟨k + 1, by omega, by go_num, by rw [HS2.out]; exact HO.out.below HB3.out, HN.out, grew HB.out HB3.out⟩
        case measure => simp [intOf]; omega
      · have HS2 : Hid (sitesK L e (k + 1) = sitesK L e k ++ [(k : Int)]) := Lib.hid (by rw [HS.out]; simp)
        go_wp2_with fail
        refine (HC.out _).mono ?_
        rintro r w1 ⟨rfl, hb⟩
        have HB3 := Lib.hid (grew HB2.out hb)
        have HO1 := Lib.hid (HO.out.below HB3.out)
        clear hb
        go_wp2_with (first | (at_builtin; refine wp_append_num rfl (.tmp 21) (.tmp 23) rfl _ (sitesK L e k) (k : Int) rfl rfl HO1.out (by have := HKL.out; omega) ?_; intro v2 w2 ho2 hk2 hn2; have HX := Lib.hid (And.intro ho2 (And.intro hk2 hn2)); clear ho2 hk2 hn2))
        have HN2 : Hid (∀ g, v2.ownBlock = some g → w.heap.size ≤ g) := Lib.hid (fun g hg => by
          rcases HX.out.2.2 g hg with q | q
          · exact HN.out g q
          · exact Nat.le_trans (Nat.le_trans HB.out.size HB3.out.size) q)
        have HB4 : Hid (Below w.heap.size w w2) := Lib.hid ((grew HB.out HB3.out).trans (HX.out.2.1.below (grew HB.out HB3.out).size (fun i hi => HN.out i hi)))
        go_roundw
        case rel => exact ⟨k + 1, by omega, by go_num, by rw [HS2.out]; exact HX.out.1, HN2.out, HB4.out⟩
        case measure => simp [intOf]; omega
    · obtain rfl : k = 16 := by omega
      have d1 : decide (((16 : Nat) : Int) < 16) = false := by decide
      go_wp2
      go_ret
      exact ⟨_, rfl, HO.out.slice, HB.out⟩
end Go.Proofs.Ytcmdfjeiefgmhaa
