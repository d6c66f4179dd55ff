/- What Zero, New, Tick, Join, Meet of duetref06 come to. -/
import Derived.Test.YtgbikhpmicddkaaVecJoin
import Derived.Deep.AppendLies
import Derived.Deep.RegionLaw
namespace Go.Proofs.Ytgbikhpmicddkaa
open Go.RowKit
set_option linter.unusedVariables false

set_option maxHeartbeats 1000000 in
theorem ref06_Zero (n : Nat) (w : World) (hn : n ≤ 1000000) :
    Calls Try.prog 19 #[.int .i64 (n : Int)] w fun e w' => ∃ r, e = .returned r ∧ SliceI w' r (List.replicate n 0) ∧ Below w.heap.size w w' := by
  go_enter Try.func19, Try.ntmps19
  go_wp2
  go_loopw [3, 4] (fun r i wr => ∃ k : Nat, k ≤ n ∧ i = .int .i64 k ∧ OwnsI wr w.heap.size r (List.replicate k 0) ∧ Below w.heap.size w wr) (fun _ i _ => n - (intOf i).toNat)
  case atStart => exact ⟨0, by omega, rfl, OwnsI.nil _ _, Below.refl _ _⟩
  case round =>
    obtain ⟨k, hk, rfl, hown, hbel⟩ := hrel
    have HO := Lib.hid hown
    have HB := Lib.hid hbel
    clear hown hbel
    by_cases hlt : k < n
    · have hdk : decide ((k : Int) < (n : Int)) = true := decide_eq_true (by omega)
      have hdn : decide (k < n) = true := decide_eq_true hlt
      go_wp2_with (at_builtin; refine wp_append_int rfl (.tmp 10) (.tmp 11) rfl w.heap.size _ _ _ rfl rfl HO.out HB.out.size (by rw [List.length_replicate]; omega) ?_; intro v1 w1 ho1 hk1)
      go_roundw
      case rel => exact ⟨k + 1, by omega, by go_num, by rw [List.replicate_succ']; exact ho1, HB.out.trans hk1⟩
      case measure => simp [intOf]; omega
    · have hdk : decide ((k : Int) < (n : Int)) = false := decide_eq_false (by omega)
      have hdn : decide (k < n) = false := decide_eq_false hlt
      obtain rfl : k = n := by omega
      go_wp2
      go_ret
      exact ⟨_, rfl, HO.out.slice, HB.out⟩

set_option maxHeartbeats 1000000 in
theorem ref06_Join (v u : Value) (xs ys : List Int) (w : World) (hv : SliceI w v xs) (hu : SliceI w u ys) (hm : xs.length ≤ maxLen) (hm2 : ys.length ≤ maxLen) :
    Calls Try.prog 25 #[v, u] w fun e w' => ∃ r, e = .returned r ∧ OutI w' r (joinR xs ys) ∧ Below w.heap.size w w' := by
  have HC := Lib.hid (ref06_together v u xs ys w hv hu hm hm2)
  obtain ⟨a, cap, rfl, hcap, hrow⟩ := hv
  obtain ⟨b, cup, rfl, hcup, hrow2⟩ := hu
  have HXS := Lib.hid hrow
  have HYS := Lib.hid hrow2
  unfold maxLen at hm hm2
  clear hrow hrow2
  go_enter Try.func25, Try.ntmps25
  go_wp2_with fail
  refine HC.out.mono ?_
  rintro e w1 ⟨rfl, rfl⟩
  cases hx : Vecs.together xs ys with
  | false =>
    have HR : Hid (joinR xs ys = ([], 1)) := Lib.hid (by unfold joinR; rw [hx]; rfl)
    clear hx
    go_wp2
    go_ret2
    exact ⟨_, rfl, by rw [HR.out]; exact OutI.mk 1 (SliceI.none _), Below.refl _ _⟩
  | true =>
    have HR : Hid (joinR xs ys = (Vecs.join xs ys, 0)) := Lib.hid (by unfold joinR; rw [hx]; rfl)
    obtain ⟨h1, h2, h3⟩ := Vecs.together_iff.1 hx
    have h4 := Vecs.may_len h1
    have HL := Lib.hid h3
    clear hx h1 h2 h3
    go_wp2
    go_loopw [6, 7] (fun r i wr => ∃ k : Nat, k ≤ xs.length ∧ i = .int .i64 k ∧ OwnsI wr w.heap.size r (Vecs.join (xs.take k) (ys.take k)) ∧ Below w.heap.size w wr) (fun _ i _ => xs.length - (intOf i).toNat)
    case atStart => exact ⟨0, by omega, rfl, OwnsI.nil _ _, Below.refl _ _⟩
    case round =>
      obtain ⟨k, hk, rfl, hown, hbel⟩ := hrel
      by_cases hlt : k < xs.length
      · have hdk : decide ((k : Int) < (xs.length : Int)) = true := decide_eq_true (by omega)
        have hdn : decide (k < xs.length) = true := decide_eq_true hlt
        have hlt2 : k < ys.length := by rw [← HL.out]; exact hlt
        have hia : (k : Int) < (xs.length : Int) := by omega
        have hib : (k : Int) < (ys.length : Int) := by omega
        have hlen : (Vecs.join (xs.take k) (ys.take k)).length = k := by
          rw [Vecs.join_len (by rw [List.length_take, List.length_take, ← HL.out]), List.length_take]
          omega
        have HS := Lib.hid (Vecs.join_snoc hlt hlt2)
        have HLEN := Lib.hid hlen
        have HO := Lib.hid hown
        have HB := Lib.hid hbel
        obtain ⟨ba, oa, rfl, hca⟩ := SliceI.at (cap := cap) HXS.out hlt
        obtain ⟨bb, ob, rfl, hcb⟩ := SliceI.at (cap := cup) HYS.out hlt2
        have hca' : wr.cell? ⟨ba, oa + k, none⟩ = some (.int .i64 xs[k]) := by
          rw [hbel.cell (p := ⟨ba, oa + k, none⟩) (block_lt_of_cell hca)]; exact hca
        have hcb' : wr.cell? ⟨bb, ob + k, none⟩ = some (.int .i64 ys[k]) := by
          rw [hbel.cell (p := ⟨bb, ob + k, none⟩) (block_lt_of_cell hcb)]; exact hcb
        clear hlen hown hbel hca hcb
        generalize xs[k] = x at *
        generalize ys[k] = y at *
        obtain ⟨i0, hi, hz0, hz1, hz2⟩ := info_parts info_i64
        have HI := Lib.hid (And.intro hi (And.intro hz0 (And.intro hz1 hz2)))
        clear hi hz0 hz1 hz2
        have HAL : Hid (∀ W W', OwnsI W' w.heap.size W (Vecs.join (xs.take k) (ys.take k) ++ [max x y]) → OwnsI W' w.heap.size W (Vecs.join (xs.take (k + 1)) (ys.take (k + 1)))) := Lib.hid (fun W W' h => by rw [HS.out]; exact h)
        have HAP : Hid (∀ z : Int, ∀ r W', W'.ownsRow w.heap.size 3 1 r ((Vecs.join (xs.take k) (ys.take k)).length + 1) (intCells (Vecs.join (xs.take k) (ys.take k)) ++ [.int .i64 z]) → OwnsI W' w.heap.size r (Vecs.join (xs.take k) (ys.take k) ++ [z])) := Lib.hid (fun z r W' h => by
          unfold OwnsI
          rw [List.length_append]
          have e : intCells (Vecs.join (xs.take k) (ys.take k) ++ [z]) = intCells (Vecs.join (xs.take k) (ys.take k)) ++ [.int .i64 z] := by simp [intCells]
          rw [e]
          exact h)
        by_cases hxy : x < y
        all_goals
          go_wp2
          go_region_law (refine step_append_lies (w := (wr.alloc (.cells #[.int .i64 _] 3)).drew) rfl (.tmp 18) (.tmp 28) 30 rfl w.heap.size 3 i0 (.int .i64 0) 1 8 Try.underlying30 HI.out.1 HI.out.2.1 HI.out.2.2.1 HI.out.2.2.2 rfl (by decide) _ _ (intCells (Vecs.join (xs.take k) (ys.take k))) rfl (World.ownsRow.drew (World.ownsRow.alloc HO.out _)) ⟨wr.heap.size, 0, none⟩ 1 1 [.int .i64 _] rfl rfl (cell_one_new _ _ _) (by intro u hu; rw [List.mem_singleton.1 hu]; rfl) (by decide) (by rw [HLEN.out]; unfold maxLen; omega) (by rw [HLEN.out]; omega) (by have := HB.out.size; simp; omega) _ rfl ?_; intro g cap2 w2 ho hgr hd hlt'; have HN := Lib.hid (And.intro ho hgr); clear ho hgr hd hlt')
          all_goals
            go_wp2
            go_roundw
            case rel =>
              refine ⟨k + 1, by omega, by go_num, HAL.out _ _ (cast (congrArg (fun z => OwnsI _ w.heap.size _ (Vecs.join (xs.take k) (ys.take k) ++ [z])) ?_) (HAP.out _ _ _ HN.out.1)), ?_⟩
              · omega
              · exact ((HB.out.alloc HB.out.size _).drew).grown HN.out.2 (by have := HB.out.size; simp; omega) (fun k hk => (HO.out.lt k hk).1)
            case measure => simp [intOf]; omega
      · have hdk : decide ((k : Int) < (xs.length : Int)) = false := decide_eq_false (by omega)
        have hdn : decide (k < xs.length) = false := decide_eq_false hlt
        have he := hown.slice
        rw [List.take_of_length_le (by omega), List.take_of_length_le (by rw [← HL.out]; omega)] at he
        have HE := Lib.hid he
        clear hown he
        go_wp2
        go_ret2
        exact ⟨_, rfl, by rw [HR.out]; exact OutI.mk 0 HE.out, hbel⟩

set_option maxHeartbeats 1000000 in
theorem ref06_Meet (v u : Value) (xs ys : List Int) (w : World) (hv : SliceI w v xs) (hu : SliceI w u ys) (hm : xs.length ≤ maxLen) (hm2 : ys.length ≤ maxLen) :
    Calls Try.prog 28 #[v, u] w fun e w' => ∃ r, e = .returned r ∧ OutI w' r (meetR xs ys) ∧ Below w.heap.size w w' := by
  have HC := Lib.hid (ref06_together v u xs ys w hv hu hm hm2)
  obtain ⟨a, cap, rfl, hcap, hrow⟩ := hv
  obtain ⟨b, cup, rfl, hcup, hrow2⟩ := hu
  have HXS := Lib.hid hrow
  have HYS := Lib.hid hrow2
  unfold maxLen at hm hm2
  clear hrow hrow2
  go_enter Try.func28, Try.ntmps28
  go_wp2_with fail
  refine HC.out.mono ?_
  rintro e w1 ⟨rfl, rfl⟩
  cases hx : Vecs.together xs ys with
  | false =>
    have HR : Hid (meetR xs ys = ([], 1)) := Lib.hid (by unfold meetR; rw [hx]; rfl)
    clear hx
    go_wp2
    go_ret2
    exact ⟨_, rfl, by rw [HR.out]; exact OutI.mk 1 (SliceI.none _), Below.refl _ _⟩
  | true =>
    have HR : Hid (meetR xs ys = (Vecs.meet xs ys, 0)) := Lib.hid (by unfold meetR; rw [hx]; rfl)
    obtain ⟨h1, h2, h3⟩ := Vecs.together_iff.1 hx
    have h4 := Vecs.may_len h1
    have HL := Lib.hid h3
    clear hx h1 h2 h3
    go_wp2
    go_loopw [6, 7] (fun r i wr => ∃ k : Nat, k ≤ xs.length ∧ i = .int .i64 k ∧ OwnsI wr w.heap.size r (Vecs.meet (xs.take k) (ys.take k)) ∧ Below w.heap.size w wr) (fun _ i _ => xs.length - (intOf i).toNat)
    case atStart => exact ⟨0, by omega, rfl, OwnsI.nil _ _, Below.refl _ _⟩
    case round =>
      obtain ⟨k, hk, rfl, hown, hbel⟩ := hrel
      by_cases hlt : k < xs.length
      · have hdk : decide ((k : Int) < (xs.length : Int)) = true := decide_eq_true (by omega)
        have hdn : decide (k < xs.length) = true := decide_eq_true hlt
        have hlt2 : k < ys.length := by rw [← HL.out]; exact hlt
        have hia : (k : Int) < (xs.length : Int) := by omega
        have hib : (k : Int) < (ys.length : Int) := by omega
        have hlen : (Vecs.meet (xs.take k) (ys.take k)).length = k := by
          rw [Vecs.meet_len (by rw [List.length_take, List.length_take, ← HL.out]), List.length_take]
          omega
        have HS := Lib.hid (Vecs.meet_snoc hlt hlt2)
        have HLEN := Lib.hid hlen
        have HO := Lib.hid hown
        have HB := Lib.hid hbel
        obtain ⟨ba, oa, rfl, hca⟩ := SliceI.at (cap := cap) HXS.out hlt
        obtain ⟨bb, ob, rfl, hcb⟩ := SliceI.at (cap := cup) HYS.out hlt2
        have hca' : wr.cell? ⟨ba, oa + k, none⟩ = some (.int .i64 xs[k]) := by
          rw [hbel.cell (p := ⟨ba, oa + k, none⟩) (block_lt_of_cell hca)]; exact hca
        have hcb' : wr.cell? ⟨bb, ob + k, none⟩ = some (.int .i64 ys[k]) := by
          rw [hbel.cell (p := ⟨bb, ob + k, none⟩) (block_lt_of_cell hcb)]; exact hcb
        clear hlen hown hbel hca hcb
        generalize xs[k] = x at *
        generalize ys[k] = y at *
        obtain ⟨i0, hi, hz0, hz1, hz2⟩ := info_parts info_i64
        have HI := Lib.hid (And.intro hi (And.intro hz0 (And.intro hz1 hz2)))
        clear hi hz0 hz1 hz2
        have HAL : Hid (∀ W W', OwnsI W' w.heap.size W (Vecs.meet (xs.take k) (ys.take k) ++ [min x y]) → OwnsI W' w.heap.size W (Vecs.meet (xs.take (k + 1)) (ys.take (k + 1)))) := Lib.hid (fun W W' h => by rw [HS.out]; exact h)
        have HAP : Hid (∀ z : Int, ∀ r W', W'.ownsRow w.heap.size 3 1 r ((Vecs.meet (xs.take k) (ys.take k)).length + 1) (intCells (Vecs.meet (xs.take k) (ys.take k)) ++ [.int .i64 z]) → OwnsI W' w.heap.size r (Vecs.meet (xs.take k) (ys.take k) ++ [z])) := Lib.hid (fun z r W' h => by
          unfold OwnsI
          rw [List.length_append]
          have e : intCells (Vecs.meet (xs.take k) (ys.take k) ++ [z]) = intCells (Vecs.meet (xs.take k) (ys.take k)) ++ [.int .i64 z] := by simp [intCells]
          rw [e]
          exact h)
        by_cases hxy : y < x
        all_goals
          go_wp2
          go_region_law (refine step_append_lies (w := (wr.alloc (.cells #[.int .i64 _] 3)).drew) rfl (.tmp 18) (.tmp 28) 30 rfl w.heap.size 3 i0 (.int .i64 0) 1 8 Try.underlying30 HI.out.1 HI.out.2.1 HI.out.2.2.1 HI.out.2.2.2 rfl (by decide) _ _ (intCells (Vecs.meet (xs.take k) (ys.take k))) rfl (World.ownsRow.drew (World.ownsRow.alloc HO.out _)) ⟨wr.heap.size, 0, none⟩ 1 1 [.int .i64 _] rfl rfl (cell_one_new _ _ _) (by intro u hu; rw [List.mem_singleton.1 hu]; rfl) (by decide) (by rw [HLEN.out]; unfold maxLen; omega) (by rw [HLEN.out]; omega) (by have := HB.out.size; simp; omega) _ rfl ?_; intro g cap2 w2 ho hgr hd hlt'; have HN := Lib.hid (And.intro ho hgr); clear ho hgr hd hlt')
          all_goals
            go_wp2
            go_roundw
            case rel =>
              refine ⟨k + 1, by omega, by go_num, HAL.out _ _ (cast (congrArg (fun z => OwnsI _ w.heap.size _ (Vecs.meet (xs.take k) (ys.take k) ++ [z])) ?_) (HAP.out _ _ _ HN.out.1)), ?_⟩
              · omega
              · exact ((HB.out.alloc HB.out.size _).drew).grown HN.out.2 (by have := HB.out.size; simp; omega) (fun k hk => (HO.out.lt k hk).1)
            case measure => simp [intOf]; omega
      · have hdk : decide ((k : Int) < (xs.length : Int)) = false := decide_eq_false (by omega)
        have hdn : decide (k < xs.length) = false := decide_eq_false hlt
        have he := hown.slice
        rw [List.take_of_length_le (by omega), List.take_of_length_le (by rw [← HL.out]; omega)] at he
        have HE := Lib.hid he
        clear hown he
        go_wp2
        go_ret2
        exact ⟨_, rfl, by rw [HR.out]; exact OutI.mk 0 HE.out, hbel⟩
end Go.Proofs.Ytgbikhpmicddkaa
