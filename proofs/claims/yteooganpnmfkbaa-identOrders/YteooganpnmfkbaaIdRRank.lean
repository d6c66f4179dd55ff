/- The document's rank of an Id. -/
import Derived.Test.YteooganpnmfkbaaIdROrder
namespace Go.Proofs.Yteooganpnmfkbaa
open Go.RowKit
set_option linter.unusedVariables false

theorem Idn.rank_snoc {ys : List (Int × Int)} {k : Nat} (hk : k < ys.length) (x : Int × Int) : Idn.rank (ys.take (k + 1)) x = Idn.rank (ys.take k) x + (if Idn.lt ys[k] x then 1 else 0) := by
  unfold Idn.rank
  rw [List.take_succ_eq_append_getElem hk, List.countP_append]
  simp [List.countP_cons]
theorem Idn.mem_snoc {ys : List (Int × Int)} {k : Nat} (hk : k < ys.length) (x : Int × Int) : decide (x ∈ ys.take (k + 1)) = (decide (x ∈ ys.take k) || decide (ys[k] = x)) := by
  rw [List.take_succ_eq_append_getElem hk, Bool.eq_iff_iff]
  simp only [decide_eq_true_eq, List.mem_append, List.mem_singleton, Bool.or_eq_true]
  exact ⟨fun h => h.imp id Eq.symm, fun h => h.imp id Eq.symm⟩

set_option maxRecDepth 100000 in
set_option maxHeartbeats 4000000 in
theorem ref10_Rank (v : Value) (ys : List (Int × Int)) (x : Int × Int) (w : World) (hv : SliceG 2 idL w v ys) (hm : ys.length ≤ 1000000) :
    Calls Try.prog 40 #[v, idV x] w fun e w' => e = .returned (.tuple #[.int .i64 (Idn.rank ys x : Nat), .bool (decide (x ∈ ys))]) ∧ Below w.heap.size w w' := by
  have HV := Lib.hid hv
  obtain ⟨va, vc, rfl⟩ := hv.shape
  clear hv
  obtain ⟨x1, x2⟩ := x
  unfold idV
  have HI : Hid (RInv w w.heap.size (.slice va ys.length vc) ys (x1, x2) (w.alloc (.cells #[.int .i64 x1, .int .i64 x2] 49))) := Lib.hid ⟨HV.out.below (grew_alloc _ _), Holds.new w [.int .i64 x1, .int .i64 x2] 49, grew_alloc _ _⟩
  go_enter Try.func40, Try.ntmps40
  go_wp2_with fail
  go_loopw [6, 7, 8] (fun n is i wr => ∃ k : Nat, k ≤ ys.length ∧ n = .int .i64 (Idn.rank (ys.take k) (x1, x2) : Nat) ∧ is = .bool (decide (((x1, x2) : Int × Int) ∈ ys.take k)) ∧ i = .int .i64 k ∧ RInv w w.heap.size (.slice va ys.length vc) ys (x1, x2) wr) (fun _ _ i _ => ys.length - (intOf i).toNat)
  case atStart => exact ⟨0, by omega, by simp [Idn.rank], by simp, rfl, HI.out⟩
  case round =>
    obtain ⟨k, hk, rfl, rfl, rfl, hI⟩ := hrel
    have HI := Lib.hid hI
    clear hI
    by_cases hlt : k < ys.length
    · have d1 : decide ((k : Int) < (ys.length : Int)) = true := decide_eq_true (by omega)
      have hia : (k : Int) < (ys.length : Int) := by omega
      have HN := Lib.hid (Idn.rank_snoc hlt (x1, x2))
      have HMS := Lib.hid (Idn.mem_snoc hlt (x1, x2))
      have hnb : Idn.rank (ys.take k) (x1, x2) ≤ k := by have := Idn.rank_le (ys.take k) (x1, x2); rw [List.length_take] at this; omega
      obtain ⟨b, off, e3, c0, c1⟩ := HI.out.1.id hlt
      cases e3
      have HBL := Lib.hid (block_lt_of_cell c0)
      obtain ⟨l0, l1⟩ := Holds.two HI.out.2.1
      have HLS := Lib.hid (fun W => ref10_Less ys[k] (x1, x2) W)
      generalize Idn.rank (ys.take k) (x1, x2) = n at HN hnb ⊢
      generalize decide (((x1, x2) : Int × Int) ∈ ys.take k) = is at HMS ⊢
      generalize Idn.lt ys[k] (x1, x2) = p at HLS HN
      have HEQ : Hid (decide (ys[k] = (x1, x2)) = (decide (ys[k].1 = x1) && decide (ys[k].2 = x2))) := Lib.hid (by rw [Bool.eq_iff_iff]; simp only [decide_eq_true_eq, Bool.and_eq_true]; exact ⟨fun e => by rw [e]; exact ⟨rfl, rfl⟩, fun e => Prod.ext e.1 e.2⟩)
      generalize ys[k] = y at c0 c1 HLS HMS HEQ
      obtain ⟨y1, y2⟩ := y
      simp only [idV] at c0 c1 HLS HEQ
      go_wp2_with fail
      go_still_tail 5, (by kernel_rfl)
      change wpList _ _ _ _ _ (World.drew _)
      go_wp2_with fail
      refine (HLS.out _).mono ?_
      rintro e w2 ⟨rfl, hg⟩
      have HI := Lib.hid (HI.out.below (grew (grew_drew _) hg.below))
      have c2 : w2.cell? ⟨b, off + k * 2, none⟩ = some (.int .i64 y1) := ((grew (grew_drew _) hg.below).cell (p := ⟨b, off + k * 2, none⟩) HBL.out).trans c0
      have c3 : w2.cell? ⟨b, off + k * 2 + 1, none⟩ = some (.int .i64 y2) := ((grew (grew_drew _) hg.below).cell (p := ⟨b, off + k * 2 + 1, none⟩) HBL.out).trans c1
      clear hg c0 c1 l0 l1
      obtain ⟨l0, l1⟩ := Holds.two HI.out.2.1
      have hq := fun W => eql_id y1 y2 x1 x2 W
      have hgd := fun op a b W => guard_id op a b #[.int .i64 y1, .int .i64 y2] #[.int .i64 x1, .int .i64 x2] W
      cases p <;> cases is
      · go_wp2_with fail
        go_quiet (fail)
        have HI := Lib.hid (HI.out.below (grew_drewN w2 nq))
        go_wp2
        go_roundw
        case rel => exact ⟨k + 1, by omega, by rw [HN.out]; first | rfl | go_num | simp, by rw [HMS.out, HEQ.out]; simp, by go_num, HI.out⟩
        case measure => simp [intOf]; omega
      · go_wp2_with fail
        go_quiet (fail)
        have HI := Lib.hid (HI.out.below (grew_drewN w2 nq))
        go_wp2
        go_roundw
        case rel => exact ⟨k + 1, by omega, by rw [HN.out]; first | rfl | go_num | simp, by rw [HMS.out, HEQ.out]; simp, by go_num, HI.out⟩
        case measure => simp [intOf]; omega
      · go_wp2_with fail
        go_quiet (fail)
        have HI := Lib.hid (HI.out.below (grew_drewN w2 nq))
        go_wp2
        go_roundw
        case rel => exact ⟨k + 1, by omega, by rw [HN.out]; first | rfl | go_num | simp, by rw [HMS.out, HEQ.out]; simp, by go_num, HI.out⟩
        case measure => simp [intOf]; omega
      · go_wp2_with fail
        go_quiet (fail)
        have HI := Lib.hid (HI.out.below (grew_drewN w2 nq))
        go_wp2
        go_roundw
        case rel => exact ⟨k + 1, by omega, by rw [HN.out]; first | rfl | go_num | simp, by rw [HMS.out, HEQ.out]; simp, by go_num, HI.out⟩
        case measure => simp [intOf]; omega
    · have d1 : decide ((k : Int) < (ys.length : Int)) = false := decide_eq_false (by omega)
      rw [List.take_of_length_le (by omega)]
      go_wp2
      go_ret2
      exact ⟨rfl, HI.out.2.2⟩
end Go.Proofs.Yteooganpnmfkbaa
