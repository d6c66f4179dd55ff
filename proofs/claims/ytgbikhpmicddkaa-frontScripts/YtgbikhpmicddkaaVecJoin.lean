/- What Join and Meet of vec come to. -/
import Derived.Test.YtgbikhpmicddkaaVecMake
namespace Go.Proofs.Ytgbikhpmicddkaa
open Go.RowKit
set_option linter.unusedVariables false

theorem ret_i {k : IntKind} {a b : Int} (h : a = b) : Ending.returned (.int k a) = .returned (.int k b) := by rw [h]

theorem vec_max (x y : Int) (w : World) : Calls Try.prog 33 #[.int .i64 x, .int .i64 y] w fun e w' => e = .returned (.int .i64 (max x y)) ∧ w' = w := by
  go_enter Try.func33, Try.ntmps33
  go_wp2
  all_goals
    go_ret
    refine ⟨ret_i ?_, rfl⟩
    omega

/-- What a value names is made since. -/
def Newer (w : World) (v : Value) : Prop := ∀ g, v.ownBlock = some g → w.heap.size ≤ g
theorem Newer.mk {w : World} {b off n cap : Nat} (h : w.heap.size ≤ b) : Newer w (.slice (some ⟨b, off, none⟩) n cap) := fun g hg => by
  have : b = g := Option.some.inj hg
  omega
theorem Newer.none (w : World) (n cap : Nat) : Newer w (.slice none n cap) := fun g hg => by cases hg
theorem Newer.of {w w1 : World} {v : Value} (h : Newer w1 v) (hb : w.heap.size ≤ w1.heap.size) : Newer w v := fun g hg => Nat.le_trans hb (h g hg)

set_option maxRecDepth 100000 in
set_option maxHeartbeats 1000000 in
theorem vec_joined_max_new (v u : Value) (xs ys : List Int) (w : World) (hv : SliceI w v xs) (hu : SliceI w u ys) (hm : xs.length ≤ 1000000) (hl : xs.length = ys.length) (h1 : 1 ≤ xs.length) :
    Calls Try.prog 32 #[v, u, .func (.func 33) #[] #[]] w fun e w' => ∃ r, e = .returned r ∧ SliceI w' r (Vecs.join xs ys) ∧ Below w.heap.size w w' ∧ Newer w r := by
  obtain ⟨a, cap, rfl, hcap, hrow⟩ := hv
  obtain ⟨b, cup, rfl, hcup, hrow2⟩ := hu
  obtain ⟨W, hmake, hown, hbel⟩ := ints_zeros Try.underlying30 xs.length w (by omega)
  have HO := Lib.hid hown
  have HB := Lib.hid hbel
  have HL := Lib.hid hl
  have HXS := Lib.hid hrow
  have HYS := Lib.hid hrow2
  clear hown hbel hl hrow hrow2
  go_enter Try.func32, Try.ntmps32
  go_wp2
  clear hmake
  go_loopw [14] (fun i wr => ∃ k : Nat, k ≤ xs.length ∧ i = .int .i64 k ∧ OwnsI wr w.heap.size (.slice (some ⟨w.heap.size, 0, none⟩) xs.length xs.length) (Vecs.join (xs.take k) (ys.take k) ++ List.replicate (xs.length - k) 0) ∧ Below w.heap.size w wr) (fun i _ => xs.length - (intOf i).toNat)
  case atStart => exact ⟨0, by omega, rfl, HO.out, HB.out⟩
  case round =>
    obtain ⟨k, hk, rfl, hown, hbel⟩ := hrel
    by_cases hlt : k < xs.length
    · have hdk : decide ((k : Int) < (xs.length : Int)) = true := decide_eq_true (by omega)
      have hdn : decide (k < xs.length) = true := decide_eq_true hlt
      have hlt2 : k < ys.length := by rw [← HL.out]; exact hlt
      have hia : (k : Int) < (xs.length : Int) := by omega
      have hib : (k : Int) < (ys.length : Int) := by omega
      have hlen : (Vecs.join (xs.take k) (ys.take k) ++ List.replicate (xs.length - k) 0).length = xs.length := by
        rw [List.length_append, Vecs.join_len (by rw [List.length_take, List.length_take, ← HL.out]), List.length_take, List.length_replicate]
        omega
      have HS := Lib.hid (Vecs.join_snoc hlt hlt2)
      have HLEN := Lib.hid hlen
      have hso := hown
      unfold OwnsI at hso
      rw [hlen] at hso
      have hfr : wr.frozen? ⟨w.heap.size, k, none⟩ = false := World.ownsRow.frozenAt hso k
      obtain ⟨z0, hold⟩ : ∃ z, wr.cell? ⟨w.heap.size, k, none⟩ = some (.int .i64 z) := by
        rw [World.ownsRow.cellAt hso k (by omega)]
        exact ⟨_, by simp only [intCells, List.getElem?_map]; rw [List.getElem?_eq_getElem (by rw [hlen]; exact hlt)]; rfl⟩
      have hst := World.ownsRow.stored hso k (.int .i64 (max xs[k] ys[k]))
      have hsb : Below w.heap.size wr (wr.setCell ⟨w.heap.size, k, none⟩ (.int .i64 (max xs[k] ys[k]))) := (Keep.setCell wr w.heap.size k _).below hbel.size (fun i hi => by rw [hi]; exact Nat.le_refl _)
      have HST : Hid (OwnsI (wr.setCell ⟨w.heap.size, k, none⟩ (.int .i64 (max xs[k] ys[k]))) w.heap.size (.slice (some ⟨w.heap.size, 0, none⟩) xs.length xs.length) (Vecs.join (xs.take (k + 1)) (ys.take (k + 1)) ++ List.replicate (xs.length - (k + 1)) 0)) := Lib.hid (by
        have e : (intCells (Vecs.join (xs.take k) (ys.take k) ++ List.replicate (xs.length - k) 0)).set k (.int .i64 (max xs[k] ys[k])) = intCells (Vecs.join (xs.take (k + 1)) (ys.take (k + 1)) ++ List.replicate (xs.length - (k + 1)) 0) := by
          rw [intCells_set, HS.out]
          congr 1
          have hj : (Vecs.join (xs.take k) (ys.take k)).length = k := by
            rw [Vecs.join_len (by rw [List.length_take, List.length_take, ← HL.out]), List.length_take]; omega
          obtain ⟨m, hm⟩ : ∃ m, xs.length - k = m + 1 := ⟨xs.length - k - 1, by omega⟩
          rw [hm, show xs.length - (k + 1) = m from by omega, List.replicate_succ, List.set_append_right _ _ (by omega), hj, Nat.sub_self]
          simp
        unfold OwnsI
        rw [← e]
        have := hst.1
        have hl2 : (Vecs.join (xs.take (k + 1)) (ys.take (k + 1)) ++ List.replicate (xs.length - (k + 1)) 0).length = xs.length := by
          have := congrArg List.length e
          rw [List.length_set, intCells_len, intCells_len, HLEN.out] at this
          exact this.symm
        rw [hl2]
        exact this)
      have HB2 := Lib.hid (hbel.trans hsb)
      obtain ⟨ba, oa, rfl, hca⟩ := SliceI.at (cap := cap) HXS.out hlt
      obtain ⟨bb, ob, rfl, hcb⟩ := SliceI.at (cap := cup) HYS.out hlt2
      have hca' : wr.cell? ⟨ba, oa + k, none⟩ = some (.int .i64 xs[k]) := by
        rw [hbel.cell (p := ⟨ba, oa + k, none⟩) (block_lt_of_cell hca)]; exact hca
      have hcb' : wr.cell? ⟨bb, ob + k, none⟩ = some (.int .i64 ys[k]) := by
        rw [hbel.cell (p := ⟨bb, ob + k, none⟩) (block_lt_of_cell hcb)]; exact hcb
      clear hst hso hsb hlen hown hbel hca hcb
      generalize xs[k] = x at *
      generalize ys[k] = y at *
      go_wp2
      go_still_tail 13, (by kernel_rfl)
      still_call (vec_max _ _ _)
      repeat still_step
      refine wpStill_nil ?_
      change wpList _ _ _ _ _ wr.drew
      go_wp2
      go_roundw
      case rel => exact ⟨k + 1, by omega, by go_num, World.ownsRow.drew HST.out, HB2.out.drew⟩
      case measure => simp [intOf]; omega
    · have hdk : decide ((k : Int) < (xs.length : Int)) = false := decide_eq_false (by omega)
      have hdn : decide (k < xs.length) = false := decide_eq_false hlt
      have HE : Hid (SliceI wr (.slice (some ⟨w.heap.size, 0, none⟩) xs.length xs.length) (Vecs.join xs ys)) := Lib.hid (by
        have := hown.slice
        rw [List.take_of_length_le (by omega), List.take_of_length_le (by rw [← HL.out]; omega), show xs.length - k = 0 from by omega] at this
        simpa using this)
      clear hown
      go_wp2
      go_ret
      exact ⟨_, rfl, HE.out, hbel, Newer.mk (Nat.le_refl _)⟩
theorem vec_joined_max (v u : Value) (xs ys : List Int) (w : World) (hv : SliceI w v xs) (hu : SliceI w u ys) (hm : xs.length ≤ 1000000) (hl : xs.length = ys.length) (h1 : 1 ≤ xs.length) :
    Calls Try.prog 32 #[v, u, .func (.func 33) #[] #[]] w fun e w' => ∃ r, e = .returned r ∧ SliceI w' r (Vecs.join xs ys) ∧ Below w.heap.size w w' :=
  (vec_joined_max_new v u xs ys w hv hu hm hl h1).mono fun e w' ⟨r, k1, k2, k3, _⟩ => ⟨r, k1, k2, k3⟩

/-- What Join hands back. -/
def joinR (xs ys : List Int) : List Int × Int := if Vecs.together xs ys then (Vecs.join xs ys, 0) else ([], 1)

set_option maxHeartbeats 1000000 in
theorem vec_Join_new (v u : Value) (xs ys : List Int) (w : World) (hv : SliceI w v xs) (hu : SliceI w u ys) (hm : xs.length ≤ maxLen) (hm2 : ys.length ≤ maxLen) :
    Calls Try.prog 21 #[v, u] w fun e w' => ∃ r, e = .returned r ∧ OutI w' r (joinR xs ys) ∧ Below w.heap.size w w' ∧ ∃ x y, r = .tuple #[x, y] ∧ Newer w x := by
  have HC := Lib.hid (vec_together v u xs ys w hv hu hm hm2)
  have HJ := Lib.hid (fun h1 h2 h3 => vec_joined_max_new v u xs ys w hv hu h1 h2 h3)
  clear hv hu
  go_enter Try.func21, Try.ntmps21
  go_wp2_with fail
  refine HC.out.mono ?_
  rintro e w1 ⟨rfl, rfl⟩
  cases hx : Vecs.together xs ys with
  | false =>
    have HR : Hid (joinR xs ys = ([], 1)) := Lib.hid (by unfold joinR; rw [hx]; rfl)
    clear hx
    go_wp2
    go_ret2
    exact ⟨_, rfl, by rw [HR.out]; exact OutI.mk 1 (SliceI.none _), Below.refl _ _, _, _, rfl, Newer.none _ _ _⟩
  | true =>
    have HR : Hid (joinR xs ys = (Vecs.join xs ys, 0)) := Lib.hid (by unfold joinR; rw [hx]; rfl)
    obtain ⟨h1, h2, h3⟩ := Vecs.together_iff.1 hx
    have h4 := Vecs.may_len h1
    clear hx h1 h2
    go_wp2_with fail
    refine (HJ.out (by omega) h3 (by omega)).mono ?_
    rintro e w1 ⟨r, rfl, hs, hb, hn⟩
    go_wp2
    go_ret2
    exact ⟨_, rfl, by rw [HR.out]; exact OutI.mk 0 hs, hb, _, _, rfl, hn⟩
theorem vec_Join (v u : Value) (xs ys : List Int) (w : World) (hv : SliceI w v xs) (hu : SliceI w u ys) (hm : xs.length ≤ maxLen) (hm2 : ys.length ≤ maxLen) :
    Calls Try.prog 21 #[v, u] w fun e w' => ∃ r, e = .returned r ∧ OutI w' r (joinR xs ys) ∧ Below w.heap.size w w' :=
  (vec_Join_new v u xs ys w hv hu hm hm2).mono fun e w' ⟨r, k1, k2, k3, _⟩ => ⟨r, k1, k2, k3⟩

theorem vec_min (x y : Int) (w : World) : Calls Try.prog 36 #[.int .i64 x, .int .i64 y] w fun e w' => e = .returned (.int .i64 (min x y)) ∧ w' = w := by
  go_enter Try.func36, Try.ntmps36
  go_wp2
  all_goals
    go_ret
    refine ⟨ret_i ?_, rfl⟩
    omega

set_option maxRecDepth 100000 in
set_option maxHeartbeats 1000000 in
theorem vec_joined_min (v u : Value) (xs ys : List Int) (w : World) (hv : SliceI w v xs) (hu : SliceI w u ys) (hm : xs.length ≤ 1000000) (hl : xs.length = ys.length) (h1 : 1 ≤ xs.length) :
    Calls Try.prog 32 #[v, u, .func (.func 36) #[] #[]] w fun e w' => ∃ r, e = .returned r ∧ SliceI w' r (Vecs.meet xs ys) ∧ Below w.heap.size w w' := by
  obtain ⟨a, cap, rfl, hcap, hrow⟩ := hv
  obtain ⟨b, cup, rfl, hcup, hrow2⟩ := hu
  obtain ⟨W, hmake, hown, hbel⟩ := ints_zeros Try.underlying30 xs.length w (by omega)
  have HO := Lib.hid hown
  have HB := Lib.hid hbel
  have HL := Lib.hid hl
  have HXS := Lib.hid hrow
  have HYS := Lib.hid hrow2
  clear hown hbel hl hrow hrow2
  go_enter Try.func32, Try.ntmps32
  go_wp2
  clear hmake
  go_loopw [14] (fun i wr => ∃ k : Nat, k ≤ xs.length ∧ i = .int .i64 k ∧ OwnsI wr w.heap.size (.slice (some ⟨w.heap.size, 0, none⟩) xs.length xs.length) (Vecs.meet (xs.take k) (ys.take k) ++ List.replicate (xs.length - k) 0) ∧ Below w.heap.size w wr) (fun i _ => xs.length - (intOf i).toNat)
  case atStart => exact ⟨0, by omega, rfl, HO.out, HB.out⟩
  case round =>
    obtain ⟨k, hk, rfl, hown, hbel⟩ := hrel
    by_cases hlt : k < xs.length
    · have hdk : decide ((k : Int) < (xs.length : Int)) = true := decide_eq_true (by omega)
      have hdn : decide (k < xs.length) = true := decide_eq_true hlt
      have hlt2 : k < ys.length := by rw [← HL.out]; exact hlt
      have hia : (k : Int) < (xs.length : Int) := by omega
      have hib : (k : Int) < (ys.length : Int) := by omega
      have hlen : (Vecs.meet (xs.take k) (ys.take k) ++ List.replicate (xs.length - k) 0).length = xs.length := by
        rw [List.length_append, Vecs.meet_len (by rw [List.length_take, List.length_take, ← HL.out]), List.length_take, List.length_replicate]
        omega
      have HS := Lib.hid (Vecs.meet_snoc hlt hlt2)
      have HLEN := Lib.hid hlen
      have hso := hown
      unfold OwnsI at hso
      rw [hlen] at hso
      have hfr : wr.frozen? ⟨w.heap.size, k, none⟩ = false := World.ownsRow.frozenAt hso k
      obtain ⟨z0, hold⟩ : ∃ z, wr.cell? ⟨w.heap.size, k, none⟩ = some (.int .i64 z) := by
        rw [World.ownsRow.cellAt hso k (by omega)]
        exact ⟨_, by simp only [intCells, List.getElem?_map]; rw [List.getElem?_eq_getElem (by rw [hlen]; exact hlt)]; rfl⟩
      have hst := World.ownsRow.stored hso k (.int .i64 (min xs[k] ys[k]))
      have hsb : Below w.heap.size wr (wr.setCell ⟨w.heap.size, k, none⟩ (.int .i64 (min xs[k] ys[k]))) := (Keep.setCell wr w.heap.size k _).below hbel.size (fun i hi => by rw [hi]; exact Nat.le_refl _)
      have HST : Hid (OwnsI (wr.setCell ⟨w.heap.size, k, none⟩ (.int .i64 (min xs[k] ys[k]))) w.heap.size (.slice (some ⟨w.heap.size, 0, none⟩) xs.length xs.length) (Vecs.meet (xs.take (k + 1)) (ys.take (k + 1)) ++ List.replicate (xs.length - (k + 1)) 0)) := Lib.hid (by
        have e : (intCells (Vecs.meet (xs.take k) (ys.take k) ++ List.replicate (xs.length - k) 0)).set k (.int .i64 (min xs[k] ys[k])) = intCells (Vecs.meet (xs.take (k + 1)) (ys.take (k + 1)) ++ List.replicate (xs.length - (k + 1)) 0) := by
          rw [intCells_set, HS.out]
          congr 1
          have hj : (Vecs.meet (xs.take k) (ys.take k)).length = k := by
            rw [Vecs.meet_len (by rw [List.length_take, List.length_take, ← HL.out]), List.length_take]; omega
          obtain ⟨m, hm⟩ : ∃ m, xs.length - k = m + 1 := ⟨xs.length - k - 1, by omega⟩
          rw [hm, show xs.length - (k + 1) = m from by omega, List.replicate_succ, List.set_append_right _ _ (by omega), hj, Nat.sub_self]
          simp
        unfold OwnsI
        rw [← e]
        have := hst.1
        have hl2 : (Vecs.meet (xs.take (k + 1)) (ys.take (k + 1)) ++ List.replicate (xs.length - (k + 1)) 0).length = xs.length := by
          have := congrArg List.length e
          rw [List.length_set, intCells_len, intCells_len, HLEN.out] at this
          exact this.symm
        rw [hl2]
        exact this)
      have HB2 := Lib.hid (hbel.trans hsb)
      obtain ⟨ba, oa, rfl, hca⟩ := SliceI.at (cap := cap) HXS.out hlt
      obtain ⟨bb, ob, rfl, hcb⟩ := SliceI.at (cap := cup) HYS.out hlt2
      have hca' : wr.cell? ⟨ba, oa + k, none⟩ = some (.int .i64 xs[k]) := by
        rw [hbel.cell (p := ⟨ba, oa + k, none⟩) (block_lt_of_cell hca)]; exact hca
      have hcb' : wr.cell? ⟨bb, ob + k, none⟩ = some (.int .i64 ys[k]) := by
        rw [hbel.cell (p := ⟨bb, ob + k, none⟩) (block_lt_of_cell hcb)]; exact hcb
      clear hst hso hsb hlen hown hbel hca hcb
      generalize xs[k] = x at *
      generalize ys[k] = y at *
      go_wp2
      go_still_tail 13, (by kernel_rfl)
      still_call (vec_min _ _ _)
      repeat still_step
      refine wpStill_nil ?_
      change wpList _ _ _ _ _ wr.drew
      go_wp2
      go_roundw
      case rel => exact ⟨k + 1, by omega, by go_num, World.ownsRow.drew HST.out, HB2.out.drew⟩
      case measure => simp [intOf]; omega
    · have hdk : decide ((k : Int) < (xs.length : Int)) = false := decide_eq_false (by omega)
      have hdn : decide (k < xs.length) = false := decide_eq_false hlt
      have HE : Hid (SliceI wr (.slice (some ⟨w.heap.size, 0, none⟩) xs.length xs.length) (Vecs.meet xs ys)) := Lib.hid (by
        have := hown.slice
        rw [List.take_of_length_le (by omega), List.take_of_length_le (by rw [← HL.out]; omega), show xs.length - k = 0 from by omega] at this
        simpa using this)
      clear hown
      go_wp2
      go_ret
      exact ⟨_, rfl, HE.out, hbel⟩

/-- What Meet hands back. -/
def meetR (xs ys : List Int) : List Int × Int := if Vecs.together xs ys then (Vecs.meet xs ys, 0) else ([], 1)

set_option maxHeartbeats 1000000 in
theorem vec_Meet (v u : Value) (xs ys : List Int) (w : World) (hv : SliceI w v xs) (hu : SliceI w u ys) (hm : xs.length ≤ maxLen) (hm2 : ys.length ≤ maxLen) :
    Calls Try.prog 27 #[v, u] w fun e w' => ∃ r, e = .returned r ∧ OutI w' r (meetR xs ys) ∧ Below w.heap.size w w' := by
  have HC := Lib.hid (vec_together v u xs ys w hv hu hm hm2)
  have HJ := Lib.hid (fun h1 h2 h3 => vec_joined_min v u xs ys w hv hu h1 h2 h3)
  clear hv hu
  go_enter Try.func27, Try.ntmps27
  go_wp2_with fail
  refine HC.out.mono ?_
  rintro e w1 ⟨rfl, rfl⟩
  cases hx : Vecs.together xs ys with
  | false =>
    have HR : Hid (meetR xs ys = ([], 1)) := Lib.hid (by unfold meetR; rw [hx]; rfl)
    clear hx
    go_wp2
    go_ret2
    exact ⟨_, rfl, by rw [HR.out]; exact OutI.mk 1 (SliceI.none _), Below.refl _ _⟩
  | true =>
    have HR : Hid (meetR xs ys = (Vecs.meet xs ys, 0)) := Lib.hid (by unfold meetR; rw [hx]; rfl)
    obtain ⟨h1, h2, h3⟩ := Vecs.together_iff.1 hx
    have h4 := Vecs.may_len h1
    clear hx h1 h2
    go_wp2_with fail
    refine (HJ.out (by omega) h3 (by omega)).mono ?_
    rintro e w1 ⟨r, rfl, hs, hb⟩
    go_wp2
    go_ret2
    exact ⟨_, rfl, by rw [HR.out]; exact OutI.mk 0 hs, hb⟩
end Go.Proofs.Ytgbikhpmicddkaa
