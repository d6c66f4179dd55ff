/- slices.Compact at Ids: of Ids that are the same, one behind the other, one stays. -/
import Derived.Test.YteooganpnmfkbaaIdLay
import Derived.Lib.SlicesCompact
import Derived.Lib.SliceRun
import Derived.Laws.StructEq
namespace Go.Proofs.Yteooganpnmfkbaa
open Go.RowKit
open Go.Lib (keeps compactUpTo CompInv keeps_lt_one keeps_pos keeps_neg compactUpTo_all range_map_get)
set_option linter.unusedVariables false

theorem eql_id (a b c d : Int) (w : World) : (binOp .eql 49 (.agg #[.int .i64 a, .int .i64 b]) (.agg #[.int .i64 c, .int .i64 d])).run Try.prog w = .ok (.bool (decide (((a, b) : Int × Int) = (c, d)))) w := by
  have u3 := Try.underlying3
  have a3 := Try.isAgg3
  have z3 := Try.sizeOf3
  have hS : Try.prog.underlying 49 = some (.struct (Try.prog.fieldsOf 49)) := by kernel_rfl
  have hp : Try.prog.stoodInHeld 49 = false := by kernel_rfl
  rw [run_eql_struct, show (10000 : Nat) = 9999 + 1 from rfl, run_equalIn_agg w 9999 49 _ _ hS hp]
  simp only [Program.fieldsOf, Try.underlying49]
  go_simp
  by_cases h1 : a = c <;> by_cases h2 : b = d <;> simp [h1, h2]
theorem neq_id (a b c d : Int) (w : World) : (binOp .neq 49 (.agg #[.int .i64 a, .int .i64 b]) (.agg #[.int .i64 c, .int .i64 d])).run Try.prog w = .ok (.bool (!decide (((a, b) : Int × Int) = (c, d)))) w := by
  have u3 := Try.underlying3
  have a3 := Try.isAgg3
  have z3 := Try.sizeOf3
  have hS : Try.prog.underlying 49 = some (.struct (Try.prog.fieldsOf 49)) := by kernel_rfl
  have hp : Try.prog.stoodInHeld 49 = false := by kernel_rfl
  rw [run_neq_struct, show (10000 : Nat) = 9999 + 1 from rfl, run_equalIn_agg w 9999 49 _ _ hS hp]
  simp only [Program.fieldsOf, Try.underlying49]
  go_simp
  by_cases h1 : a = c <;> by_cases h2 : b = d <;> simp [h1, h2]
theorem guard_id (op : BinOp) (x y : Operand) (xs ys : Array Value) (w : World) : (eqGuard op 49 x y (.agg xs) (.agg ys)).run Try.prog w = .ok () w := run_eqGuard_agg w op _ x y xs ys (by kernel_rfl)

/-- The block g begins with the Ids d, and these may be written. -/
def IdRow (w : World) (g : Nat) (d : Array (Int × Int)) : Prop :=
  g < w.heap.size ∧ ∀ i, i < d.size → (w.cell? ⟨g, i * 2, none⟩ = some (.int .i64 d[i]!.1) ∧ w.cell? ⟨g, i * 2 + 1, none⟩ = some (.int .i64 d[i]!.2)) ∧ w.frozen? ⟨g, i * 2, none⟩ = false ∧ w.frozen? ⟨g, i * 2 + 1, none⟩ = false
theorem IdRow.keep {S : Nat → Prop} {w w' : World} {g : Nat} {d : Array (Int × Int)} (h : IdRow w g d) (hk : Keep S w w') (hn : ¬ S g) : IdRow w' g d :=
  ⟨Nat.lt_of_lt_of_le h.1 hk.size, fun i hi => by rw [hk.cell h.1 hn, hk.cell h.1 hn, hk.frozen h.1 hn, hk.frozen h.1 hn]; exact h.2 i hi⟩
theorem IdRow.set {w : World} {g : Nat} {d : Array (Int × Int)} (h : IdRow w g d) {k : Nat} (hk : k < d.size) (a b : Int) : IdRow ((w.setCell ⟨g, k * 2, none⟩ (.int .i64 a)).setCell ⟨g, k * 2 + 1, none⟩ (.int .i64 b)) g (d.setIfInBounds k (a, b)) := by
  refine ⟨by simpa [World.setCell] using h.1, fun i hi => ?_⟩
  have hi' : i < d.size := by simpa using hi
  obtain ⟨⟨c0, c1⟩, f0, f1⟩ := h.2 i hi'
  rw [World.frozen?_setCell, World.frozen?_setCell, World.frozen?_setCell, World.frozen?_setCell]
  refine ⟨?_, f0, f1⟩
  by_cases e : i = k
  · subst e
    have hg : (d.setIfInBounds i (a, b))[i]! = (a, b) := by simp [hi']
    rw [hg]
    constructor
    · rw [World.cell?_setCell_other _ _ _ _ (by simp), World.cell?_setCell_same _ _ _ c0]
    · exact World.cell?_setCell_same _ _ _ (u := .int .i64 d[i]!.2) (by rw [World.cell?_setCell_other _ _ _ _ (by simp)]; exact c1)
  · have hg : (d.setIfInBounds k (a, b))[i]! = d[i]! := by simp [Array.getElem!_eq_getD, Ne.symm e]
    rw [hg]
    constructor
    · rw [World.cell?_setCell_other _ _ _ _ (fun h => by have := congrArg Addr.off h; simp at this; omega), World.cell?_setCell_other _ _ _ _ (fun h => by have := congrArg Addr.off h; simp at this; omega)]; exact c0
    · rw [World.cell?_setCell_other _ _ _ _ (fun h => by have := congrArg Addr.off h; simp at this; omega), World.cell?_setCell_other _ _ _ _ (fun h => by have := congrArg Addr.off h; simp at this; omega)]; exact c1
theorem IdRow.cut {w : World} {g : Nat} {d d' : Array (Int × Int)} (h : IdRow w g d) (hs : d'.size ≤ d.size) (he : ∀ i, i < d'.size → d'[i]! = d[i]!) : IdRow w g d' := ⟨h.1, fun i hi => by rw [he i hi]; exact h.2 i (by omega)⟩

theorem run_clear_ids (w : World) (ty : TypeId) (g o n c : Nat) (hn : 0 < n) (hc : ∀ j, j < n * 2 → (w.cell? ⟨g, o + j, none⟩).isSome = true) (hf : ∀ j, j < n * 2 → w.frozen? ⟨g, o + j, none⟩ = false) :
    (Builtin.clear_ #[53] ty #[.slice (some ⟨g, o, none⟩) n c]).run Try.prog w = .ok (.tuple #[]) (w.setCells g o (List.replicate (n * 2) (.int .i64 0))) := by
  have hzc : (Builtin.zeroCells (Value.agg #[.int .i64 0, .int .i64 0]).cells n).toList = List.replicate (n * 2) (.int .i64 0) := by
    simp [Builtin.zeroCells, Value.cells]
    apply List.ext_getElem
    · simp
    · intro i h1 h2
      simp
      rcases Nat.mod_two_eq_zero_or_one i with e | e <;> simp [e]
  have hst := run_storeCells_cells (P := Try.prog) g o (List.replicate (n * 2) (Value.int .i64 0)) 0 w (by simpa using hc) (by simpa using hf) (by intro v hv'; rw [List.eq_of_mem_replicate hv']; rfl)
  simp only [Nat.add_zero] at hst
  obtain ⟨m, rfl⟩ : ∃ m, n = m + 1 := ⟨n - 1, by omega⟩
  simp [Builtin.clear_, run_underlying Try.underlying53, Try.zeroValue49, hzc, hst]

theorem keep_setCells (g : Nat) : ∀ (vs : List Value) (o : Nat) (w : World), Keep (Just g) w (w.setCells g o vs)
  | [], _, w => Keep.refl _ w
  | v :: vs, o, w => (Keep.setCell w g o v).trans (keep_setCells g vs (o + 1) _) (fun _ _ h => h)

/-- What Compact hands back of the row d: a row of the same block that begins with what stays. -/
structure CompOut (w : World) (g cap : Nat) (d : Array (Int × Int)) (r : Value) (w' : World) : Prop where
  val : r = .slice (some ⟨g, 0, none⟩) (compactUpTo d d.size).length cap
  row : IdRow w' g (compactUpTo d d.size).toArray
  keep : Keep (Just g) w w'

set_option maxRecDepth 100000 in
set_option maxHeartbeats 4000000 in
theorem slices_Compact (g cap : Nat) (d : Array (Int × Int)) (w : World) (hd : IdRow w g d) (hcap : d.size ≤ cap) (hsz : d.size ≤ 1000000000) :
    Calls Try.prog 64 #[.slice (some ⟨g, 0, none⟩) d.size cap] w fun e w' => ∃ r, e = .returned r ∧ CompOut w g cap d r w' := by
  have HQ := Lib.hid (fun a b c e W => eql_id a b c e W)
  have HNQ := Lib.hid (fun a b c e W => neq_id a b c e W)
  have HS : Hid (∀ W, Keep (Just g) w W → IdRow W g d → (∀ j, j < d.size → keeps d j = true) → CompOut w g cap d (.slice (some ⟨g, 0, none⟩) d.size cap) W) := Lib.hid (fun W hk hr hall => by
    have e : compactUpTo d d.size = d.toList := by rw [compactUpTo_all d _ hall, range_map_get]
    exact ⟨by rw [e]; simp, by rw [e]; simpa using hr, hk⟩)
  have HD := Lib.hid hd
  clear hd
  by_cases h2 : d.size < 2
  · have hd2 : decide ((d.size : Int) < 2) = true := decide_eq_true (by omega)
    go_enter Try.func64, Try.ntmps64
    go_wp2
    go_ret
    exact ⟨_, rfl, HS.out w (Keep.refl _ _) HD.out (fun j hj => keeps_lt_one d j (by omega))⟩
  · have hd2 : decide ((d.size : Int) < 2) = false := decide_eq_false (by omega)
    go_enter Try.func64, Try.ntmps64
    go_wp2
    clear hd2
    go_loopw [3] (fun s3 wr => ∃ k : Nat, 1 ≤ k ∧ k ≤ d.size ∧ s3 = .int .i64 k ∧ Keep (Just g) w wr ∧ IdRow wr g d ∧ ∀ j, j < k → keeps d j = true) (fun i _ => d.size - (intOf i).toNat)
    case atStart => exact ⟨1, Nat.le_refl _, by omega, rfl, Keep.refl _ _, HD.out, keeps_lt_one d⟩
    case round =>
      obtain ⟨k, hk1, hk, rfl, hkeep, hrow, hall⟩ := hrel
      have HKP := Lib.hid hkeep
      have HRW := Lib.hid hrow
      have HAL := Lib.hid hall
      clear hkeep hrow hall
      by_cases hlt : k < d.size
      · have hdk : decide ((k : Int) < (d.size : Int)) = true := decide_eq_true (by omega)
        obtain ⟨⟨c0, c1⟩, _⟩ := HRW.out.2 k hlt
        obtain ⟨⟨b0, b1⟩, _⟩ := HRW.out.2 (k - 1) (by omega)
        generalize hx : d[k]! = x at c0 c1
        generalize hy : d[k - 1]! = y at b0 b1
        have HB : Hid (d[k]! = x ∧ d[k - 1]! = y) := Lib.hid ⟨hx, hy⟩
        clear hx hy
        obtain ⟨x1, x2⟩ := x
        obtain ⟨y1, y2⟩ := y
        simp only at c0 c1 b0 b1
        by_cases hdup : ((x1, x2) : Int × Int) = (y1, y2)
        · have HQQ : Hid ((decide (x1 = y1) && decide (x2 = y2)) = true) := Lib.hid (by simp at hdup; simp [hdup])
          have HKN : Hid (keeps d k = false) := Lib.hid (keeps_neg (by omega) (by rw [HB.out.1, HB.out.2, hdup]))
          clear hdup
          have hq := fun W => HQ.out x1 x2 y1 y2 W
          have hgd := fun op a b W => guard_id op a b #[.int .i64 x1, .int .i64 x2] #[.int .i64 y1, .int .i64 y2] W
          go_wp2_with fail
          go_quiet (fail)
          rw [HQQ.out]
          have HKP1 := Lib.hid (HKP.out.trans (Keep.of_grew (grew_drewN wr nq) (Just g)) (fun _ _ h => h))
          have HRW1 := Lib.hid (HRW.out.keep (Keep.of_grew (grew_drewN wr nq) Non) (fun h => h))
          generalize wr.drewN nq = w1 at *
          clear c0 c1 b0 b1
          go_wp2
          go_loopw [3, 5] (fun s3 s5 wr2 => ∃ (kk k2 : Nat) (dk : Array (Int × Int)), s3 = .int .i64 kk ∧ s5 = .int .i64 k2 ∧ 1 ≤ k2 ∧ k + k2 ≤ d.size ∧ Keep (Just g) w wr2 ∧ IdRow wr2 g dk ∧ CompInv d (k + k2) kk dk) (fun _ i _ => d.size - (intOf i).toNat)
          case atStart => exact ⟨k, 1, d, rfl, rfl, Nat.le_refl _, by omega, HKP1.out, HRW1.out, CompInv.start HAL.out HKN.out⟩
          case round =>
            obtain ⟨kk, k2, dk, rfl, rfl, h21, hle, hkeep, hrow, hI⟩ := hrel
            have HK2 := Lib.hid hkeep
            have HR2 := Lib.hid hrow
            have HI2 := Lib.hid hI
            have hkk := hI.lt
            have hds := hI.size
            clear hkeep hrow hI
            have hsub : ((d.size - k : Nat) : Int) = (d.size : Int) - (k : Int) := by omega
            by_cases hlt2 : k + k2 < d.size
            · have e1 : decide ((k2 : Int) < (d.size : Int) - (k : Int)) = true := decide_eq_true (by omega)
              have e2 : decide ((k2 : Int) < ((d.size - k : Nat) : Int)) = true := decide_eq_true (by omega)
              obtain ⟨⟨c0, c1⟩, _⟩ := HR2.out.2 (k + k2) (by omega)
              obtain ⟨⟨b0, b1⟩, _⟩ := HR2.out.2 (k + (k2 - 1)) (by omega)
              obtain ⟨⟨a0, a1⟩, f0, f1⟩ := HR2.out.2 kk (by omega)
              rw [HI2.out.high (k + k2) (by omega), Nat.add_mul] at c0 c1
              rw [HI2.out.high (k + (k2 - 1)) (by omega), Nat.add_mul] at b0 b1
              generalize hx : d[k + k2]! = u at c0 c1
              generalize hy : d[k + (k2 - 1)]! = v at b0 b1
              generalize dk[kk]! = old at a0 a1
              have HB2 : Hid (d[k + k2]! = u ∧ d[k + k2 - 1]! = v) := Lib.hid ⟨hx, by rw [show k + k2 - 1 = k + (k2 - 1) from by omega]; exact hy⟩
              clear hx hy
              obtain ⟨u1, u2'⟩ := u
              obtain ⟨v1, v2⟩ := v
              obtain ⟨o1, o2⟩ := old
              simp only at c0 c1 b0 b1 a0 a1
              have hb1 : (k2 : Int) < ((d.size - k : Nat) : Int) := by omega
              have hb2 : (kk : Int) < (d.size : Int) := by omega
              by_cases huv : ((u1, u2') : Int × Int) = (v1, v2)
              · have HQQ : Hid ((!decide (u1 = v1) || !decide (u2' = v2)) = false) := Lib.hid (by simp at huv; simp [huv])
                have HKN2 : Hid (keeps d (k + k2) = false) := Lib.hid (keeps_neg (by omega) (by rw [HB2.out.1, HB2.out.2, huv]))
                clear huv
                have hq := fun W => HNQ.out u1 u2' v1 v2 W
                have hgd := fun op a b W => guard_id op a b #[.int .i64 u1, .int .i64 u2'] #[.int .i64 v1, .int .i64 v2] W
                go_wp2_with fail
                go_quiet (fail)
                rw [HQQ.out]
                have HK3 := Lib.hid (HK2.out.trans (Keep.of_grew (grew_drewN _ nq) (Just g)) (fun _ _ h => h))
                have HR3 := Lib.hid (HR2.out.keep (Keep.of_grew (grew_drewN _ nq) Non) (fun h => h))
                go_wp2
                go_roundw
                case rel => exact ⟨kk, k2 + 1, dk, rfl, by go_num, by omega, by omega, HK3.out, HR3.out, HI2.out.skip HKN2.out⟩
                case measure => simp [intOf]; omega
              · have HQQ : Hid ((!decide (u1 = v1) || !decide (u2' = v2)) = true) := Lib.hid (by
                  simp at huv
                  by_cases e : u1 = v1 <;> simp [e]
                  exact huv e)
                have HKN2 : Hid (keeps d (k + k2) = true) := Lib.hid (keeps_pos (by rw [HB2.out.1, HB2.out.2]; exact huv))
                clear huv
                have hq := fun W => HNQ.out u1 u2' v1 v2 W
                have hgd := fun op a b W => guard_id op a b #[.int .i64 u1, .int .i64 u2'] #[.int .i64 v1, .int .i64 v2] W
                go_wp2_with fail
                go_quiet (fail)
                rw [HQQ.out]
                have HK3 := Lib.hid (HK2.out.trans (Keep.of_grew (grew_drewN _ nq) (Just g)) (fun _ _ h => h))
                have HR3 := Lib.hid (HR2.out.keep (Keep.of_grew (grew_drewN _ nq) Non) (fun h => h))
                go_wp2
                go_roundw
                case rel =>
                  refine ⟨kk + 1, k2 + 1, dk.setIfInBounds kk (u1, u2'), by go_num, by go_num, by omega, by omega, ?_, HR3.out.set (by omega) u1 u2', ?_⟩
                  · exact (HK3.out.trans (Keep.setCell _ g _ _) (fun _ _ h => h)).trans (Keep.setCell _ g _ _) (fun _ _ h => h)
                  · have := HI2.out.keep hlt2 HKN2.out
                    rw [HB2.out.1] at this
                    exact this
                case measure => simp [intOf]; omega
            · have e1 : decide ((k2 : Int) < (d.size : Int) - (k : Int)) = false := decide_eq_false (by omega)
              have e2 : decide ((k2 : Int) < ((d.size - k : Nat) : Int)) = false := decide_eq_false (by omega)
              have hend : k + k2 = d.size := by omega
              have hcl : ∀ ty, (Builtin.clear_ #[53] ty #[.slice (some ⟨g, kk * 2, none⟩) (d.size - kk) (cap - kk)]).run Try.prog wr = .ok (.tuple #[]) (wr.setCells g (kk * 2) (List.replicate ((d.size - kk) * 2) (.int .i64 0))) := fun ty => run_clear_ids wr ty g (kk * 2) (d.size - kk) (cap - kk) (by omega) (fun j hj => by
                obtain ⟨⟨c0, c1⟩, _⟩ := HR2.out.2 (kk + j / 2) (by omega)
                rcases Nat.mod_two_eq_zero_or_one j with e | e
                · rw [show kk * 2 + j = (kk + j / 2) * 2 from by omega, c0]; rfl
                · rw [show kk * 2 + j = (kk + j / 2) * 2 + 1 from by omega, c1]; rfl) (fun j hj => by
                obtain ⟨_, f0, f1⟩ := HR2.out.2 (kk + j / 2) (by omega)
                rcases Nat.mod_two_eq_zero_or_one j with e | e
                · rw [show kk * 2 + j = (kk + j / 2) * 2 from by omega, f0]
                · rw [show kk * 2 + j = (kk + j / 2) * 2 + 1 from by omega, f1])
              go_wp2
              go_ret
              have hI := HI2.out
              rw [hend] at hI
              refine ⟨_, rfl, ⟨by rw [hI.len]; rfl, ⟨Nat.lt_of_lt_of_le HR2.out.1 (keep_setCells g _ _ _).size, fun i hi => ?_⟩, HK2.out.trans (keep_setCells g _ _ _) (fun _ _ h => h)⟩⟩
              have hi' : i < kk := by rw [← hI.len]; simpa using hi
              have hg : ((compactUpTo d d.size).toArray)[i]! = dk[i]! := by
                have h1 := hI.low i hi'
                have h2 : i < (compactUpTo d d.size).length := by rw [hI.len]; exact hi'
                rw [getElem!_pos _ i (by simpa using h2)]
                rw [List.getElem?_eq_getElem h2] at h1
                exact Option.some.inj h1
              obtain ⟨⟨c0, c1⟩, f0, f1⟩ := HR2.out.2 i (by omega)
              rw [hg, World.frozen?_setCells, World.frozen?_setCells, World.cell?_setCells_out _ _ _ _ _ (fun _ _ => .inl (by simp; omega)), World.cell?_setCells_out _ _ _ _ _ (fun _ _ => .inl (by simp; omega))]
              exact ⟨⟨c0, c1⟩, f0, f1⟩
        · have HQQ : Hid ((decide (x1 = y1) && decide (x2 = y2)) = false) := Lib.hid (by
            simp at hdup
            by_cases e : x1 = y1 <;> simp [e]
            exact hdup e)
          have HKN : Hid (keeps d k = true) := Lib.hid (keeps_pos (by rw [HB.out.1, HB.out.2]; exact hdup))
          clear hdup
          have hq := fun W => HQ.out x1 x2 y1 y2 W
          have hgd := fun op a b W => guard_id op a b #[.int .i64 x1, .int .i64 x2] #[.int .i64 y1, .int .i64 y2] W
          go_wp2_with fail
          go_quiet (fail)
          rw [HQQ.out]
          have HKP1 := Lib.hid (HKP.out.trans (Keep.of_grew (grew_drewN wr nq) (Just g)) (fun _ _ h => h))
          have HRW1 := Lib.hid (HRW.out.keep (Keep.of_grew (grew_drewN wr nq) Non) (fun h => h))
          go_wp2
          go_roundw
          case rel =>
            refine ⟨k + 1, by omega, by omega, by go_num, HKP1.out, HRW1.out, fun j hj => ?_⟩
            by_cases e : j = k
            · rw [e]; exact HKN.out
            · exact HAL.out j (by omega)
          case measure => simp [intOf]; omega
      · have hdk : decide ((k : Int) < (d.size : Int)) = false := decide_eq_false (by omega)
        go_wp2
        go_ret
        exact ⟨_, rfl, HS.out _ HKP.out HRW.out (fun j hj => HAL.out j (by omega))⟩
end Go.Proofs.Yteooganpnmfkbaa
