/- Ranks in a list in its order. -/
import Derived.Test.YteooganpnmfkbaaIdOpen
import Derived.Shelf.SlSortCmp.QuietGrown
namespace Go.Proofs.Yteooganpnmfkbaa
open Go.RowKit
set_option linter.unusedVariables false

theorem Idn.rank_get {ys : List (Int × Int)} (h : ys.Pairwise (fun x y => Idn.lt x y = true)) (i : Nat) (hi : i < ys.length) : Idn.rank ys ys[i] = i := by
  have h1 := Idn.rank_at h ys[i] i hi
  rw [Idn.lt_irrefl] at h1
  have h1' : ¬ i < Idn.rank ys ys[i] := of_decide_eq_false h1.symm
  have hlt : ¬ Idn.rank ys ys[i] < i := fun hlt => by
    have h2 := Idn.rank_at h ys[i] (Idn.rank ys ys[i]) (by omega)
    have h3 := List.pairwise_iff_getElem.1 h (Idn.rank ys ys[i]) i (by omega) hi hlt
    rw [h3] at h2
    simp at h2
  omega

theorem Idn.len_le : ∀ (ys xs : List (Int × Int)), ys.Pairwise (fun x y => Idn.lt x y = true) → (∀ x ∈ ys, x ∈ xs) → ys.length ≤ xs.length
  | [], _, _, _ => Nat.zero_le _
  | y :: ys, xs, h, hs => by
    rw [List.pairwise_cons] at h
    have h1 := Idn.len_le ys (xs.erase y) h.2 (fun x hx => (List.mem_erase_of_ne (fun e => by have := h.1 x hx; rw [e, Idn.lt_irrefl] at this; cases this)).2 (hs x (by simp [hx])))
    rw [List.length_erase_of_mem (hs y (by simp))] at h1
    have h2 : 0 < xs.length := List.length_pos_of_mem (hs y (by simp))
    simp only [List.length_cons]
    omega

/-- The list in its order, and an Id in a box. -/
def RInv (w0 : World) (n : Nat) (v : Value) (ys : List (Int × Int)) (x : Int × Int) (w : World) : Prop := SliceG 2 idL w v ys ∧ Holds w n (idL x) 49 ∧ Below w0.heap.size w0 w
theorem RInv.below {w0 w w' : World} {n : Nat} {v : Value} {ys : List (Int × Int)} {x : Int × Int} (h : RInv w0 n v ys x w) (hb : Below w.heap.size w w') : RInv w0 n v ys x w' := ⟨h.1.below hb, h.2.1.keep (Keep.of_grew hb Non) (fun h => h), grew h.2.2 hb⟩

set_option maxRecDepth 100000 in
set_option maxHeartbeats 600000 in
theorem walk_IdentRanks (v : Value) (xs : List (Int × Int)) (x : Int × Int) (w : World) (hx : SliceG 2 idL w v xs ∧ xs.length ≤ maxLen ∧ ∀ x ∈ xs, I64 x.1 ∧ I64 x.2) (hx2 : I64 x.1 ∧ I64 x.2) :
    Calls Try.prog 13 #[v, idV x] w fun e w' => e = .returned (.bool true) ∧ Below w.heap.size w w' := by
  obtain ⟨hv, hm, _⟩ := hx
  have HV := Lib.hid hv
  obtain ⟨va, vc, rfl⟩ := hv.shape
  unfold maxLen at hm
  clear hv hx2
  have mixed : Try.prog.follows .mixedOrders = true := by kernel_rfl
  obtain ⟨x1, x2⟩ := x
  unfold idV
  have HB := Lib.hid (grew_alloc w (.cells #[.int .i64 x1, .int .i64 x2] 49))
  have HX := Lib.hid (Holds.new w [.int .i64 x1, .int .i64 x2] 49)
  by_cases h100 : 100 < xs.length
  · have d1 : decide ((100 : Int) < (xs.length : Int)) = true := decide_eq_true (by omega)
    clear h100
    go_enter Try.func13, Try.ntmps13
    go_wp2_with fail
    refine (law10_live _).mono ?_
    rintro e w3 ⟨rfl, hb3⟩
    go_wp2
    go_ret
    exact ⟨rfl, grew HB.out hb3⟩
  · have d1 : decide ((100 : Int) < (xs.length : Int)) = false := decide_eq_false (by omega)
    go_enter Try.func13, Try.ntmps13
    go_wp2_with fail
    refine (ident_Order _ xs _ (HV.out.below HB.out) (by omega)).mono ?_
    rintro e w1 ⟨r, ys, rfl, hout⟩
    have hle : ys.length ≤ xs.length := Idn.len_le ys xs hout.is.1 (fun x hx => (hout.is.2 x).1 hx)
    have HI : Hid (RInv w w.heap.size r ys (x1, x2) w1) := Lib.hid ⟨hout.row, HX.out.keep (Keep.of_grew hout.bel Non) (fun h => h), grew HB.out hout.bel⟩
    have HP := Lib.hid hout.is.1
    have hyl : ys.length ≤ 1000000 := by omega
    obtain ⟨ra, rc, rfl⟩ := hout.row.shape
    clear hout hle h100 hm d1
    go_wp2_with fail
    go_loopw [6] (fun i wr => ∃ k : Nat, k ≤ ys.length ∧ i = .int .i64 k ∧ RInv w w.heap.size (.slice ra ys.length rc) ys (x1, x2) wr) (fun i _ => ys.length - (intOf i).toNat)
    case atStart => exact ⟨0, by omega, rfl, HI.out⟩
    case round =>
      obtain ⟨k, hk, rfl, hI⟩ := hrel
      have HI := Lib.hid hI
      clear hI
      by_cases hlt : k < ys.length
      · have d1 : decide ((k : Int) < (ys.length : Int)) = true := decide_eq_true (by omega)
        have hia : (k : Int) < (ys.length : Int) := by omega
        have HRK := Lib.hid (ident_Rank _ ys ys[k] wr HI.out.1 HP.out (by omega))
        rw [Idn.rank_get HP.out k hlt, show decide (ys[k] ∈ ys) = true from decide_eq_true (List.getElem_mem hlt)] at HRK
        obtain ⟨b, off, rfl, c0, c1⟩ := HI.out.1.id hlt
        have HPV : Hid (∀ h : 0 < k, Idn.lt (ys[k - 1]'(by omega)) ys[k] = true ∧ wr.cell? ⟨b, off + (k - 1) * 2, none⟩ = some (.int .i64 (ys[k - 1]'(by omega)).1) ∧ wr.cell? ⟨b, off + (k - 1) * 2 + 1, none⟩ = some (.int .i64 (ys[k - 1]'(by omega)).2)) := Lib.hid (fun h => by
          obtain ⟨b', off', e, p0, p1⟩ := HI.out.1.id (i := k - 1) (by omega)
          injection e with e
          injection e with e1 e2 _
          subst e1 e2
          exact ⟨List.pairwise_iff_getElem.1 HP.out (k - 1) k (by omega) hlt (by omega), p0, p1⟩)
        have HBL : Hid (b < wr.heap.size) := Lib.hid (block_lt_of_cell c0)
        by_cases h0 : 0 < k
        · have d0 : decide ((0 : Int) < (k : Int)) = true := decide_eq_true (by omega)
          have dn : decide (0 < k) = true := decide_eq_true h0
          obtain ⟨hlp, p0, p1⟩ := HPV.out h0
          clear HPV
          have HLS := Lib.hid (fun W => ident_Less (ys[k - 1]'(by omega)) ys[k] W)
          rw [hlp] at HLS
          generalize ys[k] = y at c0 c1 HRK HLS hlp
          generalize (ys[k - 1]'(by omega)) = z at p0 p1 HLS hlp
          obtain ⟨y1, y2⟩ := y
          obtain ⟨z1, z2⟩ := z
          simp only [idV] at c0 c1 p0 p1 HRK HLS
          clear hlp
          go_wp2_with fail
          refine HRK.out.mono ?_
          rintro e w2 ⟨rfl, hb⟩
          have HI := Lib.hid (HI.out.below hb)
          have g0 := cell_grown (w := w2) (a := ⟨b, off + k * 2, none⟩) (Nat.lt_of_lt_of_le HBL.out hb.size) ((hb.cell (p := ⟨b, off + k * 2, none⟩) HBL.out).trans c0)
          have g1 := cell_grown (w := w2) (a := ⟨b, off + k * 2 + 1, none⟩) (Nat.lt_of_lt_of_le HBL.out hb.size) ((hb.cell (p := ⟨b, off + k * 2 + 1, none⟩) HBL.out).trans c1)
          have g2 := cell_grown (w := w2) (a := ⟨b, off + (k - 1) * 2, none⟩) (Nat.lt_of_lt_of_le HBL.out hb.size) ((hb.cell (p := ⟨b, off + (k - 1) * 2, none⟩) HBL.out).trans p0)
          have g3 := cell_grown (w := w2) (a := ⟨b, off + (k - 1) * 2 + 1, none⟩) (Nat.lt_of_lt_of_le HBL.out hb.size) ((hb.cell (p := ⟨b, off + (k - 1) * 2 + 1, none⟩) HBL.out).trans p1)
          clear hb c0 c1 p0 p1
          obtain ⟨m, rfl⟩ : ∃ m, k = m + 1 := ⟨k - 1, by omega⟩
          have hwk : IntKind.i64.wrap (m : Int) = (m : Int) := by rw [IntKind.wrap_i64]; omega
          have hbk : (m : Int) < (ys.length : Int) := by omega
          have hb2 : (m : Int) + 1 < (ys.length : Int) := by omega
          have hn2 : ((m : Int) + 1).toNat = m + 1 := by omega
          have hz2 : 0 ≤ (m : Int) + 1 := by omega
          simp only [Nat.add_sub_cancel] at g2 g3
          go_wp2_with fail
          refine wp_region_quiet_grown (by assumption) (by kernel_rfl) ?_
          repeat (go_big_quiet_step ((go_at_call 31; exact Calls.grown_of (HLS.out _))))
          refine wpQuiet_nil ?_
          intro _ hw'
          obtain ⟨⟨nq, osq⟩, hw''⟩ := hw'
          subst hw''
          have HI := Lib.hid (HI.out.below (Grown.below (w' := Go.Sort.grow (w2.drewN nq) osq) ⟨nq, osq, rfl⟩))
          go_wp2
          go_roundw
          case rel => exact ⟨m + 1 + 1, by omega, by go_num, HI.out⟩
          case measure => simp [intOf]; omega
        · have d0 : decide ((0 : Int) < (k : Int)) = false := decide_eq_false (by omega)
          have dn : decide (0 < k) = false := decide_eq_false h0
          clear HPV
          generalize ys[k] = y at c0 c1 HRK
          obtain ⟨y1, y2⟩ := y
          simp only [idV] at c0 c1 HRK
          go_wp2_with fail
          refine HRK.out.mono ?_
          rintro e w2 ⟨rfl, hb⟩
          have HI := Lib.hid (HI.out.below hb)
          clear hb c0 c1
          go_wp2_with fail
          go_quiet (fail)
          have HI := Lib.hid (HI.out.below (grew_drewN w2 nq))
          go_wp2
          go_roundw
          case rel => exact ⟨k + 1, by omega, by go_num, HI.out⟩
          case measure => simp [intOf]; omega
      · have d1 : decide ((k : Int) < (ys.length : Int)) = false := decide_eq_false (by omega)
        have HRK := Lib.hid (ident_Rank _ ys (x1, x2) wr HI.out.1 HP.out (by omega))
        have HMEM := Lib.hid (Idn.rank_mem HP.out (x1, x2))
        have HAT := Lib.hid (Idn.rank_at HP.out (x1, x2))
        have hrl := Idn.rank_le ys (x1, x2)
        obtain ⟨l0, l1⟩ := Holds.two HI.out.2.1
        simp only [idV] at HRK
        go_wp2_with fail
        refine HRK.out.mono ?_
        rintro e w2 ⟨rfl, hb⟩
        have HI := Lib.hid (HI.out.below hb)
        clear hb l0 l1 HRK hk hlt d1
        generalize Idn.rank ys (x1, x2) = n at *
        have HXL : Hid (w.heap.size < w2.heap.size) := Lib.hid HI.out.2.1.lt
        obtain ⟨l0, l1⟩ := Holds.two HI.out.2.1
        have g0 := cell_grown (w := w2) (a := ⟨w.heap.size, 0, none⟩) HXL.out l0
        have g1 := cell_grown (w := w2) (a := ⟨w.heap.size, 1, none⟩) HXL.out l1
        simp only at g0 g1
        clear l0 l1
        generalize his : decide (((x1, x2) : Int × Int) ∈ ys) = is at *
        have HIS := Lib.hid his
        clear his
        have dneg : decide ((n : Int) < 0) = false := decide_eq_false (by omega)
        have dbig : decide ((ys.length : Int) < (n : Int)) = false := decide_eq_false (by omega)
        by_cases h0 : 0 < n
        · obtain ⟨m, rfl⟩ : ∃ m, n = m + 1 := ⟨n - 1, by omega⟩
          have dneg2 : decide ((m : Int) + 1 < 0) = false := decide_eq_false (by omega)
          have dbig2 : decide ((ys.length : Int) < (m : Int) + 1) = false := decide_eq_false (by omega)
          have dpos : decide ((0 : Int) < (m : Int) + 1) = true := decide_eq_true (by omega)
          have hwk : IntKind.i64.wrap (m : Int) = (m : Int) := by rw [IntKind.wrap_i64]; omega
          have hbk : (m : Int) < (ys.length : Int) := by omega
          obtain ⟨b, off, e3, c0, c1⟩ := HI.out.1.id (i := m) (by omega)
          cases e3
          have HBL := Lib.hid (block_lt_of_cell c0)
          have HLS := Lib.hid (fun W => ident_Less (ys[m]'(by omega)) (x1, x2) W)
          rw [HAT.out m (by omega), show decide (m < m + 1) = true from decide_eq_true (by omega)] at HLS
          generalize (ys[m]'(by omega)) = z at c0 c1 HLS
          obtain ⟨z1, z2⟩ := z
          simp only [idV] at c0 c1 HLS
          have k0 := cell_grown (w := w2) (a := ⟨b, off + m * 2, none⟩) HBL.out c0
          have k1 := cell_grown (w := w2) (a := ⟨b, off + m * 2 + 1, none⟩) HBL.out c1
          clear c0 c1
          go_wp2_with fail
          refine wp_region_quiet_grown (by assumption) (by kernel_rfl) ?_
          repeat (go_big_quiet_step ((go_at_call 31; exact Calls.grown_of (HLS.out _))))
          refine wpQuiet_nil ?_
          intro _ hw'
          obtain ⟨⟨nq, osq⟩, hw''⟩ := hw'
          subst hw''
          have HI := Lib.hid (HI.out.below (Grown.below (w' := Go.Sort.grow (w2.drewN nq) osq) ⟨nq, osq, rfl⟩))
          generalize Go.Sort.grow (w2.drewN nq) osq = w3 at *
          clear k0 k1 g0 g1 HLS HBL
          obtain ⟨l0, l1⟩ := Holds.two HI.out.2.1
          have g0 := cell_grown (w := w3) (a := ⟨w.heap.size, 0, none⟩) HI.out.2.1.lt l0
          have g1 := cell_grown (w := w3) (a := ⟨w.heap.size, 1, none⟩) HI.out.2.1.lt l1
          simp only at g0 g1
          clear l0 l1
          have HO := Lib.hid (fun W (h : SliceG 2 idL W (.slice (some ⟨b, off, none⟩) ys.length rc) ys) => ident_Order (.slice (some ⟨b, off, none⟩) ys.length rc) ys W h hyl)
          by_cases hlt : (m + 1) < ys.length
          · have d2 : decide ((m : Int) + 1 < (ys.length : Int)) = true := decide_eq_true (by omega)
            have hb2 : (m : Int) + 1 < (ys.length : Int) := by omega
            have hn2 : ((m : Int) + 1).toNat = m + 1 := by omega
            have hz2 : 0 ≤ (m : Int) + 1 := by omega
            obtain ⟨b, off, e3, c0, c1⟩ := HI.out.1.id hlt
            cases e3
            have HBL := Lib.hid (block_lt_of_cell c0)
            have HXY : Hid ((is = true ∧ ys[(m + 1)] = (x1, x2)) ∨ (is = false ∧ ys[(m + 1)] ≠ (x1, x2) ∧ Idn.lt (x1, x2) ys[(m + 1)] = true)) := Lib.hid (by
              have h1 := HAT.out (m + 1) hlt
              have h1 : Idn.lt ys[(m + 1)] (x1, x2) = false := h1.trans (decide_eq_false (by omega))
              by_cases e : ys[(m + 1)] = (x1, x2)
              · exact .inl ⟨by rw [← HIS.out]; exact decide_eq_true (HMEM.out.2 ⟨hlt, e⟩), e⟩
              · refine .inr ⟨by rw [← HIS.out]; exact decide_eq_false (fun h => by obtain ⟨_, e2⟩ := HMEM.out.1 h; exact e e2), e, ?_⟩
                rcases Idn.lt_total e with h | h
                · rw [h1] at h; cases h
                · exact h)
            have HLS := Lib.hid (fun W => ident_Less (x1, x2) ys[(m + 1)] W)
            generalize ys[(m + 1)] = y at c0 c1 HXY HLS
            obtain ⟨y1, y2⟩ := y
            simp only [idV] at c0 c1 HLS
            have k0 := cell_grown (w := w3) (a := ⟨b, off + (m + 1) * 2, none⟩) HBL.out c0
            have k1 := cell_grown (w := w3) (a := ⟨b, off + (m + 1) * 2 + 1, none⟩) HBL.out c1
            clear c0 c1
            have hgd := fun op a b W => guard_id op a b #[.int .i64 y1, .int .i64 y2] #[.int .i64 x1, .int .i64 x2] W
            rcases HXY.out with ⟨rfl, e4⟩ | ⟨rfl, e4, e5⟩
            · have HQ2 : Hid (∀ W, (binOp .eql 49 (.agg #[.int .i64 y1, .int .i64 y2]) (.agg #[.int .i64 x1, .int .i64 x2])).run Try.prog W = .ok (.bool true) W) := Lib.hid (fun W => by rw [eql_id, decide_eq_true e4])
              have hq2 := HQ2.out
              clear e4 HXY
              go_wp2_with fail
              refine wp_region_quiet_grown (by assumption) (by kernel_rfl) ?_
              repeat (go_big_quiet_step (fail))
              refine wpQuiet_nil ?_
              intro _ hw'
              obtain ⟨⟨nq, osq⟩, hw''⟩ := hw'
              subst hw''
              have HI := Lib.hid (HI.out.below (Grown.below (w' := Go.Sort.grow (w3.drewN nq) osq) ⟨nq, osq, rfl⟩))
              generalize Go.Sort.grow (w3.drewN nq) osq = w4 at *
              clear k0 k1 hq2
              go_wp2_with fail
              refine (HO.out _ HI.out.1).mono ?_
              rintro e w5 ⟨r5, ys5, rfl, hout⟩
              obtain rfl : ys = ys5 := Idn.IsOrder.unique ⟨HP.out, fun _ => Iff.rfl⟩ hout.is
              obtain ⟨ra5, rc5, rfl⟩ := hout.row.shape
              have HB5 := Lib.hid (grew HI.out.2.2 hout.bel)
              clear hout
              go_wp2_with fail
              refine (law10_live _).mono ?_
              rintro e w6 ⟨rfl, hb⟩
              have HB6 := Lib.hid (grew HB5.out hb)
              clear hb
              go_wp2
              go_ret
              exact ⟨rfl, HB6.out⟩
            · have HQ2 : Hid (∀ W, (binOp .eql 49 (.agg #[.int .i64 y1, .int .i64 y2]) (.agg #[.int .i64 x1, .int .i64 x2])).run Try.prog W = .ok (.bool false) W) := Lib.hid (fun W => by rw [eql_id, decide_eq_false e4])
              have hq2 := HQ2.out
              rw [e5] at HLS
              clear e4 e5 HXY
              go_wp2_with fail
              refine wp_region_quiet_grown (by assumption) (by kernel_rfl) ?_
              repeat (go_big_quiet_step ((go_at_call 31; exact Calls.grown_of (HLS.out _))))
              refine wpQuiet_nil ?_
              intro _ hw'
              obtain ⟨⟨nq, osq⟩, hw''⟩ := hw'
              subst hw''
              have HI := Lib.hid (HI.out.below (Grown.below (w' := Go.Sort.grow (w3.drewN nq) osq) ⟨nq, osq, rfl⟩))
              generalize Go.Sort.grow (w3.drewN nq) osq = w4 at *
              clear k0 k1 hq2
              go_wp2_with fail
              refine (HO.out _ HI.out.1).mono ?_
              rintro e w5 ⟨r5, ys5, rfl, hout⟩
              obtain rfl : ys = ys5 := Idn.IsOrder.unique ⟨HP.out, fun _ => Iff.rfl⟩ hout.is
              obtain ⟨ra5, rc5, rfl⟩ := hout.row.shape
              have HB5 := Lib.hid (grew HI.out.2.2 hout.bel)
              clear hout
              go_wp2_with fail
              refine (law10_live _).mono ?_
              rintro e w6 ⟨rfl, hb⟩
              have HB6 := Lib.hid (grew HB5.out hb)
              clear hb
              go_wp2
              go_ret
              exact ⟨rfl, HB6.out⟩
          · have d2 : decide ((m : Int) + 1 < (ys.length : Int)) = false := decide_eq_false (by omega)
            obtain rfl : is = false := by rw [← HIS.out]; exact decide_eq_false (fun h => by obtain ⟨h1, _⟩ := HMEM.out.1 h; exact hlt h1)
            go_wp2_with fail
            go_quiet (fail)
            have HI := Lib.hid (HI.out.below (grew_drewN w3 nq))
            generalize w3.drewN nq = w4 at *
            go_wp2_with fail
            refine (HO.out _ HI.out.1).mono ?_
            rintro e w5 ⟨r5, ys5, rfl, hout⟩
            obtain rfl : ys = ys5 := Idn.IsOrder.unique ⟨HP.out, fun _ => Iff.rfl⟩ hout.is
            obtain ⟨ra5, rc5, rfl⟩ := hout.row.shape
            have HB5 := Lib.hid (grew HI.out.2.2 hout.bel)
            clear hout
            go_wp2_with fail
            refine (law10_live _).mono ?_
            rintro e w6 ⟨rfl, hb⟩
            have HB6 := Lib.hid (grew HB5.out hb)
            clear hb
            go_wp2
            go_ret
            exact ⟨rfl, HB6.out⟩
        · obtain rfl : n = 0 := by omega
          have dbig0 : decide ((ys.length : Int) < 0) = false := decide_eq_false (by omega)
          have dneg0 : decide ((0 : Int) < 0) = false := rfl
          rw [show (((0 : Nat) : Nat) : Int) = 0 from rfl]
          clear dneg dbig
          go_wp2_with fail
          go_quiet (fail)
          have HI := Lib.hid (HI.out.below (grew_drewN w2 nq))
          generalize w2.drewN nq = w3 at *
          clear g0 g1
          obtain ⟨l0, l1⟩ := Holds.two HI.out.2.1
          have g0 := cell_grown (w := w3) (a := ⟨w.heap.size, 0, none⟩) HI.out.2.1.lt l0
          have g1 := cell_grown (w := w3) (a := ⟨w.heap.size, 1, none⟩) HI.out.2.1.lt l1
          simp only at g0 g1
          clear l0 l1
          have HO := Lib.hid (fun W v (h : SliceG 2 idL W v ys) => ident_Order v ys W h hyl)
          by_cases hlt : 0 < ys.length
          · have d2 : decide ((0 : Int) < (ys.length : Int)) = true := decide_eq_true (by omega)
            have hb2 : (0 : Int) < (ys.length : Int) := by omega
            obtain ⟨b, off, e3, c0, c1⟩ := HI.out.1.id hlt
            cases e3
            have HBL := Lib.hid (block_lt_of_cell c0)
            have HXY : Hid ((is = true ∧ ys[0] = (x1, x2)) ∨ (is = false ∧ ys[0] ≠ (x1, x2) ∧ Idn.lt (x1, x2) ys[0] = true)) := Lib.hid (by
              have h1 := HAT.out 0 hlt
              have h1 : Idn.lt ys[0] (x1, x2) = false := h1.trans (decide_eq_false (by omega))
              by_cases e : ys[0] = (x1, x2)
              · exact .inl ⟨by rw [← HIS.out]; exact decide_eq_true (HMEM.out.2 ⟨hlt, e⟩), e⟩
              · refine .inr ⟨by rw [← HIS.out]; exact decide_eq_false (fun h => by obtain ⟨_, e2⟩ := HMEM.out.1 h; exact e e2), e, ?_⟩
                rcases Idn.lt_total e with h | h
                · rw [h1] at h; cases h
                · exact h)
            have HLS := Lib.hid (fun W => ident_Less (x1, x2) ys[0] W)
            generalize ys[0] = y at c0 c1 HXY HLS
            obtain ⟨y1, y2⟩ := y
            simp only [idV] at c0 c1 HLS
            simp only [Nat.zero_mul, Nat.add_zero] at c0 c1
            have k0 := cell_grown (w := w3) (a := ⟨b, off, none⟩) HBL.out c0
            have k1 := cell_grown (w := w3) (a := ⟨b, off + 1, none⟩) HBL.out c1
            clear c0 c1
            have hgd := fun op a b W => guard_id op a b #[.int .i64 y1, .int .i64 y2] #[.int .i64 x1, .int .i64 x2] W
            rcases HXY.out with ⟨rfl, e4⟩ | ⟨rfl, e4, e5⟩
            · have HQ2 : Hid (∀ W, (binOp .eql 49 (.agg #[.int .i64 y1, .int .i64 y2]) (.agg #[.int .i64 x1, .int .i64 x2])).run Try.prog W = .ok (.bool true) W) := Lib.hid (fun W => by rw [eql_id, decide_eq_true e4])
              have hq2 := HQ2.out
              clear e4 HXY
              go_wp2_with fail
              refine wp_region_quiet_grown (by assumption) (by kernel_rfl) ?_
              repeat (go_big_quiet_step (fail))
              refine wpQuiet_nil ?_
              intro _ hw'
              obtain ⟨⟨nq, osq⟩, hw''⟩ := hw'
              subst hw''
              have HI := Lib.hid (HI.out.below (Grown.below (w' := Go.Sort.grow (w3.drewN nq) osq) ⟨nq, osq, rfl⟩))
              generalize Go.Sort.grow (w3.drewN nq) osq = w4 at *
              clear k0 k1 hq2
              go_wp2_with fail
              refine (HO.out _ _ HI.out.1).mono ?_
              rintro e w5 ⟨r5, ys5, rfl, hout⟩
              obtain rfl : ys = ys5 := Idn.IsOrder.unique ⟨HP.out, fun _ => Iff.rfl⟩ hout.is
              obtain ⟨ra5, rc5, rfl⟩ := hout.row.shape
              have HB5 := Lib.hid (grew HI.out.2.2 hout.bel)
              clear hout
              go_wp2_with fail
              refine (law10_live _).mono ?_
              rintro e w6 ⟨rfl, hb⟩
              have HB6 := Lib.hid (grew HB5.out hb)
              clear hb
              go_wp2
              go_ret
              exact ⟨rfl, HB6.out⟩
            · have HQ2 : Hid (∀ W, (binOp .eql 49 (.agg #[.int .i64 y1, .int .i64 y2]) (.agg #[.int .i64 x1, .int .i64 x2])).run Try.prog W = .ok (.bool false) W) := Lib.hid (fun W => by rw [eql_id, decide_eq_false e4])
              have hq2 := HQ2.out
              rw [e5] at HLS
              clear e4 e5 HXY
              go_wp2_with fail
              refine wp_region_quiet_grown (by assumption) (by kernel_rfl) ?_
              repeat (go_big_quiet_step ((go_at_call 31; exact Calls.grown_of (HLS.out _))))
              refine wpQuiet_nil ?_
              intro _ hw'
              obtain ⟨⟨nq, osq⟩, hw''⟩ := hw'
              subst hw''
              have HI := Lib.hid (HI.out.below (Grown.below (w' := Go.Sort.grow (w3.drewN nq) osq) ⟨nq, osq, rfl⟩))
              generalize Go.Sort.grow (w3.drewN nq) osq = w4 at *
              clear k0 k1 hq2
              go_wp2_with fail
              refine (HO.out _ _ HI.out.1).mono ?_
              rintro e w5 ⟨r5, ys5, rfl, hout⟩
              obtain rfl : ys = ys5 := Idn.IsOrder.unique ⟨HP.out, fun _ => Iff.rfl⟩ hout.is
              obtain ⟨ra5, rc5, rfl⟩ := hout.row.shape
              have HB5 := Lib.hid (grew HI.out.2.2 hout.bel)
              clear hout
              go_wp2_with fail
              refine (law10_live _).mono ?_
              rintro e w6 ⟨rfl, hb⟩
              have HB6 := Lib.hid (grew HB5.out hb)
              clear hb
              go_wp2
              go_ret
              exact ⟨rfl, HB6.out⟩
          · have d2 : decide ((0 : Int) < (ys.length : Int)) = false := decide_eq_false (by omega)
            obtain rfl : is = false := by rw [← HIS.out]; exact decide_eq_false (fun h => by obtain ⟨h1, _⟩ := HMEM.out.1 h; exact hlt h1)
            go_wp2_with fail
            go_quiet (fail)
            have HI := Lib.hid (HI.out.below (grew_drewN w3 nq))
            generalize w3.drewN nq = w4 at *
            go_wp2_with fail
            refine (HO.out _ _ HI.out.1).mono ?_
            rintro e w5 ⟨r5, ys5, rfl, hout⟩
            obtain rfl : ys = ys5 := Idn.IsOrder.unique ⟨HP.out, fun _ => Iff.rfl⟩ hout.is
            obtain ⟨ra5, rc5, rfl⟩ := hout.row.shape
            have HB5 := Lib.hid (grew HI.out.2.2 hout.bel)
            clear hout
            go_wp2_with fail
            refine (law10_live _).mono ?_
            rintro e w6 ⟨rfl, hb⟩
            have HB6 := Lib.hid (grew HB5.out hb)
            clear hb
            go_wp2
            go_ret
            exact ⟨rfl, HB6.out⟩
end Go.Proofs.Yteooganpnmfkbaa
