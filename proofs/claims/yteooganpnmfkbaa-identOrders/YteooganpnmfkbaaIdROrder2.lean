/- What the document's Order comes to. -/
import Derived.Test.YteooganpnmfkbaaIdRRank
namespace Go.Proofs.Yteooganpnmfkbaa
open Go.RowKit
set_option linter.unusedVariables false

/-- A list of Ids of the call's own. -/
def OInv (w0 : World) (V : Value) (os : List (Int × Int)) (w : World) : Prop := Owns w 49 2 V os.length (idCells os) ∧ (∀ g, V.ownBlock = some g → w0.heap.size ≤ g) ∧ Below w0.heap.size w0 w
theorem OInv.below {w0 w w' : World} {V : Value} {os : List (Int × Int)} (h : OInv w0 V os w) (hb : Below w.heap.size w w') : OInv w0 V os w' := ⟨Owns.keep h.1 (Keep.of_grew hb Non) (fun _ _ h => h), h.2.1, grew h.2.2 hb⟩
theorem OInv.row {w0 w : World} {V : Value} {os : List (Int × Int)} (h : OInv w0 V os w) : SliceG 2 idL w V os := by
  rcases h.1.2 with ⟨rfl, h0⟩ | ⟨gg, cap, cur, rfl, _⟩
  · rw [List.eq_nil_of_length_eq_zero h0]
    exact ⟨none, 0, rfl, by simp, .inl rfl⟩
  · obtain ⟨h1, h2⟩ := Owns.idRow h.1
    exact h1.slice h2
theorem OInv.room {w0 w : World} {a : Option Addr} {n c : Nat} {os : List (Int × Int)} (h : OInv w0 (.slice a n c) os w) : os.length ≤ c := by
  rcases h.1.2 with ⟨e1, h0⟩ | ⟨gg, cap, cur, e1, _, _, hn, _⟩
  · omega
  · injection e1 with _ _ e4; omega
/-- A list that was put to, or made anew. -/
theorem OInv.put {w0 w w' : World} {V V' : Value} {os os' : List (Int × Int)} (h : OInv w0 V os w) (ho : Owns w' 49 2 V' os'.length (idCells os')) (hk : Keep (At V) w w') (hn : Near w V V') : OInv w0 V' os' w' := by
  refine ⟨ho, fun g hg => ?_, h.2.2.trans (hk.below h.2.2.size (fun i e => h.2.1 i e))⟩
  rcases hn g hg with k | k
  · exact h.2.1 g k
  · have := h.2.2.size; omega
theorem OInv.nil {w0 w : World} (hb : Below w0.heap.size w0 w) : OInv w0 (.slice none 0 0) [] w := ⟨Owns.nil _ _ _, fun g hg => (by cases hg), hb⟩
/-- The first j, and the others. -/
theorem SliceG.first {w : World} {a : Option Addr} {cap : Nat} {os : List (Int × Int)} (h : SliceG 2 idL w (.slice a os.length cap) os) {j : Nat} (hj : j ≤ os.length) : SliceG 2 idL w (.slice a j cap) (os.take j) := by
  obtain ⟨a', cap', e, hc, hr⟩ := h
  injection e with e1 _ e3
  subst e1 e3
  have hl : (os.take j).length = j := by rw [List.length_take]; omega
  refine ⟨a, cap, by rw [hl], by omega, ?_⟩
  rcases hr with rfl | ⟨b, off, ha, hb, hcell⟩
  · exact .inl (by simp)
  · refine .inr ⟨b, off, ha, hb, fun i hi jj u hu => ?_⟩
    rw [List.getElem_take] at hu
    exact hcell i (by rw [hl] at hi; omega) jj u hu
theorem SliceG.others {w : World} {b off cap : Nat} {os : List (Int × Int)} (h : SliceG 2 idL w (.slice (some ⟨b, off, none⟩) os.length cap) os) {j : Nat} (hj : j < os.length) : SliceG 2 idL w (.slice (some ⟨b, off + j * 2, none⟩) (os.length - j) (cap - j)) (os.drop j) := by
  obtain ⟨a', cap', e, hc, hr⟩ := h
  injection e with e1 _ e3
  subst e1 e3
  have hl : (os.drop j).length = os.length - j := List.length_drop
  refine ⟨_, cap - j, by rw [hl], by omega, ?_⟩
  rcases hr with rfl | ⟨b', off', ha, hb, hcell⟩
  · simp at hj
  · injection ha with ha
    injection ha with ha1 ha2 _
    subst ha1 ha2
    refine .inr ⟨b, off + j * 2, rfl, hb, fun i hi jj u hu => ?_⟩
    rw [List.getElem_drop] at hu
    have := hcell (j + i) (by rw [hl] at hi; omega) jj u hu
    rw [show off + j * 2 + i * 2 + jj = off + (j + i) * 2 + jj from by omega]
    exact this

set_option maxRecDepth 100000 in
set_option maxHeartbeats 4000000 in
theorem ref10_Order (v : Value) (xs : List (Int × Int)) (w : World) (hv : SliceG 2 idL w v xs) (hm : xs.length ≤ 1000000) :
    Calls Try.prog 38 #[v] w fun e w' => ∃ r ys, e = .returned r ∧ Idn.IsOrder xs ys ∧ SliceG 2 idL w' r ys ∧ Below w.heap.size w w' := by
  have HV := Lib.hid hv
  obtain ⟨va, vc, rfl⟩ := hv.shape
  clear hv
  have mixed : Try.prog.follows .mixedOrders = true := by kernel_rfl
  go_enter Try.func38, Try.ntmps38
  go_wp2_with fail
  go_loopw [3, 4] (fun V i wr => ∃ (k : Nat) (os : List (Int × Int)), k ≤ xs.length ∧ i = .int .i64 k ∧ OInv w V os wr ∧ Idn.IsOrder (xs.take k) os ∧ os.length ≤ k) (fun _ i _ => xs.length - (intOf i).toNat)
  case atStart => exact ⟨0, [], by omega, rfl, OInv.nil (Below.refl _ _), ⟨by simp, by simp⟩, by simp⟩
  case round =>
    obtain ⟨k, os, hk, rfl, hO, hord, hol⟩ := hrel
    have HO := Lib.hid hO
    have HORD := Lib.hid hord
    obtain ⟨oa, oc, rfl⟩ := hO.row.shape
    have hocc := hO.room
    clear hO hord
    by_cases hlt : k < xs.length
    · have d1 : decide ((k : Int) < (xs.length : Int)) = true := decide_eq_true (by omega)
      have hia : (k : Int) < (xs.length : Int) := by omega
      obtain ⟨lb, lo, e3, c0, c1⟩ := HV.out.id hlt
      cases e3
      have HLB : Hid (lb < w.heap.size) := Lib.hid (block_lt_of_cell c0)
      have HS : Hid (xs.take (k + 1) = xs.take k ++ [xs[k]]) := Lib.hid (List.take_succ_eq_append_getElem hlt)
      generalize xs[k] = x at c0 c1 HS
      have HC := Lib.hid (And.intro c0 c1)
      clear c0 c1
      have HAT := Lib.hid (Idn.rank_at HORD.out.1 x)
      have HMEM := Lib.hid (Idn.rank_mem HORD.out.1 x)
      have HINS : Hid (x ∉ os → Idn.IsOrder (xs.take (k + 1)) (os.take (Idn.rank os x) ++ ([x] ++ os.drop (Idn.rank os x)))) := Lib.hid (fun h => by rw [HS.out]; exact Idn.insert_order HORD.out h)
      have HAGA : Hid (x ∈ os → Idn.IsOrder (xs.take (k + 1)) os) := Lib.hid (fun h => by rw [HS.out]; exact Idn.again_order HORD.out h)
      have hrl := Idn.rank_le os x
      generalize Idn.rank os x = rk at HAT HMEM HINS hrl
      obtain ⟨x1, x2⟩ := x
      simp only at HC
      go_wp2_with fail
      go_loopw [5] (fun at_ wv => ∃ j : Nat, j ≤ rk ∧ at_ = .int .i64 j ∧ OInv w (.slice oa os.length oc) os wv) (fun i _ => rk - (intOf i).toNat)
      case atStart => exact ⟨0, by omega, rfl, HO.out⟩
      case round =>
        obtain ⟨j, hj, rfl, hO⟩ := hrel
        have HO := Lib.hid hO
        have q0 : wr.cell? ⟨lb, lo + k * 2, none⟩ = some (.int .i64 x1) := (hO.2.2.cell (p := ⟨lb, lo + k * 2, none⟩) HLB.out).trans HC.out.1
        have q1 : wr.cell? ⟨lb, lo + k * 2 + 1, none⟩ = some (.int .i64 x2) := (hO.2.2.cell (p := ⟨lb, lo + k * 2 + 1, none⟩) HLB.out).trans HC.out.2
        have hlbw : lb < wr.heap.size := Nat.lt_of_lt_of_le HLB.out hO.2.2.size
        clear hO
        by_cases hjl : j < os.length
        · have e3 : decide ((j : Int) < (os.length : Int)) = true := decide_eq_true (by omega)
          have hij : (j : Int) < (os.length : Int) := by omega
          obtain ⟨bb, off, e4, c0, c1⟩ := HO.out.row.id hjl
          cases e4
          have hbb := block_lt_of_cell c0
          have HLS := Lib.hid (fun W => ref10_Less os[j] (x1, x2) W)
          rw [HAT.out j hjl] at HLS
          by_cases hjr : j < rk
          · rw [decide_eq_true hjr] at HLS
            generalize os[j] = y at c0 c1 HLS
            obtain ⟨y1, y2⟩ := y
            simp only [idV] at c0 c1 HLS
            have k0 := cell_grown (w := wr) (a := ⟨bb, off + j * 2, none⟩) hbb c0
            have k1 := cell_grown (w := wr) (a := ⟨bb, off + j * 2 + 1, none⟩) hbb c1
            have k2 := cell_grown (w := wr) (a := ⟨lb, lo + k * 2, none⟩) hlbw q0
            have k3 := cell_grown (w := wr) (a := ⟨lb, lo + k * 2 + 1, none⟩) hlbw q1
            clear c0 c1 q0 q1
            go_wp2_with fail
            refine wp_region_quiet_grown (by assumption) (by kernel_rfl) ?_
            repeat (go_big_quiet_step ((go_at_call 32; exact Calls.grown_of (HLS.out _))))
            refine wpQuiet_nil ?_
            intro _ hw'
            obtain ⟨⟨nq, osq⟩, hw''⟩ := hw'
            subst hw''
            have HO4 := Lib.hid (HO.out.below (Grown.below (w' := Go.Sort.grow (wr.drewN nq) osq) ⟨nq, osq, rfl⟩))
            go_wp2
            go_roundw
            case rel => exact ⟨j + 1, by omega, by go_num, HO4.out⟩
            case measure => simp [intOf]; omega
          · rw [decide_eq_false hjr] at HLS
            obtain rfl : j = rk := by omega
            have HEQ : Hid (((x1, x2) : Int × Int) ∈ os ↔ os[j] = (x1, x2)) := Lib.hid (by rw [HMEM.out]; exact ⟨fun h => h.2, fun h => ⟨hjl, h⟩⟩)
            generalize os[j] = y at c0 c1 HLS HEQ
            obtain ⟨y1, y2⟩ := y
            simp only [idV] at c0 c1 HLS
            have k0 := cell_grown (w := wr) (a := ⟨bb, off + j * 2, none⟩) hbb c0
            have k1 := cell_grown (w := wr) (a := ⟨bb, off + j * 2 + 1, none⟩) hbb c1
            have k2 := cell_grown (w := wr) (a := ⟨lb, lo + k * 2, none⟩) hlbw q0
            have k3 := cell_grown (w := wr) (a := ⟨lb, lo + k * 2 + 1, none⟩) hlbw q1
            clear c0 c1 q0 q1
            go_wp2_with fail
            refine wp_region_quiet_grown (by assumption) (by kernel_rfl) ?_
            repeat (go_big_quiet_step ((go_at_call 32; exact Calls.grown_of (HLS.out _))))
            refine wpQuiet_nil ?_
            intro _ hw'
            obtain ⟨⟨nq, osq⟩, hw''⟩ := hw'
            subst hw''
            have HO4 := Lib.hid (HO.out.below (Grown.below (w' := Go.Sort.grow (wr.drewN nq) osq) ⟨nq, osq, rfl⟩))
            have k4 := k0 nq osq
            have k5 := k1 nq osq
            have k6 := k2 nq osq
            have k7 := k3 nq osq
            generalize Go.Sort.grow (wr.drewN nq) osq = w4 at *
            clear k0 k1 k2 k3
            have hgd := fun op a b W => guard_id op a b #[.int .i64 y1, .int .i64 y2] #[.int .i64 x1, .int .i64 x2] W
            by_cases hyx : ((y1, y2) : Int × Int) = (x1, x2)
            · have hq2 : ∀ W, (binOp .eql 49 (.agg #[.int .i64 y1, .int .i64 y2]) (.agg #[.int .i64 x1, .int .i64 x2])).run Try.prog W = .ok (.bool true) W := fun W => by rw [eql_id, decide_eq_true hyx]
              have HAG := Lib.hid (HAGA.out (HEQ.out.2 hyx))
              clear hyx
              go_wp2_with fail
              go_quiet (fail)
              have HO5 := Lib.hid (HO4.out.below (grew_drewN w4 nq))
              go_wp2
              refine ⟨⟨k + 1, os, by omega, by go_num, HO5.out, HAG.out, by omega⟩, by simp [intOf]; omega⟩
            · have hq2 : ∀ W, (binOp .eql 49 (.agg #[.int .i64 y1, .int .i64 y2]) (.agg #[.int .i64 x1, .int .i64 x2])).run Try.prog W = .ok (.bool false) W := fun W => by rw [eql_id, decide_eq_false hyx]
              have HIN := Lib.hid (HINS.out (fun h => hyx (HEQ.out.1 h)))
              clear hyx
              go_wp2_with fail
              go_quiet (fail)
              have HO5 := Lib.hid (HO4.out.below (grew_drewN w4 nq))
              generalize w4.drewN nq = w5 at *
              clear k4 k5 k6 k7 hq2 hgd
              have hl1 : (os.take j).length = j := by rw [List.length_take]; omega
              have hjo : j ≤ oc := by omega
              have hjo2 : j < oc := by omega
              go_wp2_with (first
                | (at_builtin; refine wp_append_ids rfl (.tmp 45) (.tmp 48) rfl (.slice none 0 0) [] rfl (Owns.nil _ _ _) (.slice (some ⟨bb, off, none⟩) j oc) (os.take j) rfl (SliceG.first HO5.out.row (by omega)) (by rw [hl1]; simp; omega) ?_; intro v1 w6 ho hk hn; have HO6 : Hid (OInv w (.slice (some ⟨bb, off, none⟩) os.length oc) os w6) := Lib.hid ⟨Owns.keep HO5.out.1 hk (fun g hg e => (by cases e)), HO5.out.2.1, HO5.out.2.2.trans (hk.below HO5.out.2.2.size (fun i e => (by cases e)))⟩; have HM6 : Hid (OInv w v1 (os.take j) w6) := Lib.hid (OInv.put (OInv.nil HO5.out.2.2) ho hk hn); have HSEP : Hid (∀ g, v1.ownBlock = some g → w5.heap.size ≤ g) := Lib.hid (fun g hg => (hn g hg).resolve_left (fun h => (by cases h))); obtain ⟨ma, mc, e5⟩ := HM6.out.row.shape; rw [hl1] at e5; subst e5; clear ho hk hn; have q0 : w6.cell? ⟨lb, lo + k * 2, none⟩ = some (.int .i64 x1) := (HO6.out.2.2.cell (p := ⟨lb, lo + k * 2, none⟩) HLB.out).trans HC.out.1; have q1 : w6.cell? ⟨lb, lo + k * 2 + 1, none⟩ = some (.int .i64 x2) := (HO6.out.2.2.cell (p := ⟨lb, lo + k * 2 + 1, none⟩) HLB.out).trans HC.out.2)
                | (at_builtin; refine wp_append_lit rfl (.tmp 50) (.tmp 55) rfl Try.underlying53 info_id rfl (by decide) (by decide) (.slice ma j mc) (os.take j).length (idCells (os.take j)) rfl HM6.out.1 1 (idCells [(x1, x2)]) _ rfl rfl rfl (idCells_one _) (by rw [hl1]; omega) ?_; intro v2 w7 ho hk hn; have HO7 : Hid (OInv w (.slice (some ⟨bb, off, none⟩) os.length oc) os w7) := Lib.hid ⟨Owns.keep HO6.out.1 hk (fun g hg e => (by have h1 := Owns.lt HO5.out.1 hg; have h2 := HSEP.out g e; omega)), HO6.out.2.1, HO6.out.2.2.trans (hk.below HO6.out.2.2.size (fun i e => HM6.out.2.1 i e))⟩; have HM7 : Hid (OInv w v2 ((os.take j) ++ [(x1, x2)]) w7) := Lib.hid (OInv.put HM6.out (by rw [List.length_append, idCells_apps]; exact ho) hk hn); obtain ⟨na, nc, e6⟩ := HM7.out.row.shape; rw [List.length_append, hl1] at e6; subst e6; clear ho hk hn q0 q1)
                | (at_builtin; refine wp_append_ids rfl (.tmp 57) (.tmp 60) rfl (.slice na (j + 1) nc) ((os.take j) ++ [(x1, x2)]) rfl HM7.out.1 (.slice (some ⟨bb, off + j * 2, none⟩) (os.length - j) (oc - j)) (os.drop j) rfl (SliceG.others HO7.out.row hjl) (by simp; omega) ?_; intro v3 w8 ho hk hn; have HM8 : Hid (OInv w v3 (((os.take j) ++ [(x1, x2)]) ++ (os.drop j)) w8) := Lib.hid (OInv.put HM7.out ho hk hn); obtain ⟨pa, pc, e7⟩ := HM8.out.row.shape; subst e7; clear ho hk hn))
              rw [show ((os.take j ++ [(x1, x2)]) ++ os.drop j).length = j + (os.length - j + 1) from by simp; omega, List.append_assoc] at HM8
              exact ⟨⟨k + 1, _, by omega, by go_num, HM8.out, HIN.out, by simp; omega⟩, by simp [intOf]; omega⟩
        · have e3 : decide ((j : Int) < (os.length : Int)) = false := decide_eq_false (by omega)
          obtain rfl : j = os.length := by omega
          obtain rfl : os.length = rk := by omega
          have HIN := Lib.hid (HINS.out (fun h => by obtain ⟨h1, _⟩ := HMEM.out.1 h; omega))
          go_wp2_with fail
          go_quiet (fail)
          have HO4 := Lib.hid (HO.out.below (grew_drewN wr nq))
          generalize wr.drewN nq = w4 at *
          clear q0 q1 hlbw
          go_wp2_with fail
          go_quiet (fail)
          have HO5 := Lib.hid (HO4.out.below (grew_drewN w4 nq))
          generalize w4.drewN nq = w5 at *
          have hl1 : os.length = os.length := rfl
          go_wp2_with (first
            | (at_builtin; refine wp_append_ids rfl (.tmp 45) (.tmp 48) rfl (.slice none 0 0) [] rfl (Owns.nil _ _ _) (.slice oa os.length oc) os rfl HO5.out.row (by rw [hl1]; simp; omega) ?_; intro v1 w6 ho hk hn; have HO6 : Hid (OInv w (.slice oa os.length oc) os w6) := Lib.hid ⟨Owns.keep HO5.out.1 hk (fun g hg e => (by cases e)), HO5.out.2.1, HO5.out.2.2.trans (hk.below HO5.out.2.2.size (fun i e => (by cases e)))⟩; have HM6 : Hid (OInv w v1 os w6) := Lib.hid (OInv.put (OInv.nil HO5.out.2.2) ho hk hn); have HSEP : Hid (∀ g, v1.ownBlock = some g → w5.heap.size ≤ g) := Lib.hid (fun g hg => (hn g hg).resolve_left (fun h => (by cases h))); obtain ⟨ma, mc, e5⟩ := HM6.out.row.shape; rw [hl1] at e5; subst e5; clear ho hk hn; have q0 : w6.cell? ⟨lb, lo + k * 2, none⟩ = some (.int .i64 x1) := (HO6.out.2.2.cell (p := ⟨lb, lo + k * 2, none⟩) HLB.out).trans HC.out.1; have q1 : w6.cell? ⟨lb, lo + k * 2 + 1, none⟩ = some (.int .i64 x2) := (HO6.out.2.2.cell (p := ⟨lb, lo + k * 2 + 1, none⟩) HLB.out).trans HC.out.2)
            | (at_builtin; refine wp_append_lit rfl (.tmp 50) (.tmp 55) rfl Try.underlying53 info_id rfl (by decide) (by decide) (.slice ma os.length mc) os.length (idCells os) rfl HM6.out.1 1 (idCells [(x1, x2)]) _ rfl rfl rfl (idCells_one _) (by rw [hl1]; omega) ?_; intro v2 w7 ho hk hn; have HO7 : Hid (OInv w (.slice oa os.length oc) os w7) := Lib.hid ⟨Owns.keep HO6.out.1 hk (fun g hg e => (by have h1 := Owns.lt HO5.out.1 hg; have h2 := HSEP.out g e; omega)), HO6.out.2.1, HO6.out.2.2.trans (hk.below HO6.out.2.2.size (fun i e => HM6.out.2.1 i e))⟩; have HM7 : Hid (OInv w v2 (os ++ [(x1, x2)]) w7) := Lib.hid (OInv.put HM6.out (by rw [List.length_append, idCells_apps]; exact ho) hk hn); obtain ⟨na, nc, e6⟩ := HM7.out.row.shape; rw [List.length_append, hl1] at e6; subst e6; clear ho hk hn q0 q1)
            | (at_builtin; refine wp_append_ids rfl (.tmp 57) (.tmp 60) rfl (.slice na (os.length + 1) nc) (os ++ [(x1, x2)]) rfl HM7.out.1 _ ([] : List (Int × Int)) rfl ⟨_, _, rfl, Nat.zero_le _, .inl rfl⟩ (by simp; omega) ?_; intro v3 w8 ho hk hn; have HM8 : Hid (OInv w v3 ((os ++ [(x1, x2)]) ++ ([] : List (Int × Int))) w8) := Lib.hid (OInv.put HM7.out ho hk hn); obtain ⟨pa, pc, e7⟩ := HM8.out.row.shape; subst e7; clear ho hk hn))
          rw [show ((os ++ [(x1, x2)]) ++ ([] : List (Int × Int))).length = os.length + 1 from by simp, List.append_nil] at HM8
          rw [List.take_length, List.drop_length, List.append_nil] at HIN
          exact ⟨⟨k + 1, _, by omega, by go_num, HM8.out, HIN.out, by simp; omega⟩, by simp [intOf]; omega⟩
    · have d1 : decide ((k : Int) < (xs.length : Int)) = false := decide_eq_false (by omega)
      have HE := HORD.out
      rw [List.take_of_length_le (by omega)] at HE
      have HE := Lib.hid HE
      go_wp2
      go_ret
      exact ⟨_, os, rfl, HE.out, HO.out.row, HO.out.2.2⟩
end Go.Proofs.Yteooganpnmfkbaa
