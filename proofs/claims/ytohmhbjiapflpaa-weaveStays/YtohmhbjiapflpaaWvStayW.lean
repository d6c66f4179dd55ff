/- What is there stays in its order: the walk of WeaveStays. -/
import Derived.Test.YtohmhbjiapflpaaWvThings
import Derived.Test.YtohmhbjiapflpaaWvStayM
import Derived.Test.YtohmhbjiapflpaaWvWNil
import Derived.Test.YtohmhbjiapflpaaIdEq
import Derived.Deep.Cut
import Derived.Deep.CutRange
import Derived.Deep.QuietTactic
import Derived.BigQuiet
namespace Go.Proofs.Ytohmhbjiapflpaa
open Go.RowKit Go.Maps
set_option linter.unusedVariables false

/-- The cells of an element of a row, in each later world. -/
theorem wel_ten {w : World} {v : Value} {es : List Wel} {n : Nat} (h : SliceG 6 Wel.cells w v es) {i : Nat} (hi : i < es.length) (hv : ∃ a c, v = .slice a n c) : ∃ b off c, v = .slice (some ⟨b, off, none⟩) es.length c ∧ b < w.heap.size ∧ w.cell? ⟨b, off + i * 6, none⟩ = some (.int .i64 es[i].id.1) ∧ w.cell? ⟨b, off + i * 6 + 1, none⟩ = some (.int .i64 es[i].id.2) := by
  obtain ⟨a, cap, e, _, h2⟩ := h
  rcases h2 with h2 | ⟨b, off, rfl, hb, hc⟩
  · subst h2; simp at hi
  · exact ⟨b, off, cap, e, hb, hc i hi 0 _ rfl, hc i hi 1 _ rfl⟩

set_option maxRecDepth 100000 in
set_option maxHeartbeats 8000000 in
theorem walk_WeaveStays (v : Value) (os : List WOp) (w : World) (hx : SliceG 6 WOp.cells w v os ∧ os.length ≤ maxLen ∧ ∀ o ∈ os, o.ok) :
    Calls Try.prog 5 #[v] w fun e w' => e = .returned (.bool true) ∧ Below w.heap.size w w' := by
  obtain ⟨hv, hm, hok⟩ := hx
  have HV := Lib.hid hv
  have HOK := Lib.hid hok
  obtain ⟨va, vc, rfl⟩ := hv.shape
  unfold maxLen at hm
  clear hv hok
  go_enter Try.func5, Try.ntmps5
  go_wp2_with fail
  refine (w_New (Mine.nothing w)).mono ?_
  rintro e w1 ⟨p, rfl, h⟩
  have H := Lib.hid h
  clear h
  go_wp2_with fail
  go_loopw [4] (fun i wr => ∃ k : Nat, k ≤ os.length ∧ k ≤ 60 ∧ i = .int .i64 k ∧ ∃ L, Mine [LineT p L] w wr) (fun i _ => 60 - (intOf i).toNat)
  case atStart => exact ⟨0, by omega, by omega, rfl, _, H.out⟩
  case round =>
    obtain ⟨k, hk, hk60, rfl, L, hM⟩ := hrel
    have HM := Lib.hid hM
    clear hM H
    by_cases hlt : k < os.length ∧ k < 60
    · have d1 : decide ((k : Int) < (os.length : Int)) = true := decide_eq_true (by omega)
      have d1' : decide (k < os.length) = true := decide_eq_true hlt.1
      have d2 : decide ((k : Int) < 60) = true := decide_eq_true (by omega)
      have hia : (k : Int) < (os.length : Int) := by omega
      obtain ⟨b, off, e, hbl, hc⟩ := HV.out.at hlt.1
      cases e
      have hoo := HOK.out os[k] (List.getElem_mem hlt.1)
      have HCC := Lib.hid (fun (W : World) (hb : Below w.heap.size w W) j u (hu : (WOp.cells os[k])[j]? = some u) => (hb.cell (p := ⟨b, off + k * 6 + j, none⟩) hbl).trans (hc j u hu))
      clear hc
      generalize os[k] = o at HCC hoo
      obtain ⟨dr, ⟨x1, x2⟩, ⟨r1, r2⟩, rn⟩ := o
      obtain ⟨⟨hx1, hx2⟩, hr1, hr2⟩ := hoo
      simp only at hx1 hx2 hr1 hr2
      have HI := Lib.hid (And.intro (And.intro hx1 hx2) (And.intro hr1 hr2))
      clear hx1 hx2 hr1 hr2
      go_wp2_with fail
      refine (w_Elements HM.out).mono ?_
      rintro e w2 ⟨v2, rfl, h, _⟩
      obtain ⟨wa, wcp, e⟩ := h.rowG.shape
      subst e
      have HM2 := Lib.hid h
      clear h
      have hcc := HCC.out _ HM2.out.bel
      have q0 := hcc 0 _ rfl
      have q1 := hcc 1 _ rfl
      have q2 := hcc 2 _ rfl
      have q3 := hcc 3 _ rfl
      have q4 := hcc 4 _ rfl
      have q5 := hcc 5 _ rfl
      simp only [Nat.add_zero] at q0
      have HM3 := Lib.hid (HM2.out.alloc [.bool dr, .int .i64 x1, .int .i64 x2, .int .i64 r1, .int .i64 r2, .int .i64 rn] 32)
      clear hcc HCC
      go_upto_if 35 with fail
      generalize (w2.alloc (.cells #[.bool dr, .int .i64 x1, .int .i64 x2, .int .i64 r1, .int .i64 r2, .int .i64 rn] 32)) = W3 at *
      have HM3 : Hid (Mine [BoxV w2.heap.size [.bool dr, .int .i64 x1, .int .i64 x2, .int .i64 r1, .int .i64 r2, .int .i64 rn] 32, RowV 6 Wel.cells (.slice wa (Weave.elements L).length wcp) (Weave.elements L), LineT p L] w W3) := HM3
      generalize w2.heap.size = bo at *
      clear q0 q1 q2 q3 q4 q5 HM2
      have HBX := Lib.hid (fun W (h : Mine [BoxV bo [.bool dr, .int .i64 x1, .int .i64 x2, .int .i64 r1, .int .i64 r2, .int .i64 rn] 32] w W) => And.intro (h.box.cell 0 (by simp)) (And.intro (h.box.cell 1 (by simp)) (And.intro (h.box.cell 2 (by simp)) (And.intro (h.box.cell 3 (by simp)) (And.intro (h.box.cell 4 (by simp)) (h.box.cell 5 (by simp)))))))
      simp only [List.getElem_cons_zero, List.getElem_cons_succ] at HBX
      have HOK0 := Lib.hid HM3.out.swap2.ok
      go_cut [7, 8, 9, 10, 11] from 18 to 144 (fun s7 s8 s9 s10 s11 wx => ∃ L' κ, Weave.Walked dr (x1, x2) (Weave.elements L) (Weave.elements L') κ ∧ Mine [BoxV bo [.bool dr, .int .i64 x1, .int .i64 x2, .int .i64 r1, .int .i64 r2, .int .i64 rn] 32, RowV 6 Wel.cells (.slice wa (Weave.elements L).length wcp) (Weave.elements L), LineT p L'] w wx)
      case first =>
        obtain ⟨b0, b1, b2, b3, b4, b5⟩ := HBX.out _ HM3.out.swap.drop.swap.drop
        cases dr
        · go_wp2_with fail
          refine (w_Insert HM3.out.swap2 (x1, x2) (r1, r2) rn).mono ?_
          rintro e w4 ⟨rfl, h⟩
          have HOK1 := Lib.hid h.ok
          have HKA := Lib.hid (Weave.insert_walked HOK0.out (x1, x2) (r1, r2) rn HOK1.out)
          have HBE := Lib.hid (fun q => Weave.insert_behind (r := rn) HOK1.out q)
          have HM4 := Lib.hid h
          clear h b0 b1 b2 b3 b4 b5
          generalize Weave.insert L (x1, x2) (r1, r2) rn = rr at HM4 HOK1 HKA HBE
          obtain ⟨er, L'⟩ := rr
          simp only at HM4 HOK1 HKA HBE
          obtain ⟨b0, b1, b2, b3, b4, b5⟩ := HBX.out _ HM4.out.drop.swap.drop
          go_wp2_with fail
          refine (w_Place HM4.out (x1, x2) HI.out.1.1 HI.out.1.2).mono ?_
          rintro e w5 ⟨rfl, h, _⟩
          have HM5 := Lib.hid h
          clear h b0 b1 b2 b3 b4 b5
          obtain ⟨b0, b1, b2, b3, b4, b5⟩ := HBX.out _ HM5.out.drop.swap.drop
          go_wp2_with fail
          refine (w_Place HM5.out (r1, r2) HI.out.2.1 HI.out.2.2).mono ?_
          rintro e w6 ⟨rfl, h, _⟩
          have HM6 := Lib.hid h
          clear h b0 b1 b2 b3 b4 b5
          obtain ⟨b0, b1, b2, b3, b4, b5⟩ := HBX.out _ HM6.out.drop.swap.drop
          generalize Weave.place L' (x1, x2) = px at HBE
          generalize Weave.has L' (x1, x2) = hx at HBE
          generalize Weave.place L' (r1, r2) = pr at HBE
          generalize Weave.has L' (r1, r2) = hr at HBE
          by_cases he0 : er = 0
          · obtain ⟨g1, g2⟩ := HBE.out he0
            subst he0
            have e0 : ((0 : Int) == 0) = true := rfl
            subst g1
            by_cases hr0 : ((r1, r2) : Int × Int) = (0, 0)
            · have hne : ∀ W, (binOp .neq 24 (.agg #[.int .i64 r1, .int .i64 r2]) (.agg #[.int .i64 0, .int .i64 0])).run Try.prog W = .ok (.bool false) W := fun W => by rw [neq_id, decide_eq_true hr0]; rfl
              have hgi := guard_id
              clear g2 hr0
              go_wp2
              go_meet
              obtain ⟨κ, hκ⟩ := HKA.out
              exact ⟨L', κ, hκ, HM6.out.swap2.swap2⟩
            · have hne : ∀ W, (binOp .neq 24 (.agg #[.int .i64 r1, .int .i64 r2]) (.agg #[.int .i64 0, .int .i64 0])).run Try.prog W = .ok (.bool true) W := fun W => by rw [neq_id, decide_eq_false hr0]; rfl
              have hgi := guard_id
              obtain ⟨g3, g4⟩ := g2.resolve_left hr0
              subst g3
              have e1 : decide ((px : Int) ≤ (pr : Int)) = false := decide_eq_false (by omega)
              have e2 : decide (px ≤ pr) = false := decide_eq_false (by omega)
              clear g2 hr0 g4
              go_wp2
              go_meet
              obtain ⟨κ, hκ⟩ := HKA.out
              exact ⟨L', κ, hκ, HM6.out.swap2.swap2⟩
          · have e0 : (er == 0) = false := by simpa using he0
            clear he0
            go_wp2
            go_meet
            obtain ⟨κ, hκ⟩ := HKA.out
            exact ⟨L', κ, hκ, HM6.out.swap2.swap2⟩
        · go_wp2_with fail
          refine (w_Drop HM3.out.swap2 (x1, x2) HI.out.1.1 HI.out.1.2).mono ?_
          rintro e w4 ⟨rfl, h⟩
          have HKA := Lib.hid (Weave.drop_walked HOK0.out (x1, x2))
          have HM4 := Lib.hid h
          clear h b0 b1 b2 b3 b4 b5
          generalize Weave.drop L (x1, x2) = rr at HM4 HKA
          obtain ⟨er, L'⟩ := rr
          simp only at HM4 HKA
          go_wp2
          go_meet
          obtain ⟨κ, hκ⟩ := HKA.out
          exact ⟨L', κ, hκ, HM4.out.swap2.swap2⟩
      case rest =>
        obtain ⟨L', κ, hκ, hM⟩ := hcut
        have HK := Lib.hid hκ
        have HM4 := Lib.hid hM
        have HL0 := Lib.hid (Weave.elements_few HOK0.out)
        clear hκ hM HM3 HOK0
        go_wp2_with fail
        refine (w_Elements HM4.out.swap2).mono ?_
        rintro e w5 ⟨v5, rfl, h, _⟩
        obtain ⟨na, nc, e⟩ := h.rowG.shape
        subst e
        have HM5 := Lib.hid h
        have HNOW := Lib.hid h.rowG
        have HWAS := Lib.hid h.swap3.rowG
        have HBB := Lib.hid (HBX.out _ (HM5.out.swap2.swap.drop.swap.drop.swap.drop))
        clear h HM4
        have HL1 := Lib.hid (Weave.elements_few HM5.out.swap.ok)
        have HM6 : Hid (Mine [LineT p L'] w w5) := Lib.hid (HM5.out.drop.swap.drop.swap.drop)
        have HBL : Hid (bo < w5.heap.size) := Lib.hid (by
          have := HM5.out.swap2.box.lt
          exact this)
        clear HM5 HBX
        generalize Weave.elements L = was at *
        generalize Weave.elements L' = now at *
        have hl0 := HL0.out
        have hl1 := HL1.out
        go_wp2_with fail
        have hk0 := HK.out.zero
        go_loopw [13, 14] (fun k' j' wv => ∃ j : Nat, j ≤ now.length ∧ j' = .int .i64 j ∧ k' = .int .i64 (κ j : Nat) ∧ Below w5.heap.size w5 wv ∧ κ j ≤ was.length) (fun _ j' _ => now.length - (intOf j').toNat)
        case atStart => exact ⟨0, by omega, rfl, by rw [hk0]; rfl, Below.refl _ _, by rw [hk0]; omega⟩
        case round =>
          obtain ⟨j, hj, rfl, rfl, hB, hkl⟩ := hrel
          have HB := Lib.hid hB
          clear hB hk0
          by_cases hjl : j < now.length
          · have e1 : decide ((j : Int) < (now.length : Int)) = true := decide_eq_true (by omega)
            have e2 : decide (j < now.length) = true := decide_eq_true hjl
            have hja : (j : Int) < (now.length : Int) := by omega
            obtain ⟨nb, noff, nc', ev, hnb, hn0, hn1⟩ := wel_ten HNOW.out hjl ⟨na, nc, rfl⟩
            injection ev with ev1 _ ev2
            subst ev1 ev2
            have n0 := (HB.out.cell (p := ⟨nb, noff + j * 6, none⟩) hnb).trans hn0
            have n1 := (HB.out.cell (p := ⟨nb, noff + j * 6 + 1, none⟩) hnb).trans hn1
            have HST := Lib.hid (HK.out.step j hjl)
            have HN0 := Lib.hid (And.intro hn0 hn1)
            have HNB := Lib.hid hnb
            clear hn0 hn1 hnb
            rcases HST.out with ⟨i, hi, h1, h2, h3, h4, h5⟩ | ⟨h1, h2, h3, h4⟩
            · have HSM := Lib.hid (And.intro h2 (And.intro h3 (And.intro h4 h5)))
              clear h2 h3 h4 h5 HST
              go_wp2_with fail
              go_loopw [13] (fun k' wv => ∃ t : Nat, κ j ≤ t ∧ t ≤ i ∧ k' = .int .i64 t ∧ Below w5.heap.size w5 wv) (fun k' _ => i - (intOf k').toNat)
              case atStart => exact ⟨κ j, Nat.le_refl _, h1, rfl, HB.out⟩
              case round =>
                obtain ⟨t, ht1, ht2, rfl, hB⟩ := hrel
                have HB := Lib.hid hB
                clear hB n0 n1
                have htl : t < was.length := by omega
                have g1 : decide ((t : Int) < (was.length : Int)) = true := decide_eq_true (by omega)
                have g2 : decide (t < was.length) = true := decide_eq_true htl
                have hta : (t : Int) < (was.length : Int) := by omega
                obtain ⟨wb, woff, wc', ev, hwb, hw0, hw1⟩ := wel_ten HWAS.out htl ⟨wa, wcp, rfl⟩
                injection ev with ev1 _ ev2
                subst ev1 ev2
                have m0 := (HB.out.cell (p := ⟨wb, woff + t * 6, none⟩) hwb).trans hw0
                have m1 := (HB.out.cell (p := ⟨wb, woff + t * 6 + 1, none⟩) hwb).trans hw1
                have n0 := (HB.out.cell (p := ⟨nb, noff + j * 6, none⟩) HNB.out).trans HN0.out.1
                have n1 := (HB.out.cell (p := ⟨nb, noff + j * 6 + 1, none⟩) HNB.out).trans HN0.out.2
                have bx := (HB.out.cell (p := ⟨bo, 0, none⟩) HBL.out).trans HBB.out.1
                clear hw0 hw1 hwb
                have hgi := guard_id
                by_cases hti : t < i
                · obtain rfl : dr = true := by
                    cases dr
                    · have := HSM.out.2.2.2 rfl
                      omega
                    · rfl
                  have hneq : ∀ W, (binOp .neq 24 (.agg #[.int .i64 was[t].id.1, .int .i64 was[t].id.2]) (.agg #[.int .i64 now[j].id.1, .int .i64 now[j].id.2])).run Try.prog W = .ok (.bool true) W := fun W => by rw [neq_id, decide_eq_false (fun e => HSM.out.2.2.1 t htl ht1 hti e)]; rfl
                  generalize was[t].id.1 = a1 at m0 hneq
                  generalize was[t].id.2 = a2 at m1 hneq
                  generalize now[j].id.1 = c1 at n0 hneq
                  generalize now[j].id.2 = c2 at n1 hneq
                  go_wp2_with fail
                  go_quiet (fail)
                  go_wp2
                  go_roundw
                  case rel => first | exact ⟨t + 1, by omega, by omega, by go_num, grew HB.out (grew_drewN _ _)⟩ | ((repeat apply Exists.intro); exact ⟨⟨t + 1, by omega, by omega, by go_num, grew HB.out (grew_drewN _ _)⟩, rfl⟩)
                  case measure => simp [intOf]; omega
                · obtain rfl : t = i := by omega
                  have hneq : ∀ W, (binOp .neq 24 (.agg #[.int .i64 was[t].id.1, .int .i64 was[t].id.2]) (.agg #[.int .i64 now[j].id.1, .int .i64 now[j].id.2])).run Try.prog W = .ok (.bool false) W := fun W => by rw [neq_id, decide_eq_true (show ((was[t].id.1, was[t].id.2) : Int × Int) = (now[j].id.1, now[j].id.2) from HSM.out.1)]; rfl
                  have heql : ∀ W, (binOp .eql 24 (.agg #[.int .i64 was[t].id.1, .int .i64 was[t].id.2]) (.agg #[.int .i64 now[j].id.1, .int .i64 now[j].id.2])).run Try.prog W = .ok (.bool true) W := fun W => by rw [eql_id, decide_eq_true (show ((was[t].id.1, was[t].id.2) : Int × Int) = (now[j].id.1, now[j].id.2) from HSM.out.1)]
                  generalize was[t].id.1 = a1 at m0 hneq heql
                  generalize was[t].id.2 = a2 at m1 hneq heql
                  generalize now[j].id.1 = c1 at n0 hneq heql
                  generalize now[j].id.2 = c2 at n1 hneq heql
                  have hk3 := HSM.out.2.1
                  have HK3 := Lib.hid hk3
                  clear hk3
                  go_wp2_with fail
                  go_quiet (fail)
                  go_wp2
                  go_quiet (fail)
                  go_wp2
                  go_roundw
                  case rel => first | exact ⟨j + 1, by omega, by go_num, by rw [HK3.out]; go_num, by first | exact grew (grew HB.out (grew_drewN _ _)) (grew_drewN _ _) | exact grew HB.out (grew_drewN _ _), by rw [HK3.out]; omega⟩ | ((repeat apply Exists.intro); exact ⟨⟨j + 1, by omega, by go_num, by rw [HK3.out]; go_num, by first | exact grew (grew HB.out (grew_drewN _ _)) (grew_drewN _ _) | exact grew HB.out (grew_drewN _ _), by rw [HK3.out]; omega⟩, rfl⟩)
                  case measure => simp [intOf]; omega
            · subst h1
              have HSM := Lib.hid (And.intro h2 (And.intro h3 h4))
              clear h2 h3 h4 HST
              go_wp2_with fail
              go_loopw [13] (fun k' wv => k' = .int .i64 (κ j : Nat) ∧ wv = wr) (fun k' _ => 0)
              case atStart => exact ⟨rfl, rfl⟩
              case round =>
                obtain ⟨rfl, rfl⟩ := hrel
                have bx := (HB.out.cell (p := ⟨bo, 0, none⟩) HBL.out).trans HBB.out.1
                have bx1 := (HB.out.cell (p := ⟨bo, 1, none⟩) HBL.out).trans HBB.out.2.1
                have bx2 := (HB.out.cell (p := ⟨bo, 2, none⟩) HBL.out).trans HBB.out.2.2.1
                have hgi := guard_id
                have hoid : ∀ W, (binOp .neq 24 (.agg #[.int .i64 now[j].id.1, .int .i64 now[j].id.2]) (.agg #[.int .i64 x1, .int .i64 x2])).run Try.prog W = .ok (.bool false) W := fun W => by rw [neq_id, decide_eq_true (show ((now[j].id.1, now[j].id.2) : Int × Int) = (x1, x2) from HSM.out.1)]; rfl
                by_cases htl : κ j < was.length
                · have g1 : decide (((κ j : Nat) : Int) < (was.length : Int)) = true := decide_eq_true (by omega)
                  have g2 : decide (κ j < was.length) = true := decide_eq_true htl
                  have hta : ((κ j : Nat) : Int) < (was.length : Int) := by omega
                  obtain ⟨wb, woff, wc', ev, hwb, hw0, hw1⟩ := wel_ten HWAS.out htl ⟨wa, wcp, rfl⟩
                  injection ev with ev1 _ ev2
                  subst ev1 ev2
                  have m0 := (HB.out.cell (p := ⟨wb, woff + κ j * 6, none⟩) hwb).trans hw0
                  have m1 := (HB.out.cell (p := ⟨wb, woff + κ j * 6 + 1, none⟩) hwb).trans hw1
                  clear hw0 hw1 hwb
                  have hneq : ∀ W, (binOp .neq 24 (.agg #[.int .i64 was[κ j].id.1, .int .i64 was[κ j].id.2]) (.agg #[.int .i64 now[j].id.1, .int .i64 now[j].id.2])).run Try.prog W = .ok (.bool true) W := fun W => by rw [neq_id, decide_eq_false (fun e => HSM.out.2.2 htl e)]; rfl
                  have heql : ∀ W, (binOp .eql 24 (.agg #[.int .i64 was[κ j].id.1, .int .i64 was[κ j].id.2]) (.agg #[.int .i64 now[j].id.1, .int .i64 now[j].id.2])).run Try.prog W = .ok (.bool false) W := fun W => by rw [eql_id, decide_eq_false (fun e => HSM.out.2.2 htl e)]
                  have HK3 := Lib.hid HSM.out.2.1
                  generalize was[κ j].id.1 = a1 at m0 hneq heql
                  generalize was[κ j].id.2 = a2 at m1 hneq heql
                  generalize now[j].id.1 = c1 at n0 hneq heql hoid
                  generalize now[j].id.2 = c2 at n1 hneq heql hoid
                  generalize hkk : κ j = kk at *
                  go_wp2_with fail
                  go_quiet (fail)
                  go_wp2
                  go_quiet (fail)
                  go_wp2
                  go_quiet (fail)
                  go_wp2
                  go_roundw
                  case rel => first | exact ⟨j + 1, by omega, by go_num, by rw [HK3.out], by first | exact grew (grew (grew HB.out (grew_drewN _ _)) (grew_drewN _ _)) (grew_drewN _ _) | exact grew HB.out (grew_drewN _ _), by rw [HK3.out]; omega⟩ | ((repeat apply Exists.intro); exact ⟨⟨j + 1, by omega, by go_num, by rw [HK3.out], by first | exact grew (grew (grew HB.out (grew_drewN _ _)) (grew_drewN _ _)) (grew_drewN _ _) | exact grew HB.out (grew_drewN _ _), by rw [HK3.out]; omega⟩, rfl⟩)
                  case measure => simp [intOf]; omega
                · have g1 : decide (((κ j : Nat) : Int) < (was.length : Int)) = false := decide_eq_false (by omega)
                  have g2 : decide (κ j < was.length) = false := decide_eq_false htl
                  have HK3 := Lib.hid HSM.out.2.1
                  generalize now[j].id.1 = c1 at n0 hoid
                  generalize now[j].id.2 = c2 at n1 hoid
                  generalize hkk : κ j = kk at *
                  go_wp2_with fail
                  go_quiet (fail)
                  go_wp2
                  go_quiet (fail)
                  go_wp2
                  go_quiet (fail)
                  go_wp2
                  go_roundw
                  case rel => first | exact ⟨j + 1, by omega, by go_num, by rw [HK3.out], by first | exact grew (grew (grew HB.out (grew_drewN _ _)) (grew_drewN _ _)) (grew_drewN _ _) | exact grew HB.out (grew_drewN _ _), by rw [HK3.out]; omega⟩ | ((repeat apply Exists.intro); exact ⟨⟨j + 1, by omega, by go_num, by rw [HK3.out], by first | exact grew (grew (grew HB.out (grew_drewN _ _)) (grew_drewN _ _)) (grew_drewN _ _) | exact grew HB.out (grew_drewN _ _), by rw [HK3.out]; omega⟩, rfl⟩)
                  case measure => simp [intOf]; omega
          · have e1 : decide ((j : Int) < (now.length : Int)) = false := decide_eq_false (by omega)
            have e2 : decide (j < now.length) = false := decide_eq_false hjl
            go_wp2
            go_roundw
            case rel => first | exact ⟨k + 1, by omega, by omega, by go_num, L', HM6.out.grew HB.out⟩ | ((repeat apply Exists.intro); exact ⟨⟨k + 1, by omega, by omega, by go_num, L', HM6.out.grew HB.out⟩, rfl⟩)
            case measure => simp [intOf]; omega
    · have HNLT := Lib.hid hlt
      clear hlt
      by_cases d2 : k < os.length
      · have e1 : decide ((k : Int) < (os.length : Int)) = true := decide_eq_true (by omega)
        have e1' : decide (k < os.length) = true := decide_eq_true d2
        have e2 : decide ((k : Int) < 60) = false := decide_eq_false (by have := HNLT.out; omega)
        go_wp2_with fail
        refine (law11_live _).mono ?_
        rintro e w6 ⟨rfl, hb⟩
        go_wp2
        go_ret
        exact ⟨rfl, grew HM.out.bel hb⟩
      · have e1 : decide ((k : Int) < (os.length : Int)) = false := decide_eq_false (by omega)
        have e1' : decide (k < os.length) = false := decide_eq_false d2
        go_wp2_with fail
        refine (law11_live _).mono ?_
        rintro e w6 ⟨rfl, hb⟩
        go_wp2
        go_ret
        exact ⟨rfl, grew HM.out.bel hb⟩
end Go.Proofs.Ytohmhbjiapflpaa
