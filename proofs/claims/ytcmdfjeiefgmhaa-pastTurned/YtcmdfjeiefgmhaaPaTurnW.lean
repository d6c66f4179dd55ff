/- Carets that are heard in the other order: the walk of PastTurned. -/
import Derived.Test.YtcmdfjeiefgmhaaPaCase
import Derived.Test.YtcmdfjeiefgmhaaPaTurnM
namespace Go.Proofs.Ytcmdfjeiefgmhaa
open Go.RowKit Carets
set_option linter.unusedVariables false

/-- The messages themselves. -/
def msOf (qs : List (Mesg.Msg × Value)) : List Mesg.Msg := qs.map Prod.fst
theorem msOf_take {qs : List (Mesg.Msg × Value)} {k : Nat} (h : k < qs.length) : msOf (qs.take (k + 1)) = msOf (qs.take k) ++ [qs[k].1] := by
  unfold msOf
  rw [List.take_succ_eq_append_getElem h, List.map_append]
  rfl
theorem msOf_back {qs : List (Mesg.Msg × Value)} {k : Nat} (h : k < qs.length) : (msOf (qs.drop k)).reverse = (msOf (qs.drop (k + 1))).reverse ++ [qs[k].1] := by
  unfold msOf
  rw [List.drop_eq_getElem_cons h, List.map_cons, List.reverse_cons]

set_option maxRecDepth 100000 in
set_option maxHeartbeats 8000000 in
theorem walk_PastTurned (s : Int) (v : Value) (qs : List (Mesg.Msg × Value)) (y : Int) (w : World) (hs : (Lit.int .i64 s).wf = true) (hx : SliceG 10 msgQ w v qs ∧ qs.length ≤ maxLen ∧ ∀ q ∈ qs, okQ w q) (hy : (Lit.int .i64 y).wf = true) :
    Calls Try.prog 13 #[.int .i64 s, v, .int .i64 y] w fun e w' => e = .returned (.bool true) ∧ Below w.heap.size w w' := by
  obtain ⟨hv, hm, hok⟩ := hx
  have HV := Lib.hid hv
  have HOK := Lib.hid hok
  obtain ⟨va, vc, rfl⟩ := hv.shape
  unfold maxLen at hm
  have HFEW := Lib.hid (ref07_Few _ qs w hv (by unfold maxLen; omega) hok)
  clear hv hok hs hy
  go_enter Try.func13, Try.ntmps13
  go_wp2_with fail
  by_cases hfew : qs.length ≤ 60 ∧ ∀ q ∈ qs, q.1.know.length ≤ 30
  · rw [decide_eq_true hfew] at HFEW
    have h60 := hfew.1
    have HK30 := Lib.hid hfew.2
    clear hfew hm
    refine HFEW.out.mono ?_
    rintro e w9 ⟨rfl, hw9⟩
    rw [hw9]
    clear HFEW hw9
    by_cases hn : 1 ≤ s ∧ s ≤ 16
    · obtain ⟨n, rfl⟩ : ∃ n : Nat, s = n := ⟨s.toNat, by omega⟩
      have hnn : 1 ≤ n ∧ n ≤ 16 := by omega
      clear hn
      go_wp2_with fail
      refine (m_Nowhere (Mine.nothing w) n hnn).mono ?_
      rintro e w2 ⟨p, rfl, h⟩
      have HM := Lib.hid h
      clear h
      go_wp2_with fail
      refine (m_Nowhere HM.out n hnn).mono ?_
      rintro e w3 ⟨q, rfl, h⟩
      have HM := Lib.hid h.swap
      clear h
      go_wp2_with fail
      go_loopw [11] (fun i wr => ∃ k : Nat, k ≤ qs.length ∧ i = .int .i64 k ∧ Apart (msOf qs) k ∧ Mine [WhereV p (moves (List.replicate n noCar) (msOf (qs.take k))), WhereV q (List.replicate n noCar)] w wr) (fun i _ => qs.length - (intOf i).toNat)
      case atStart => exact ⟨0, by omega, rfl, fun a b _ _ _ h => by omega, HM.out⟩
      case round =>
        obtain ⟨k, hk, rfl, hap, hM⟩ := hrel
        have HM := Lib.hid hM
        have HAP := Lib.hid hap
        clear hM hap
        by_cases hlt : k < qs.length
        · have e1 : decide ((k : Int) < (qs.length : Int)) = true := decide_eq_true (by omega)
          have e2 : decide (k < qs.length) = true := decide_eq_true hlt
          have hia : (k : Int) < (qs.length : Int) := by omega
          obtain ⟨b, off, e, hbl, hall⟩ := HV.out.each (by omega)
          subst e
          have HALL := Lib.hid hall
          clear hall
          go_wp2_with fail
          go_loopw [12] (fun j' wv => ∃ j : Nat, j ≤ k ∧ j' = .int .i64 j ∧ Mine [WhereV p (moves (List.replicate n noCar) (msOf (qs.take k))), WhereV q (List.replicate n noCar)] w wv ∧ ∀ a (ha : a < qs.length), a < j → ¬ (qs[a].1.site = qs[k].1.site ∧ qs[a].1.seq = qs[k].1.seq)) (fun j' _ => k - (intOf j').toNat)
          case atStart => exact ⟨0, by omega, rfl, HM.out, fun a _ h => by omega⟩
          case round =>
            obtain ⟨j, hj, rfl, hM, hJ⟩ := hrel
            have HM := Lib.hid hM
            have HJ := Lib.hid hJ
            clear hM hJ
            by_cases hjk : j < k
            · have f0 : decide ((j : Int) < (k : Int)) = true := decide_eq_true (by omega)
              have f0' : decide (j < k) = true := decide_eq_true hjk
              have hjl : j < qs.length := by omega
              have hja : (j : Int) < (qs.length : Int) := by omega
              have x0 : wr.cell? ⟨b, off + j * 10, none⟩ = some (.int .i64 qs[j].1.site) := by
                rw [HM.out.bel.cell (p := ⟨b, off + j * 10, none⟩) hbl]; exact HALL.out j hjl 0 _ rfl
              have x1 : wr.cell? ⟨b, off + j * 10 + 1, none⟩ = some (.int .i64 qs[j].1.seq) := by
                rw [HM.out.bel.cell (p := ⟨b, off + j * 10 + 1, none⟩) hbl]; exact HALL.out j hjl 1 _ rfl
              have y0 : wr.cell? ⟨b, off + k * 10, none⟩ = some (.int .i64 qs[k].1.site) := by
                rw [HM.out.bel.cell (p := ⟨b, off + k * 10, none⟩) hbl]; exact HALL.out k hlt 0 _ rfl
              have y1 : wr.cell? ⟨b, off + k * 10 + 1, none⟩ = some (.int .i64 qs[k].1.seq) := by
                rw [HM.out.bel.cell (p := ⟨b, off + k * 10 + 1, none⟩) hbl]; exact HALL.out k hlt 1 _ rfl
              have HNX : Hid (¬ (qs[j].1.site = qs[k].1.site ∧ qs[j].1.seq = qs[k].1.seq) → ∀ a (ha : a < qs.length), a < j + 1 → ¬ (qs[a].1.site = qs[k].1.site ∧ qs[a].1.seq = qs[k].1.seq)) := Lib.hid (fun h a ha hak => by
                by_cases e : a = j
                · subst e; exact h
                · exact HJ.out a ha (by omega))
              generalize qs[j].1.site = ks at x0 HNX
              generalize qs[j].1.seq = kq at x1 HNX
              generalize hgs : qs[k].1.site = is at y0 HNX
              generalize hgq : qs[k].1.seq = iq at y1 HNX
              have HGG := Lib.hid (And.intro hgs hgq)
              clear hgs hgq
              by_cases g1 : ks = is
              · subst g1
                have f1 : (ks == ks) = true := by simp
                by_cases g2 : kq = iq
                · subst g2
                  have f2 : (kq == kq) = true := by simp
                  go_wp2
                  go_quiet (fail)
                  have HB1 := Lib.hid (grew HM.out.bel (grew_drewN wr nq))
                  go_wp2_with fail
                  refine (law16_live _).mono ?_
                  rintro e w9 ⟨rfl, hb⟩
                  have HBE := Lib.hid (grew HB1.out hb)
                  clear hb
                  go_wp2
                  go_ret
                  exact ⟨rfl, HBE.out⟩
                · have f2 : (kq == iq) = false := by simpa using g2
                  have f2' : decide (kq = iq) = false := decide_eq_false g2
                  have HG := Lib.hid g2
                  clear g2
                  go_wp2
                  go_quiet (fail)
                  go_wp2
                  refine ⟨⟨j + 1, by omega, by go_num, HM.out.grew (grew_drewN _ _), HNX.out (fun e => HG.out e.2)⟩, by simp [intOf]; omega⟩
              · have f1 : (ks == is) = false := by simpa using g1
                have f1' : decide (ks = is) = false := decide_eq_false g1
                have HG := Lib.hid g1
                clear g1
                go_wp2
                go_quiet (fail)
                go_wp2
                refine ⟨⟨j + 1, by omega, by go_num, HM.out.grew (grew_drewN _ _), HNX.out (fun e => HG.out e.1)⟩, by simp [intOf]; omega⟩
            · have f0 : decide ((j : Int) < (k : Int)) = false := decide_eq_false (by omega)
              have f0' : decide (j < k) = false := decide_eq_false hjk
              obtain rfl : j = k := by omega
              have HAN : Hid (Apart (msOf qs) (j + 1)) := Lib.hid (fun a c ha hc hac hci => by
                by_cases e : c = j
                · subst e
                  have hal : a < qs.length := by simpa [msOf] using ha
                  have := HJ.out a hal hac
                  simpa [msOf] using this
                · exact HAP.out a c ha hc hac (by omega))
              have HT10 := Lib.hid (msg_ten (o := off + j * 10) (m := qs[j].1) (v := qs[j].2) hbl (fun i u hu => HALL.out j hlt i u hu))
              have hqv := HOK.out qs[j] (List.getElem_mem hlt)
              have hq30 := HK30.out qs[j] (List.getElem_mem hlt)
              have HTK := Lib.hid (msOf_take hlt)
              have HMS := Lib.hid (moves_snoc (List.replicate n noCar) (msOf (qs.take j)) qs[j].1)
              clear HAP HJ hjk
              generalize qs[j] = z at HT10 hqv hq30 HTK HMS
              obtain ⟨m, u⟩ := z
              obtain ⟨hu, hul⟩ := hqv
              simp only at hu hul hq30 HT10 HTK HMS
              obtain ⟨ua, uc, e⟩ := hu.shape
              subst e
              have HU := Lib.hid hu
              clear hu hul
              have HMV := Lib.hid (m_Move HM.out m _ (HU.out.below HM.out.bel) (by omega))
              rw [← HMS.out, ← HTK.out] at HMV
              generalize (Carets.move (moves (List.replicate n noCar) (msOf (qs.take j))) m).1 = x1 at HMV
              unfold msgV at HMV
              obtain ⟨q0, q1, q2, q3, q4, q5, q6, q7, q8, q9⟩ := HT10.out _ HM.out.bel
              go_wp2_with fail
              refine HMV.out.mono ?_
              rintro e w4 ⟨rfl, h⟩
              have HM4 := Lib.hid h
              clear h q0 q1 q2 q3 q4 q5 q6 q7 q8 q9
              go_wp2
              refine ⟨⟨j + 1, by omega, by go_num, HAN.out, HM4.out⟩, by simp [intOf]; omega⟩
        · have e1 : decide ((k : Int) < (qs.length : Int)) = false := decide_eq_false (by omega)
          have e2 : decide (k < qs.length) = false := decide_eq_false hlt
          obtain rfl : k = qs.length := by omega
          rw [List.take_length] at HM
          have HAPL : Hid (Apart (msOf qs) (msOf qs).length) := Lib.hid (by
            have e : (msOf qs).length = qs.length := by simp [msOf]
            rw [e]
            exact HAP.out)
          have HTU := Lib.hid (moves_turned HAPL.out n)
          have HLA := Lib.hid (moves_len (msOf qs) (List.replicate n noCar))
          clear HAP HAPL hlt
          generalize moves (List.replicate n noCar) (msOf qs) = LA at *
          go_wp2_with fail
          go_loopw [13] (fun i wr => ∃ k : Nat, k ≤ qs.length ∧ i = .int .i64 ((k : Int) - 1) ∧ Mine [WhereV p LA, WhereV q (moves (List.replicate n noCar) (msOf (qs.drop k)).reverse)] w wr) (fun i _ => (intOf i + 1).toNat)
          case atStart => exact ⟨qs.length, by omega, by go_num, by rw [List.drop_length]; exact HM.out⟩
          case round =>
            obtain ⟨k, hk, rfl, hM⟩ := hrel
            have HM := Lib.hid hM
            clear hM
            cases k with
            | zero =>
              have d1 : decide ((0 : Int) ≤ ((0 : Nat) : Int) - 1) = false := by decide
              have d2 : decide ((0 : Int) ≤ -1) = false := by decide
              rw [List.drop_zero, ← HTU.out] at HM
              go_wp2
              go_loopw [14] (fun i wr => ∃ k : Nat, k ≤ n ∧ i = .int .i64 k ∧ Mine [WhereV p LA, WhereV q LA] w wr) (fun i _ => n - (intOf i).toNat)
              case atStart => exact ⟨0, by omega, rfl, HM.out⟩
              case round =>
                obtain ⟨k, hk, rfl, hM⟩ := hrel
                have HM := Lib.hid hM
                clear hM
                by_cases hlt : k < n
                · have e1 : decide ((k : Int) < (n : Int)) = true := decide_eq_true (by omega)
                  have e2 : decide (k < n) = true := decide_eq_true hlt
                  have HA1 := Lib.hid (fun (Ts : List Th) W (h : Mine (WhereV p LA :: Ts) w W) => m_At h (k : Int) y)
                  have HA2 := Lib.hid (fun (Ts : List Th) W (h : Mine (WhereV q LA :: Ts) w W) => m_At h (k : Int) y)
                  generalize atRef LA (k : Int) y = rf at HA1 HA2
                  obtain ⟨f1, f2⟩ := rf
                  generalize isAt LA (k : Int) y = ia at HA1 HA2
                  simp only at HA1 HA2
                  have hne : ∀ W, (binOp .neq 34 (.agg #[.int .i64 f1, .int .i64 f2]) (.agg #[.int .i64 f1, .int .i64 f2])).run Try.prog W = .ok (.bool false) W := fun W => by rw [neq_id, decide_eq_true rfl]; rfl
                  have hgi := guard_id
                  have hbb : (ia != ia) = false := by cases ia <;> rfl
                  go_wp2_with fail
                  refine (HA1.out _ _ HM.out).mono ?_
                  rintro e w6 ⟨rfl, h, _⟩
                  have HG := Lib.hid (h.alloc [.int .i64 f1, .int .i64 f2] 34).swap2
                  clear h HA1
                  go_wp2_with fail
                  refine (HA2.out _ _ HG.out).mono ?_
                  rintro e w7 ⟨rfl, h, _⟩
                  have HG := Lib.hid (h.alloc [.int .i64 f1, .int .i64 f2] 34)
                  have hx2 := HG.out.box
                  have hx1 := HG.out.swap2.box
                  have x0 := hx2.cell 0 (by simp)
                  have x1 := hx2.cell 1 (by simp)
                  have y0 := hx1.cell 0 (by simp)
                  have y1 := hx1.cell 1 (by simp)
                  simp only [List.getElem_cons_zero, List.getElem_cons_succ] at x0 x1 y0 y1
                  have HG := Lib.hid (HG.out.drop.swap.drop.swap)
                  clear h hx1 hx2 HA2
                  go_wp2
                  go_roundw
                  case rel => first | exact ⟨k + 1, by omega, by go_num, HG.out⟩ | ((repeat apply Exists.intro); exact ⟨⟨k + 1, by omega, by go_num, HG.out⟩, rfl⟩)
                  case measure => simp [intOf]; omega
                · have e1 : decide ((k : Int) < (n : Int)) = false := decide_eq_false (by omega)
                  have e2 : decide (k < n) = false := decide_eq_false hlt
                  go_wp2_with fail
                  refine (law16_live _).mono ?_
                  rintro e w4 ⟨rfl, hb⟩
                  go_wp2
                  go_ret
                  exact ⟨rfl, grew HM.out.bel hb⟩
            | succ i =>
              have hie : ((i + 1 : Nat) : Int) - 1 = (i : Int) := by omega
              rw [hie]
              have hi : i < qs.length := by omega
              have d1 : decide ((0 : Int) ≤ (i : Int)) = true := decide_eq_true (by omega)
              have hia : (i : Int) < (qs.length : Int) := by omega
              have hw2 : IntKind.i64.wrap ((i : Int) - 1) = (i : Int) - 1 := by rw [IntKind.wrap_i64]; omega
              obtain ⟨b, off, e, hbl, hall⟩ := HV.out.each (by omega)
              subst e
              have HT10 := Lib.hid (msg_ten (o := off + i * 10) (m := qs[i].1) (v := qs[i].2) hbl (fun j u hu => hall i hi j u hu))
              have hqv := HOK.out qs[i] (List.getElem_mem hi)
              have hq30 := HK30.out qs[i] (List.getElem_mem hi)
              have HTK := Lib.hid (msOf_back hi)
              have HMS := Lib.hid (moves_snoc (List.replicate n noCar) (msOf (qs.drop (i + 1))).reverse qs[i].1)
              clear hall hie
              generalize qs[i] = z at HT10 hqv hq30 HTK HMS
              obtain ⟨m, u⟩ := z
              obtain ⟨hu, hul⟩ := hqv
              simp only at hu hul hq30 HT10 HTK HMS
              obtain ⟨ua, uc, e⟩ := hu.shape
              subst e
              have HU := Lib.hid hu
              clear hu hul
              have HMV := Lib.hid (m_Move HM.out.swap m _ (HU.out.below HM.out.bel) (by omega))
              rw [← HMS.out, ← HTK.out] at HMV
              generalize (Carets.move (moves (List.replicate n noCar) (msOf (qs.drop (i + 1))).reverse) m).1 = x1 at HMV
              unfold msgV at HMV
              obtain ⟨q0, q1, q2, q3, q4, q5, q6, q7, q8, q9⟩ := HT10.out _ HM.out.bel
              go_wp2_with fail
              refine HMV.out.mono ?_
              rintro e w4 ⟨rfl, h⟩
              have HM4 := Lib.hid h.swap
              clear h q0 q1 q2 q3 q4 q5 q6 q7 q8 q9
              go_wp2
              go_roundw
              case rel => exact ⟨i, by omega, by go_num, HM4.out⟩
              case measure => simp [intOf] <;> omega
    · go_wp2_with fail
      refine (past_Nowhere_no s hn w).mono ?_
      rintro e w2 ⟨rfl, hb⟩
      have HB2 := Lib.hid hb
      clear hb
      go_wp2_with fail
      refine (past_Nowhere_no s hn w2).mono ?_
      rintro e w3 ⟨rfl, hb⟩
      have HB3 := Lib.hid (grew HB2.out hb)
      clear hb
      go_wp2_with fail
      refine (law16_live _).mono ?_
      rintro e w4 ⟨rfl, hb⟩
      have HB4 := Lib.hid (grew HB3.out hb)
      clear hb
      go_wp2
      go_ret
      exact ⟨rfl, HB4.out⟩
  · rw [decide_eq_false hfew] at HFEW
    clear hfew hm
    refine HFEW.out.mono ?_
    rintro e w9 ⟨rfl, hw9⟩
    rw [hw9]
    clear HFEW hw9
    go_wp2_with fail
    refine (law16_live _).mono ?_
    rintro e w4 ⟨rfl, hb⟩
    have HB4 := Lib.hid hb
    clear hb
    go_wp2
    go_ret
    exact ⟨rfl, HB4.out⟩
end Go.Proofs.Ytcmdfjeiefgmhaa
