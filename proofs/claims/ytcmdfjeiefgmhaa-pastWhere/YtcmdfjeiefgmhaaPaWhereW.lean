/- Wherever everybody's carets go: the walk of PastWhere. -/
import Derived.Test.YtcmdfjeiefgmhaaPaCase
import Derived.Test.YtcmdfjeiefgmhaaPwRef2
import Derived.Deep.RegionHeld3
namespace Go.Proofs.Ytcmdfjeiefgmhaa
open Go.RowKit Carets
set_option linter.unusedVariables false

theorem m_RMove {Ts : List Th} {w0 w : World} {q : Nat} {L : List Car} (h : Mine (RWhereV q L :: Ts) w0 w) (m : Mesg.Msg) (v : Value) (hv : SliceI w v m.know) (hm : m.know.length ≤ 1000000000) :
    Calls Try.prog 48 #[.pointer (some ⟨q, 0, none⟩), msgV m v] w fun e w' => e = .returned (.int .i64 (Carets.move L m).1) ∧ Mine (RWhereV q (Carets.move L m).2 :: Ts) w0 w' :=
  h.call (RWhereV.good _ _) (fun F hF => ref16_Move hF m v hv hm)
theorem m_RAt {Ts : List Th} {w0 w : World} {q : Nat} {L : List Car} (h : Mine (RWhereV q L :: Ts) w0 w) (s e : Int) :
    Calls Try.prog 50 #[.pointer (some ⟨q, 0, none⟩), .int .i64 s, .int .i64 e] w fun r w' => r = .returned (.tuple #[.agg #[.int .i64 (atRef L s e).1, .int .i64 (atRef L s e).2], .bool (isAt L s e)]) ∧ Mine (RWhereV q L :: Ts) w0 w' ∧ Below w.heap.size w w' := by
  obtain ⟨F, hF, _⟩ := h.first
  exact (ref16_At hF s e).mono fun r w' ⟨k1, k2⟩ => ⟨k1, h.grew k2, k2⟩
theorem m_RSites {Ts : List Th} {w0 w : World} {q : Nat} {L : List Car} (h : Mine (RWhereV q L :: Ts) w0 w) (e : Int) :
    Calls Try.prog 52 #[.pointer (some ⟨q, 0, none⟩), .int .i64 e] w fun r w' => ∃ v, r = .returned v ∧ SliceI w' v (sitesK L e L.length) ∧ Mine (RWhereV q L :: Ts) w0 w' ∧ Below w.heap.size w w' := by
  obtain ⟨F, hF, _⟩ := h.first
  exact (ref16_Sites hF e).mono fun r w' ⟨v, k1, k2, k3⟩ => ⟨v, k1, k2, h.grew k3, k3⟩

set_option maxRecDepth 100000 in
set_option maxHeartbeats 8000000 in
theorem walk_PastWhere (s : Int) (v : Value) (qs : List (Mesg.Msg × Value)) (x y : Int) (w : World) (hx : SliceG 10 msgQ w v qs ∧ qs.length ≤ maxLen ∧ ∀ q ∈ qs, okQ w q) :
    Calls Try.prog 10 #[.agg #[.int .i64 s, v, .int .i64 x, .int .i64 y]] w fun e w' => e = .returned (.bool true) ∧ Below w.heap.size w w' := by
  obtain ⟨hv, hm, hok⟩ := hx
  have HV := Lib.hid hv
  have HOK := Lib.hid hok
  obtain ⟨va, vc, rfl⟩ := hv.shape
  unfold maxLen at hm
  have HBX := Lib.hid (grew_alloc w (.cells #[.int .i64 s, .slice va qs.length vc, .int .i64 x, .int .i64 y] 75))
  have HX := Lib.hid (Holds.new w [.int .i64 s, .slice va qs.length vc, .int .i64 x, .int .i64 y] 75)
  clear hv hok
  go_enter Try.func10, Try.ntmps10
  go_wp2
  generalize (w.alloc (.cells #[.int .i64 s, .slice va qs.length vc, .int .i64 x, .int .i64 y] 75)) = W at *
  have c0 := HX.out.cell 0 (by simp)
  have c1 := HX.out.cell 1 (by simp)
  have c2 := HX.out.cell 2 (by simp)
  have c3 := HX.out.cell 3 (by simp)
  simp only [List.getElem_cons_zero, List.getElem_cons_succ] at c0 c1 c2 c3
  go_quiet (fail)
  have HB1 := Lib.hid (grew HBX.out (grew_drewN W nq))
  clear c0 c1 c2 c3
  go_wp2_with fail
  generalize W.drewN nq = W1 at *
  have HFEW := Lib.hid (ref07_Few _ qs W1 (HV.out.below HB1.out) (by unfold maxLen; omega) (fun q hq => ⟨(HOK.out q hq).1.below HB1.out, (HOK.out q hq).2⟩))
  by_cases hfew : qs.length ≤ 60 ∧ ∀ q ∈ qs, q.1.know.length ≤ 30
  · rw [decide_eq_true hfew] at HFEW
    have h60 := hfew.1
    have HK30 := Lib.hid hfew.2
    clear hfew hm
    refine HFEW.out.mono ?_
    rintro e w9 ⟨rfl, hw9⟩
    rw [hw9]
    clear HFEW hw9
    by_cases hn : 1 ≤ s ∧ s ≤ 16
    · obtain ⟨n, rfl⟩ : ∃ n : Nat, s = n := ⟨s.toNat, by omega⟩
      have hnn : 1 ≤ n ∧ n ≤ 16 := by omega
      clear hn
      have HM0 : Hid (Mine [] w W1) := Lib.hid ⟨by simp, ⟨Non, fun _ h => h, fun _ h => h.elim⟩, HB1.out⟩
      go_wp2_with fail
      refine (m_Nowhere HM0.out n hnn).mono ?_
      rintro e w2 ⟨p, rfl, h⟩
      have HM := Lib.hid h
      clear h
      go_wp2_with fail
      refine (ref16_Nowhere_yes n hnn w2).mono ?_
      rintro e w3 ⟨q, F, rfl, h1, h2, h3⟩
      have HM := Lib.hid (HM.out.new (RWhereV.good _ _) h1 h2 h3).swap
      clear h1 h2 h3 HM0
      go_wp2_with fail
      go_loopw [11] (fun i wr => ∃ k : Nat, k ≤ qs.length ∧ i = .int .i64 k ∧ ∃ L, L.length ≤ 16 ∧ Mine [WhereV p L, RWhereV q L] w wr) (fun i _ => qs.length - (intOf i).toNat)
      case atStart => exact ⟨0, by omega, rfl, _, by rw [List.length_replicate]; exact hnn.2, HM.out⟩
      case round =>
        obtain ⟨k, hk, rfl, L, hL, hM⟩ := hrel
        have HM := Lib.hid hM
        have HL := Lib.hid hL
        clear hM hL
        by_cases hlt : k < qs.length
        · have e1 : decide ((k : Int) < (qs.length : Int)) = true := decide_eq_true (by omega)
          have e2 : decide (k < qs.length) = true := decide_eq_true hlt
          have hia : (k : Int) < (qs.length : Int) := by omega
          obtain ⟨b, off, e, hbl, hall⟩ := HV.out.each (by omega)
          subst e
          have HT10 := Lib.hid (msg_ten (o := off + k * 10) (m := qs[k].1) (v := qs[k].2) hbl (fun j u hu => hall k hlt j u hu))
          have hqv := HOK.out qs[k] (List.getElem_mem hlt)
          have hq30 := HK30.out qs[k] (List.getElem_mem hlt)
          clear hall
          generalize qs[k] = z at HT10 hqv hq30
          obtain ⟨m, u⟩ := z
          obtain ⟨hu, hul⟩ := hqv
          simp only at hu hul hq30 HT10
          obtain ⟨ua, uc, e⟩ := hu.shape
          subst e
          have HU := Lib.hid hu
          clear hu hul
          have HMV := Lib.hid (fun (Ts : List Th) W (h : Mine (WhereV p L :: Ts) w W) => m_Move h m _ (HU.out.below h.bel) (by omega))
          have HRMV := Lib.hid (fun (Ts : List Th) W (h : Mine (RWhereV q L :: Ts) w W) => m_RMove h m _ (HU.out.below h.bel) (by omega))
          have HLN : Hid ((Carets.move L m).2.length ≤ 16) := Lib.hid (by rw [move_len]; exact HL.out)
          generalize Carets.move L m = r at HMV HRMV HLN
          obtain ⟨x1, L1⟩ := r
          simp only at HMV HRMV HLN
          unfold msgV at HMV HRMV
          obtain ⟨q0, q1, q2, q3, q4, q5, q6, q7, q8, q9⟩ := HT10.out _ HM.out.bel
          go_wp2_with fail
          go_region_held3 (fun w' => w'.cell? ⟨b, off + k * 10, none⟩ = some (.int .i64 m.site) ∧ w'.cell? ⟨b, off + k * 10 + 1, none⟩ = some (.int .i64 m.seq) ∧ w'.cell? ⟨b, off + k * 10 + 2, none⟩ = some (.slice ua m.know.length uc) ∧ w'.cell? ⟨b, off + k * 10 + 3, none⟩ = some (.int .i64 m.op.kind) ∧ w'.cell? ⟨b, off + k * 10 + 4, none⟩ = some (.int .i64 m.op.epoch) ∧ w'.cell? ⟨b, off + k * 10 + 5, none⟩ = some (.int .i64 m.op.id.time) ∧ w'.cell? ⟨b, off + k * 10 + 6, none⟩ = some (.int .i64 m.op.id.site) ∧ w'.cell? ⟨b, off + k * 10 + 7, none⟩ = some (.int .i64 m.op.ref.time) ∧ w'.cell? ⟨b, off + k * 10 + 8, none⟩ = some (.int .i64 m.op.ref.site) ∧ w'.cell? ⟨b, off + k * 10 + 9, none⟩ = some (.int .i64 m.op.rune))
            (first | exact ⟨q0, q1, q2, q3, q4, q5, q6, q7, q8, q9⟩ | exact Y | exact Z)
            (first
              | (go_at_call 47; refine (HMV.out _ _ (HM.out.grew (grew_drew _))).mono ?_; rintro e w4 ⟨rfl, h⟩; have HH := Lib.hid h.swap; have Y := HT10.out _ h.bel; clear h)
              | (go_at_call 48; refine (HRMV.out _ _ HH.out).mono ?_; rintro e w5 ⟨rfl, h⟩; have HG := Lib.hid h.swap; have Z := HT10.out _ h.bel; clear h))
          clear q0 q1 q2 q3 q4 q5 q6 q7 q8 q9 HH HMV HRMV
          have HSL := Lib.hid (sitesK_len L1 y L1.length)
          have HA1 := Lib.hid (m_At HG.out x y)
          have HA2 := Lib.hid (fun (Ts : List Th) W (h : Mine (RWhereV q L1 :: Ts) w W) => m_RAt h x y)
          generalize atRef L1 x y = rf at HA1 HA2
          obtain ⟨f1, f2⟩ := rf
          generalize isAt L1 x y = ia at HA1 HA2
          simp only at HA1 HA2
          have hne : ∀ W, (binOp .neq 34 (.agg #[.int .i64 f1, .int .i64 f2]) (.agg #[.int .i64 f1, .int .i64 f2])).run Try.prog W = .ok (.bool false) W := fun W => by rw [neq_id, decide_eq_true rfl]; rfl
          have hgi := guard_id
          have hbb : (ia != ia) = false := by cases ia <;> rfl
          go_wp2_with fail
          refine HA1.out.mono ?_
          rintro e w6 ⟨rfl, h, _⟩
          have HG := Lib.hid (h.alloc [.int .i64 f1, .int .i64 f2] 34).swap2
          clear h HA1
          go_wp2_with fail
          refine (HA2.out _ _ HG.out).mono ?_
          rintro e w7 ⟨rfl, h, _⟩
          have HG := Lib.hid (h.alloc [.int .i64 f1, .int .i64 f2] 34)
          have hx2 := HG.out.box
          have hx1 := HG.out.swap2.box
          have x0 := hx2.cell 0 (by simp)
          have x1 := hx2.cell 1 (by simp)
          have y0 := hx1.cell 0 (by simp)
          have y1 := hx1.cell 1 (by simp)
          simp only [List.getElem_cons_zero, List.getElem_cons_succ] at x0 x1 y0 y1
          have HG := Lib.hid HG.out.swap3
          clear h hx1 hx2 HA2
          go_wp2_with fail
          refine (m_Sites HG.out y).mono ?_
          rintro e w8 ⟨v8, rfl, hs8, h, _⟩
          have HS8 := Lib.hid hs8
          have HG := Lib.hid h.swap2
          obtain ⟨sa, sc, e⟩ := hs8.shape
          subst e
          clear hs8 h x0 x1 y0 y1
          go_wp2_with fail
          refine (m_RSites HG.out y).mono ?_
          rintro e w9 ⟨v9, rfl, hs9, h, hb⟩
          have HS9 := Lib.hid hs9
          have HS8 := Lib.hid (HS8.out.below hb)
          have HG := Lib.hid h
          obtain ⟨sb, sd, e⟩ := hs9.shape
          subst e
          clear hs9 h hb
          go_wp2_with fail
          refine (ref01_Same _ _ (sitesK L1 y L1.length) (sitesK L1 y L1.length) _ HS8.out HS9.out (by have := HSL.out; have := HLN.out; omega) (by have := HSL.out; have := HLN.out; omega)).mono ?_
          rintro e w10 ⟨rfl, hb⟩
          rw [decide_eq_true (rfl : sitesK L1 y L1.length = sitesK L1 y L1.length)]
          have HG := Lib.hid ((HG.out.grew hb).swap3.drop)
          have HFIN : Hid (Mine [WhereV p L1, RWhereV q L1] w w10) := Lib.hid HG.out.swap2.drop.swap
          clear hb
          go_wp2
          go_roundw
          case rel => exact ⟨k + 1, by omega, by go_num, L1, HLN.out, HFIN.out⟩
          case measure => simp [intOf]; omega
        · have e1 : decide ((k : Int) < (qs.length : Int)) = false := decide_eq_false (by omega)
          have e2 : decide (k < qs.length) = false := decide_eq_false hlt
          go_wp2_with fail
          refine (law16_live _).mono ?_
          rintro e w4 ⟨rfl, hb⟩
          go_wp2
          go_ret
          exact ⟨rfl, grew HM.out.bel hb⟩
    · go_wp2_with fail
      refine (past_Nowhere_no s hn W1).mono ?_
      rintro e w2 ⟨rfl, hb⟩
      have HB2 := Lib.hid (grew HB1.out hb)
      clear hb
      go_wp2_with fail
      refine (ref16_Nowhere_no s hn w2).mono ?_
      rintro e w3 ⟨rfl, hb⟩
      have HB3 := Lib.hid (grew HB2.out hb)
      clear hb
      go_wp2_with fail
      go_loopw [11] (fun i wr => i = .int .i64 ((0 : Nat) : Int) ∧ wr = w3) (fun i _ => 0)
      case atStart => exact ⟨rfl, rfl⟩
      case round =>
        obtain ⟨rfl, rfl⟩ := hrel
        by_cases h0 : 0 < qs.length
        · have e1 : decide ((0 : Int) < (qs.length : Int)) = true := decide_eq_true (by omega)
          have e2 : decide (0 < qs.length) = true := decide_eq_true h0
          go_wp2_with fail
          refine (law16_live _).mono ?_
          rintro e w4 ⟨rfl, hb⟩
          have HB4 := Lib.hid (grew HB3.out hb)
          clear hb
          go_wp2
          go_ret
          exact ⟨rfl, HB4.out⟩
        · have e1 : decide ((0 : Int) < (qs.length : Int)) = false := decide_eq_false (by omega)
          have e2 : decide (0 < qs.length) = false := decide_eq_false h0
          go_wp2_with fail
          refine (law16_live _).mono ?_
          rintro e w4 ⟨rfl, hb⟩
          have HB4 := Lib.hid (grew HB3.out hb)
          clear hb
          go_wp2
          go_ret
          exact ⟨rfl, HB4.out⟩
  · rw [decide_eq_false hfew] at HFEW
    clear hfew hm
    refine HFEW.out.mono ?_
    rintro e w9 ⟨rfl, hw9⟩
    rw [hw9]
    clear HFEW hw9
    go_wp2_with fail
    refine (law16_live _).mono ?_
    rintro e w4 ⟨rfl, hb⟩
    have HB4 := Lib.hid (grew HB1.out hb)
    clear hb
    go_wp2
    go_ret
    exact ⟨rfl, HB4.out⟩
end Go.Proofs.Ytcmdfjeiefgmhaa
