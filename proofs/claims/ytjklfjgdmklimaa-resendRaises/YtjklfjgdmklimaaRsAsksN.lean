/- What Asks of resend comes to: what it tells is new. -/
import Derived.Test.YtjklfjgdmklimaaRsAsks
import Derived.Test.YtjklfjgdmklimaaVecJoin
namespace Go.Proofs.Ytjklfjgdmklimaa
open Go.RowKit Go.Maps
set_option linter.unusedVariables false

set_option maxRecDepth 100000 in
set_option maxHeartbeats 4000000 in
theorem resend_AsksN (v u : Value) (xs ys : List Int) (most : Int) (w : World) (hv : SliceI w v xs) (hu : SliceI w u ys) (hm : xs.length ≤ 1000000000) (hm2 : ys.length ≤ 1000000000) :
    Calls Try.prog 27 #[v, u, .int .i64 most] w fun e w' => ∃ V, e = .returned (.tuple #[V, .int .i64 (Resend.asks xs ys most).2]) ∧ OwnA w' 64 V (Resend.asks xs ys most).1 ∧ Below w.heap.size w w' ∧ Newer w V := by
  have HC := Lib.hid (vec_Compare v u xs ys w hv hu (by unfold maxLen; omega) (by unfold maxLen; omega))
  have HV := Lib.hid hv
  have HU := Lib.hid hu
  obtain ⟨va, vc, rfl⟩ := hv.shape
  obtain ⟨ua, uc, rfl⟩ := hu.shape
  clear hv hu hm hm2
  by_cases ht : Vecs.together xs ys = true
  · have HT := Lib.hid (cmpV_yes ht)
    by_cases h1 : most < 0
    · have d1 : decide (most < 0) = true := decide_eq_true h1
      have HR : Hid (Resend.asks xs ys most = ([], 1)) := Lib.hid (by unfold Resend.asks; rw [if_neg (fun h => by omega)])
      clear ht h1
      go_enter Try.func27, Try.ntmps27
      go_wp2_with fail
      refine HC.out.mono ?_
      rintro e w1 ⟨rfl, hb1⟩
      rw [HT.out]
      go_wp2
      go_ret2
      exact ⟨_, by rw [HR.out]; rfl, by rw [HR.out]; exact OwnA.nil _ _, by first | exact hb1 | (rw [← hb1]; exact grew_drewN _ _) | (obtain ⟨n, rfl⟩ := hb1; exact grew_drewN _ _), fun g hg => (by cases hg)⟩
    · have d1 : decide (most < 0) = false := decide_eq_false h1
      by_cases h2 : 1000 < most
      · have d2 : decide (1000 < most) = true := decide_eq_true h2
        have HR : Hid (Resend.asks xs ys most = ([], 1)) := Lib.hid (by unfold Resend.asks; rw [if_neg (fun h => by omega)])
        clear ht h1 h2
        go_enter Try.func27, Try.ntmps27
        go_wp2_with fail
        refine HC.out.mono ?_
        rintro e w1 ⟨rfl, hb1⟩
        rw [HT.out]
        go_wp2
        go_ret2
        exact ⟨_, by rw [HR.out]; rfl, by rw [HR.out]; exact OwnA.nil _ _, by first | exact hb1 | (rw [← hb1]; exact grew_drewN _ _) | (obtain ⟨n, rfl⟩ := hb1; exact grew_drewN _ _), fun g hg => (by cases hg)⟩
      · have d2 : decide (1000 < most) = false := decide_eq_false h2
        obtain ⟨M, rfl⟩ : ∃ M : Nat, most = M := ⟨most.toNat, by omega⟩
        have HR : Hid (Resend.asks xs ys M = ((Resend.asksUp xs ys xs.length).take M, 0)) := Lib.hid (by unfold Resend.asks; rw [if_pos ⟨ht, by omega, by omega⟩]; rfl)
        obtain ⟨t1, t2, t3⟩ := Vecs.together_iff.1 ht
        have m1 := Vecs.may_iff.1 t1
        have m2 := Vecs.may_iff.1 t2
        have hM : M ≤ 1000 := by omega
        have hlen : xs.length ≤ 16 := m1.2.1
        have HLEN := Lib.hid t3
        have HOK : Hid (∀ k (h : k < xs.length) (h' : k < ys.length), Vecs.Ok xs[k] ∧ Vecs.Ok ys[k]) := Lib.hid (fun k h h' => ⟨m1.2.2 _ (List.getElem_mem h), m2.2.2 _ (List.getElem_mem h')⟩)
        clear ht h1 h2 t1 t2 t3 m1 m2 d1 d2
        have d1 : decide ((M : Int) < 0) = false := decide_eq_false (by omega)
        have d2 : decide ((1000 : Int) < (M : Int)) = false := decide_eq_false (by omega)
        go_enter Try.func27, Try.ntmps27
        go_wp2_with fail
        refine HC.out.mono ?_
        rintro e w1 ⟨rfl, hb1⟩
        rw [HT.out]
        have HB1 : Hid (Below w.heap.size w w1) := Lib.hid (by first | exact hb1 | (rw [← hb1]; exact grew_drewN _ _) | (obtain ⟨n, rfl⟩ := hb1; exact grew_drewN _ _))
        clear hb1
        go_wp2_with fail
        go_loopw [10, 31] (fun V i wr => ∃ k : Nat, k ≤ xs.length ∧ i = .int .i64 k ∧ AskW w V ((Resend.asksUp xs ys k).take M) wr) (fun _ i _ => xs.length - (intOf i).toNat)
        case atStart => exact ⟨0, by omega, rfl, ⟨by rw [show (Resend.asksUp xs ys 0) = [] from rfl, List.take_nil]; exact OwnA.nil _ _, fun g hg => (by cases hg), HB1.out⟩⟩
        case round =>
          obtain ⟨k, hk, rfl, hA⟩ := hrel
          by_cases hlt : k < xs.length
          · have hdk : decide ((k : Int) < (xs.length : Int)) = true := decide_eq_true (by omega)
            have hdn : decide (k < xs.length) = true := decide_eq_true hlt
            have hik : (k : Int) < (xs.length : Int) := by omega
            have hik2 : (k : Int) < (ys.length : Int) := by have := HLEN.out; omega
            have hlt2 : k < ys.length := by have := HLEN.out; omega
            obtain ⟨bx, ox, rfl, hbx, cx⟩ := slice_at HV.out hlt
            obtain ⟨by_, oy, rfl, hby, cy⟩ := slice_at HU.out hlt2
            have hok := HOK.out k hlt hlt2
            have HUP : Hid (Resend.asksUp xs ys (k + 1) = Resend.asksUp xs ys k ++ Resend.asksOf k xs[k] ys[k]) := Lib.hid (by show _ ++ Resend.asksOf k (xs.getD k 0) (ys.getD k 0) = _; simp [hlt, hlt2])
            have cx' : wr.cell? ⟨bx, ox + k, none⟩ = some (.int .i64 xs[k]) := (hA.bel.cell (p := ⟨bx, ox + k, none⟩) hbx).trans cx
            have HCY := Lib.hid (And.intro hby cy)
            have HCX := Lib.hid (And.intro hbx cx)
            have HA := Lib.hid hA
            obtain ⟨a0, ac, rfl⟩ := hA.form
            generalize hx : xs[k] = x at *
            generalize hy : ys[k] = y at *
            clear hx hy
            have hx1 := hok.1.1
            have hx2 := hok.1.2
            have hy1 := hok.2.1
            have hy2 := hok.2.2
            have hwx : IntKind.i64.wrap (x + 1) = x + 1 := by rw [IntKind.wrap_i64]; omega
            have HXY := Lib.hid (And.intro (And.intro hx1 hx2) (And.intro hy1 hy2))
            clear hok hA cx cy hbx hby hlt hlt2
            go_wp2_with fail
            have hM2 : ((Resend.asksUp xs ys k).take M).length ≤ M := by rw [List.length_take]; omega
            go_loopw [10, 12] (fun V q wr => ∃ j : Nat, (j : Int) ≤ max (y - x) 0 ∧ q = .int .i64 (x + 1 + j) ∧ AskW w V ((Resend.asksUp xs ys k ++ (Resend.asksOf k x y).take j).take M) wr) (fun _ q _ => (y + 1 - intOf q).toNat)
            case atStart => exact ⟨0, by omega, by rw [Int.natCast_zero, Int.add_zero], by rw [List.take_zero, List.append_nil]; exact HA.out⟩
            case round =>
              obtain ⟨j, hj, rfl, hA⟩ := hrel
              have hyc : wr.cell? ⟨by_, oy + k, none⟩ = some (.int .i64 y) := (hA.bel.cell (p := ⟨by_, oy + k, none⟩) HCY.out.1).trans HCY.out.2
              obtain ⟨a1, ac1, rfl⟩ := hA.form
              have HJ := Lib.hid hj
              obtain ⟨L, hL⟩ : ∃ L, (Resend.asksUp xs ys k ++ (Resend.asksOf k x y).take j).take M = L := ⟨_, rfl⟩
              rw [hL] at hA ⊢
              have hLM : L.length ≤ M := by rw [← hL, List.length_take]; omega
              have HL := Lib.hid hL
              have HA := Lib.hid hA
              clear hL hA
              have hj2 : (j : Int) ≤ 4294967295 := by have := HJ.out; omega
              by_cases c1 : x + 1 + (j : Int) ≤ y
              · have dc1 : decide (x + 1 + (j : Int) ≤ y) = true := decide_eq_true c1
                by_cases c2 : L.length < M
                · have dc2 : decide ((L.length : Int) < (M : Int)) = true := decide_eq_true (by omega)
                  have dc2n : decide (L.length < M) = true := decide_eq_true c2
                  have hwj : IntKind.i64.wrap (x + 1 + (j : Int) + 1) = x + 1 + (j : Int) + 1 := by rw [IntKind.wrap_i64]; omega
                  have HNX : Hid ((Resend.asksUp xs ys k ++ (Resend.asksOf k x y).take (j + 1)).take M = L ++ [((k : Int), x + 1 + (j : Int))]) := Lib.hid (by
                    rw [Resend.asksOf_take k x y (by omega), ← List.append_assoc, Resend.take_more (by rw [HL.out]; exact c2), HL.out])
                  have HC1 := Lib.hid c1
                  clear c1 c2
                  go_wp2_with (at_builtin; refine wp_append_lit rfl (.tmp 53) (.tmp 57) rfl Try.underlying58 info_ask rfl (by decide) (by decide) (.slice a1 L.length ac1) L.length (askCells L) rfl HA.out.own 1 [.int .i64 (k : Int), .int .i64 (x + 1 + (j : Int))] _ rfl rfl rfl (by intro u hu; simp at hu; rcases hu with rfl | rfl <;> rfl) (by omega) ?_; intro V2 w2 ho2 hk2 hn2; have HM2 := Lib.hid (HA.out.more ho2 hk2 hn2); clear ho2 hk2 hn2)
                  go_roundw
                  case rel => exact ⟨j + 1, by have := HC1.out; omega, by first | go_num | (congr 1; omega), by rw [HNX.out]; exact HM2.out⟩
                  case measure => simp [intOf]; have := HC1.out; omega
                · have dc2 : decide ((L.length : Int) < (M : Int)) = false := decide_eq_false (by omega)
                  have dc2n : decide (L.length < M) = false := decide_eq_false c2
                  have HFIN : Hid ((Resend.asksUp xs ys k ++ Resend.asksOf k x y).take M = L) := Lib.hid (by
                    rw [← List.take_append_drop j (Resend.asksOf k x y), ← List.append_assoc, Resend.take_full (by rw [HL.out]; omega), HL.out])
                  clear c1 c2
                  go_wp2
                  go_roundw
                  case rel => exact ⟨k + 1, by omega, by go_num, by rw [HUP.out, HFIN.out]; exact HA.out⟩
                  case measure => simp [intOf]; omega
              · have dc1 : decide (x + 1 + (j : Int) ≤ y) = false := decide_eq_false c1
                have HFIN : Hid ((Resend.asksUp xs ys k ++ Resend.asksOf k x y).take M = L) := Lib.hid (by
                  rw [← HL.out, List.take_of_length_le (l := Resend.asksOf k x y) (by rw [Resend.asksOf_len]; omega)])
                clear c1
                go_wp2
                go_roundw
                case rel => exact ⟨k + 1, by omega, by go_num, by rw [HUP.out, HFIN.out]; exact HA.out⟩
                case measure => simp [intOf]; omega
          · have hdn : decide (k < xs.length) = false := decide_eq_false hlt
            have hdk : decide ((k : Int) < (xs.length : Int)) = false := decide_eq_false (by omega)
            have hke : k = xs.length := by omega
            have HKE := Lib.hid hke
            have HA := Lib.hid hA
            clear hA hke hlt
            go_wp2
            go_ret2
            exact ⟨_, by rw [HR.out]; rfl, by rw [HR.out, ← HKE.out]; exact HA.out.own, HA.out.bel, HA.out.new⟩
  · have HT := Lib.hid (cmpV_no (Bool.eq_false_iff.2 ht))
    have HR : Hid (Resend.asks xs ys most = ([], 1)) := Lib.hid (by unfold Resend.asks; rw [if_neg (fun h => ht h.1)])
    clear ht
    go_enter Try.func27, Try.ntmps27
    go_wp2_with fail
    refine HC.out.mono ?_
    rintro e w1 ⟨rfl, hb1⟩
    rw [HT.out]
    go_wp2
    go_ret2
    exact ⟨_, by rw [HR.out]; rfl, by rw [HR.out]; exact OwnA.nil _ _, by first | exact hb1 | (rw [← hb1]; exact grew_drewN _ _) | (obtain ⟨n, rfl⟩ := hb1; exact grew_drewN _ _), fun g hg => (by cases hg)⟩
end Go.Proofs.Ytjklfjgdmklimaa
