/- What is typed behind all that is there stands at the head, in its order: the walk of WeaveTyped. -/
import Derived.Test.YtohmhbjiapflpaaWvThings
import Derived.Test.YtohmhbjiapflpaaWvTypedM
import Derived.Test.YtohmhbjiapflpaaWvWNil
import Derived.Test.YtohmhbjiapflpaaIdEq
import Derived.StillTailTactics
import Derived.IntWalk
namespace Go.Proofs.Ytohmhbjiapflpaa
open Go.RowKit Go.Maps
set_option linter.unusedVariables false

theorem Mine.put {Ts : List Th} {w0 w : World} {b : Nat} {cs : List Value} {t : TypeId} (h : Mine (BoxV b cs t :: Ts) w0 w) (j : Nat) (u : Value) (hj : j < cs.length) : Mine (BoxV b (cs.set j u) t :: Ts) w0 (w.setCell ⟨b, j, none⟩ u) :=
  h.step (BoxV.good _ _ _) (fun F ⟨h1, h2⟩ => ⟨F, ⟨h1.set j u hj, h2⟩, (Keep.setCell w b j u).more (fun i _ e => (h2 i).2 e), fun k hk => .inl hk⟩)
theorem Weave.Typed.next' {L : List Wel} {t s : Int} {k : Nat} (h : Weave.Typed L t s (k - 1)) (ht : 0 ≤ t ∧ t ≤ 4000000000) (hs : 0 ≤ s ∧ s ≤ 15) (h1 : 1 ≤ k) (hk : k ≤ 30) :
    Weave.insert L (t + (k : Int), s) (Weave.cref t s k) 97 = (0, L ++ [Weave.cel t s k]) ∧ Weave.Typed (L ++ [Weave.cel t s k]) t s k := by
  obtain ⟨m, rfl⟩ : ∃ m, k = m + 1 := ⟨k - 1, by omega⟩
  exact Weave.Typed.next h ht hs (by omega)
theorem Weave.Typed.at2 {L : List Wel} {t s : Int} {n : Nat} (h : Weave.Typed L t s n) (ht : 0 ≤ t) {k : Nat} (h1 : 1 ≤ k) (hk : k ≤ n) : Weave.has L (t + (k : Int), s) = true ∧ ((Weave.place L (t + (k : Int), s) : Nat) : Int) = (k : Int) - 1 := by
  obtain ⟨m, rfl⟩ : ∃ m, k = m + 1 := ⟨k - 1, by omega⟩
  obtain ⟨a, b⟩ := Weave.Typed.at' h ht m hk
  exact ⟨a, by rw [b]; omega⟩
theorem Weave.cref_next (t s : Int) {k : Nat} (hk : 1 ≤ k) : Weave.cref t s (k + 1) = (t + (k : Int), s) := by
  unfold Weave.cref
  rw [if_neg (by omega)]
  simp only [Prod.mk.injEq, and_true]
  omega

set_option maxRecDepth 100000 in
set_option maxHeartbeats 8000000 in
theorem walk_WeaveTyped (v : Value) (os : List WOp) (n s : Int) (w : World) (hx : SliceG 6 WOp.cells w v os ∧ os.length ≤ maxLen ∧ ∀ o ∈ os, o.ok) (hn : (Lit.int .i64 n).wf = true) (hs : (Lit.int .i64 s).wf = true) :
    Calls Try.prog 6 #[v, .int .i64 n, .int .i64 s] w fun e w' => e = .returned (.bool true) ∧ Below w.heap.size w w' := by
  obtain ⟨hv, hm, hok⟩ := hx
  have HV := Lib.hid hv
  have HOK := Lib.hid hok
  obtain ⟨va, vc, rfl⟩ := hv.shape
  unfold maxLen at hm
  clear hv hok hn hs
  go_enter Try.func6, Try.ntmps6
  by_cases h0 : n < 1
  · have d0 : decide (n < 1) = true := decide_eq_true h0
    go_wp2_with fail
    refine (law11_live _).mono ?_
    rintro e w6 ⟨rfl, hb⟩
    go_wp2
    go_ret
    exact ⟨rfl, hb⟩
  · have d0 : decide (n < 1) = false := decide_eq_false h0
    by_cases h1 : 30 < n
    · have d1 : decide (30 < n) = true := decide_eq_true h1
      go_wp2_with fail
      refine (law11_live _).mono ?_
      rintro e w6 ⟨rfl, hb⟩
      go_wp2
      go_ret
      exact ⟨rfl, hb⟩
    · have d1 : decide (30 < n) = false := decide_eq_false h1
      by_cases h2 : s < 0
      · have d2 : decide (s < 0) = true := decide_eq_true h2
        go_wp2_with fail
        refine (law11_live _).mono ?_
        rintro e w6 ⟨rfl, hb⟩
        go_wp2
        go_ret
        exact ⟨rfl, hb⟩
      · have d2 : decide (s < 0) = false := decide_eq_false h2
        by_cases h3 : 15 < s
        · have d3 : decide (15 < s) = true := decide_eq_true h3
          go_wp2_with fail
          refine (law11_live _).mono ?_
          rintro e w6 ⟨rfl, hb⟩
          go_wp2
          go_ret
          exact ⟨rfl, hb⟩
        · have d3 : decide (15 < s) = false := decide_eq_false h3
          by_cases h4 : 30 < os.length
          · have d4 : decide (30 < os.length) = true := decide_eq_true h4
            have d4' : decide ((30 : Int) < (os.length : Int)) = true := decide_eq_true (by omega)
            go_wp2_with fail
            refine (law11_live _).mono ?_
            rintro e w6 ⟨rfl, hb⟩
            go_wp2
            go_ret
            exact ⟨rfl, hb⟩
          · have d4 : decide (30 < os.length) = false := decide_eq_false h4
            have d4' : decide ((30 : Int) < (os.length : Int)) = false := decide_eq_false (by omega)
            go_wp2_with fail
            refine (w_New (Mine.nothing w)).mono ?_
            rintro e w1 ⟨p, rfl, h⟩
            have H := Lib.hid h
            obtain ⟨N, rfl⟩ : ∃ N : Nat, n = (N : Int) := ⟨n.toNat, by omega⟩
            have hN : 1 ≤ N ∧ N ≤ 30 := by omega
            have hS : 0 ≤ s ∧ s ≤ 15 := by omega
            have hOL : os.length ≤ 30 := by omega
            clear h d0 d1 d2 d3 d4 d4' h0 h1 h2 h3 h4
            go_wp2_with fail
            go_loopw [8, 9] (fun tp i wr => ∃ (k : Nat) (t : Int) (L : List Wel), k ≤ os.length ∧ i = .int .i64 k ∧ tp = .int .i64 t ∧ 0 ≤ t ∧ t ≤ 4294967295 ∧ (∀ d ∈ L, d.id.1 ≤ t) ∧ L.length ≤ k ∧ Mine [LineT p L] w wr) (fun _ i _ => os.length - (intOf i).toNat)
            case atStart => exact ⟨0, 0, [], by omega, rfl, rfl, by omega, by omega, by simp, by simp, H.out⟩
            case round =>
              obtain ⟨k, t, L, hk, rfl, rfl, ht0, ht1, hT, hLk, hM⟩ := hrel
              have HM := Lib.hid hM
              have HT := Lib.hid hT
              have HLK := Lib.hid hLk
              clear hM H hT hLk
              by_cases hlt : k < os.length
              · have e1 : decide ((k : Int) < (os.length : Int)) = true := decide_eq_true (by omega)
                have e2 : decide (k < os.length) = true := decide_eq_true hlt
                have hka : (k : Int) < (os.length : Int) := by omega
                obtain ⟨b, off, e, hbl, hc⟩ := HV.out.at hlt
                cases e
                have hoo := HOK.out os[k] (List.getElem_mem hlt)
                have HCC := Lib.hid (fun (W : World) (hb : Below w.heap.size w W) j u (hu : (WOp.cells os[k])[j]? = some u) => (hb.cell (p := ⟨b, off + k * 6 + j, none⟩) hbl).trans (hc j u hu))
                clear hc
                generalize os[k] = o at HCC hoo
                obtain ⟨dr, ⟨y1, y2⟩, ⟨r1, r2⟩, rn⟩ := o
                obtain ⟨⟨hx1, hx2⟩, hr1, hr2⟩ := hoo
                simp only at hx1 hx2 hr1 hr2
                clear hr1 hr2
                have hcc := HCC.out _ HM.out.bel
                have q1 := hcc 1 _ rfl
                have q2 := hcc 2 _ rfl
                have q3 := hcc 3 _ rfl
                have q4 := hcc 4 _ rfl
                have q5 := hcc 5 _ rfl
                clear hcc
                go_wp2_with fail
                go_still_tail 16, (by kernel_rfl)
                change wpList _ _ _ _ _ (World.drew _)
                have HM2 := Lib.hid (HM.out.grew (grew_drew _))
                clear q1 q2 q3 q4 q5
                generalize World.drew wr = w2 at *
                go_wp2_with fail
                refine (w_Insert HM2.out (y1, y2) (r1, r2) rn).mono ?_
                rintro e w4 ⟨rfl, h⟩
                have HM4 := Lib.hid h
                clear h
                have hcc := HCC.out _ HM4.out.bel
                have q1 := hcc 1 _ rfl
                have q2 := hcc 2 _ rfl
                clear hcc
                go_wp2_with fail
                refine (ident_Check (y1, y2) _).mono ?_
                rintro e w5 ⟨rfl, hg⟩
                have HM5 := Lib.hid (HM4.out.grew hg.below)
                clear hg q1 q2
                have hcc := HCC.out _ HM5.out.bel
                have q1 := hcc 1 _ rfl
                have q2 := hcc 2 _ rfl
                clear hcc HCC
                unfold Idn.chk
                have HTOP := Lib.hid (Weave.insert_top HT.out (y1, y2) (r1, r2) rn)
                have HLEN := Lib.hid (Weave.insert_len (L := L) (y1, y2) (r1, r2) rn)
                cases hmay : Idn.may (y1, y2) with
                | true =>
                  have hmm := of_decide_eq_true hmay
                  simp only at hmm
                  clear hmay
                  simp only [if_true]
                  go_wp2
                  go_roundw
                  case rel =>
                    refine ⟨k + 1, max t y1, _, by omega, by go_num, rfl, by omega, by omega, HTOP.out, ?_, HM5.out⟩
                    have h1 := HLEN.out
                    have h2 := HLK.out
                    omega
                  case measure => simp [intOf]; omega
                | false =>
                  have HNOT := Lib.hid (Weave.insert_not hmay (L := L) (r1, r2) rn)
                  clear hmay
                  rw [if_neg (by decide)]
                  go_wp2
                  go_roundw
                  case rel =>
                    refine ⟨k + 1, t, L, by omega, by go_num, rfl, by omega, by omega, HT.out, ?_, by rw [← HNOT.out]; exact HM5.out⟩
                    have h2 := HLK.out
                    omega
                  case measure => simp [intOf]; omega
              · have e1 : decide ((k : Int) < (os.length : Int)) = false := decide_eq_false (by omega)
                have e2 : decide (k < os.length) = false := decide_eq_false hlt
                by_cases htop : 4000000000 < t
                · have g1 : decide (4000000000 < t) = true := decide_eq_true htop
                  go_wp2_with fail
                  refine (law11_live _).mono ?_
                  rintro e w6 ⟨rfl, hb⟩
                  go_wp2
                  go_ret
                  exact ⟨rfl, grew HM.out.bel hb⟩
                · have g1 : decide (4000000000 < t) = false := decide_eq_false htop
                  have HB0 : Hid (Mine [BoxV wr.heap.size [.int .i64 0, .int .i64 0] 24, LineT p L] w (wr.alloc (.cells #[.int .i64 0, .int .i64 0] 24))) := Lib.hid (HM.out.alloc _ _)
                  have HTY := Lib.hid (Weave.Typed.begin (s := s) HM.out.ok (by have := HLK.out; omega) HT.out)
                  have ht2 : t ≤ 4000000000 := by omega
                  clear HT HLK htop ht1
                  have f0 := HB0.out.box.frozen 0
                  go_wp2_with fail
                  clear HM
                  generalize wr.heap.size = bl at *
                  go_loopw [11] (fun i wv => ∃ (k : Nat) (L : List Wel), 1 ≤ k ∧ k ≤ N + 1 ∧ i = .int .i64 k ∧ Weave.Typed L t s (k - 1) ∧ Mine [BoxV bl [.int .i64 (Weave.cref t s k).1, .int .i64 (Weave.cref t s k).2] 24, LineT p L] w wv) (fun i _ => N + 1 - (intOf i).toNat)
                  case atStart => exact ⟨1, L, by omega, by omega, by go_num, HTY.out, HB0.out⟩
                  case round =>
                    obtain ⟨j, L2, hj1, hj2, rfl, hTY, hM⟩ := hrel
                    have HTY2 := Lib.hid hTY
                    have HM2 := Lib.hid hM
                    clear hTY hM HTY HB0 f0
                    by_cases hlj : j ≤ N
                    · have c1 : decide ((j : Int) ≤ (N : Int)) = true := decide_eq_true (by omega)
                      have c2 : decide (j ≤ N) = true := decide_eq_true hlj
                      obtain ⟨hins, hty⟩ := Weave.Typed.next' HTY2.out ⟨ht0, ht2⟩ hS hj1 (by omega)
                      have HINS := Lib.hid hins
                      have HTY3 := Lib.hid hty
                      have HCN := Lib.hid (Weave.cref_next t s hj1)
                      clear hins hty
                      go_wp2_with fail
                      refine (law11_id _ _ _).mono ?_
                      rintro e w6 ⟨rfl, hb⟩
                      have HM6 : Hid (Mine [BoxV w6.heap.size [.int .i64 (t + (j : Int)), .int .i64 s] 24, BoxV bl [.int .i64 (Weave.cref t s j).1, .int .i64 (Weave.cref t s j).2] 24, LineT p L2] w (w6.alloc (.cells #[.int .i64 (t + (j : Int)), .int .i64 s] 24))) := Lib.hid ((HM2.out.grew hb).alloc _ _)
                      clear hb HM2
                      have m0 := HM6.out.box.cell 0 (by simp)
                      have m1 := HM6.out.box.cell 1 (by simp)
                      have l0 := HM6.out.drop.box.cell 0 (by simp)
                      have l1 := HM6.out.drop.box.cell 1 (by simp)
                      simp only [List.getElem_cons_zero, List.getElem_cons_succ] at m0 m1 l0 l1
                      go_wp2_with fail
                      refine (w_Insert HM6.out.swap2 (t + (j : Int), s) (Weave.cref t s j) 97).mono ?_
                      rintro e w7 ⟨rfl, h⟩
                      rw [HINS.out] at h
                      simp only [HINS.out]
                      have HM7 := Lib.hid h
                      clear h m0 m1 l0 l1 HM6
                      have m0 := HM7.out.swap.box.cell 0 (by simp)
                      have m1 := HM7.out.swap.box.cell 1 (by simp)
                      simp only [List.getElem_cons_zero, List.getElem_cons_succ] at m0 m1
                      have f0 := HM7.out.swap2.box.frozen 0
                      have hP := HM7.out.swap2.put 0 (.int .i64 (t + (j : Int))) (by simp)
                      simp only [List.set_cons_zero] at hP
                      have f1 := hP.box.frozen 1
                      have z0 := HM7.out.swap2.box.cell 0 (by simp)
                      have z1 := hP.box.cell 1 (by simp)
                      simp only [List.getElem_cons_zero, List.getElem_cons_succ] at z0 z1
                      clear hP
                      have HM8 := Lib.hid ((HM7.out.swap2.put 0 (.int .i64 (t + (j : Int))) (by simp)).put 1 (.int .i64 s) (by simp))
                      simp only [List.set_cons_zero, List.set_cons_succ] at HM8
                      go_wp2
                      go_roundw
                      case rel => first | exact ⟨j + 1, _, by omega, by omega, by go_num, HTY3.out, by rw [HCN.out]; exact HM8.out.swap2.drop⟩ | ((repeat apply Exists.intro); exact ⟨⟨j + 1, _, by omega, by omega, by go_num, HTY3.out, by rw [HCN.out]; exact HM8.out.swap2.drop⟩, rfl⟩)
                      case measure => simp [intOf]; omega
                    · have c1 : decide ((j : Int) ≤ (N : Int)) = false := decide_eq_false (by omega)
                      have c2 : decide (j ≤ N) = false := decide_eq_false hlj
                      obtain rfl : j = N + 1 := by omega
                      have HTY3 : Hid (Weave.Typed L2 t s N) := Lib.hid (by have := HTY2.out; rwa [Nat.add_sub_cancel] at this)
                      have HP1 := Lib.hid (Weave.Typed.at2 HTY3.out ht0 (Nat.le_refl 1) hN.1)
                      clear HTY2
                      go_wp2_with fail
                      refine (law11_id _ _ _).mono ?_
                      rintro e w6 ⟨rfl, hb⟩
                      have HM6 := Lib.hid (HM2.out.drop.grew hb)
                      clear hb HM2
                      go_wp2_with fail
                      refine (w_Place HM6.out (t + 1, s) (by unfold I64; simp only; omega) (by unfold I64; simp only; omega)).mono ?_
                      rintro e w7 ⟨rfl, h, _⟩
                      have e1' : Weave.has L2 (t + 1, s) = true := HP1.out.1
                      have e2' : ((Weave.place L2 (t + 1, s) : Nat) : Int) = 0 := HP1.out.2
                      rw [e1', e2']
                      have HM7 := Lib.hid h
                      clear h e1' e2' HM6 HP1 c1 c2
                      go_wp2_with fail
                      go_loopw [15] (fun i wv => ∃ k : Nat, 1 ≤ k ∧ k ≤ N + 1 ∧ i = .int .i64 k ∧ Mine [LineT p L2] w wv) (fun i _ => N + 1 - (intOf i).toNat)
                      case atStart => exact ⟨1, by omega, by omega, by go_num, HM7.out⟩
                      case round =>
                        obtain ⟨m, hm1, hm2, rfl, hM⟩ := hrel
                        have HM8 := Lib.hid hM
                        clear hM HM7
                        by_cases hlm : m ≤ N
                        · have c1 : decide ((m : Int) ≤ (N : Int)) = true := decide_eq_true (by omega)
                          have c2 : decide (m ≤ N) = true := decide_eq_true hlm
                          have HPM := Lib.hid (Weave.Typed.at2 HTY3.out ht0 hm1 hlm)
                          go_wp2_with fail
                          refine (law11_id _ _ _).mono ?_
                          rintro e w9 ⟨rfl, hb⟩
                          have HM9 := Lib.hid (HM8.out.grew hb)
                          clear hb HM8
                          go_wp2_with fail
                          refine (w_Place HM9.out (t + (m : Int), s) (by unfold I64; simp only; omega) (by unfold I64; simp only; omega)).mono ?_
                          rintro e w10 ⟨rfl, h, _⟩
                          have HM10 := Lib.hid h
                          clear h HM9
                          rw [HPM.out.1, HPM.out.2]
                          clear HPM
                          have n1 : ((m : Int) - 1 != (m : Int) - 1) = false := by simp
                          go_wp2
                          go_roundw
                          case rel => exact ⟨m + 1, by omega, by omega, by go_num, HM10.out⟩
                          case measure => simp [intOf]; omega
                        · have c1 : decide ((m : Int) ≤ (N : Int)) = false := decide_eq_false (by omega)
                          have c2 : decide (m ≤ N) = false := decide_eq_false hlm
                          go_wp2_with fail
                          refine (law11_live _).mono ?_
                          rintro e w11 ⟨rfl, hb⟩
                          go_wp2
                          go_ret
                          exact ⟨rfl, grew HM8.out.bel hb⟩
end Go.Proofs.Ytohmhbjiapflpaa
