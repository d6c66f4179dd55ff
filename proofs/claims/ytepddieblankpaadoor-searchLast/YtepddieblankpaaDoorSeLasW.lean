/- The walk of SearchLast. -/
import Derived.Test.YtepddieblankpaaDoorSeLasM
import Derived.Test.YtepddieblankpaaDoorSeOpen
import Derived.BigQuiet
namespace Go.Proofs.YtepddieblankpaaDoor
open Go.RowKit
attribute [local go_sem] Oper.semAt_some
set_option linter.unusedVariables false

set_option maxRecDepth 100000 in
set_option maxHeartbeats 8000000 in
theorem walk_SearchLast0 (v : Value) (ts : List ByteArray) (wh : Int) (w : World) (hv : SliceS w v ts) (hn : ts.length ≤ maxLen) (hk : Kit w) :
    Calls Tryd.prog 7 #[v, .int .i64 wh] w fun e w' => e = .returned (.bool true) ∧ Below w.heap.size w w' := by
  have HV := Lib.hid hv
  have HK := Lib.hid hk
  have HF := Lib.hid (law19_few v ts w hv hn)
  have HLV : Hid (∀ w1, Below w.heap.size w w1 → Calls Tryd.prog 15 #[] w1 fun e w' => e = .returned (.bool true) ∧ Below w.heap.size w w') := Lib.hid (fun w1 hb => (law19_live w1 (hk.below hb)).mono fun e w' ⟨h1, h2⟩ => ⟨h1, grew hb h2⟩)
  obtain ⟨va, vc, rfl⟩ : ∃ a cap, v = .slice a ts.length cap := by obtain ⟨a, cap, e, _⟩ := hv; exact ⟨a, cap, e⟩
  unfold maxLen at hn
  clear hv hk
  go_enter Tryd.func7, Tryd.ntmps7
  go_wp2_with fail
  refine HF.out.mono ?_
  rintro e w1 ⟨rfl, h1⟩
  subst h1
  cases hfew : Srch.few ts with
  | false =>
    go_wp2_with fail
    refine (HLV.out _ (Below.refl _ _)).mono ?_
    rintro e w1 ⟨rfl, hb⟩
    have HB := Lib.hid hb
    clear hb
    go_wp2
    go_ret
    exact ⟨rfl, HB.out⟩
  | true =>
    obtain ⟨hl40, HALL0⟩ := Srch.few_spec hfew
    have HALL := Lib.hid HALL0
    clear hfew HF HALL0
    by_cases hneg : wh < 0
    · have d1 : decide (wh < 0) = true := decide_eq_true hneg
      go_wp2_with fail
      refine (HLV.out _ (Below.refl _ _)).mono ?_
      rintro e w1 ⟨rfl, hb⟩
      have HB := Lib.hid hb
      clear hb
      go_wp2
      go_ret
      exact ⟨rfl, HB.out⟩
    obtain ⟨x, rfl⟩ : ∃ x : Nat, wh = x := ⟨wh.toNat, by omega⟩
    have d1 : decide ((x : Int) < 0) = false := decide_eq_false hneg
    clear hneg
    by_cases hx : ts.length ≤ x
    · have d2 : decide ((ts.length : Int) ≤ (x : Int)) = true := decide_eq_true (by omega)
      have d3 : decide (ts.length ≤ x) = true := decide_eq_true hx
      go_wp2_with fail
      refine (HLV.out _ (Below.refl _ _)).mono ?_
      rintro e w1 ⟨rfl, hb⟩
      have HB := Lib.hid hb
      clear hb
      go_wp2
      go_ret
      exact ⟨rfl, HB.out⟩
    have d2 : decide ((ts.length : Int) ≤ (x : Int)) = false := decide_eq_false (by omega)
    have d3 : decide (ts.length ≤ x) = false := decide_eq_false hx
    have hxl : x < ts.length := by omega
    have d4 : decide (x < ts.length) = true := decide_eq_true hxl
    have d5 : (x : Int) < (ts.length : Int) := by omega
    obtain ⟨lb, lo, e, hlb, hcl⟩ : ∃ b off, va = some ⟨b, off, none⟩ ∧ b < w.heap.size ∧ ∀ i, i < ts.length → w.cell? ⟨b, off + i, none⟩ = some (.string (ts.getD i ByteArray.empty)) := by
      obtain ⟨a', cap', e, _, hr⟩ := HV.out
      injection e with e1 _ e3
      subst e1 e3
      rcases hr with e | ⟨b, off, e, hb, hc⟩
      · subst e; simp at hxl
      · exact ⟨b, off, e, hb, fun i hi => by rw [hc i hi]; simp [List.getD, List.getElem?_eq_getElem hi]⟩
    cases e
    have HCL := Lib.hid hcl
    have cx := hcl x hxl
    have HSZ : Hid (∀ i, i < ts.length → (ts.getD i ByteArray.empty).size ≤ 300) := Lib.hid (fun i hi => by
      simp only [List.getD, List.getElem?_eq_getElem hi, Option.getD_some]
      exact HALL.out _ (List.getElem_mem hi))
    obtain ⟨s, hs⟩ : ∃ s, ts.getD x ByteArray.empty = s := ⟨_, rfl⟩
    have HSX := Lib.hid hs
    have hsz := HSZ.out x hxl
    rw [hs] at cx hsz
    clear hcl hx hs
    by_cases h0 : s.size = 0
    · have e1 : ((s.size : Int) == 0) = true := by rw [beq_iff_eq]; omega
      have e2 : decide ((s.size : Int) = 0) = true := decide_eq_true (by omega)
      have e3 : decide (s.size = 0) = true := decide_eq_true h0
      go_wp2_with fail
      refine (HLV.out _ (Below.refl _ _)).mono ?_
      rintro e w1 ⟨rfl, hb⟩
      have HB := Lib.hid hb
      clear hb
      go_wp2
      go_ret
      exact ⟨rfl, HB.out⟩
    have e1 : ((s.size : Int) == 0) = false := beq_eq_false_iff_ne.2 (by omega)
    have e2 : decide ((s.size : Int) = 0) = false := decide_eq_false (by omega)
    have e3 : decide (s.size = 0) = false := decide_eq_false h0
    by_cases h1 : 100 < s.size
    · have f1 : decide ((100 : Int) < (s.size : Int)) = true := decide_eq_true (by omega)
      have f2 : decide (100 < s.size) = true := decide_eq_true h1
      go_wp2_with fail
      refine (HLV.out _ (Below.refl _ _)).mono ?_
      rintro e w1 ⟨rfl, hb⟩
      have HB := Lib.hid hb
      clear hb
      go_wp2
      go_ret
      exact ⟨rfl, HB.out⟩
    have f1 : decide ((100 : Int) < (s.size : Int)) = false := decide_eq_false (by omega)
    have f2 : decide (100 < s.size) = false := decide_eq_false h1
    have H0 := Lib.hid h0
    have H100 : Hid (s.size ≤ 100) := Lib.hid (by omega)
    clear h0 h1
    go_wp2_with fail
    clear d1 d2 d3 e1 e2 e3 f1 f2
    go_loopw [6] (fun i wr => ∃ k : Nat, k ≤ s.size ∧ i = .int .i64 k ∧ Hid (∀ j (h : j < s.size), j < k → 32 ≤ (s.get j h).toNat ∧ (s.get j h).toNat ≤ 126) ∧ w = wr) (fun i _ => s.size - (intOf i).toNat)
    case atStart => exact ⟨0, by omega, rfl, Lib.hid (fun j _ hj => by omega), rfl⟩
    case round =>
      obtain ⟨k, hk, rfl, HP, rfl⟩ := hrel
      by_cases hlt : k < s.size
      · have e1 : decide ((k : Int) < (s.size : Int)) = true := decide_eq_true (by omega)
        have e2 : decide (k < s.size) = true := decide_eq_true hlt
        have hia : (k : Int) < (s.size : Int) := by omega
        have HG : Hid (s[k].toNat = (s.get k hlt).toNat) := Lib.hid rfl
        have live : ∀ (P : Prop), P → P := fun _ h => h
        by_cases g1 : s[k].toNat < 32
        · have t1 : decide ((s[k].toNat : Int) < 32) = true := decide_eq_true (by omega)
          clear g1 live
          go_wp2_with fail
          refine (HLV.out _ (Below.refl _ _)).mono ?_
          rintro e w1 ⟨rfl, hb⟩
          have HB := Lib.hid hb
          clear hb
          go_wp2
          go_ret
          exact ⟨rfl, HB.out⟩
        have t1 : decide ((s[k].toNat : Int) < 32) = false := decide_eq_false (by omega)
        by_cases g2 : 126 < s[k].toNat
        · have t2 : decide ((126 : Int) < (s[k].toNat : Int)) = true := decide_eq_true (by omega)
          clear g1 g2 live
          go_wp2_with fail
          refine (HLV.out _ (Below.refl _ _)).mono ?_
          rintro e w1 ⟨rfl, hb⟩
          have HB := Lib.hid hb
          clear hb
          go_wp2
          go_ret
          exact ⟨rfl, HB.out⟩
        have t2 : decide ((126 : Int) < (s[k].toNat : Int)) = false := decide_eq_false (by omega)
        have HP2 : Hid (∀ j (h : j < s.size), j < k + 1 → 32 ≤ (s.get j h).toNat ∧ (s.get j h).toNat ≤ 126) := Lib.hid (fun j h hj => by
          rcases Nat.lt_or_ge j k with g | g
          · exact HP.out j h g
          · obtain rfl : j = k := by omega
            have := HG.out
            omega)
        clear g1 g2 live
        go_wp2
        go_roundw
        case rel => exact ⟨k + 1, by omega, by go_num, HP2, trivial⟩
        case measure => simp [intOf]; omega
      · have e1 : decide ((k : Int) < (s.size : Int)) = false := decide_eq_false (by omega)
        have e2 : decide (k < s.size) = false := decide_eq_false hlt
        have HPL : Hid (Srch.plain s) := Lib.hid (fun j h => HP.out j h (by omega))
        clear HP
        go_wp2_with fail
        refine (sk_New (.slice (some ⟨lb, lo, none⟩) ts.length vc) ts w HV.out hl40 HALL.out HK.out).mono ?_
        rintro e w1 ⟨p, v', rfl, h1⟩
        have H1 := Lib.hid h1
        clear h1 e1 e2 hlt
        go_wp2_with fail
        go_loopw [8, 9] (fun told i wr => ∃ j : Nat, j ≤ s.size ∧ i = .int .i64 j ∧ told = .bool (Srch.at' ts s j).isSome ∧ Sk w wr p v' ts (Srch.pre s j) (Srch.at' ts s j)) (fun _ i _ => s.size - (intOf i).toNat)
        case atStart => exact ⟨0, by omega, rfl, rfl, H1.out⟩
        case round =>
          obtain ⟨j, hj, rfl, rfl, hS⟩ := hrel
          have HS := Lib.hid hS
          clear hS H1
          by_cases hlt : j < s.size
          · have e1 : decide ((j : Int) < (s.size : Int)) = true := decide_eq_true (by omega)
            have e2 : decide (j < s.size) = true := decide_eq_true hlt
            have hia : (j : Int) < (s.size : Int) := by omega
            have HTP : Hid (Srch.typeTo ts (Srch.pre s j) (Srch.at' ts s j) (wrap64 (s[j].toNat : Nat)) = ((Srch.at' ts s (j + 1)).isSome, Srch.pre s (j + 1), Srch.at' ts s (j + 1))) := Lib.hid (by
              rw [IntWalk.wrap64_in _ ⟨by omega, by have := s[j].toNat_lt; omega⟩]
              exact Srch.type_pre HPL.out hlt (by have := H100.out; omega))
            generalize (Srch.at' ts s j).isSome = told at *
            go_wp2_with fail
            refine (sk_Type HS.out _).mono ?_
            rintro e w3 ⟨rfl, h1, h2⟩
            rw [HTP.out] at h1 ⊢
            have H3 := Lib.hid h1
            clear h1 h2 HS HTP
            go_wp2
            go_roundw
            case rel => exact ⟨j + 1, by omega, by go_num, rfl, H3.out⟩
            case measure => simp [intOf]; omega
          · have e1 : decide ((j : Int) < (s.size : Int)) = false := decide_eq_false (by omega)
            have e2 : decide (j < s.size) = false := decide_eq_false hlt
            obtain rfl : j = s.size := by omega
            obtain ⟨y, hy⟩ := Srch.lastFit_is hxl HSX.out
            have hat : Srch.at' ts s s.size = some y := by rw [Srch.at_all HPL.out H0.out]; exact hy
            have hS := HS.out
            rw [hat] at hS
            have H3 := Lib.hid hS
            have HY := Lib.hid hy
            have HQ : Hid (Ut.text (Srch.pre s s.size) = s) := Lib.hid (Srch.pre_all HPL.out)
            rw [hat]
            clear hS HS hat hy e1 e2 hlt hj
            simp only [Option.isSome]
            go_wp2_with fail
            go_loopw [10, 11] (fun l i wv => ∃ k : Nat, k ≤ ts.length ∧ i = .int .i64 k ∧ l = .int .i64 (((Srch.lastFit ts s k).getD x : Nat) : Int) ∧ wv = wr) (fun _ i _ => ts.length - (intOf i).toNat)
            case atStart => exact ⟨0, by omega, rfl, rfl, rfl⟩
            case round =>
              obtain ⟨k, hk, rfl, rfl, rfl⟩ := hrel
              by_cases hlt : k < ts.length
              · have e1 : decide ((k : Int) < (ts.length : Int)) = true := decide_eq_true (by omega)
                have e2 : decide (k < ts.length) = true := decide_eq_true hlt
                have hia : (k : Int) < (ts.length : Int) := by omega
                have ck := (H3.out.bel.cell (p := ⟨lb, lo + k, none⟩) hlb).trans (HCL.out k hlt)
                have HN : Hid (Srch.lastFit ts s (k + 1) = if Srch.fits s (ts.getD k ByteArray.empty) then some k else Srch.lastFit ts s k) := Lib.hid (Srch.lastFit_succ ts s k)
                have htz := HSZ.out k hlt
                generalize ts.getD k ByteArray.empty = t at *
                obtain ⟨m, hm⟩ : ∃ m, (Srch.lastFit ts s k).getD x = m := ⟨_, rfl⟩
                have HM := Lib.hid hm
                rw [hm]
                clear hm
                go_wp2_with fail
                refine (law19_has t s _ (by omega) (by omega)).mono ?_
                rintro e w3 ⟨rfl, h1⟩
                subst h1
                cases hf : Srch.fits s t with
                | true =>
                  have HN2 : Hid ((Srch.lastFit ts s (k + 1)).getD x = k) := Lib.hid (by rw [HN.out, hf, if_pos rfl]; rfl)
                  clear hf
                  go_wp2
                  go_roundw
                  case rel => exact ⟨k + 1, by omega, by go_num, by rw [HN2.out], trivial⟩
                  case measure => simp [intOf]; omega
                | false =>
                  have HN2 : Hid ((Srch.lastFit ts s (k + 1)).getD x = m) := Lib.hid (by rw [HN.out, hf, if_neg (by simp), HM.out])
                  clear hf
                  go_wp2
                  go_roundw
                  case rel => exact ⟨k + 1, by omega, by go_num, by rw [HN2.out], trivial⟩
                  case measure => simp [intOf]; omega
              · have e1 : decide ((k : Int) < (ts.length : Int)) = false := decide_eq_false (by omega)
                have e2 : decide (k < ts.length) = false := decide_eq_false hlt
                obtain rfl : k = ts.length := by omega
                rw [HY.out, Option.getD_some]
                have hyl := (H3.out.at' y rfl).1
                have cy := (H3.out.bel.cell (p := ⟨lb, lo + y, none⟩) hlb).trans (HCL.out y hyl)
                have q1 : decide (y < ts.length) = true := decide_eq_true hyl
                have q2 : (y : Int) < (ts.length : Int) := by omega
                go_wp2_with fail
                refine (sk_Found H3.out).mono ?_
                rintro e w4 ⟨rfl, h2⟩
                have H4 := Lib.hid (H3.out.below h2)
                have cy4 : w4.cell? ⟨lb, lo + y, none⟩ = some (.string (ts.getD y ByteArray.empty)) := by rw [h2.cell (block_lt_of_cell cy)]; exact cy
                clear h2 cy
                simp only [foundV, Srch.placeOf, Option.isSome]
                generalize ts.getD y ByteArray.empty = t at *
                go_wp2_with fail
                refine (sk_Query H4.out).mono ?_
                rintro e w5 ⟨rfl, h5⟩
                subst h5
                rw [HQ.out]
                go_wp2_with fail
                refine (HLV.out _ H4.out.bel).mono ?_
                rintro e w6 ⟨rfl, hb⟩
                have HB := Lib.hid hb
                clear hb
                go_wp2
                go_ret
                exact ⟨rfl, HB.out⟩

theorem walk_SearchLast (a : Option Addr) (len cap : Nat) (zs : List ByteArray) (wh : Int) (w : World) (hv : IsStrs w a len cap zs) (_ : (Lit.int .i64 wh).wf = true) (hk : Kit w) :
    Calls Tryd.prog 7 #[.slice a len cap, .int .i64 wh] w fun e w' => e = .returned (.bool true) ∧ Below w.heap.size w w' := by
  obtain ⟨ts, h1, h2, h3⟩ := hv.slice
  exact walk_SearchLast0 _ ts wh w h1 h2 hk
end Go.Proofs.YtepddieblankpaaDoor
