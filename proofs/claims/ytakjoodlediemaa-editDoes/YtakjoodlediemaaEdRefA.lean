/- Acts handed on; the reference's Apply. -/
import Derived.Test.YtakjoodlediemaaEdRefW
namespace Go.Proofs.Ytakjoodlediemaa
open Go.RowKit
set_option linter.unusedVariables false

theorem act3 {w : World} {a : Option Addr} {cap : Nat} {ys : List EAct} (h : SliceG 3 EAct.cells w (.slice a ys.length cap) ys) {i : Nat} (hi : i < ys.length) : ∃ b off, a = some ⟨b, off, none⟩ ∧ b < w.heap.size ∧ w.cell? ⟨b, off + i * 3, none⟩ = some (.int .i64 ys[i].kind) ∧ w.cell? ⟨b, off + i * 3 + 1, none⟩ = some (.int .i64 ys[i].at') ∧ w.cell? ⟨b, off + i * 3 + 2, none⟩ = some (.int .i64 ys[i].rune) := by
  obtain ⟨b, off, e, hlt, hc⟩ := h.at hi
  exact ⟨b, off, e, hlt, hc 0 _ rfl, hc 1 _ rfl, hc 2 _ rfl⟩
theorem Ed.apply_step {m : List Int} {acs : List EAct} {k : Nat} (h : k < acs.length) : Ed.apply m (acs.drop k) = (Ed.one m acs[k]).bind (Ed.apply · (acs.drop (k + 1))) := by
  rw [List.drop_eq_getElem_cons h, Ed.apply]
  cases Ed.one m acs[k] <;> rfl

set_option maxRecDepth 100000 in
set_option maxHeartbeats 4000000 in
theorem law18_acts (u : Value) (acs : List EAct) (w : World) (hu : SliceG 3 EAct.cells w u acs) (hk : acs.length ≤ 1000000) :
    Calls Try.prog 14 #[u] w fun e w' => ∃ V, e = .returned V ∧ OwnAct w' V acs ∧ (∀ g, V.ownBlock = some g → w.heap.size ≤ g) ∧ Below w.heap.size w w' := by
  have HU := Lib.hid hu
  obtain ⟨ua, uc, rfl⟩ := hu.shape
  clear hu
  go_enter Try.func14, Try.ntmps14
  go_wp2
  go_loopw [3, 4] (fun T i wr => ∃ k : Nat, k ≤ acs.length ∧ i = .int .i64 k ∧ OwnAct wr T (acs.take k) ∧ (∀ g, T.ownBlock = some g → w.heap.size ≤ g) ∧ Below w.heap.size w wr) (fun _ i _ => acs.length - (intOf i).toNat)
  case atStart => exact ⟨0, by omega, rfl, OwnAct.nil _, fun g hg => (by cases hg), Below.refl _ _⟩
  case round =>
    obtain ⟨k, hkk, rfl, ho, hf, hB⟩ := hrel
    have HO := Lib.hid ho
    have HF := Lib.hid hf
    have HB := Lib.hid hB
    obtain ⟨ta, tc, rfl⟩ := ho.shape
    have hlk : (acs.take k).length = k := by rw [List.length_take]; omega
    rw [hlk] at HO HF ⊢
    clear ho hf hB
    by_cases hlt : k < acs.length
    · have hdk : decide ((k : Int) < (acs.length : Int)) = true := decide_eq_true (by omega)
      have hdn : decide (k < acs.length) = true := decide_eq_true hlt
      have hik : (k : Int) < (acs.length : Int) := by omega
      obtain ⟨b0, off, e3, hb0, q0, q1, q2⟩ := act3 HU.out hlt
      have x0 := (HB.out.cell (p := ⟨b0, off + k * 3, none⟩) hb0).trans q0
      have x1 := (HB.out.cell (p := ⟨b0, off + k * 3 + 1, none⟩) hb0).trans q1
      have x2 := (HB.out.cell (p := ⟨b0, off + k * 3 + 2, none⟩) hb0).trans q2
      subst e3
      have HTK : Hid (acs.take (k + 1) = acs.take k ++ [acs[k]]) := Lib.hid (List.take_succ_eq_append_getElem hlt)
      have HLK := Lib.hid hlk
      have HKK := Lib.hid hlt
      clear q0 q1 q2 hlk
      generalize acs[k] = A at *
      obtain ⟨p0, p1, p2⟩ := A
      simp only at x0 x1 x2
      clear hlt
      go_wp2_with fail
      have HOW : Hid (Owns wr 70 3 (.slice ta k tc) k (actCells (acs.take k))) := Lib.hid (by have := HO.out; unfold OwnAct at this; rw [HLK.out] at this; exact this)
      have HK1 : Hid (k + 1 ≤ 1000000000) := Lib.hid (by have := HKK.out; omega)
      have HONE : Hid (∀ u ∈ [Value.int .i64 p0, .int .i64 p1, .int .i64 p2], u.oneCell' = true) := Lib.hid (by intro u hu; simp at hu; rcases hu with rfl | rfl | rfl <;> rfl)
      go_region_law ((refine step_append_lit (w := wr) rfl (.tmp 11) (.tmp 28) rfl Try.underlying30 info_act rfl (by decide) (by decide) (.slice ta k tc) k (actCells (acs.take k)) rfl HOW.out 1 [.int .i64 p0, .int .i64 p1, .int .i64 p2] _ rfl rfl rfl HONE.out HK1.out ?_; intro va2 cap2 w3 ho2 hk2 hn2; have HM2 := Lib.hid (And.intro ho2 (And.intro hk2 hn2)); clear ho2 hk2 hn2))
      all_goals
        go_wp2
        go_roundw
        case rel =>
          refine ⟨k + 1, by have := HKK.out; omega, by go_num, ?_, ?_, ?_⟩
          · rw [HTK.out]
            unfold OwnAct
            rw [actCells_app, List.length_append, HLK.out]
            exact HM2.out.1
          · intro g hg
            rcases HM2.out.2.2 g hg with h | h
            · exact HF.out g h
            · exact Nat.le_trans HB.out.size h
          · exact HB.out.trans (HM2.out.2.1.below HB.out.size (fun i e => HF.out i e))
        case measure => simp [intOf]; have := HKK.out; omega
    · have hdn : decide (k < acs.length) = false := decide_eq_false hlt
      have hdk : decide ((k : Int) < (acs.length : Int)) = false := decide_eq_false (by omega)
      have hke : acs.take k = acs := List.take_of_length_le (by omega)
      obtain rfl : k = acs.length := by omega
      have HKE := Lib.hid hke
      clear hke hlk hlt
      go_wp2
      go_ret
      exact ⟨_, rfl, by rw [HKE.out] at HO; exact HO.out, HF.out, HB.out⟩

theorem nums_rest {w : World} {va : Option Addr} {vc : Nat} {l : List Int} (h : SliceI w (.slice va l.length vc) l) {n : Nat} (hn : n ≤ l.length) : SliceI w (.slice (Option.map (fun x : Addr => x.add n) va) (l.length - n) (vc - n)) (l.drop n) := by
  obtain ⟨a', cap', e, hc, h⟩ := h
  injection e with e1 _ e3
  subst e1 e3
  refine ⟨_, vc - n, by rw [List.length_drop], by rw [List.length_drop]; omega, ?_⟩
  rcases h with rfl | ⟨b, off, rfl, hb, hcell⟩
  · exact .inl (by simp)
  · refine .inr ⟨b, off + n, by simp [Addr.add], hb, fun i hi => ?_⟩
    rw [List.length_drop] at hi
    rw [List.getElem_drop, Nat.add_assoc]
    exact hcell (n + i) (by omega)
theorem nums_none {w : World} {va : Option Addr} {n c : Nat} {l : List Int} (hn : l.length ≤ n) : SliceI w (.slice va (l.length - n) c) (l.drop n) := by
  have e : l.drop n = [] := List.drop_eq_nil_of_le hn
  rw [e]
  exact ⟨va, c, by rw [List.length_nil]; congr 1; omega, by simp, .inl rfl⟩

/-- Numbers of the call's own, made since w. -/
structure NewI (w wr : World) (v : Value) (m : List Int) : Prop where
  own : OwnI wr v m
  far : ∀ g, v.ownBlock = some g → w.heap.size ≤ g
  bel : Below w.heap.size w wr
theorem NewI.below {w wr w' : World} {v : Value} {m : List Int} (h : NewI w wr v m) (hb : Below wr.heap.size wr w') : NewI w w' v m := ⟨h.own.below hb, h.far, grew h.bel hb⟩
/-- Appended to; what else there is, stays. -/
theorem NewI.more {w wr w' : World} {v v' : Value} {m m' : List Int} (h : NewI w wr v m) (ho : OwnI w' v' m') (hk : Keep (At v) wr w') (hn : Near wr v v') : NewI w w' v' m' :=
  ⟨ho, fun g hg => by
    rcases hn g hg with k | k
    · exact h.far g k
    · exact Nat.le_trans h.bel.size k, h.bel.trans (hk.below h.bel.size (fun i e => h.far i e))⟩

set_option maxRecDepth 100000 in
set_option maxHeartbeats 8000000 in
theorem ref18_Apply (v u : Value) (l : List Int) (acs : List EAct) (w : World) (hv : SliceI w v l) (hu : SliceG 3 EAct.cells w u acs) (hl : l.length ≤ 1000000) (hk : acs.length ≤ 1000000) :
    Calls Try.prog 15 #[v, u] w fun e w' => ∃ V, e = .returned (.tuple #[V, .bool (Ed.apply l acs).isSome]) ∧ SliceI w' V ((Ed.apply l acs).getD []) ∧ (∀ g, V.ownBlock = some g → w.heap.size ≤ g) ∧ Below w.heap.size w w' := by
  have HV := Lib.hid hv
  have HU := Lib.hid hu
  have HL := Lib.hid hl
  obtain ⟨va, vc, rfl⟩ := hv.shape
  obtain ⟨ua, uc, rfl⟩ := hu.shape
  clear hv hu hl
  obtain ⟨X, hX⟩ : ∃ X, Ed.apply l acs = X := ⟨_, rfl⟩
  rw [hX]
  have HX := Lib.hid hX
  clear hX
  go_enter Try.func15, Try.ntmps15
  go_wp2_with (at_builtin
               refine wp_append_nums rfl (.tmp 10) (.tmp 11) rfl (.slice none 0 0) [] rfl (OwnI.nil _) _ l rfl HV.out (by have := HL.out; simp; omega) ?_
               intro v1 w1 ho1 hk1 hn1
               have H1 : Hid (NewI w w1 v1 l) := Lib.hid ((show NewI w w (.slice none 0 0) [] from ⟨OwnI.nil _, fun g hg => (by cases hg), Below.refl _ _⟩).more ho1 hk1 hn1)
               clear ho1 hk1 hn1)
  go_loopw [6, 7] (fun s6 i wr => ∃ (k : Nat) (m : List Int), k ≤ acs.length ∧ i = .int .i64 k ∧ NewI w wr s6 m ∧ m.length ≤ l.length + k ∧ Ed.apply m (acs.drop k) = X) (fun _ i _ => acs.length - (intOf i).toNat)
  case atStart => exact ⟨0, l, by omega, rfl, H1.out, by omega, by rw [List.drop_zero]; exact HX.out⟩
  case round =>
    obtain ⟨k, m, hkk, rfl, hN, hml, hap⟩ := hrel
    have HN := Lib.hid hN
    have HAP := Lib.hid hap
    have HML : Hid (m.length ≤ 2000000) := Lib.hid (by have := HL.out; omega)
    have HMK := Lib.hid hml
    obtain ⟨ma, mc, rfl⟩ := hN.own.slice.shape
    clear hN hap H1 HX hml
    by_cases hlt : k < acs.length
    · have d1 : decide ((k : Int) < (acs.length : Int)) = true := decide_eq_true (by omega)
      have dn : decide (k < acs.length) = true := decide_eq_true hlt
      have hia : (k : Int) < (acs.length : Int) := by omega
      obtain ⟨b0, off, e3, hb0, q0, q1, q2⟩ := act3 HU.out hlt
      have p0 := (HN.out.bel.cell (p := ⟨b0, off + k * 3, none⟩) hb0).trans q0
      have p1 := (HN.out.bel.cell (p := ⟨b0, off + k * 3 + 1, none⟩) hb0).trans q1
      have p2 := (HN.out.bel.cell (p := ⟨b0, off + k * 3 + 2, none⟩) hb0).trans q2
      clear q0 q1 q2
      subst e3
      have HST : Hid (X = (Ed.one m acs[k]).bind (Ed.apply · (acs.drop (k + 1)))) := Lib.hid (by rw [← HAP.out]; exact Ed.apply_step (m := m) hlt)
      have HLT := Lib.hid hlt
      generalize acs[k] = A at p0 p1 p2 HST
      clear hlt
      obtain ⟨kd, at', rn⟩ := A
      simp only at p0 p1 p2
      have HBX0 := Lib.hid (Holds.new wr [.int .i64 kd, .int .i64 at', .int .i64 rn] 69)
      have HW1 := Lib.hid (grew_alloc wr (.cells #[.int .i64 kd, .int .i64 at', .int .i64 rn] 69))
      have HBN := Lib.hid (grew HN.out.bel HW1.out)
      by_cases h12 : kd = 1 ∨ kd = 2
      · by_cases ha0 : at' < 0
        · have HE : Hid (X = none) := Lib.hid (by rw [HST.out]; unfold Ed.one; rw [if_neg (by simp; omega), if_neg (by simp; omega)]; rfl)
          have u1 : decide (at' < 0) = true := decide_eq_true ha0
          rcases h12 with rfl | rfl
          · go_wp2
            go_ret2
            exact ⟨_, by rw [HE.out]; rfl, by rw [HE.out]; exact SliceI.none _, (by intro g hg; cases hg), HBN.out⟩
          · go_wp2
            go_ret2
            exact ⟨_, by rw [HE.out]; rfl, by rw [HE.out]; exact SliceI.none _, (by intro g hg; cases hg), HBN.out⟩
        · obtain ⟨i, rfl⟩ : ∃ i : Nat, at' = i := ⟨at'.toNat, by omega⟩
          have u1 : decide ((i : Int) < 0) = false := decide_eq_false ha0
          by_cases ha1 : m.length < i
          · have HE : Hid (X = none) := Lib.hid (by rw [HST.out]; unfold Ed.one; rw [if_neg (by simp; omega), if_neg (by simp; omega)]; rfl)
            have u2 : decide ((m.length : Int) < (i : Int)) = true := decide_eq_true (by omega)
            have u3 : decide (m.length < i) = true := decide_eq_true ha1
            rcases h12 with rfl | rfl
            · go_wp2
              go_ret2
              exact ⟨_, by rw [HE.out]; rfl, by rw [HE.out]; exact SliceI.none _, (by intro g hg; cases hg), HBN.out⟩
            · go_wp2
              go_ret2
              exact ⟨_, by rw [HE.out]; rfl, by rw [HE.out]; exact SliceI.none _, (by intro g hg; cases hg), HBN.out⟩
          · have u2 : decide ((m.length : Int) < (i : Int)) = false := decide_eq_false (by omega)
            have u3 : decide (m.length < i) = false := decide_eq_false ha1
            have hmc : m.length ≤ mc := by
              obtain ⟨_, _, e, hc, _⟩ := HN.out.own.slice
              injection e with _ _ e
              omega
            have v1 : (i : Int) ≤ (m.length : Int) := by omega
            have v2 : (i : Int) ≤ (mc : Int) := by omega
            have v3 : decide (i ≤ mc) = true := decide_eq_true (by omega)
            have v4 : decide (i ≤ m.length) = true := decide_eq_true (by omega)
            obtain ⟨W1, hW1⟩ : ∃ W1, wr.alloc (.cells #[.int .i64 kd, .int .i64 (i : Int), .int .i64 rn] 69) = W1 := ⟨_, rfl⟩
            rw [hW1] at HBX0 HW1 HBN
            have HBX : Hid (∀ W, Below W1.heap.size W1 W → W.cell? ⟨wr.heap.size, 0, none⟩ = some (.int .i64 kd) ∧ W.cell? ⟨wr.heap.size, 1, none⟩ = some (.int .i64 (i : Int)) ∧ W.cell? ⟨wr.heap.size, 2, none⟩ = some (.int .i64 rn)) := Lib.hid (fun W hb => by
              have hh := HBX0.out.keep (Keep.of_grew hb Non) (fun h => h)
              exact ⟨hh.cell 0 (by simp), hh.cell 1 (by simp), hh.cell 2 (by simp)⟩)
            have HFR : Hid (∀ W, Below W1.heap.size W1 W → SliceI W (.slice ma i mc) (m.take i)) := Lib.hid (fun W hb => nums_front ((HN.out.own.slice.below HW1.out).below hb) (by omega))
            rcases h12 with rfl | rfl
            · have HRE : Hid (∀ W, Below W1.heap.size W1 W → SliceI W (.slice (Option.map (fun x : Addr => x.add i) ma) (m.length - i) (mc - i)) (m.drop i)) := Lib.hid (fun W hb => nums_rest ((HN.out.own.slice.below HW1.out).below hb) (by omega))
              have HNO : Hid (m.length ≤ i → ∀ W, Below W1.heap.size W1 W → ∀ a c, SliceI W (.slice a (m.length - i) c) (m.drop i)) := Lib.hid (fun h W hb a c => nums_none h)
              have HE : Hid (X = Ed.apply (m.take i ++ [rn] ++ m.drop i) (acs.drop (k + 1))) := Lib.hid (by rw [HST.out]; unfold Ed.one; rw [if_pos ⟨rfl, by simp, by simp; omega⟩]; simp)
              have y0 := HBX.out _ (Below.refl _ _)
              by_cases hci : mc = i
              · obtain rfl : i = mc := hci.symm
                have hci2 : m.length = i := by omega
                have HNZ : Hid (∀ W, Below W1.heap.size W1 W → ∀ a c, SliceI W (.slice a 0 c) (m.drop i)) := Lib.hid (fun W hb a c => by have := HNO.out (by omega) W hb a c; rwa [hci2, Nat.sub_self] at this)
                go_wp2_with (at_builtin; first
                   | (refine wp_append_nums rfl (.tmp 55) (.tmp 59) rfl (.slice none 0 0) [] rfl (OwnI.nil _) _ (m.take i) rfl (HFR.out _ (Below.refl _ _)) (by have := HML.out; simp; omega) ?_
                      intro v1 w1 ho1 hk1 hn1
                      have H1 : Hid (NewI W1 w1 v1 (m.take i)) := Lib.hid ((show NewI W1 W1 (.slice none 0 0) [] from ⟨OwnI.nil _, fun g hg => (by cases hg), Below.refl _ _⟩).more ho1 hk1 hn1)
                      have y1 := HBX.out _ H1.out.bel
                      clear ho1 hk1 hn1)
                   | (refine wp_append_num rfl (.tmp 64) (.tmp 67) rfl v1 (m.take i) rn rfl rfl H1.out.own (by have := HML.out; rw [List.length_take]; omega) ?_
                      intro v2 w2 ho2 hk2 hn2
                      have H2 : Hid (NewI W1 w2 v2 (m.take i ++ [rn])) := Lib.hid (H1.out.more ho2 hk2 hn2)
                      have y2 := HBX.out _ H2.out.bel
                      clear ho2 hk2 hn2)
                   | (refine wp_append_nums rfl (.tmp 69) (.tmp 73) rfl v2 (m.take i ++ [rn]) rfl H2.out.own _ (m.drop i) rfl (by first | exact HRE.out _ H2.out.bel | exact HNZ.out _ H2.out.bel _ _ | exact HNO.out (by omega) _ H2.out.bel _ _) (by have := HML.out; simp; omega) ?_
                      intro v3 w3 ho3 hk3 hn3
                      have H3 : Hid (NewI W1 w3 v3 (m.take i ++ [rn] ++ m.drop i)) := Lib.hid (H2.out.more ho3 hk3 hn3)
                      clear ho3 hk3 hn3))
                go_roundw
                case rel => exact ⟨k + 1, m.take i ++ [rn] ++ m.drop i, by have := HLT.out; omega, by go_num, ⟨H3.out.own, fun g hg => Nat.le_trans (Nat.le_trans HN.out.bel.size HW1.out.size) (H3.out.far g hg), grew HBN.out (H3.out.bel.mono (Nat.le_refl _))⟩, by have := HMK.out; simp; omega, HE.out.symm⟩
                case measure => simp [intOf]; have := HLT.out; omega
              · have hci3 : ¬ ((mc : Int) = (i : Int)) := by omega
                go_wp2_with (at_builtin; first
                   | (refine wp_append_nums rfl (.tmp 55) (.tmp 59) rfl (.slice none 0 0) [] rfl (OwnI.nil _) _ (m.take i) rfl (HFR.out _ (Below.refl _ _)) (by have := HML.out; simp; omega) ?_
                      intro v1 w1 ho1 hk1 hn1
                      have H1 : Hid (NewI W1 w1 v1 (m.take i)) := Lib.hid ((show NewI W1 W1 (.slice none 0 0) [] from ⟨OwnI.nil _, fun g hg => (by cases hg), Below.refl _ _⟩).more ho1 hk1 hn1)
                      have y1 := HBX.out _ H1.out.bel
                      clear ho1 hk1 hn1)
                   | (refine wp_append_num rfl (.tmp 64) (.tmp 67) rfl v1 (m.take i) rn rfl rfl H1.out.own (by have := HML.out; rw [List.length_take]; omega) ?_
                      intro v2 w2 ho2 hk2 hn2
                      have H2 : Hid (NewI W1 w2 v2 (m.take i ++ [rn])) := Lib.hid (H1.out.more ho2 hk2 hn2)
                      have y2 := HBX.out _ H2.out.bel
                      clear ho2 hk2 hn2)
                   | (refine wp_append_nums rfl (.tmp 69) (.tmp 73) rfl v2 (m.take i ++ [rn]) rfl H2.out.own _ (m.drop i) rfl (by first | exact HRE.out _ H2.out.bel | exact HNZ.out _ H2.out.bel _ _ | exact HNO.out (by omega) _ H2.out.bel _ _) (by have := HML.out; simp; omega) ?_
                      intro v3 w3 ho3 hk3 hn3
                      have H3 : Hid (NewI W1 w3 v3 (m.take i ++ [rn] ++ m.drop i)) := Lib.hid (H2.out.more ho3 hk3 hn3)
                      clear ho3 hk3 hn3))
                go_roundw
                case rel => exact ⟨k + 1, m.take i ++ [rn] ++ m.drop i, by have := HLT.out; omega, by go_num, ⟨H3.out.own, fun g hg => Nat.le_trans (Nat.le_trans HN.out.bel.size HW1.out.size) (H3.out.far g hg), grew HBN.out (H3.out.bel.mono (Nat.le_refl _))⟩, by have := HMK.out; simp; omega, HE.out.symm⟩
                case measure => simp [intOf]; have := HLT.out; omega
            · by_cases hil : m.length = i
              · have HE : Hid (X = none) := Lib.hid (by rw [HST.out]; unfold Ed.one; rw [if_neg (by simp), if_neg (by simp; omega)]; rfl)
                have t1 : ((i : Int) == (m.length : Int)) = true := by rw [beq_iff_eq]; omega
                have t2 : decide ((i : Int) = (m.length : Int)) = true := decide_eq_true (by omega)
                have y0 := HBX.out _ (Below.refl _ _)
                clear hmc v1 v2 v3 v4 hil
                go_wp2
                go_ret2
                exact ⟨_, by rw [HE.out]; rfl, by rw [HE.out]; exact SliceI.none _, (by intro g hg; cases hg), HBN.out⟩
              have t1 : ((i : Int) == (m.length : Int)) = false := by rw [beq_eq_false_iff_ne]; omega
              have t2 : decide ((i : Int) = (m.length : Int)) = false := decide_eq_false (by omega)
              have t3 : (i : Int) + 1 ≤ (m.length : Int) := by omega
              have t4 : wrap64 ((i : Int) + 1) = (i : Int) + 1 := IntWalk.wrap64_in _ ⟨by omega, by have := HML.out; omega⟩
              have t5 : IntKind.i64.wrap ((i : Int) + 1) = (i : Int) + 1 := IntWalk.i64_in _ ⟨by omega, by have := HML.out; omega⟩
              have t6 : ((i : Int) + 1).toNat = i + 1 := by omega
              have HRE : Hid (∀ W, Below W1.heap.size W1 W → SliceI W (.slice (Option.map (fun x : Addr => x.add (i + 1)) ma) (m.length - (i + 1)) (mc - (i + 1))) (m.drop (i + 1))) := Lib.hid (fun W hb => nums_rest ((HN.out.own.slice.below HW1.out).below hb) (by omega))
              have HNO : Hid (m.length ≤ i + 1 → ∀ W, Below W1.heap.size W1 W → ∀ a c, SliceI W (.slice a (m.length - (i + 1)) c) (m.drop (i + 1))) := Lib.hid (fun h W hb a c => nums_none h)
              have HE : Hid (X = Ed.apply (m.take i ++ m.drop (i + 1)) (acs.drop (k + 1))) := Lib.hid (by rw [HST.out]; unfold Ed.one; rw [if_neg (by simp), if_pos ⟨rfl, by simp, by simp; omega⟩]; simp)
              have y0 := HBX.out _ (Below.refl _ _)
              by_cases hci : mc = i + 1
              · subst hci
                have hci2 : m.length = i + 1 := by omega
                have z1 : ((i : Int) == (i : Int) + 1) = false := by rw [beq_eq_false_iff_ne]; omega
                have z2 : decide ((i : Int) = (i : Int) + 1) = false := decide_eq_false (by omega)
                have HNZ : Hid (∀ W, Below W1.heap.size W1 W → ∀ a c, SliceI W (.slice a 0 c) (m.drop (i + 1))) := Lib.hid (fun W hb a c => by have := HNO.out (by omega) W hb a c; rwa [hci2, Nat.sub_self] at this)
                go_wp2_with (at_builtin; first
                   | (refine wp_append_nums rfl (.tmp 55) (.tmp 59) rfl (.slice none 0 0) [] rfl (OwnI.nil _) _ (m.take i) rfl (HFR.out _ (Below.refl _ _)) (by have := HML.out; simp; omega) ?_
                      intro v1 w1 ho1 hk1 hn1
                      have H1 : Hid (NewI W1 w1 v1 (m.take i)) := Lib.hid ((show NewI W1 W1 (.slice none 0 0) [] from ⟨OwnI.nil _, fun g hg => (by cases hg), Below.refl _ _⟩).more ho1 hk1 hn1)
                      have y1 := HBX.out _ H1.out.bel
                      clear ho1 hk1 hn1)
                   | (refine wp_append_nums rfl (.tmp 75) (.tmp 80) rfl v1 (m.take i) rfl H1.out.own _ (m.drop (i + 1)) rfl (by first | exact HRE.out _ H1.out.bel | exact HNZ.out _ H1.out.bel _ _) (by have := HML.out; simp; omega) ?_
                      intro v3 w3 ho3 hk3 hn3
                      have H3 : Hid (NewI W1 w3 v3 (m.take i ++ m.drop (i + 1))) := Lib.hid (H1.out.more ho3 hk3 hn3)
                      clear ho3 hk3 hn3))
                go_roundw
                case rel => exact ⟨k + 1, m.take i ++ m.drop (i + 1), by have := HLT.out; omega, by go_num, ⟨H3.out.own, fun g hg => Nat.le_trans (Nat.le_trans HN.out.bel.size HW1.out.size) (H3.out.far g hg), grew HBN.out (H3.out.bel.mono (Nat.le_refl _))⟩, by have := HMK.out; simp; omega, HE.out.symm⟩
                case measure => simp [intOf]; have := HLT.out; omega
              · have hci3 : ¬ ((mc : Int) = (i : Int) + 1) := by omega
                go_wp2_with (at_builtin; first
                   | (refine wp_append_nums rfl (.tmp 55) (.tmp 59) rfl (.slice none 0 0) [] rfl (OwnI.nil _) _ (m.take i) rfl (HFR.out _ (Below.refl _ _)) (by have := HML.out; simp; omega) ?_
                      intro v1 w1 ho1 hk1 hn1
                      have H1 : Hid (NewI W1 w1 v1 (m.take i)) := Lib.hid ((show NewI W1 W1 (.slice none 0 0) [] from ⟨OwnI.nil _, fun g hg => (by cases hg), Below.refl _ _⟩).more ho1 hk1 hn1)
                      have y1 := HBX.out _ H1.out.bel
                      clear ho1 hk1 hn1)
                   | (refine wp_append_nums rfl (.tmp 75) (.tmp 80) rfl v1 (m.take i) rfl H1.out.own _ (m.drop (i + 1)) rfl (by first | exact HRE.out _ H1.out.bel | exact HNZ.out _ H1.out.bel _ _) (by have := HML.out; simp; omega) ?_
                      intro v3 w3 ho3 hk3 hn3
                      have H3 : Hid (NewI W1 w3 v3 (m.take i ++ m.drop (i + 1))) := Lib.hid (H1.out.more ho3 hk3 hn3)
                      clear ho3 hk3 hn3))
                go_roundw
                case rel => exact ⟨k + 1, m.take i ++ m.drop (i + 1), by have := HLT.out; omega, by go_num, ⟨H3.out.own, fun g hg => Nat.le_trans (Nat.le_trans HN.out.bel.size HW1.out.size) (H3.out.far g hg), grew HBN.out (H3.out.bel.mono (Nat.le_refl _))⟩, by have := HMK.out; simp; omega, HE.out.symm⟩
                case measure => simp [intOf]; have := HLT.out; omega
      · have HE : Hid (X = none) := Lib.hid (by rw [HST.out]; unfold Ed.one; rw [if_neg (by simp; omega), if_neg (by simp; omega)]; rfl)
        have u1 : (kd == 1) = false := beq_eq_false_iff_ne.2 (by omega)
        have u2 : (kd == 2) = false := beq_eq_false_iff_ne.2 (by omega)
        have u3 : decide (kd = 1) = false := decide_eq_false (by omega)
        have u4 : decide (kd = 2) = false := decide_eq_false (by omega)
        go_wp2
        go_ret2
        exact ⟨_, by rw [HE.out]; rfl, by rw [HE.out]; exact SliceI.none _, (by intro g hg; cases hg), HBN.out⟩
    · have d1 : decide ((k : Int) < (acs.length : Int)) = false := decide_eq_false (by omega)
      have dn : decide (k < acs.length) = false := decide_eq_false hlt
      have HE : Hid (X = some m) := Lib.hid (by rw [← HAP.out, List.drop_eq_nil_of_le (by omega), Ed.apply])
      clear hlt
      go_wp2
      go_ret2
      exact ⟨_, by rw [HE.out]; rfl, by rw [HE.out]; exact HN.out.own.slice, HN.out.far, HN.out.bel⟩
end Go.Proofs.Ytakjoodlediemaa
