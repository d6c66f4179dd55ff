/- What duetref04.Decode comes to; the walk of MesgReads. -/
import Derived.Test.YtohlnhnelkoakaaMesgRef8
import Derived.Test.YtohlnhnelkoakaaMesgRef9
import Derived.Test.YtohlnhnelkoakaaMesgRef10
import Derived.Test.YtohlnhnelkoakaaMesgRef11
import Derived.Test.YtohlnhnelkoakaaMesgLive
import Derived.Test.YtohlnhnelkoakaaMesgMath5
import Derived.Test.YtohlnhnelkoakaaMesgSame
namespace Go.Proofs.Ytohlnhnelkoakaa
open Go.RowKit
open Mesg (Sim)
set_option linter.unusedVariables false

theorem rnum_err {l t : List UInt8} {e n e2 : Nat} (q : rnum l e = (n, t, e2)) (he : e ≠ 0) : e2 = e := by
  rw [rnum_bad he] at q
  simp only [Prod.mk.injEq] at q
  exact q.2.2.symm
theorem rid2_err {l t : List UInt8} {e e2 : Nat} {x : Mesg.Id} (q : rid2 l e = (x, t, e2)) (he : e ≠ 0) : e2 = e := by
  rw [rid2_bad he] at q
  simp only [Prod.mk.injEq] at q
  exact q.2.2.symm

theorem sim_head {β : Type} {s l1 l2 : List UInt8} {a b e1 e2 : Nat} (q1 : rnum s 0 = (a, l1, e1)) (q2 : rnum l1 e1 = (b, l2, e2)) {F : Int → Int → List UInt8 → Mesg.Got β} {y : β} {l' : List UInt8} {e' : Nat}
    (h0 : e2 = 0 → Sim (F (a : Int) (b : Int) l2) y l' e') (h1 : e2 ≠ 0 → e' = e2) : Sim ((Mesg.num s).on fun a l1 => (Mesg.num l1).on fun b l2 => F a b l2) y l' e' := by
  refine (sim_num s q1).on (fun h => ?_) (fun h => ?_)
  · subst h
    exact (sim_num l1 q2).on h0 h1
  · have := rnum_err q2 h
    rw [h1 (by rw [this]; exact h), this]

theorem sim_msg {s l1 l2 l3 : List UInt8} {a b e1 : Nat} {kn : List Nat} (q1 : rnum s 0 = (a, l1, e1)) (q2 : rnum l1 e1 = (b, l2, 0)) (q3 : Pack.each l2 = (kn, l3, 0)) {o : Mesg.Op} {l' : List UInt8} {e' : Nat} (h : Sim (Mesg.rop l3) o l' e') :
    Sim (Mesg.rmsg s) ⟨(a : Int), (b : Int), natI kn, o⟩ l' e' :=
  sim_head (β := Mesg.Msg) q1 q2 (F := fun a b l2 => (Mesg.list l2).on fun kn l3 => (Mesg.rop l3).on fun o l4 => .ok (Mesg.Msg.mk a b kn o) l4)
    (fun _ => (sim_list l2 q3).on (fun _ => h.on (fun h => .inl ⟨h, rfl⟩) (fun _ => rfl)) (fun h => absurd rfl h)) (fun h => absurd rfl h)

theorem sim_out {l3 l4 : List UInt8} {k : Nat} (q4 : rnum l3 0 = (k, l4, 0)) (h : (k : Int) < 1 ∨ 8 < (k : Int)) (o : Mesg.Op) (l : List UInt8) : Sim (Mesg.rop l3) o l 2 := by
  unfold Mesg.rop
  refine (sim_num l3 q4).on (fun _ => ?_) (fun h => absurd rfl h)
  rw [if_pos h]
  exact .inr ⟨by decide, rfl⟩

theorem sim_one {l3 l4 l5 l6 l7 l8 : List UInt8} {ep u e5 e6 e7 e8 : Nat} {x y : Mesg.Id} (q4 : rnum l3 0 = (1, l4, 0)) (q5 : rnum l4 0 = (ep, l5, e5)) (q6 : rid2 l5 e5 = (x, l6, e6)) (q7 : rid2 l6 e6 = (y, l7, e7)) (q8 : rnum l7 e7 = (u, l8, e8)) :
    Sim (Mesg.rop l3) ⟨1, (ep : Int), x, y, (u : Int)⟩ l8 e8 := by
  have h4 : Sim (Mesg.num l3) (1 : Int) l4 0 := sim_num l3 q4
  have i2 : ∀ l, Mesg.idIf (decide ((1 : Int) ≠ 6)) l = Mesg.rid l := fun l => by simp [Mesg.idIf]
  unfold Mesg.rop
  refine h4.on (fun _ => ?_) (fun h => absurd rfl h)
  rw [if_neg (by omega)]
  simp only [i2]
  refine (sim_num l4 q5).on (fun h => ?_) (fun h => ?_)
  · subst h
    refine (sim_rid l5 q6).on (fun h => ?_) (fun h => ?_)
    · subst h
      refine (sim_rid l6 q7).on (fun h => ?_) (fun h => rnum_err q8 h)
      subst h
      exact (sim_num l7 q8).on (fun h => .inl ⟨h, rfl⟩) (fun _ => rfl)
    · have h7 := rid2_err q7 h
      rw [rnum_err q8 (by rw [h7]; exact h), h7]
  · have h6 := rid2_err q6 h
    have h7 := rid2_err q7 (by rw [h6]; exact h)
    rw [rnum_err q8 (by rw [h7, h6]; exact h), h7, h6]

theorem sim_six {l3 l4 l5 l6 : List UInt8} {ep e5 e6 : Nat} {x : Mesg.Id} (q4 : rnum l3 0 = (6, l4, 0)) (q5 : rnum l4 0 = (ep, l5, e5)) (q6 : rid2 l5 e5 = (x, l6, e6)) :
    Sim (Mesg.rop l3) ⟨6, (ep : Int), x, ⟨0, 0⟩, 0⟩ l6 e6 := by
  have h4 : Sim (Mesg.num l3) (6 : Int) l4 0 := sim_num l3 q4
  have i2 : ∀ l, Mesg.idIf (decide ((6 : Int) ≠ 6)) l = .ok ⟨0, 0⟩ l := fun l => by simp [Mesg.idIf, Mesg.zero]
  have i3 : ∀ l, Mesg.numIf (decide ((6 : Int) = 1)) l = .ok 0 l := fun l => by simp [Mesg.numIf]
  unfold Mesg.rop
  refine h4.on (fun _ => ?_) (fun h => absurd rfl h)
  rw [if_neg (by omega)]
  simp only [i2, i3]
  refine (sim_num l4 q5).on (fun h => ?_) (fun h => rid2_err q6 h)
  subst h
  exact (sim_rid l5 q6).on (fun h => .inl ⟨h, rfl⟩) (fun _ => rfl)

theorem sim_other {l3 l4 l5 l6 : List UInt8} {k ep e5 e6 : Nat} {y : Mesg.Id} {z : Int} (hz : (k : Int) = z) (h1 : 1 ≤ z) (h8 : z ≤ 8) (hz1 : z ≠ 1) (hz6 : z ≠ 6) (q4 : rnum l3 0 = (k, l4, 0)) (q5 : rnum l4 0 = (ep, l5, e5)) (q6 : rid2 l5 e5 = (y, l6, e6)) :
    Sim (Mesg.rop l3) ⟨z, (ep : Int), ⟨0, 0⟩, y, 0⟩ l6 e6 := by
  have h4 : Sim (Mesg.num l3) z l4 0 := by rw [← hz]; exact sim_num l3 q4
  have i1 : ∀ l, Mesg.idIf (decide (z = 1 ∨ z = 6)) l = .ok ⟨0, 0⟩ l := fun l => by simp [Mesg.idIf, Mesg.zero, hz1, hz6]
  have i2 : ∀ l, Mesg.idIf (decide (z ≠ 6)) l = Mesg.rid l := fun l => by simp [Mesg.idIf, hz6]
  have i3 : ∀ l, Mesg.numIf (decide (z = 1)) l = .ok 0 l := fun l => by simp [Mesg.numIf, hz1]
  unfold Mesg.rop
  refine h4.on (fun _ => ?_) (fun h => absurd rfl h)
  rw [if_neg (by omega)]
  simp only [i1, i2, i3]
  refine (sim_num l4 q5).on (fun h => ?_) (fun h => rid2_err q6 h)
  subst h
  exact (sim_rid l5 q6).on (fun h => .inl ⟨h, rfl⟩) (fun _ => rfl)

theorem ref04_Decode (s : ByteArray) (w : World) (hs : s.size ≤ 1000000) :
    Calls Try.prog 19 #[.string s] w fun e w' => decV (Mesg.decode s.data.toList) w' e ∧ Below w.heap.size w w' := by
  obtain ⟨a, l1, e1, q1⟩ : ∃ n t e, rnum s.data.toList 0 = (n, t, e) := ⟨_, _, _, rfl⟩
  obtain ⟨b, l2, e2, q2⟩ : ∃ n t e, rnum l1 e1 = (n, t, e) := ⟨_, _, _, rfl⟩
  have bad : ∀ {m : Mesg.Msg} {l : List UInt8} {e : Nat}, e ≠ 0 → Mesg.endR m l e = .error e := fun h => by unfold Mesg.endR; rw [if_pos h]
  by_cases h2 : e2 = 0
  · subst h2
    obtain ⟨kn, l3, e3, q3⟩ : ∃ n t e, Pack.each l2 = (n, t, e) := ⟨_, _, _, rfl⟩
    by_cases h3 : e3 = 0
    · subst h3
      obtain ⟨k, l4, e4, q4⟩ : ∃ n t e, rnum l3 0 = (n, t, e) := ⟨_, _, _, rfl⟩
      by_cases h4 : e4 = 0
      · subst h4
        by_cases hk1 : (k : Int) < 1
        · rw [Mesg.decode_end (sim_msg q1 q2 q3 (sim_out q4 (.inl hk1) Mesg.noOp l4)), bad (by decide)]
          exact rdec_3a s a b l1 l2 e1 w hs q1 q2 kn l3 q3 l4 _ k rfl q4 hk1
        · by_cases hk8 : 8 < (k : Int)
          · rw [Mesg.decode_end (sim_msg q1 q2 q3 (sim_out q4 (.inr hk8) Mesg.noOp l4)), bad (by decide)]
            exact rdec_3b s a b l1 l2 e1 w hs q1 q2 kn l3 q3 l4 _ k rfl q4 hk8
          · obtain ⟨ep, l5, e5, q5⟩ : ∃ n t e, rnum l4 0 = (n, t, e) := ⟨_, _, _, rfl⟩
            obtain ⟨x, l6, e6, q6⟩ : ∃ n t e, rid2 l5 e5 = (n, t, e) := ⟨_, _, _, rfl⟩
            by_cases hz1 : k = 1
            · subst hz1
              obtain ⟨y, l7, e7, q7⟩ : ∃ n t e, rid2 l6 e6 = (n, t, e) := ⟨_, _, _, rfl⟩
              obtain ⟨u, l8, e8, q8⟩ : ∃ n t e, rnum l7 e7 = (n, t, e) := ⟨_, _, _, rfl⟩
              rw [Mesg.decode_end (sim_msg q1 q2 q3 (sim_one q4 q5 q6 q7 q8))]
              exact rdec_4 s a b l1 l2 e1 w hs q1 q2 kn l3 q3 l4 q4 ep l5 e5 q5 x l6 e6 q6 y l7 e7 q7 u l8 e8 q8
            · by_cases hz6 : k = 6
              · subst hz6
                rw [Mesg.decode_end (sim_msg q1 q2 q3 (sim_six q4 q5 q6))]
                exact rdec_5 s a b l1 l2 e1 w hs q1 q2 kn l3 q3 l4 q4 ep l5 e5 q5 x l6 e6 q6
              · rw [Mesg.decode_end (sim_msg q1 q2 q3 (sim_other rfl (by omega) (by omega) (by omega) (by omega) q4 q5 q6))]
                exact rdec_6 s a b l1 l2 e1 w hs q1 q2 kn l3 q3 l4 _ k rfl (by omega) (by omega) (by omega) (by omega) q4 ep l5 e5 q5 x l6 e6 q6
      · obtain rfl := rnum_zero q4 h4
        have hr : Sim (Mesg.rop l3) Mesg.noOp l4 e4 := by
          unfold Mesg.rop
          exact (sim_num l3 q4).on (fun h => absurd h h4) (fun _ => rfl)
        rw [Mesg.decode_end (sim_msg q1 q2 q3 hr), bad h4]
        exact rdec_2 s a b l1 l2 e1 w hs q1 q2 kn l3 q3 l4 e4 q4 h4
    · have hr : Sim (Mesg.rmsg s.data.toList) Mesg.none l3 e3 :=
        sim_head (β := Mesg.Msg) q1 q2 (F := fun a b l2 => (Mesg.list l2).on fun kn l3 => (Mesg.rop l3).on fun o l4 => .ok (Mesg.Msg.mk a b kn o) l4)
          (fun _ => (sim_list l2 q3).on (fun h => absurd h h3) (fun _ => rfl)) (fun h => absurd rfl h)
      rw [Mesg.decode_end hr, bad h3]
      exact rdec_1 s a b l1 l2 e1 w hs q1 q2 kn l3 e3 q3 h3
  · have hr : Sim (Mesg.rmsg s.data.toList) Mesg.none l2 e2 :=
      sim_head (β := Mesg.Msg) q1 q2 (F := fun a b l2 => (Mesg.list l2).on fun kn l3 => (Mesg.rop l3).on fun o l4 => .ok (Mesg.Msg.mk a b kn o) l4)
        (fun h => absurd h h2) (fun _ => rfl)
    rw [Mesg.decode_end hr, bad h2]
    exact rdec_0 s a b l1 l2 e1 w hs q1 e2 q2 h2

theorem decV_cases {r : Mesg.Got Mesg.Msg} {w : World} {e : Ending} (h : decV r w e) (hr : ∀ m l, r = .ok m l → m.know.length ≤ 1000000000) : ∃ (m : Mesg.Msg) (v : Value) (n : Int), e = .returned (.tuple #[msgV m v, .int .i64 n]) ∧ SliceI w v m.know ∧ m.know.length ≤ 1000000000 ∧ ((∃ l, r = .ok m l ∧ n = 0) ∨ ∃ k : Nat, r = .error k ∧ n = k ∧ m = Mesg.none) := by
  cases r with
  | ok m l =>
    obtain ⟨v, h1, h2⟩ := h
    exact ⟨m, v, 0, h1, h2, hr m l rfl, .inl ⟨l, rfl, rfl⟩⟩
  | error k => exact ⟨Mesg.none, .slice none 0 0, k, h, SliceI.none _, by decide, .inr ⟨k, rfl, rfl, rfl⟩⟩

set_option maxRecDepth 100000 in
set_option maxHeartbeats 4000000 in
theorem walk_MesgReads (s : ByteArray) (w : World) (hs : s.size ≤ maxLen) :
    Calls Try.prog 4 #[.string s] w fun e w' => e = .returned (.bool true) ∧ Below w.heap.size w w' := by
  unfold maxLen at hs
  by_cases h3 : 3000 < s.size
  · have hd : decide ((3000 : Int) < (s.size : Int)) = true := decide_eq_true (by omega)
    clear h3
    go_enter Try.func4, Try.ntmps4
    go_wp2_with fail
    refine (law04_live _).mono ?_
    rintro e w1 ⟨rfl, hb⟩
    go_wp2
    go_ret
    exact ⟨rfl, hb⟩
  · have hd : decide ((3000 : Int) < (s.size : Int)) = false := decide_eq_false (by omega)
    have h4 : s.size ≤ 3000 := by omega
    have HLEN : Hid (∀ m l, Mesg.decode s.data.toList = .ok m l → m.know.length ≤ 1000000000) := Lib.hid (fun m l h => by
      have := (Mesg.may_head (Mesg.decode_back h).1).2.1
      omega)
    clear h3
    go_enter Try.func4, Try.ntmps4
    go_wp2_with fail
    refine (mesg_Decode s _ (by omega)).mono ?_
    rintro e w1 ⟨he, hb1⟩
    obtain ⟨m, v, n, rfl, hv, hl, hc⟩ := decV_cases he HLEN.out
    have HV := Lib.hid hv
    have HC := Lib.hid hc
    obtain ⟨va, vc, rfl⟩ := hv.shape
    clear he hv hc
    have hb2 := grew_alloc w1 (.cells (msgL m (.slice va m.know.length vc)).toArray 28)
    have HM := Lib.hid (Holds.new w1 (msgL m (.slice va m.know.length vc)) 28)
    have HV := Lib.hid (HV.out.below hb2)
    have HB := Lib.hid (grew hb1 hb2)
    clear hb1 hb2
    unfold msgV
    go_wp2_with fail
    refine (ref04_Decode s _ (by omega)).mono ?_
    rintro e w3 ⟨he, hb3⟩
    obtain ⟨m2, v2, n2, rfl, hv2, hl2, hc2⟩ := decV_cases he HLEN.out
    have hsame : m2 = m ∧ n2 = n := by
      rcases HC.out with ⟨l, h1, h2⟩ | ⟨k, h1, h2, h3⟩
      · rcases hc2 with ⟨l', h4, h5⟩ | ⟨k', h4, _⟩
        · rw [h1] at h4; injection h4 with h6 h7; exact ⟨h6.symm, by rw [h2, h5]⟩
        · rw [h1] at h4; cases h4
      · rcases hc2 with ⟨l', h4, h5⟩ | ⟨k', h4, h5, h6⟩
        · rw [h1] at h4; cases h4
        · rw [h1] at h4; injection h4 with h7; exact ⟨by rw [h3, h6], by rw [h2, h5, h7]⟩
    obtain ⟨rfl, rfl⟩ := hsame
    have HV2 := Lib.hid hv2
    obtain ⟨ua, uc, rfl⟩ := hv2.shape
    clear he hv2 hc2
    have hb4 := grew_alloc w3 (.cells (msgL m2 (.slice ua m2.know.length uc)).toArray 28)
    have HM2 := Lib.hid (Holds.new w3 (msgL m2 (.slice ua m2.know.length uc)) 28)
    have HM := Lib.hid ((HM.out.keep (Keep.of_grew hb3 Non) (fun h => h)).keep (Keep.of_grew hb4 Non) (fun h => h))
    have HV := Lib.hid ((HV.out.below hb3).below hb4)
    have HV2 := Lib.hid (HV2.out.below hb4)
    have HB := Lib.hid (grew HB.out (grew hb3 hb4))
    clear hb3 hb4
    obtain ⟨⟨d0, d1, d2⟩, d3, d4, d5, d6, d7, d8, d9⟩ := msg_cells HM.out
    obtain ⟨⟨c0, c1, c2⟩, c3, c4, c5, c6, c7, c8, c9⟩ := msg_cells HM2.out
    unfold msgL at d0 d1 d2 d3 d4 d5 d6 d7 d8 d9 c0 c1 c2 c3 c4 c5 c6 c7 c8 c9
    unfold msgV
    go_wp2_with fail
    refine (ref04_Same m2 m2 (.slice va m2.know.length vc) (.slice ua m2.know.length uc) _ HV.out HV2.out hl2 hl2).mono ?_
    rintro e w5 ⟨rfl, hb5⟩
    clear d0 d1 d2 d3 d4 d5 d6 d7 d8 d9 c0 c1 c2 c3 c4 c5 c6 c7 c8 c9
    rw [show decide (m2 = m2) = true from by simp]
    go_wp2_with fail
    refine (law04_live _).mono ?_
    rintro e w6 ⟨rfl, hb6⟩
    go_wp2
    go_ret
    exact ⟨rfl, grew HB.out (grew hb5 hb6)⟩
end Go.Proofs.Ytohlnhnelkoakaa
