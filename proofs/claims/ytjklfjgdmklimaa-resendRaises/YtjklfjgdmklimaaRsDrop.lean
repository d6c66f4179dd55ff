/- What Drop of resend comes to. -/
import Derived.Test.YtjklfjgdmklimaaRsGet
import Derived.Test.YtjklfjgdmklimaaVecChk
import Derived.StillTailTactics
namespace Go.Proofs.Ytjklfjgdmklimaa
open Go.RowKit Go.Maps
set_option linter.unusedVariables false

/-- What is left on the way: those that are to come, and those that are not covered. -/
def onWay (v : List Int) (left : Lit → Bool) (es : List Ent) : List Ent := es.filter fun x => left (kl x.m.site x.m.seq) || !Vecs.covers v x.m.site x.m.seq

theorem onWay_start {D : DataW Unit} {es : List Ent} (h : Reads D es) (v : List Int) : onWay v (Maps.has D) es = es := List.filter_eq_self.2 (fun x hx => by rw [(h.yes x hx).1]; rfl)
theorem onWay_end (v : List Int) {left : Lit → Bool} (h : ∀ k, left k = false) (es : List Ent) : (onWay v left es).map Ent.m = Resend.left v (es.map Ent.m) := by
  unfold onWay Resend.left
  rw [List.filter_map]
  congr 1
  apply List.filter_congr
  intro x _
  simp [h]
theorem onWay_stays {k : TypeId} (K : PairKey k) (v : List Int) (left : Lit → Bool) (es : List Ent) (hok : ∀ x ∈ es, x.ok) {a b : Int} (ha : I64 a) (hb : I64 b) (hc : Vecs.covers v a b = false) : onWay v (fun z => left z && !z.sameKey (kl a b)) es = onWay v left es := by
  apply List.filter_congr
  intro x hx
  by_cases e : kl x.m.site x.m.seq = kl a b
  · obtain ⟨e1, e2⟩ := K.inj (hok x hx).1 (hok x hx).2 ha hb e
    rw [e1, e2, hc]
    simp
  · simp only [Maps.sameKey_ne e]
    simp
theorem onWay_struck {k : TypeId} (K : PairKey k) (v : List Int) (left : Lit → Bool) (es : List Ent) (hok : ∀ x ∈ es, x.ok) {a b : Int} (ha : I64 a) (hb : I64 b) (hc : Vecs.covers v a b = true) : onWay v (fun z => left z && !z.sameKey (kl a b)) es = but (onWay v left es) (a, b) := by
  unfold onWay but
  rw [List.filter_filter]
  apply List.filter_congr
  intro x hx
  by_cases e : kl x.m.site x.m.seq = kl a b
  · obtain ⟨e1, e2⟩ := K.inj (hok x hx).1 (hok x hx).2 ha hb e
    simp only [e1, e2, hc, WideAt.sameKey_self (K.is ha hb)]
    simp [Mesg.Msg.key, e1, e2]
  · have hne : Mesg.Msg.key x.m ≠ (a, b) := fun h => e (by
      have h1 : x.m.site = a := congrArg Prod.fst h
      have h2 : x.m.seq = b := congrArg Prod.snd h
      rw [h1, h2])
    simp only [Maps.sameKey_ne e]
    simp [hne]

/-- A list of numbers lies in no map. -/
theorem SliceI.no_map {w : World} {v : Value} {zs : List Int} (h : SliceI w v zs) (h1 : 1 ≤ zs.length) {k : TypeId} {R : Value → Option (DataW Unit × List MemPlace)} {mp n : Nat} {D : DataW Unit} (hm : w.ownsMap Try.prog k R mp n D) : ∀ g, v.ownBlock = some g → ¬ Just mp g := by
  intro g hg e
  have e : g = mp := e
  subst e
  obtain ⟨a, cap, rfl, _, h⟩ := h
  rcases h with h | ⟨b, off, rfl, hlt, hc⟩
  · rw [h] at h1; simp at h1
  · have : b = g := Option.some.inj hg
    subst this
    have := hc 0 (by omega)
    obtain ⟨es, clock, hb, _⟩ := hm
    simp [World.cell?, hb] at this

theorem ranges_drew {w : World} {k : TypeId} {R : Value → Option (DataW Unit × List MemPlace)} {b r n : Nat} {D : DataW Unit} {left : Lit → Bool} {cnt : Nat} (h : w.ranges Try.prog k R b r n D left cnt) : w.drew.ranges Try.prog k R b r n D left cnt := h

/-- Where the loop stands. -/
structure Way (w : World) (mp : Nat) (es : List Ent) (v : List Int) (left : Lit → Bool) (cnt : Nat) (d : Int) (wr : World) : Prop where
  rg : ∃ D, wr.ranges Try.prog 64 msgElem mp w.heap.size es.length D left cnt ∧ Reads D (onWay v left es)
  num : d = (es.length : Int) - (onWay v left es).length
  keep : Keep (Just mp) w wr

theorem StoreW.thin {w wr : World} {F : Nat → Prop} {p : Nat} {s : Resend.St} {mp : Nat} {S : Nat → Prop} {es : List Ent} {v : List Int} (h : StoreW w F p s mp S es) {left : Lit → Bool} {cnt : Nat} {d : Int} (hw : Way w mp es v left cnt d wr) (hl : ∀ k, left k = false)
    (hok : Resend.Ok { s with l := Resend.left v s.l }) : SStep w F p { s with l := Resend.left v s.l } wr := by
  obtain ⟨D, hr, hrd⟩ := hw.rg
  refine ⟨F, ⟨mp, S, onWay v left es, ⟨hok, h.box.keep hw.keep (fun e => h.pm e), ⟨⟨D, ?_, hrd⟩, fun x hx => ?_⟩, ?_, h.off, h.pm, h.inp, h.inm, h.ins, fun b hb => Nat.lt_of_lt_of_le (h.lt b hb) hw.keep.size⟩⟩, hw.keep.more (fun i _ e => by rw [show i = mp from e]; exact h.inm), NearS.refl _ _⟩
  · rw [← hrd.size]; exact ownsMap_tight hr.owns
  · have hx := (List.mem_filter.1 hx).1
    have hk := h.map.know x hx
    exact ⟨Ent.know_keep hk.1 hw.keep (fun e => (h.off _ hk.2).2 e), hk.2⟩
  · show _ = Resend.left v s.l
    rw [onWay_end v hl, h.is]

set_option maxRecDepth 100000 in
theorem resend_Drop_nil (v : Value) (w : World) :
    Calls Try.prog 45 #[.pointer none, v] w fun e w' => e = .returned (.tuple #[.int .i64 0, .int .i64 1]) ∧ w = w' := by
  go_enter Try.func45, Try.ntmps45
  go_wp2
  go_ret2
  exact ⟨rfl, rfl⟩

set_option maxRecDepth 100000 in
set_option maxHeartbeats 4000000 in
theorem resend_Drop {w : World} {F : Nat → Prop} {p : Nat} {s : Resend.St} (h0 : IsStore w F p s) (v : Value) (zs : List Int) (hv : SliceI w v zs) (hm : zs.length ≤ 1000000000) :
    Calls Try.prog 45 #[.pointer (some ⟨p, 0, none⟩), v] w fun e w' => e = .returned (.tuple #[.int .i64 (Resend.drop s zs).1, .int .i64 (Resend.drop s zs).2.1]) ∧ SStep w F p (Resend.drop s zs).2.2 w' := by
  have HC := Lib.hid (vec_Check v zs w hv (by unfold maxLen; omega))
  have HV := Lib.hid hv
  have HM : Hid (zs.length ≤ maxLen) := Lib.hid (by unfold maxLen; omega)
  have H0 := Lib.hid h0
  obtain ⟨mp, S, es, h⟩ := h0
  have HW := Lib.hid h
  have hst := h.ok.sites
  have s0 := h.box.cell 0 (by simp)
  have s2 := h.box.cell 2 (by simp)
  simp only [List.getElem_cons_succ, List.getElem_cons_zero] at s0 s2
  obtain ⟨va, vc, rfl⟩ := hv.shape
  clear hv h
  by_cases hmay : Vecs.may zs = true
  · have HE : Hid (chkN zs = 0) := Lib.hid (by unfold chkN; rw [hmay]; rfl)
    by_cases hlen : zs.length = s.sites
    · have hd : ((zs.length : Int) != (s.sites : Int)) = false := by rw [hlen]; simp
      have HR : Hid (Resend.drop s zs = ((s.l.length : Int) - (Resend.left zs s.l).length, 0, { s with l := Resend.left zs s.l })) := Lib.hid (by unfold Resend.drop; rw [if_pos ⟨hmay, hlen⟩])
      have HPM := Lib.hid HW.out.pm
      have HZ1 : Hid (1 ≤ zs.length) := Lib.hid (by omega)
      clear hmay hlen
      go_enter Try.func45, Try.ntmps45
      go_wp2_with fail
      refine HC.out.mono ?_
      rintro e _ ⟨rfl, rfl⟩
      rw [HE.out]
      obtain ⟨D, hD, hrd⟩ := HW.out.map.own
      have HRD := Lib.hid hrd
      go_wp2_with (first
        | (at_range; refine wpList_range_own _ rfl _ 85 rfl 64 40 ask_keyed ask_map msgElem mp es.length D rfl hD ?_; intro w0 hrg0 hg0 hs0)
        | go_in)
      go_frame
      have hway : Way w mp es zs (Maps.has D) (Maps.size D) 0 w0 := ⟨⟨D, hrg0, by rw [onWay_start HRD.out]; exact HRD.out⟩, by rw [onWay_start HRD.out]; simp, (Keep.of_grown hg0).more (fun i _ e => by cases e)⟩
      have HWAY := Lib.hid hway
      have HS0 := Lib.hid hs0
      clear hrg0 hg0 hs0 hway hD hrd
      go_loopw [6] (fun d wr => ∃ left cnt z, Way w mp es zs left cnt z wr ∧ d = .int .i64 z) (fun _ wr => wr.rangeLeft mp w.heap.size)
      case atStart => exact ⟨_, _, 0, HWAY.out, rfl⟩
      case round =>
        obtain ⟨left, cnt, z, hway, rfl⟩ := hrel
        have HWY := Lib.hid hway
        obtain ⟨D1, hrg, hrd⟩ := hway.rg
        have HRD1 := Lib.hid hrd
        have HRG := Lib.hid hrg
        clear hway hrd
        go_wp2_with (first
          | (at_next; refine wpList_next_ranges _ rfl _ rfl 64 ask_keyed msgElem keyV Head.enc (fun key kl h => (by obtain ⟨a, b, e, _⟩ := ask_key.inv key kl h; exact ⟨(a, b), e⟩)) (fun v y h => (by obtain ⟨x, e, _⟩ := msgElem_inv h; exact ⟨x, e⟩)) mp w.heap.size es.length D1 left cnt rfl hrg ?_ ?_)
          | go_in)
        · intro _ hl0
          go_wp2
          go_ret2
          have e1 : z = (s.l.length : Int) - (Resend.left zs s.l).length := by
            have := HWY.out.num
            rw [this, ← HW.out.is, ← onWay_end zs hl0 es]
            simp
          refine ⟨by rw [HR.out, e1]; rfl, ?_⟩
          rw [HR.out]
          have hok := HW.out.ok.drop zs
          rw [HR.out] at hok
          exact HW.out.thin HWY.out hl0 hok
        · intro a b c kl0 yd yp w1 cnt1 hkey hlx hy hat hrg1 hlt hg1 hs1 hen
          obtain ⟨a', b', e, ha, hb⟩ := ask_key.inv _ _ hkey
          simp only [keyV, Value.agg.injEq, Array.mk.injEq, List.cons.injEq, Value.int.injEq, true_and, and_true] at e
          obtain ⟨rfl, rfl⟩ := e
          rw [ask_key.make a b ha hb] at hkey
          injection hkey with hkey
          subst hkey
          have HI := Lib.hid (And.intro ha hb)
          have hk1 : Keep (Just mp) w w1 := HWY.out.keep.trans (Keep.of_grown hg1) (fun i hi e => by injection e with e; omega)
          have HK1 := Lib.hid hk1
          have hbox := HW.out.box.keep hk1 (fun e => HPM.out e)
          have t2 := hbox.cell 2 (by simp)
          simp only [List.getElem_cons_succ, List.getElem_cons_zero] at t2
          have HV1 := Lib.hid (HV.out.keep hk1 (SliceI.no_map HV.out HZ1.out (HW.out.map.own.choose_spec).1))
          have HB2 := Lib.hid (grew_alloc w1 (.cells #[.int .i64 a, .int .i64 b] 64))
          have HRG1 := Lib.hid (hrg1.alloc (.cells #[.int .i64 a, .int .i64 b] 64))
          have HRG1' := Lib.hid hrg1
          have HCNT := Lib.hid hlt
          have hz : 0 ≤ z ∧ z ≤ 100000 := by
            have h1 := HWY.out.num
            have h2 : (onWay zs left es).length ≤ es.length := List.length_filter_le _ _
            have h3 : es.length = s.l.length := by rw [← HW.out.is]; simp
            have h4 := HW.out.ok.full
            have h5 := HW.out.ok.room
            omega
          have HOK := Lib.hid HW.out.map.ok
          have HMEM : Hid (∃ x ∈ onWay zs left es, Mesg.Msg.key x.m = (a, b)) := Lib.hid (Classical.byContradiction fun hn => by
            have := HRD1.out.no a b ha hb (fun x hx e => hn ⟨x, hx, e⟩)
            rw [Maps.has_true_of_atKey hat] at this
            cases this)
          simp only [keyV] at hen ⊢
          clear hk1 hbox hrg1 hg1 hs1 hlt hat hy ha hb hlx
          go_wp2_with fail
          refine (vec_Covers _ zs a b _ (HV1.out.below HB2.out) HM.out).mono ?_
          rintro e _ ⟨rfl, rfl⟩
          by_cases hc : Vecs.covers zs a b = true
          · rw [hc]
            have HCV := Lib.hid hc
            clear hc
            have hbox := ((HW.out.box.keep HK1.out (fun e => HPM.out e)).keep (S := Non) (Keep.of_grew HB2.out Non) (fun h => h))
            have u2 := hbox.cell 2 (by simp)
            have hkb := Holds.new w1 [.int .i64 a, .int .i64 b] 64
            have k0 := hkb.cell 0 (by simp)
            have k1 := hkb.cell 1 (by simp)
            simp only [List.getElem_cons_succ, List.getElem_cons_zero] at u2 k0 k1
            clear hbox hkb
            go_wp2_with fail
            generalize (w1.alloc (.cells _ 64)) = W2 at *
            go_still_tail 5, (by kernel_rfl)
            repeat still_step
            change wpList _ _ _ _ _ W2.drew
            go_wp2_with (first
              | (at_delete; refine wpList_delete_ranges _ rfl _ _ 85 64 rfl 40 ask_keyed ask_map msgElem mp w.heap.size es.length D1 _ _ rfl (ranges_drew HRG1.out) _ _ rfl (ask_key.make a b HI.out.1 HI.out.2) ?_; intro w2 cnt2 hrg2 hle hturn; go_frame)
              | go_in)
            rw [strike_twice] at hrg2
            go_roundw
            case rel =>
              have hr2 := HRD1.out.del ask_key (HRG.out.owns.tidy ask_keyed) HI.out.1 HI.out.2
              have hst := onWay_struck ask_key zs left es HOK.out HI.out.1 HI.out.2 HCV.out
              refine ⟨_, cnt2, z + 1, ⟨⟨_, hrg2, by rw [hst]; exact hr2⟩, ?_, ?_⟩, by go_num⟩
              · have h1 := length_but (a, b) HRD1.out.apart
                rw [if_pos HMEM.out] at h1
                rw [hst, HWY.out.num]
                omega
              · exact (HK1.out.trans (Keep.of_grew (grew HB2.out (grew_drew _)) (Just mp)) (fun _ _ e => e)).trans ((Keep.of_grown hturn.grown).more (fun i _ e => by injection e)) (fun _ _ e => e)
            case measure =>
              rw [hrg2.left_eq, HRG.out.left_eq]
              have := HCNT.out
              omega
          · rw [Bool.not_eq_true] at hc
            rw [hc]
            have HCV := Lib.hid hc
            clear hc
            go_wp2
            go_roundw
            case rel =>
              have hst := onWay_stays ask_key zs left es HOK.out HI.out.1 HI.out.2 HCV.out
              exact ⟨_, cnt1, z, ⟨⟨D1, HRG1.out, by rw [hst]; exact HRD1.out⟩, by rw [hst]; exact HWY.out.num, HK1.out.trans (Keep.of_grew HB2.out (Just mp)) (fun _ _ e => e)⟩, rfl⟩
            case measure =>
              rw [HRG1.out.left_eq, HRG.out.left_eq]
              exact HCNT.out
    · have hd : ((zs.length : Int) != (s.sites : Int)) = true := by simp; omega
      have HR : Hid (Resend.drop s zs = (0, 1, s)) := Lib.hid (by unfold Resend.drop; rw [if_neg (fun h => hlen h.2)])
      clear hmay hlen
      go_enter Try.func45, Try.ntmps45
      go_wp2_with fail
      refine HC.out.mono ?_
      rintro e _ ⟨rfl, rfl⟩
      rw [HE.out]
      go_wp2
      go_ret2
      exact ⟨by rw [HR.out]; rfl, by rw [HR.out]; exact SStep.grew H0.out (Below.refl _ _)⟩
  · have HE : Hid (chkN zs = 1) := Lib.hid (by unfold chkN; rw [if_neg hmay])
    have HR : Hid (Resend.drop s zs = (0, 1, s)) := Lib.hid (by unfold Resend.drop; rw [if_neg (fun h => hmay h.1)])
    clear hmay
    go_enter Try.func45, Try.ntmps45
    go_wp2_with fail
    refine HC.out.mono ?_
    rintro e _ ⟨rfl, rfl⟩
    rw [HE.out]
    go_wp2
    go_ret2
    exact ⟨by rw [HR.out]; rfl, by rw [HR.out]; exact SStep.grew H0.out (Below.refl _ _)⟩
end Go.Proofs.Ytjklfjgdmklimaa
