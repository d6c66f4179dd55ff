/- What Known of hold comes to. -/
import Derived.Test.YtjklfjgdmklimaaHdKnown1
import Derived.Test.YtjklfjgdmklimaaHdPut3
import Derived.Test.YtjklfjgdmklimaaRsDrop
namespace Go.Proofs.Ytjklfjgdmklimaa
open Go.RowKit Go.Maps
set_option linter.unusedVariables false

theorem ranges_below {w w' : World} {k : TypeId} {R : Value → Option (DataW Unit × List MemPlace)} {b r n : Nat} {D : DataW Unit} {left : Lit → Bool} {cnt : Nat} (h : w.ranges Try.prog k R b r n D left cnt) (hb : Below w.heap.size w w') : w'.ranges Try.prog k R b r n D left cnt :=
  h.kept (row := none) ⟨hb.os, hb.tape, hb.output, hb.size, fun i hi _ => hb.block i hi⟩ (by simp) (by simp)

/-- One key, one message. -/
theorem apart_eq : ∀ {es : List Ent} (h : es.Pairwise fun x y => Mesg.Msg.key x.m ≠ Mesg.Msg.key y.m) {x y : Ent}, x ∈ es → y ∈ es → Mesg.Msg.key x.m = Mesg.Msg.key y.m → x = y
  | [], _, _, _, hx, _, _ => by cases hx
  | z :: es, h, x, y, hx, hy, e => by
    have h1 := List.pairwise_cons.1 h
    rcases List.mem_cons.1 hx with e1 | hx1
    · rcases List.mem_cons.1 hy with e2 | hy1
      · rw [e1, e2]
      · exact absurd (e1 ▸ e) (h1.1 y hy1)
    · rcases List.mem_cons.1 hy with e2 | hy1
      · exact absurd (e2 ▸ e.symm) (h1.1 x hx1)
      · exact apart_eq h1.2 hx1 hy1 e

/-- A list of numbers is no walk. -/
theorem SliceI.no_walk {w : World} {v : Value} {zs : List Int} (h : SliceI w v zs) (h1 : 1 ≤ zs.length) {k : TypeId} {R : Value → Option (DataW Unit × List MemPlace)} {mp r n : Nat} {D : DataW Unit} {left : Lit → Bool} {cnt : Nat} (hm : w.ranges Try.prog k R mp r n D left cnt) : ∀ g, v.ownBlock = some g → ¬ some g = some r := by
  intro g hg e
  injection e with e
  subst e
  obtain ⟨a, cap, rfl, _, h⟩ := h
  rcases h with h | ⟨b, off, rfl, hlt, hc⟩
  · rw [h] at h1; simp at h1
  · have : b = g := Option.some.inj hg
    subst this
    have := hc 0 (by omega)
    obtain ⟨es, clock, since, seen, c0, _, _, _, _, hb, _⟩ := hm
    simp [World.cell?, hb] at this

/-- Where the loop stands: r is the walk's own block. -/
structure KWay (w w1 : World) (s : Hold.St) (mp : Nat) (D : DataW Unit) (es : List Ent) (left : Lit → Bool) (cnt : Nat) (v : Value) (wr : World) : Prop where
  rg : wr.ranges Try.prog 71 msgElem mp w1.heap.size es.length D left cnt
  out : ∃ ms : List Mesg.Msg, (∀ x ∈ es, left (kl x.m.site x.m.seq) = true ∨ x.m ∈ ms) ∧ (∀ m ∈ ms, m ∈ s.l) ∧ SliceI wr v (ms.foldl Hold.knowF s.clock)
  bel : Below w.heap.size w wr
  new : Newer w v

theorem KWay.known {w w1 wr : World} {s : Hold.St} {mp : Nat} {D : DataW Unit} {es : List Ent} {left : Lit → Bool} {cnt : Nat} {v : Value} (h : KWay w w1 s mp D es left cnt v wr) (hl : ∀ k, left k = false) (ho : Hold.Ok s) (he : es.map Ent.m = s.l) : SliceI wr v (Hold.known s) := by
  obtain ⟨ms, h1, h2, h3⟩ := h.out
  have e : ms.foldl Hold.knowF s.clock = Hold.known s := Hold.known_mem (fun m hm => (ho.may m (h2 m hm)).2) (fun m => ⟨h2 m, fun hm => by
    rw [← he] at hm
    obtain ⟨x, hx, rfl⟩ := List.mem_map.1 hm
    rcases h1 x hx with h4 | h4
    · rw [hl] at h4; cases h4
    · exact h4⟩)
  rw [← e]
  exact h3

set_option maxRecDepth 100000 in
set_option maxHeartbeats 4000000 in
theorem hold_Known {w : World} {F : Nat → Prop} {p : Nat} {s : Hold.St} (h0 : IsHold w F p s) :
    Calls Try.prog 18 #[.pointer (some ⟨p, 0, none⟩)] w fun e w' => ∃ v, e = .returned v ∧ SliceI w' v (Hold.known s) ∧ Below w.heap.size w w' ∧ Newer w v := by
  have HCL := Lib.hid (hold_Clock h0)
  obtain ⟨cb, cc, mp, S, es, h⟩ := h0
  have HW := Lib.hid h
  clear h
  go_enter Try.func18, Try.ntmps18
  go_wp2_with fail
  refine HCL.out.mono ?_
  rintro e w1 ⟨v, g, cap, rfl, hf⟩
  have HF := Lib.hid hf
  obtain rfl := hf.val
  clear hf
  have HW1 := Lib.hid (HW.out.below HF.out.bel)
  have p2 := HW1.out.box.cell 2 (by simp)
  simp only [List.getElem_cons_succ, List.getElem_cons_zero] at p2
  obtain ⟨D, hD, hrd⟩ := HW1.out.map.own
  have HRD := Lib.hid hrd
  go_wp2_with (first
    | (at_range; refine wpList_range_own _ rfl _ 67 rfl 71 40 place_keyed place_map msgElem mp es.length D rfl hD ?_; intro w2 hrg0 hg0 hs0)
    | go_in)
  go_frame
  have HWAY : Hid (KWay w w1 s mp D es (Maps.has D) (Maps.size D) (.slice (some ⟨g, 0, none⟩) s.clock.length cap) w2) := Lib.hid ⟨hrg0, ⟨[], fun x hx => .inl (HRD.out.yes x hx).1, by simp, HF.out.own.slice.keep (Keep.of_grown hg0) (fun _ _ e => by cases e)⟩, grew HF.out.bel ((Keep.of_grown hg0).below (Nat.le_refl _) (fun i e => by cases e)), Newer.mk HF.out.new⟩
  have HSZ : Hid (w.heap.size ≤ w1.heap.size) := Lib.hid HF.out.bel.size
  clear hrg0 hg0 hs0 hD hrd p2
  go_loopw [3] (fun d wr => ∃ left cnt, KWay w w1 s mp D es left cnt d wr) (fun _ wr => wr.rangeLeft mp w1.heap.size)
  case atStart => exact ⟨_, _, HWAY.out⟩
  case round =>
    obtain ⟨left, cnt, hway⟩ := hrel
    have HWY := Lib.hid hway
    have hrg := hway.rg
    have HRG := Lib.hid hrg
    clear hway
    go_wp2_with (first
      | (at_next; refine wpList_next_ranges _ rfl _ rfl 71 place_keyed msgElem keyV Head.enc (fun key kl h => (by obtain ⟨a, b, e, _⟩ := place_key.inv key kl h; exact ⟨(a, b), e⟩)) (fun v y h => (by obtain ⟨x, e, _⟩ := msgElem_inv h; exact ⟨x, e⟩)) mp w1.heap.size es.length D left cnt rfl hrg ?_ ?_)
      | go_in)
    · intro _ hl0
      go_wp2
      go_ret
      exact ⟨_, rfl, HWY.out.known hl0 HW.out.ok HW.out.is, HWY.out.bel, HWY.out.new⟩
    · intro a b c kl0 yd yp w3 cnt1 hkey hlx hy hat hrg1 hlt hg1 hs1 hen
      obtain ⟨a', b', e, ha, hb⟩ := place_key.inv _ _ hkey
      simp only [keyV, Value.agg.injEq, Array.mk.injEq, List.cons.injEq, Value.int.injEq, true_and, and_true] at e
      obtain ⟨rfl, rfl⟩ := e
      rw [place_key.make a b ha hb] at hkey
      injection hkey with hkey
      subst hkey
      obtain ⟨x, hx, hxk⟩ : ∃ x ∈ es, Mesg.Msg.key x.m = (a, b) := Classical.byContradiction fun hn => by
        have := HRD.out.no a b ha hb (fun x hx e => hn ⟨x, hx, e⟩)
        rw [Maps.has_true_of_atKey hat] at this
        cases this
      have hxa : x.m.site = a := congrArg Prod.fst hxk
      have hxb : x.m.seq = b := congrArg Prod.snd hxk
      subst hxa hxb
      have hc : c = x.head := by
        obtain ⟨c', e1, e2⟩ := msgElem_inv hy
        have e3 := Head.enc_inj e1
        subst e3
        have h1 := (HRD.out.yes x hx).2 noHead.dat
        rw [hat noHead.dat] at h1
        have e4 : yd = c.dat := congrArg Prod.fst e2
        exact Head.dat_inj (e4.symm.trans h1)
      subst hc
      have hk3 : Keep (fun i => some i = some w1.heap.size) _ w3 := Keep.of_grown hg1
      have hb3 : Below w.heap.size w w3 := by
        have h1 := (Keep.of_grew HWY.out.bel (fun i => some i = some w1.heap.size)).trans hk3 (fun _ _ e => e)
        exact h1.below (Nat.le_refl _) (fun i e => by injection e with e; have := HSZ.out; omega)
      have HB3 := Lib.hid hb3
      have HX := Lib.hid hx
      have HRG1 := Lib.hid hrg1
      have HCNT := Lib.hid hlt
      have HXM : Hid (Mesg.may x.m = true ∧ x.m.know.length = s.clock.length) := Lib.hid (HW.out.ok.may x.m (by rw [← HW.out.is]; exact List.mem_map_of_mem hx))
      obtain ⟨ms, m1, m2, m3⟩ := HWY.out.out
      have hlk : (ms.foldl Hold.knowF s.clock).length = s.clock.length := Hold.known_len ms s.clock (fun m hm => (HW.out.ok.may m (m2 m hm)).2)
      have hst := HW.out.ok.sites
      have HU3 := Lib.hid (m3.keep hk3 (SliceI.no_walk m3 (by omega) HRG.out))
      have HCM : Hid (Vecs.may (ms.foldl Hold.knowF s.clock) = true) := Lib.hid (Hold.known_may ms s.clock (Vecs.may_iff.2 ⟨hst.1, hst.2, HW.out.ok.clock⟩) (fun m hm => HW.out.ok.may m (m2 m hm)))
      have HM12 := Lib.hid (And.intro m1 m2)
      have HLK := Lib.hid hlk
      have HST := Lib.hid hst
      obtain ⟨ua, uc, rfl⟩ := HU3.out.shape
      have HB4 := Lib.hid (grew_alloc w3 (.cells (msgL x.m x.sl).toArray 40))
      simp only [keyV, Ent.enc, Ent.val, Ent.sl, msgV] at hen ⊢
      clear hk3 hb3 hx hrg1 hg1 hs1 hlt hat hy ha hb hlx m1 m2 m3 hlk hst hxk hrg
      go_wp2_with fail
      have HT := Lib.hid (fun W (hb : Below w3.heap.size w3 W) => vec_Tick x.sl x.m.know x.m.site W ((HW.out.below (grew HB3.out hb)).map.know x HX.out).1 (by have h1 := HXM.out.2; have h2 := HST.out; unfold maxLen; omega))
      refine (HT.out _ HB4.out).mono ?_
      rintro e w5 ⟨r5, rfl, hr5, hb5⟩
      rw [Hold.tick_bump HXM.out.1 (Hold.know_may HXM.out.1)] at hr5
      obtain ⟨v5, rfl, hv5⟩ := hr5
      have HB5 := Lib.hid (grew HB4.out hb5)
      have HV5 := Lib.hid hv5
      clear hb5 hv5
      go_wp2_with fail
      refine (vec_Join_new _ _ _ (Hold.bump x.m) w5 (HU3.out.below HB5.out) HV5.out (by have h1 := HLK.out; have h2 := HST.out; unfold maxLen; omega) (by rw [Hold.bump_len]; have h1 := HXM.out.2; have h2 := HST.out; unfold maxLen; omega)).mono ?_
      rintro e w6 ⟨r6, rfl, hr6, hb6, xn, yn, hxn, hnn⟩
      rw [Hold.join_bump HCM.out HXM.out.1 (by rw [HLK.out]; exact HXM.out.2)] at hr6
      obtain ⟨v6, rfl, hv6⟩ := hr6
      obtain rfl : v6 = xn := by simp only [Value.tuple.injEq, Array.mk.injEq, List.cons.injEq] at hxn; exact hxn.1
      have HN6 : Hid (Newer w v6) := Lib.hid (hnn.of (grew HB3.out HB5.out).size)
      have HB6 := Lib.hid (grew HB5.out hb6)
      have HV6 := Lib.hid hv6
      clear hb6 hv6 hxn hnn
      go_wp2
      go_roundw
      case rel =>
        refine ⟨_, cnt1, ⟨ranges_below HRG1.out HB6.out, ⟨ms ++ [x.m], fun y hy => ?_, fun m hm => ?_, ?_⟩, grew HB3.out HB6.out, HN6.out⟩⟩
        · by_cases e : kl y.m.site y.m.seq = kl x.m.site x.m.seq
          · right
            have h1 := place_key.inj (HRD.out.ok y hy).1 (HRD.out.ok y hy).2 (HRD.out.ok x HX.out).1 (HRD.out.ok x HX.out).2 e
            have e2 : y = x := apart_eq HRD.out.apart hy HX.out (by show (y.m.site, y.m.seq) = (x.m.site, x.m.seq); rw [h1.1, h1.2])
            rw [e2]
            simp
          · rcases HM12.out.1 y hy with h | h
            · left
              simp only [Maps.sameKey_ne e, h]
              rfl
            · right
              simp [h]
        · rcases List.mem_append.1 hm with h | h
          · exact HM12.out.2 m h
          · rw [List.mem_singleton.1 h, ← HW.out.is]
            exact List.mem_map_of_mem HX.out
        · rw [List.foldl_append]
          exact HV6.out
      case measure =>
        rw [(ranges_below HRG1.out HB6.out).left_eq, HRG.out.left_eq]
        exact HCNT.out
end Go.Proofs.Ytjklfjgdmklimaa
