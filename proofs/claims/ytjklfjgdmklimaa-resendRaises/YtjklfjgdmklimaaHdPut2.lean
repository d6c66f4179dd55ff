/- What Put of hold comes to, where the message may be. -/
import Derived.Test.YtjklfjgdmklimaaHdPut
import Derived.Test.YtjklfjgdmklimaaHdPut0
import Derived.BigRegion
namespace Go.Proofs.Ytjklfjgdmklimaa
open Go.RowKit Go.Maps
set_option linter.unusedVariables false

set_option maxRecDepth 100000 in
set_option maxHeartbeats 20000000 in
theorem hold_Put_yes {w : World} {F : Nat → Prop} {p : Nat} {s : Hold.St} (h0 : IsHold w F p s) (hrm : s.l.length ≤ s.room) (m : Mesg.Msg) (v : Value) (hv : SliceI w v m.know) (hm : m.know.length ≤ 1000000000) (hmay : Mesg.may m = true) (hlen : m.know.length = s.clock.length) :
    Calls Try.prog 12 #[.pointer (some ⟨p, 0, none⟩), msgV m v] w fun e w' => ∃ r, e = .returned r ∧ PutOut w F p (Hold.put s m) r w' := by
  have HC := Lib.hid (fun W (hb : Below w.heap.size w W) => mesg_Check m v W (hv.below hb) hm)
  have HV := Lib.hid hv
  have H0 := Lib.hid h0
  have HRM := Lib.hid hrm
  obtain ⟨cb, cc, mp, S, es, h⟩ := h0
  have HPL := Lib.hid h.box.lt
  have HW := Lib.hid h
  have hst := h.ok.sites
  have hel : es.length = s.l.length := by rw [← h.is]; simp
  have hrl := h.ok.room
  have hes : es.length ≤ 1000 := by omega
  obtain ⟨va, vc, rfl⟩ := hv.shape
  have HB := Lib.hid (grew_alloc w (.cells (msgL m (.slice va m.know.length vc)).toArray 40))
  have HM := Lib.hid (Holds.new w (msgL m (.slice va m.know.length vc)) 40)
  have hbd := Resend.may_bounds hmay
  have hkn : m.know.length ≤ 16 := hbd.2.1
  have HK1N := Lib.hid hbd.1
  have HI : Hid (I64 m.site ∧ I64 m.seq) := Lib.hid ⟨by unfold I64; omega, by unfold I64; omega⟩
  have HCOV : Hid (Vecs.covers s.clock m.site m.seq = decide (m.seq ≤ s.clock.getD m.site.toNat 0)) := Lib.hid (by
    unfold Vecs.covers
    have h1 : Vecs.may s.clock = true := Vecs.may_iff.2 ⟨h.ok.sites.1, h.ok.sites.2, h.ok.clock⟩
    have h2 : decide (0 ≤ m.site) = true := decide_eq_true hbd.2.2.1.1
    have h3 : decide (m.site < (s.clock.length : Int)) = true := decide_eq_true (by rw [← hlen]; exact hbd.2.2.1.2)
    have h4 : decide (1 ≤ m.seq) = true := decide_eq_true hbd.2.2.2.1.1
    rw [h1, h2, h3, h4]
    simp)
  have HE := Lib.hid (checkN_yes hmay)
  have HMAY := Lib.hid hmay
  have hd : (((m.know.length : Nat) : Int) != ((s.clock.length : Nat) : Int)) = false := by rw [hlen]; simp
  have HLEN := Lib.hid hlen
  clear hv h hrm hbd hmay hlen hel hrl
  unfold msgV
  go_enter Try.func12, Try.ntmps12
  go_wp2_with fail
  unfold msgL at HB HM
  generalize hW : (w.alloc (.cells _ 40)) = W at *
  clear hW
  obtain ⟨⟨d0, d1, d2⟩, d3, d4, d5, d6, d7, d8, d9⟩ := msg_cells (m := m) (v := .slice va m.know.length vc) HM.out
  have s0 : W.cell? ⟨p, 1, none⟩ = some (.slice (some ⟨cb, 0, none⟩) s.clock.length cc) := (HW.out.below HB.out).box.cell 1 (by simp)
  go_region_held3 (fun w' => w'.cell? ⟨w.heap.size, 0, none⟩ = some (.int .i64 m.site) ∧ w'.cell? ⟨w.heap.size, 1, none⟩ = some (.int .i64 m.seq) ∧ w'.cell? ⟨w.heap.size, 2, none⟩ = some (.slice va m.know.length vc) ∧ w'.cell? ⟨w.heap.size, 3, none⟩ = some (.int .i64 m.op.kind) ∧ w'.cell? ⟨w.heap.size, 4, none⟩ = some (.int .i64 m.op.epoch) ∧ w'.cell? ⟨w.heap.size, 5, none⟩ = some (.int .i64 m.op.id.time) ∧ w'.cell? ⟨w.heap.size, 6, none⟩ = some (.int .i64 m.op.id.site) ∧ w'.cell? ⟨w.heap.size, 7, none⟩ = some (.int .i64 m.op.ref.time) ∧ w'.cell? ⟨w.heap.size, 8, none⟩ = some (.int .i64 m.op.ref.site) ∧ w'.cell? ⟨w.heap.size, 9, none⟩ = some (.int .i64 m.op.rune) ∧ w'.cell? ⟨p, 1, none⟩ = some (.slice (some ⟨cb, 0, none⟩) s.clock.length cc))
    (first | exact ⟨d0, d1, d2, d3, d4, d5, d6, d7, d8, d9, s0⟩ | exact ⟨e0, e1, e2, e3, e4, e5, e6, e7, e8, e9, t0⟩)
    (first
      | (go_at_call 30; refine (HC.out _ (grew HB.out (grew_drew _))).mono ?_; rintro e w1 ⟨rfl, hb⟩; rw [HE.out]; have HM1 := Lib.hid (Holds.keep (a := W.drew) HM.out (Keep.of_grew hb Non) (fun h => h)); have t0 : w1.cell? ⟨p, 1, none⟩ = some (.slice (some ⟨cb, 0, none⟩) s.clock.length cc) := (hb.cell (p := ⟨p, 1, none⟩) (Nat.lt_of_lt_of_le HPL.out HB.out.size)).trans s0; have HB1 := Lib.hid (grew HB.out (grew (grew_drew _) hb)); clear hb; obtain ⟨⟨e0, e1, e2⟩, e3, e4, e5, e6, e7, e8, e9⟩ := msg_cells HM1.out))
  go_wp2_with fail
  have HW1S : Hid (w.heap.size < w1.heap.size) := Lib.hid HM1.out.lt
  have HB2 := Lib.hid (grew HB1.out (grew_alloc w1 (.cells #[.int .i64 m.site, .int .i64 m.seq] 71)))
  have HK2 := Lib.hid (Holds.new w1 [.int .i64 m.site, .int .i64 m.seq] 71)
  have HM2 := Lib.hid (HM1.out.keep (S := Non) (Keep.alloc _ _ (.cells #[.int .i64 m.site, .int .i64 m.seq] 71)) (fun h => h))
  clear e0 e1 e2 e3 e4 e5 e6 e7 e8 e9 t0 d0 d1 d2 d3 d4 d5 d6 d7 d8 d9 s0
  generalize hW2 : (w1.alloc (.cells _ 71)) = W2 at *
  clear hW2
  have HW2 := Lib.hid (HW.out.below HB2.out)
  have k0 := HK2.out.cell 0 (by simp)
  have k1 := HK2.out.cell 1 (by simp)
  have p2 := HW2.out.box.cell 2 (by simp)
  have HK3 := Lib.hid (HK2.out.keep (S := Non) (Keep.alloc _ _ (.cells (msgL Mesg.none (.slice none 0 0)).toArray 40)) (fun h => h))
  have k0' := HK3.out.cell 0 (by simp)
  have k1' := HK3.out.cell 1 (by simp)
  have HW3 := Lib.hid (HW2.out.below (grew_alloc _ (.cells (msgL Mesg.none (.slice none 0 0)).toArray 40)))
  have p2' := HW3.out.box.cell 2 (by simp)
  simp only [List.getElem_cons_succ, List.getElem_cons_zero] at k0 k1 p2 k0' k1' p2'
  simp only [msgL, Mesg.none, Mesg.noOp, Mesg.zero] at k0' k1' p2'
  have HLK : Hid (∀ W', Below W2.heap.size W2 W' → (Instr.lookup 67 (.map (some mp)) (.agg #[.int .i64 m.site, .int .i64 m.seq]) true).run Try.prog W' = .ok (.tuple #[(match at? es (m.site, m.seq) with | some x => x.val | none => msgV Mesg.none (.slice none 0 0)), .bool (at? es (m.site, m.seq)).isSome]) W') := Lib.hid (fun W' hb => MsgMap.look place_key (HW2.out.map.below hb) place_map HI.out.1 HI.out.2)
  have HCV := Lib.hid (fun W (hb : Below w.heap.size w W) => vec_Covers (clockV cb s.clock.length cc) s.clock m.site m.seq W ((HW.out.below hb).clk.slice) (by unfold maxLen; omega))
  unfold clockV at HCV
  have HFI : Hid (Hold.find s.l (Hold.key m) = (at? es (m.site, m.seq)).map Ent.m) := Lib.hid (find_at HW.out.is _)
  have HBL : Hid ((Hold.but s.l (Hold.key m)).length = (but es (m.site, m.seq)).length) := Lib.hid (by rw [← but_map HW.out.is]; simp [Hold.key])
  cases hat : at? es (m.site, m.seq) with
  | none =>
    have HOT : Hid ((Hold.but s.l (Hold.key m)).length = es.length) := Lib.hid (by rw [HBL.out, but_none hat])
    have HFN : Hid (Hold.find s.l (Hold.key m) = none) := Lib.hid (by rw [HFI.out, hat]; rfl)
    rw [hat] at HLK
    have q1 := HLK.out W2.drew (grew_drew _)
    have q2 := HLK.out ((W2.alloc (.cells (msgL Mesg.none (.slice none 0 0)).toArray 40)).drew) (grew (grew_alloc _ _) (grew_drew _))
    simp only [msgV, msgL, Mesg.none, Mesg.noOp, Mesg.zero, Option.isSome_none] at q1 q2
    clear hat
    go_region
    all_goals
      clear k0' k1' p2' q1 q2 k0 k1 p2 HK3 HW3 HLK
      go_wp2_with fail
      have hb3 := grew (grew_alloc W2 (.cells #[.int .i64 0, .int .i64 0, .slice none 0 0, .int .i64 0, .int .i64 0, .int .i64 0, .int .i64 0, .int .i64 0, .int .i64 0, .int .i64 0] 40)) (grew_drew _)
      have HB3 := Lib.hid (grew HB2.out hb3)
      have HM3 := Lib.hid (HM2.out.keep (Keep.of_grew hb3 Non) (fun h => h))
      have HKY3 := Lib.hid (HK2.out.keep (Keep.of_grew hb3 Non) (fun h => h))
      clear hb3
      generalize (W2.alloc (.cells _ 40)).drew = W3 at *
      have c1 := (HW.out.below HB3.out).box.cell 1 (by simp)
      simp only [List.getElem_cons_succ, List.getElem_cons_zero] at c1
      unfold clockV at c1
      obtain ⟨⟨l0, l1, _⟩, _⟩ := msg_cells (m := m) (v := .slice va m.know.length vc) HM3.out
      cases hcv : decide (m.seq ≤ s.clock.getD m.site.toNat 0)
      · have HCE := Lib.hid (HCOV.out.trans hcv)
        have HNOLD : Hid (¬ (m.seq ≤ s.clock.getD m.site.toNat 0 ∨ Hold.find s.l (Hold.key m) = some m)) := Lib.hid (fun h => by
          rcases h with h | h
          · exact absurd h (of_decide_eq_false hcv)
          · rw [HFN.out] at h; cases h)
        clear hcv
        go_quiet ((go_at_call 31; exact Calls.quiet_of_same ((HCV.out _ (grew HB3.out (grew_drewN _ _))).mono fun _ _ ⟨h1, h2⟩ => ⟨h1.trans (by rw [HCE.out]), h2.symm⟩)))
        clear l0 l1 c1
        have HB5 := Lib.hid (grew HB3.out (grew_drewN W3 nq))
        have HM5 := Lib.hid (HM3.out.keep (Keep.of_grew (grew_drewN W3 nq) Non) (fun h => h))
        have HKY5 := Lib.hid (HKY3.out.keep (Keep.of_grew (grew_drewN W3 nq) Non) (fun h => h))
        generalize W3.drewN nq = w5 at *
        have HW5 := Lib.hid (HW.out.below HB5.out)
        have a0 := HW5.out.box.cell 0 (by simp)
        have a2 := HW5.out.box.cell 2 (by simp)
        simp only [List.getElem_cons_succ, List.getElem_cons_zero] at a0 a2
        have hlen := HW5.out.map.len place_map
        obtain ⟨⟨l0, l1, l2⟩, l3, l4, l5, l6, l7, l8, l9⟩ := msg_cells (m := m) (v := .slice va m.know.length vc) HM5.out
        skip
        go_wp2_with fail
        refine (hold_due ⟨_, _, _, _, _, HW5.out⟩ m (.slice va m.know.length vc) (HV.out.below HB5.out) HMAY.out HLEN.out).mono ?_
        rintro e w6 ⟨rfl, hb6⟩
        have HB6 := Lib.hid (grew HB5.out hb6)
        have HM6 := Lib.hid (HM5.out.keep (Keep.of_grew hb6 Non) (fun h => h))
        have HKY6 := Lib.hid (HKY5.out.keep (Keep.of_grew hb6 Non) (fun h => h))
        clear hb6 a0 a2 hlen l0 l1 l2 l3 l4 l5 l6 l7 l8 l9
        have a0 := (HW.out.below HB6.out).box.cell 0 (by simp)
        simp only [List.getElem_cons_zero] at a0
        have l2 := (msg_cells (m := m) (v := .slice va m.know.length vc) HM6.out).1.2.2
        by_cases hfull : Hold.due s.clock m = false ∧ s.room ≤ (Hold.but s.l (Hold.key m)).length
        · have hd : decide ((s.room : Int) ≤ (es.length : Int)) = true := decide_eq_true (by have := HOT.out; omega)
          have hdn : decide (s.room ≤ es.length) = true := decide_eq_true (by have := HOT.out; omega)
          have HR : Hid (Hold.put s m = ([], 5, s)) := Lib.hid (by
            unfold Hold.put
            rw [if_pos ⟨HMAY.out, HLEN.out⟩, if_neg HNOLD.out, if_pos hfull])
          rw [hfull.1]
          clear hfull
          go_wp2
          go_ret2
          exact ⟨_, rfl, by rw [HR.out]; exact PutOut.no H0.out HRM.out HB6.out⟩
        · have HR : Hid (Hold.put s m = ((Hold.tell (Hold.with_ s m).l.length (Hold.with_ s m)).1, 0, (Hold.tell (Hold.with_ s m).l.length (Hold.with_ s m)).2)) := Lib.hid (by
            unfold Hold.put
            rw [if_pos ⟨HMAY.out, HLEN.out⟩, if_neg HNOLD.out, if_neg hfull]
            have e : (Hold.with_ s m).l.length = (Hold.but s.l (Hold.key m)).length + 1 := by simp [Hold.with_]
            rw [e]
            rfl)
          have HRL : Hid ((Hold.tell (Hold.with_ s m).l.length (Hold.with_ s m)).2.l.length ≤ s.room) := Lib.hid (Hold.room_left HW.out.ok HMAY.out HLEN.out HRM.out (by
            cases hdu : Hold.due s.clock m
            · right
              exact Classical.byContradiction fun h => hfull ⟨hdu, by omega⟩
            · exact .inl rfl))
          cases hdu : Hold.due s.clock m
          · have hd : decide ((s.room : Int) ≤ (es.length : Int)) = false := decide_eq_false (by have h1 : ¬ s.room ≤ (Hold.but s.l (Hold.key m)).length := fun h => hfull ⟨hdu, h⟩; have := HOT.out; omega)
            have hdn : decide (s.room ≤ es.length) = false := decide_eq_false (by have h1 : ¬ s.room ≤ (Hold.but s.l (Hold.key m)).length := fun h => hfull ⟨hdu, h⟩; have := HOT.out; omega)
            clear hfull hdu
            go_wp2_with fail
            refine (ints_Clone _ m.know _ (HV.out.below HB6.out) HK1N.out (by omega)).mono ?_
            rintro e w7 ⟨v4, rfl, g, cap, hf⟩
            have HF := Lib.hid hf
            obtain rfl := hf.val
            have HM7 := Lib.hid (HM6.out.keep (Keep.of_grew hf.bel Non) (fun h => h))
            have HKY7 := Lib.hid (HKY6.out.keep (Keep.of_grew hf.bel Non) (fun h => h))
            clear hf l2 a0
            have l2 := (msg_cells (m := m) (v := .slice va m.know.length vc) HM7.out).1.2.2
            have f2 := HM7.out.frozen 2
            have HM8 := Lib.hid (HM7.out.set 2 (.slice (some ⟨g, 0, none⟩) m.know.length cap) (by simp))
            have HKY8 := Lib.hid (HKY7.out.keep (Keep.setCell w7 w.heap.size 2 (.slice (some ⟨g, 0, none⟩) m.know.length cap)) (fun e => by have e : w1.heap.size = w.heap.size := e; have := HW1S.out; omega))
            have HK8 : Hid (Keep (Just w.heap.size) w (w7.setCell ⟨w.heap.size, 2, none⟩ (.slice (some ⟨g, 0, none⟩) m.know.length cap))) := Lib.hid ((Keep.of_grew (grew HB6.out HF.out.bel) (Just w.heap.size)).trans (Keep.setCell _ _ _ _) (fun _ _ e => e))
            have HGW : Hid (w.heap.size < g) := Lib.hid (by have h1 := HF.out.new; have h2 := HM6.out.lt; omega)
            have HSL : Hid (SliceI (w7.setCell ⟨w.heap.size, 2, none⟩ (.slice (some ⟨g, 0, none⟩) m.know.length cap)) (.slice (some ⟨g, 0, none⟩) m.know.length cap) m.know) := Lib.hid (HF.out.own.slice.keep (Keep.setCell _ _ _ _) (fun g' hg e => by have e : g' = w.heap.size := e; have e2 : g = g' := Option.some.inj hg; have := HGW.out; omega))
            go_wp2_with fail
            generalize hW8 : w7.setCell ⟨w.heap.size, 2, none⟩ (.slice (some ⟨g, 0, none⟩) m.know.length cap) = W8 at *
            clear hW8
            have HW8 := Lib.hid (HW.out.keep HK8.out (fun b hb e => by have e : b = w.heap.size := e; have := HW.out.lt b hb; omega))
            obtain ⟨⟨b0, b1, b2⟩, b3, b4, b5, b6, b7, b8, b9⟩ := msg_cells (m := m) (v := .slice (some ⟨g, 0, none⟩) m.know.length cap) HM8.out
            have k0 := HKY8.out.cell 0 (by simp)
            have k1 := HKY8.out.cell 1 (by simp)
            have p2 := HW8.out.box.cell 2 (by simp)
            simp only [List.getElem_cons_succ, List.getElem_cons_zero] at k0 k1 p2
            have HLTG : Hid (g < W8.heap.size) := Lib.hid (Ent.lt (x := ⟨m, g, cap⟩) HSL.out HK1N.out)
            obtain ⟨w9, hupd, hm9, hk9⟩ := MsgMap.store place_key ((HW8.out.map.mono (S' := fun b => S b ∨ b = g) (fun b hb => .inl hb)).below (grew_drew _)) place_map (by omega) ⟨m, g, cap⟩ HI.out (HSL.out.below (grew_drew _)) (.inr rfl) (fun e => by rcases e with e | e; exact (HW.out.off mp e).2.1 rfl; have h1 := HW.out.lt mp HW.out.inm; have h2 := HGW.out; omega)
            have HUP := Lib.hid (HW.out.with_ ⟨m, g, cap⟩ (Nat.le_of_lt HGW.out) HLTG.out (Nat.le_refl _) HK8.out hm9 ((Keep.of_grew (grew_drew _) (Just mp)).trans hk9 (fun _ _ e => e)) (HW.out.ok.with_ HMAY.out HLEN.out HRM.out))
            simp only [Ent.val, Ent.sl, msgV, keyV, Mesg.Msg.key] at hupd
            clear hm9 hk9
            go_region
            all_goals
              go_wp2_with fail
              refine (hold_tell HUP.out.1).mono ?_
              rintro e w10 ⟨T, xs, es2, rfl, hT, hxs⟩
              have HT := Lib.hid (And.intro hT hxs)
              obtain ⟨ta, tc, rfl⟩ := hT.own.form
              clear hT hxs
              go_wp2
              go_ret2
              have hT := HT.out.1
              have hsz := HUP.out.2.size
              refine ⟨_, rfl, ?_⟩
              rw [HR.out]
              refine ⟨_, xs, fun b => F b ∨ b = g, rfl, hT.own, HT.out.2, fun y hy => ⟨(hT.know y hy).1, fun q hq => hT.hold.ins q ((hT.know y hy).2 q hq)⟩, fun q hq => ⟨Nat.le_trans hsz (hT.new q hq), fun e => by have h1 := HUP.out.1.lt q e; have h2 := hT.new q hq; omega⟩, ⟨cb, cc, mp, _, es2, hT.hold⟩, ?_, ?_, ?_⟩
              · exact (HUP.out.2.more (S' := fun b => F b ∨ b = g) (fun b _ e => .inl e)).trans hT.keep (fun _ _ e => e) |>.more (fun b hb e => by rcases e with e | e; exact e; have := HGW.out; omega)
              · intro b hb
                rcases hb with hb | hb
                · exact .inl hb
                · exact .inr (by have := HGW.out; omega)
              · show (Hold.tell (Hold.with_ s m).l.length (Hold.with_ s m)).2.l.length ≤ (Hold.tell (Hold.with_ s m).l.length (Hold.with_ s m)).2.room
                rw [(Hold.tell_len _ _).2]
                exact HRL.out
          · clear hfull hdu
            go_wp2_with fail
            refine (ints_Clone _ m.know _ (HV.out.below HB6.out) HK1N.out (by omega)).mono ?_
            rintro e w7 ⟨v4, rfl, g, cap, hf⟩
            have HF := Lib.hid hf
            obtain rfl := hf.val
            have HM7 := Lib.hid (HM6.out.keep (Keep.of_grew hf.bel Non) (fun h => h))
            have HKY7 := Lib.hid (HKY6.out.keep (Keep.of_grew hf.bel Non) (fun h => h))
            clear hf l2 a0
            have l2 := (msg_cells (m := m) (v := .slice va m.know.length vc) HM7.out).1.2.2
            have f2 := HM7.out.frozen 2
            have HM8 := Lib.hid (HM7.out.set 2 (.slice (some ⟨g, 0, none⟩) m.know.length cap) (by simp))
            have HKY8 := Lib.hid (HKY7.out.keep (Keep.setCell w7 w.heap.size 2 (.slice (some ⟨g, 0, none⟩) m.know.length cap)) (fun e => by have e : w1.heap.size = w.heap.size := e; have := HW1S.out; omega))
            have HK8 : Hid (Keep (Just w.heap.size) w (w7.setCell ⟨w.heap.size, 2, none⟩ (.slice (some ⟨g, 0, none⟩) m.know.length cap))) := Lib.hid ((Keep.of_grew (grew HB6.out HF.out.bel) (Just w.heap.size)).trans (Keep.setCell _ _ _ _) (fun _ _ e => e))
            have HGW : Hid (w.heap.size < g) := Lib.hid (by have h1 := HF.out.new; have h2 := HM6.out.lt; omega)
            have HSL : Hid (SliceI (w7.setCell ⟨w.heap.size, 2, none⟩ (.slice (some ⟨g, 0, none⟩) m.know.length cap)) (.slice (some ⟨g, 0, none⟩) m.know.length cap) m.know) := Lib.hid (HF.out.own.slice.keep (Keep.setCell _ _ _ _) (fun g' hg e => by have e : g' = w.heap.size := e; have e2 : g = g' := Option.some.inj hg; have := HGW.out; omega))
            go_wp2_with fail
            generalize hW8 : w7.setCell ⟨w.heap.size, 2, none⟩ (.slice (some ⟨g, 0, none⟩) m.know.length cap) = W8 at *
            clear hW8
            have HW8 := Lib.hid (HW.out.keep HK8.out (fun b hb e => by have e : b = w.heap.size := e; have := HW.out.lt b hb; omega))
            obtain ⟨⟨b0, b1, b2⟩, b3, b4, b5, b6, b7, b8, b9⟩ := msg_cells (m := m) (v := .slice (some ⟨g, 0, none⟩) m.know.length cap) HM8.out
            have k0 := HKY8.out.cell 0 (by simp)
            have k1 := HKY8.out.cell 1 (by simp)
            have p2 := HW8.out.box.cell 2 (by simp)
            simp only [List.getElem_cons_succ, List.getElem_cons_zero] at k0 k1 p2
            have HLTG : Hid (g < W8.heap.size) := Lib.hid (Ent.lt (x := ⟨m, g, cap⟩) HSL.out HK1N.out)
            obtain ⟨w9, hupd, hm9, hk9⟩ := MsgMap.store place_key ((HW8.out.map.mono (S' := fun b => S b ∨ b = g) (fun b hb => .inl hb)).below (grew_drew _)) place_map (by omega) ⟨m, g, cap⟩ HI.out (HSL.out.below (grew_drew _)) (.inr rfl) (fun e => by rcases e with e | e; exact (HW.out.off mp e).2.1 rfl; have h1 := HW.out.lt mp HW.out.inm; have h2 := HGW.out; omega)
            have HUP := Lib.hid (HW.out.with_ ⟨m, g, cap⟩ (Nat.le_of_lt HGW.out) HLTG.out (Nat.le_refl _) HK8.out hm9 ((Keep.of_grew (grew_drew _) (Just mp)).trans hk9 (fun _ _ e => e)) (HW.out.ok.with_ HMAY.out HLEN.out HRM.out))
            simp only [Ent.val, Ent.sl, msgV, keyV, Mesg.Msg.key] at hupd
            clear hm9 hk9
            go_region
            all_goals
              go_wp2_with fail
              refine (hold_tell HUP.out.1).mono ?_
              rintro e w10 ⟨T, xs, es2, rfl, hT, hxs⟩
              have HT := Lib.hid (And.intro hT hxs)
              obtain ⟨ta, tc, rfl⟩ := hT.own.form
              clear hT hxs
              go_wp2
              go_ret2
              have hT := HT.out.1
              have hsz := HUP.out.2.size
              refine ⟨_, rfl, ?_⟩
              rw [HR.out]
              refine ⟨_, xs, fun b => F b ∨ b = g, rfl, hT.own, HT.out.2, fun y hy => ⟨(hT.know y hy).1, fun q hq => hT.hold.ins q ((hT.know y hy).2 q hq)⟩, fun q hq => ⟨Nat.le_trans hsz (hT.new q hq), fun e => by have h1 := HUP.out.1.lt q e; have h2 := hT.new q hq; omega⟩, ⟨cb, cc, mp, _, es2, hT.hold⟩, ?_, ?_, ?_⟩
              · exact (HUP.out.2.more (S' := fun b => F b ∨ b = g) (fun b _ e => .inl e)).trans hT.keep (fun _ _ e => e) |>.more (fun b hb e => by rcases e with e | e; exact e; have := HGW.out; omega)
              · intro b hb
                rcases hb with hb | hb
                · exact .inl hb
                · exact .inr (by have := HGW.out; omega)
              · show (Hold.tell (Hold.with_ s m).l.length (Hold.with_ s m)).2.l.length ≤ (Hold.tell (Hold.with_ s m).l.length (Hold.with_ s m)).2.room
                rw [(Hold.tell_len _ _).2]
                exact HRL.out
      · have HCE := Lib.hid (HCOV.out.trans hcv)
        have HR : Hid (Hold.put s m = ([], 7, s)) := Lib.hid (by
          unfold Hold.put
          rw [if_pos ⟨HMAY.out, HLEN.out⟩, if_pos (.inl (of_decide_eq_true hcv))])
        clear hcv
        go_quiet ((go_at_call 31; exact Calls.quiet_of_same ((HCV.out _ (grew HB3.out (grew_drewN _ _))).mono fun _ _ ⟨h1, h2⟩ => ⟨h1.trans (by rw [HCE.out]), h2.symm⟩)))
        go_wp2
        go_ret2
        exact ⟨_, rfl, by rw [HR.out]; exact PutOut.no H0.out HRM.out (grew HB3.out (grew_drewN _ _))⟩
  | some x =>
    obtain ⟨hxm, hxk⟩ := at_some hat
    have HX := Lib.hid hxm
    have HXM : Hid (Mesg.may x.m = true ∧ x.m.know.length = s.clock.length) := Lib.hid (HW.out.ok.may x.m (by rw [← HW.out.is]; exact List.mem_map_of_mem hxm))
    have HOT : Hid ((Hold.but s.l (Hold.key m)).length + 1 = es.length) := Lib.hid (by
      have h1 : x.m ∈ s.l := by rw [← HW.out.is]; exact List.mem_map_of_mem hxm
      have h2 := Hold.but_length HW.out.ok.apart h1
      have h3 : Hold.key x.m = Hold.key m := hxk
      rw [h3] at h2
      rw [h2, ← HW.out.is]
      simp)
    have HFN : Hid (Hold.find s.l (Hold.key m) = some x.m) := Lib.hid (by rw [HFI.out, hat]; rfl)
    rw [hat] at HLK
    have q1 := HLK.out W2.drew (grew_drew _)
    have q2 := HLK.out ((W2.alloc (.cells (msgL Mesg.none (.slice none 0 0)).toArray 40)).drew) (grew (grew_alloc _ _) (grew_drew _))
    simp only [Ent.val, Ent.sl, msgV, msgL, Mesg.none, Mesg.noOp, Mesg.zero, Option.isSome_some] at q1 q2
    clear hat hxm hxk
    go_region
    all_goals
      clear k0' k1' p2' q1 q2 k0 k1 p2 HK3 HW3 HLK
      go_wp2_with fail
      have hb3 := grew (grew_alloc W2 (.cells #[.int .i64 x.m.site, .int .i64 x.m.seq, .slice (some ⟨x.b, 0, none⟩) x.m.know.length x.c, .int .i64 x.m.op.kind, .int .i64 x.m.op.epoch, .int .i64 x.m.op.id.time, .int .i64 x.m.op.id.site, .int .i64 x.m.op.ref.time, .int .i64 x.m.op.ref.site, .int .i64 x.m.op.rune] 40)) (grew_drew _)
      have HY3 : Hid (Holds ((W2.alloc (.cells #[.int .i64 x.m.site, .int .i64 x.m.seq, .slice (some ⟨x.b, 0, none⟩) x.m.know.length x.c, .int .i64 x.m.op.kind, .int .i64 x.m.op.epoch, .int .i64 x.m.op.id.time, .int .i64 x.m.op.id.site, .int .i64 x.m.op.ref.time, .int .i64 x.m.op.ref.site, .int .i64 x.m.op.rune] 40)).drew) W2.heap.size (msgL x.m (.slice (some ⟨x.b, 0, none⟩) x.m.know.length x.c)) 40) := Lib.hid ((Holds.new W2 (msgL x.m (.slice (some ⟨x.b, 0, none⟩) x.m.know.length x.c)) 40).keep (Keep.of_grew (grew_drew _) Non) (fun h => h))
      have HB3 := Lib.hid (grew HB2.out hb3)
      have HM3 := Lib.hid (HM2.out.keep (Keep.of_grew hb3 Non) (fun h => h))
      have HKY3 := Lib.hid (HK2.out.keep (Keep.of_grew hb3 Non) (fun h => h))
      clear hb3
      generalize (W2.alloc (.cells _ 40)).drew = W3 at *
      have c1 := (HW.out.below HB3.out).box.cell 1 (by simp)
      simp only [List.getElem_cons_succ, List.getElem_cons_zero] at c1
      unfold clockV at c1
      obtain ⟨⟨l0, l1, l2⟩, l3, l4, l5, l6, l7, l8, l9⟩ := msg_cells (m := m) (v := .slice va m.know.length vc) HM3.out
      obtain ⟨⟨y0, y1, y2⟩, y3, y4, y5, y6, y7, y8, y9⟩ := msg_cells (m := x.m) (v := .slice (some ⟨x.b, 0, none⟩) x.m.know.length x.c) HY3.out
      cases hcv : decide (m.seq ≤ s.clock.getD m.site.toNat 0)
      · have HCE := Lib.hid (HCOV.out.trans hcv)
        have HCN := Lib.hid (of_decide_eq_false hcv)
        clear hcv
        have HSM := Lib.hid (fun W (hb : Below w.heap.size w W) => hold_same x.m m x.sl (.slice va m.know.length vc) W ((HW.out.below hb).map.know x HX.out).1 (HV.out.below hb) (by have h1 := HXM.out.2; omega) (by omega))
        unfold Ent.sl msgV at HSM
        cases hsd : decide (x.m = m)
        · have HSD := Lib.hid hsd
          have HNOLD : Hid (¬ (m.seq ≤ s.clock.getD m.site.toNat 0 ∨ Hold.find s.l (Hold.key m) = some m)) := Lib.hid (fun h => by
            rcases h with h | h
            · exact absurd h HCN.out
            · rw [HFN.out] at h
              exact of_decide_eq_false HSD.out (Option.some.inj h))
          clear hsd
          go_region_held3 (fun w' => w'.cell? ⟨w.heap.size, 0, none⟩ = some (.int .i64 m.site) ∧ w'.cell? ⟨w.heap.size, 1, none⟩ = some (.int .i64 m.seq) ∧ w'.cell? ⟨w.heap.size, 2, none⟩ = some (.slice va m.know.length vc) ∧ w'.cell? ⟨w.heap.size, 3, none⟩ = some (.int .i64 m.op.kind) ∧ w'.cell? ⟨w.heap.size, 4, none⟩ = some (.int .i64 m.op.epoch) ∧ w'.cell? ⟨w.heap.size, 5, none⟩ = some (.int .i64 m.op.id.time) ∧ w'.cell? ⟨w.heap.size, 6, none⟩ = some (.int .i64 m.op.id.site) ∧ w'.cell? ⟨w.heap.size, 7, none⟩ = some (.int .i64 m.op.ref.time) ∧ w'.cell? ⟨w.heap.size, 8, none⟩ = some (.int .i64 m.op.ref.site) ∧ w'.cell? ⟨w.heap.size, 9, none⟩ = some (.int .i64 m.op.rune) ∧ w'.cell? ⟨W2.heap.size, 0, none⟩ = some (.int .i64 x.m.site) ∧ w'.cell? ⟨W2.heap.size, 1, none⟩ = some (.int .i64 x.m.seq) ∧ w'.cell? ⟨W2.heap.size, 2, none⟩ = some (.slice (some ⟨x.b, 0, none⟩) x.m.know.length x.c) ∧ w'.cell? ⟨W2.heap.size, 3, none⟩ = some (.int .i64 x.m.op.kind) ∧ w'.cell? ⟨W2.heap.size, 4, none⟩ = some (.int .i64 x.m.op.epoch) ∧ w'.cell? ⟨W2.heap.size, 5, none⟩ = some (.int .i64 x.m.op.id.time) ∧ w'.cell? ⟨W2.heap.size, 6, none⟩ = some (.int .i64 x.m.op.id.site) ∧ w'.cell? ⟨W2.heap.size, 7, none⟩ = some (.int .i64 x.m.op.ref.time) ∧ w'.cell? ⟨W2.heap.size, 8, none⟩ = some (.int .i64 x.m.op.ref.site) ∧ w'.cell? ⟨W2.heap.size, 9, none⟩ = some (.int .i64 x.m.op.rune) ∧ w'.cell? ⟨p, 1, none⟩ = some (.slice (some ⟨cb, 0, none⟩) s.clock.length cc))
            (first | exact ⟨l0, l1, l2, l3, l4, l5, l6, l7, l8, l9, y0, y1, y2, y3, y4, y5, y6, y7, y8, y9, c1⟩ | exact ⟨e0, e1, e2, e3, e4, e5, e6, e7, e8, e9, f0, f1, f2, f3, f4, f5, f6, f7, f8, f9, t0⟩)
            (first
              | (go_at_call 31; refine (HCV.out _ (grew HB3.out (grew_drew _))).mono ?_; rintro e w4 ⟨rfl, rfl⟩; rw [HCE.out])
              | (go_at_call 32; refine (HSM.out _ (grew HB3.out (grew_drew _))).mono ?_; rintro e w5 ⟨rfl, hb⟩; rw [HSD.out]; have HB5 := Lib.hid (grew HB3.out (grew (grew_drew _) hb)); have HM5 := Lib.hid (Holds.keep (a := W3) HM3.out (Keep.of_grew (grew (grew_drew _) hb) Non) (fun h => h)); have HY5 := Lib.hid (Holds.keep (a := W3) HY3.out (Keep.of_grew (grew (grew_drew _) hb) Non) (fun h => h)); have HKY5 := Lib.hid (Holds.keep (a := W3) HKY3.out (Keep.of_grew (grew (grew_drew _) hb) Non) (fun h => h)); clear hb; have t0 := (HW.out.below HB5.out).box.cell 1 (by simp); simp only [List.getElem_cons_succ, List.getElem_cons_zero] at t0; unfold clockV at t0; obtain ⟨⟨e0, e1, e2⟩, e3, e4, e5, e6, e7, e8, e9⟩ := msg_cells (m := m) (v := .slice va m.know.length vc) HM5.out; obtain ⟨⟨f0, f1, f2⟩, f3, f4, f5, f6, f7, f8, f9⟩ := msg_cells (m := x.m) (v := .slice (some ⟨x.b, 0, none⟩) x.m.know.length x.c) HY5.out))
          clear l0 l1 l2 l3 l4 l5 l6 l7 l8 l9 y0 y1 y2 y3 y4 y5 y6 y7 y8 y9 c1 e0 e1 e2 e3 e4 e5 e6 e7 e8 e9 f0 f1 f2 f3 f4 f5 f6 f7 f8 f9 t0
          have HW5 := Lib.hid (HW.out.below HB5.out)
          have a0 := HW5.out.box.cell 0 (by simp)
          have a2 := HW5.out.box.cell 2 (by simp)
          simp only [List.getElem_cons_succ, List.getElem_cons_zero] at a0 a2
          have hlen := HW5.out.map.len place_map
          obtain ⟨⟨l0, l1, l2⟩, l3, l4, l5, l6, l7, l8, l9⟩ := msg_cells (m := m) (v := .slice va m.know.length vc) HM5.out
          have hwo : IntKind.i64.wrap ((es.length : Int) - 1) = (es.length : Int) - 1 := by rw [IntKind.wrap_i64]; omega
          go_wp2_with fail
          refine (hold_due ⟨_, _, _, _, _, HW5.out⟩ m (.slice va m.know.length vc) (HV.out.below HB5.out) HMAY.out HLEN.out).mono ?_
          rintro e w6 ⟨rfl, hb6⟩
          have HB6 := Lib.hid (grew HB5.out hb6)
          have HM6 := Lib.hid (HM5.out.keep (Keep.of_grew hb6 Non) (fun h => h))
          have HKY6 := Lib.hid (HKY5.out.keep (Keep.of_grew hb6 Non) (fun h => h))
          clear hb6 a0 a2 hlen l0 l1 l2 l3 l4 l5 l6 l7 l8 l9
          have a0 := (HW.out.below HB6.out).box.cell 0 (by simp)
          simp only [List.getElem_cons_zero] at a0
          have l2 := (msg_cells (m := m) (v := .slice va m.know.length vc) HM6.out).1.2.2
          by_cases hfull : Hold.due s.clock m = false ∧ s.room ≤ (Hold.but s.l (Hold.key m)).length
          · have hd : decide ((s.room : Int) ≤ ((es.length : Int) - 1)) = true := decide_eq_true (by have := HOT.out; omega)
            skip
            have HR : Hid (Hold.put s m = ([], 5, s)) := Lib.hid (by
              unfold Hold.put
              rw [if_pos ⟨HMAY.out, HLEN.out⟩, if_neg HNOLD.out, if_pos hfull])
            rw [hfull.1]
            clear hfull
            go_wp2
            go_ret2
            exact ⟨_, rfl, by rw [HR.out]; exact PutOut.no H0.out HRM.out HB6.out⟩
          · have HR : Hid (Hold.put s m = ((Hold.tell (Hold.with_ s m).l.length (Hold.with_ s m)).1, 0, (Hold.tell (Hold.with_ s m).l.length (Hold.with_ s m)).2)) := Lib.hid (by
              unfold Hold.put
              rw [if_pos ⟨HMAY.out, HLEN.out⟩, if_neg HNOLD.out, if_neg hfull]
              have e : (Hold.with_ s m).l.length = (Hold.but s.l (Hold.key m)).length + 1 := by simp [Hold.with_]
              rw [e]
              rfl)
            have HRL : Hid ((Hold.tell (Hold.with_ s m).l.length (Hold.with_ s m)).2.l.length ≤ s.room) := Lib.hid (Hold.room_left HW.out.ok HMAY.out HLEN.out HRM.out (by
              cases hdu : Hold.due s.clock m
              · right
                exact Classical.byContradiction fun h => hfull ⟨hdu, by omega⟩
              · exact .inl rfl))
            cases hdu : Hold.due s.clock m
            · have hd : decide ((s.room : Int) ≤ ((es.length : Int) - 1)) = false := decide_eq_false (by have h1 : ¬ s.room ≤ (Hold.but s.l (Hold.key m)).length := fun h => hfull ⟨hdu, h⟩; have := HOT.out; omega)
              skip
              clear hfull hdu
              go_wp2_with fail
              refine (ints_Clone _ m.know _ (HV.out.below HB6.out) HK1N.out (by omega)).mono ?_
              rintro e w7 ⟨v4, rfl, g, cap, hf⟩
              have HF := Lib.hid hf
              obtain rfl := hf.val
              have HM7 := Lib.hid (HM6.out.keep (Keep.of_grew hf.bel Non) (fun h => h))
              have HKY7 := Lib.hid (HKY6.out.keep (Keep.of_grew hf.bel Non) (fun h => h))
              clear hf l2 a0
              have l2 := (msg_cells (m := m) (v := .slice va m.know.length vc) HM7.out).1.2.2
              have f2 := HM7.out.frozen 2
              have HM8 := Lib.hid (HM7.out.set 2 (.slice (some ⟨g, 0, none⟩) m.know.length cap) (by simp))
              have HKY8 := Lib.hid (HKY7.out.keep (Keep.setCell w7 w.heap.size 2 (.slice (some ⟨g, 0, none⟩) m.know.length cap)) (fun e => by have e : w1.heap.size = w.heap.size := e; have := HW1S.out; omega))
              have HK8 : Hid (Keep (Just w.heap.size) w (w7.setCell ⟨w.heap.size, 2, none⟩ (.slice (some ⟨g, 0, none⟩) m.know.length cap))) := Lib.hid ((Keep.of_grew (grew HB6.out HF.out.bel) (Just w.heap.size)).trans (Keep.setCell _ _ _ _) (fun _ _ e => e))
              have HGW : Hid (w.heap.size < g) := Lib.hid (by have h1 := HF.out.new; have h2 := HM6.out.lt; omega)
              have HSL : Hid (SliceI (w7.setCell ⟨w.heap.size, 2, none⟩ (.slice (some ⟨g, 0, none⟩) m.know.length cap)) (.slice (some ⟨g, 0, none⟩) m.know.length cap) m.know) := Lib.hid (HF.out.own.slice.keep (Keep.setCell _ _ _ _) (fun g' hg e => by have e : g' = w.heap.size := e; have e2 : g = g' := Option.some.inj hg; have := HGW.out; omega))
              go_wp2_with fail
              generalize hW8 : w7.setCell ⟨w.heap.size, 2, none⟩ (.slice (some ⟨g, 0, none⟩) m.know.length cap) = W8 at *
              clear hW8
              have HW8 := Lib.hid (HW.out.keep HK8.out (fun b hb e => by have e : b = w.heap.size := e; have := HW.out.lt b hb; omega))
              obtain ⟨⟨b0, b1, b2⟩, b3, b4, b5, b6, b7, b8, b9⟩ := msg_cells (m := m) (v := .slice (some ⟨g, 0, none⟩) m.know.length cap) HM8.out
              have k0 := HKY8.out.cell 0 (by simp)
              have k1 := HKY8.out.cell 1 (by simp)
              have p2 := HW8.out.box.cell 2 (by simp)
              simp only [List.getElem_cons_succ, List.getElem_cons_zero] at k0 k1 p2
              have HLTG : Hid (g < W8.heap.size) := Lib.hid (Ent.lt (x := ⟨m, g, cap⟩) HSL.out HK1N.out)
              obtain ⟨w9, hupd, hm9, hk9⟩ := MsgMap.store place_key ((HW8.out.map.mono (S' := fun b => S b ∨ b = g) (fun b hb => .inl hb)).below (grew_drew _)) place_map (by omega) ⟨m, g, cap⟩ HI.out (HSL.out.below (grew_drew _)) (.inr rfl) (fun e => by rcases e with e | e; exact (HW.out.off mp e).2.1 rfl; have h1 := HW.out.lt mp HW.out.inm; have h2 := HGW.out; omega)
              have HUP := Lib.hid (HW.out.with_ ⟨m, g, cap⟩ (Nat.le_of_lt HGW.out) HLTG.out (Nat.le_refl _) HK8.out hm9 ((Keep.of_grew (grew_drew _) (Just mp)).trans hk9 (fun _ _ e => e)) (HW.out.ok.with_ HMAY.out HLEN.out HRM.out))
              simp only [Ent.val, Ent.sl, msgV, keyV, Mesg.Msg.key] at hupd
              clear hm9 hk9
              go_region
              all_goals
                go_wp2_with fail
                refine (hold_tell HUP.out.1).mono ?_
                rintro e w10 ⟨T, xs, es2, rfl, hT, hxs⟩
                have HT := Lib.hid (And.intro hT hxs)
                obtain ⟨ta, tc, rfl⟩ := hT.own.form
                clear hT hxs
                go_wp2
                go_ret2
                have hT := HT.out.1
                have hsz := HUP.out.2.size
                refine ⟨_, rfl, ?_⟩
                rw [HR.out]
                refine ⟨_, xs, fun b => F b ∨ b = g, rfl, hT.own, HT.out.2, fun y hy => ⟨(hT.know y hy).1, fun q hq => hT.hold.ins q ((hT.know y hy).2 q hq)⟩, fun q hq => ⟨Nat.le_trans hsz (hT.new q hq), fun e => by have h1 := HUP.out.1.lt q e; have h2 := hT.new q hq; omega⟩, ⟨cb, cc, mp, _, es2, hT.hold⟩, ?_, ?_, ?_⟩
                · exact (HUP.out.2.more (S' := fun b => F b ∨ b = g) (fun b _ e => .inl e)).trans hT.keep (fun _ _ e => e) |>.more (fun b hb e => by rcases e with e | e; exact e; have := HGW.out; omega)
                · intro b hb
                  rcases hb with hb | hb
                  · exact .inl hb
                  · exact .inr (by have := HGW.out; omega)
                · show (Hold.tell (Hold.with_ s m).l.length (Hold.with_ s m)).2.l.length ≤ (Hold.tell (Hold.with_ s m).l.length (Hold.with_ s m)).2.room
                  rw [(Hold.tell_len _ _).2]
                  exact HRL.out
            · clear hfull hdu
              go_wp2_with fail
              refine (ints_Clone _ m.know _ (HV.out.below HB6.out) HK1N.out (by omega)).mono ?_
              rintro e w7 ⟨v4, rfl, g, cap, hf⟩
              have HF := Lib.hid hf
              obtain rfl := hf.val
              have HM7 := Lib.hid (HM6.out.keep (Keep.of_grew hf.bel Non) (fun h => h))
              have HKY7 := Lib.hid (HKY6.out.keep (Keep.of_grew hf.bel Non) (fun h => h))
              clear hf l2 a0
              have l2 := (msg_cells (m := m) (v := .slice va m.know.length vc) HM7.out).1.2.2
              have f2 := HM7.out.frozen 2
              have HM8 := Lib.hid (HM7.out.set 2 (.slice (some ⟨g, 0, none⟩) m.know.length cap) (by simp))
              have HKY8 := Lib.hid (HKY7.out.keep (Keep.setCell w7 w.heap.size 2 (.slice (some ⟨g, 0, none⟩) m.know.length cap)) (fun e => by have e : w1.heap.size = w.heap.size := e; have := HW1S.out; omega))
              have HK8 : Hid (Keep (Just w.heap.size) w (w7.setCell ⟨w.heap.size, 2, none⟩ (.slice (some ⟨g, 0, none⟩) m.know.length cap))) := Lib.hid ((Keep.of_grew (grew HB6.out HF.out.bel) (Just w.heap.size)).trans (Keep.setCell _ _ _ _) (fun _ _ e => e))
              have HGW : Hid (w.heap.size < g) := Lib.hid (by have h1 := HF.out.new; have h2 := HM6.out.lt; omega)
              have HSL : Hid (SliceI (w7.setCell ⟨w.heap.size, 2, none⟩ (.slice (some ⟨g, 0, none⟩) m.know.length cap)) (.slice (some ⟨g, 0, none⟩) m.know.length cap) m.know) := Lib.hid (HF.out.own.slice.keep (Keep.setCell _ _ _ _) (fun g' hg e => by have e : g' = w.heap.size := e; have e2 : g = g' := Option.some.inj hg; have := HGW.out; omega))
              go_wp2_with fail
              generalize hW8 : w7.setCell ⟨w.heap.size, 2, none⟩ (.slice (some ⟨g, 0, none⟩) m.know.length cap) = W8 at *
              clear hW8
              have HW8 := Lib.hid (HW.out.keep HK8.out (fun b hb e => by have e : b = w.heap.size := e; have := HW.out.lt b hb; omega))
              obtain ⟨⟨b0, b1, b2⟩, b3, b4, b5, b6, b7, b8, b9⟩ := msg_cells (m := m) (v := .slice (some ⟨g, 0, none⟩) m.know.length cap) HM8.out
              have k0 := HKY8.out.cell 0 (by simp)
              have k1 := HKY8.out.cell 1 (by simp)
              have p2 := HW8.out.box.cell 2 (by simp)
              simp only [List.getElem_cons_succ, List.getElem_cons_zero] at k0 k1 p2
              have HLTG : Hid (g < W8.heap.size) := Lib.hid (Ent.lt (x := ⟨m, g, cap⟩) HSL.out HK1N.out)
              obtain ⟨w9, hupd, hm9, hk9⟩ := MsgMap.store place_key ((HW8.out.map.mono (S' := fun b => S b ∨ b = g) (fun b hb => .inl hb)).below (grew_drew _)) place_map (by omega) ⟨m, g, cap⟩ HI.out (HSL.out.below (grew_drew _)) (.inr rfl) (fun e => by rcases e with e | e; exact (HW.out.off mp e).2.1 rfl; have h1 := HW.out.lt mp HW.out.inm; have h2 := HGW.out; omega)
              have HUP := Lib.hid (HW.out.with_ ⟨m, g, cap⟩ (Nat.le_of_lt HGW.out) HLTG.out (Nat.le_refl _) HK8.out hm9 ((Keep.of_grew (grew_drew _) (Just mp)).trans hk9 (fun _ _ e => e)) (HW.out.ok.with_ HMAY.out HLEN.out HRM.out))
              simp only [Ent.val, Ent.sl, msgV, keyV, Mesg.Msg.key] at hupd
              clear hm9 hk9
              go_region
              all_goals
                go_wp2_with fail
                refine (hold_tell HUP.out.1).mono ?_
                rintro e w10 ⟨T, xs, es2, rfl, hT, hxs⟩
                have HT := Lib.hid (And.intro hT hxs)
                obtain ⟨ta, tc, rfl⟩ := hT.own.form
                clear hT hxs
                go_wp2
                go_ret2
                have hT := HT.out.1
                have hsz := HUP.out.2.size
                refine ⟨_, rfl, ?_⟩
                rw [HR.out]
                refine ⟨_, xs, fun b => F b ∨ b = g, rfl, hT.own, HT.out.2, fun y hy => ⟨(hT.know y hy).1, fun q hq => hT.hold.ins q ((hT.know y hy).2 q hq)⟩, fun q hq => ⟨Nat.le_trans hsz (hT.new q hq), fun e => by have h1 := HUP.out.1.lt q e; have h2 := hT.new q hq; omega⟩, ⟨cb, cc, mp, _, es2, hT.hold⟩, ?_, ?_, ?_⟩
                · exact (HUP.out.2.more (S' := fun b => F b ∨ b = g) (fun b _ e => .inl e)).trans hT.keep (fun _ _ e => e) |>.more (fun b hb e => by rcases e with e | e; exact e; have := HGW.out; omega)
                · intro b hb
                  rcases hb with hb | hb
                  · exact .inl hb
                  · exact .inr (by have := HGW.out; omega)
                · show (Hold.tell (Hold.with_ s m).l.length (Hold.with_ s m)).2.l.length ≤ (Hold.tell (Hold.with_ s m).l.length (Hold.with_ s m)).2.room
                  rw [(Hold.tell_len _ _).2]
                  exact HRL.out
        · have HSD := Lib.hid hsd
          have HR : Hid (Hold.put s m = ([], 7, s)) := Lib.hid (by
            unfold Hold.put
            rw [if_pos ⟨HMAY.out, HLEN.out⟩, if_pos (.inr (HFN.out.trans (congrArg some (of_decide_eq_true hsd))))])
          clear hsd
          go_region_held3 (fun w' => w'.cell? ⟨w.heap.size, 0, none⟩ = some (.int .i64 m.site) ∧ w'.cell? ⟨w.heap.size, 1, none⟩ = some (.int .i64 m.seq) ∧ w'.cell? ⟨w.heap.size, 2, none⟩ = some (.slice va m.know.length vc) ∧ w'.cell? ⟨w.heap.size, 3, none⟩ = some (.int .i64 m.op.kind) ∧ w'.cell? ⟨w.heap.size, 4, none⟩ = some (.int .i64 m.op.epoch) ∧ w'.cell? ⟨w.heap.size, 5, none⟩ = some (.int .i64 m.op.id.time) ∧ w'.cell? ⟨w.heap.size, 6, none⟩ = some (.int .i64 m.op.id.site) ∧ w'.cell? ⟨w.heap.size, 7, none⟩ = some (.int .i64 m.op.ref.time) ∧ w'.cell? ⟨w.heap.size, 8, none⟩ = some (.int .i64 m.op.ref.site) ∧ w'.cell? ⟨w.heap.size, 9, none⟩ = some (.int .i64 m.op.rune) ∧ w'.cell? ⟨W2.heap.size, 0, none⟩ = some (.int .i64 x.m.site) ∧ w'.cell? ⟨W2.heap.size, 1, none⟩ = some (.int .i64 x.m.seq) ∧ w'.cell? ⟨W2.heap.size, 2, none⟩ = some (.slice (some ⟨x.b, 0, none⟩) x.m.know.length x.c) ∧ w'.cell? ⟨W2.heap.size, 3, none⟩ = some (.int .i64 x.m.op.kind) ∧ w'.cell? ⟨W2.heap.size, 4, none⟩ = some (.int .i64 x.m.op.epoch) ∧ w'.cell? ⟨W2.heap.size, 5, none⟩ = some (.int .i64 x.m.op.id.time) ∧ w'.cell? ⟨W2.heap.size, 6, none⟩ = some (.int .i64 x.m.op.id.site) ∧ w'.cell? ⟨W2.heap.size, 7, none⟩ = some (.int .i64 x.m.op.ref.time) ∧ w'.cell? ⟨W2.heap.size, 8, none⟩ = some (.int .i64 x.m.op.ref.site) ∧ w'.cell? ⟨W2.heap.size, 9, none⟩ = some (.int .i64 x.m.op.rune) ∧ w'.cell? ⟨p, 1, none⟩ = some (.slice (some ⟨cb, 0, none⟩) s.clock.length cc))
            (first | exact ⟨l0, l1, l2, l3, l4, l5, l6, l7, l8, l9, y0, y1, y2, y3, y4, y5, y6, y7, y8, y9, c1⟩ | exact ⟨e0, e1, e2, e3, e4, e5, e6, e7, e8, e9, f0, f1, f2, f3, f4, f5, f6, f7, f8, f9, t0⟩)
            (first
              | (go_at_call 31; refine (HCV.out _ (grew HB3.out (grew_drew _))).mono ?_; rintro e w4 ⟨rfl, rfl⟩; rw [HCE.out])
              | (go_at_call 32; refine (HSM.out _ (grew HB3.out (grew_drew _))).mono ?_; rintro e w5 ⟨rfl, hb⟩; rw [HSD.out]; have HB5 := Lib.hid (grew HB3.out (grew (grew_drew _) hb)); have HM5 := Lib.hid (Holds.keep (a := W3) HM3.out (Keep.of_grew (grew (grew_drew _) hb) Non) (fun h => h)); have HY5 := Lib.hid (Holds.keep (a := W3) HY3.out (Keep.of_grew (grew (grew_drew _) hb) Non) (fun h => h)); have HKY5 := Lib.hid (Holds.keep (a := W3) HKY3.out (Keep.of_grew (grew (grew_drew _) hb) Non) (fun h => h)); clear hb; have t0 := (HW.out.below HB5.out).box.cell 1 (by simp); simp only [List.getElem_cons_succ, List.getElem_cons_zero] at t0; unfold clockV at t0; obtain ⟨⟨e0, e1, e2⟩, e3, e4, e5, e6, e7, e8, e9⟩ := msg_cells (m := m) (v := .slice va m.know.length vc) HM5.out; obtain ⟨⟨f0, f1, f2⟩, f3, f4, f5, f6, f7, f8, f9⟩ := msg_cells (m := x.m) (v := .slice (some ⟨x.b, 0, none⟩) x.m.know.length x.c) HY5.out))
          go_wp2
          go_ret2
          exact ⟨_, rfl, by rw [HR.out]; exact PutOut.no H0.out HRM.out HB5.out⟩
      · have HCE := Lib.hid (HCOV.out.trans hcv)
        have HR : Hid (Hold.put s m = ([], 7, s)) := Lib.hid (by
          unfold Hold.put
          rw [if_pos ⟨HMAY.out, HLEN.out⟩, if_pos (.inl (of_decide_eq_true hcv))])
        clear hcv
        go_quiet ((go_at_call 31; exact Calls.quiet_of_same ((HCV.out _ (grew HB3.out (grew_drewN _ _))).mono fun _ _ ⟨h1, h2⟩ => ⟨h1.trans (by rw [HCE.out]), h2.symm⟩)))
        go_wp2
        go_ret2
        exact ⟨_, rfl, by rw [HR.out]; exact PutOut.no H0.out HRM.out (grew HB3.out (grew_drewN _ _))⟩
end Go.Proofs.Ytjklfjgdmklimaa
