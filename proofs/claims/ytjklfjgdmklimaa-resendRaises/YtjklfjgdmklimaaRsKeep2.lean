/- What Keep of resend comes to, where the message may be. -/
import Derived.Test.YtjklfjgdmklimaaRsKeep
import Derived.Deep.RegionLaw
namespace Go.Proofs.Ytjklfjgdmklimaa
open Go.RowKit Go.Maps
set_option linter.unusedVariables false

theorem Ent.lt {w : World} {x : Ent} (h : SliceI w x.sl x.m.know) (h1 : 1 ≤ x.m.know.length) : x.b < w.heap.size := by
  obtain ⟨a, cap, e, _, h⟩ := h
  rcases h with h | ⟨b, off, rfl, hlt, _⟩
  · rw [h] at h1; simp at h1
  · unfold Ent.sl at e
    injection e with e _ _
    injection e with e
    injection e with e
    omega
theorem but_none {es : List Ent} {k : Int × Int} (h : at? es k = none) : but es k = es := List.filter_eq_self.2 (fun x hx => by simpa using at_none h x hx)

/-- A message more. -/
theorem StoreW.put {w w5 w6 : World} {F : Nat → Prop} {p : Nat} {s : Resend.St} {mp : Nat} {S : Nat → Prop} {es : List Ent} (h : StoreW w F p s mp S es) (hb : Below w.heap.size w w5) (x : Ent) (hg : w.heap.size ≤ x.b) (hlt : x.b < w5.heap.size)
    (hm : MsgMap w6 64 mp (fun b => S b ∨ b = x.b) (but es (Mesg.Msg.key x.m) ++ [x])) (hk : Keep (Just mp) w5 w6) (hno : at? es (Mesg.Msg.key x.m) = none) (hok : Resend.Ok { s with l := s.l ++ [x.m] }) : SStep w F p { s with l := s.l ++ [x.m] } w6 := by
  rw [but_none hno] at hm
  have hpl := h.box.lt
  have hml := h.map.lt
  refine ⟨fun b => F b ∨ b = x.b, ⟨mp, fun b => S b ∨ b = x.b, es ++ [x], ⟨hok, ((h.box.keep (Keep.of_grew hb Non) (fun h => h)).keep hk (fun e => h.pm e)), hm, by simp [h.is], fun b hb => ?_, h.pm, .inl h.inp, .inl h.inm, fun b hb => hb.imp (h.ins b) id, fun b hb => ?_⟩⟩, ?_, fun b hb => ?_⟩
  · rcases hb with hb | rfl
    · exact h.off b hb
    · exact ⟨by omega, by omega⟩
  · have := hk.size
    rcases hb with hb' | rfl
    · have := h.lt b hb'
      have := hb.size
      omega
    · omega
  · exact (Keep.of_grew hb F).trans hk (fun i _ e => by rw [show i = mp from e]; exact h.inm)
  · rcases hb with hb | rfl
    · exact .inl hb
    · exact .inr hg

set_option maxRecDepth 100000 in
set_option maxHeartbeats 4000000 in
theorem resend_Keep_yes {w : World} {F : Nat → Prop} {p : Nat} {s : Resend.St} (h0 : IsStore w F p s) (m : Mesg.Msg) (v : Value) (hv : SliceI w v m.know) (hm : m.know.length ≤ 1000000000) (hmay : Mesg.may m = true) (hlen : m.know.length = s.sites) :
    Calls Try.prog 26 #[.pointer (some ⟨p, 0, none⟩), msgV m v] w fun e w' => e = .returned (.int .i64 (Resend.keep s m).1) ∧ SStep w F p (Resend.keep s m).2 w' := by
  have HC := Lib.hid (fun W (hb : Below w.heap.size w W) => mesg_Check m v W (hv.below hb) hm)
  have HV := Lib.hid hv
  have H0 := Lib.hid h0
  obtain ⟨mp, S, es, h⟩ := h0
  have HPL := Lib.hid h.box.lt
  have HW := Lib.hid h
  have hst := h.ok.sites
  obtain ⟨va, vc, rfl⟩ := hv.shape
  have HB := Lib.hid (grew_alloc w (.cells (msgL m (.slice va m.know.length vc)).toArray 40))
  have HM := Lib.hid (Holds.new w (msgL m (.slice va m.know.length vc)) 40)
  clear hv h
  have HE := Lib.hid (checkN_yes hmay)
  have HMAY := Lib.hid hmay
  have hd : (((m.know.length : Nat) : Int) != ((s.sites : Nat) : Int)) = false := by rw [hlen]; simp
  have HLEN := Lib.hid hlen
  clear hmay hlen
  unfold msgV
  go_enter Try.func26, Try.ntmps26
  go_wp2_with fail
  unfold msgL at HB HM
  generalize hW : (w.alloc (.cells _ 40)) = W at *
  clear hW
  obtain ⟨⟨d0, d1, d2⟩, d3, d4, d5, d6, d7, d8, d9⟩ := msg_cells (m := m) (v := .slice va m.know.length vc) HM.out
  have s0 : W.cell? ⟨p, 0, none⟩ = some (.int .i64 (s.sites : Int)) := (HW.out.below HB.out).box.cell 0 (by simp)
  go_region_held3 (fun w' => w'.cell? ⟨w.heap.size, 0, none⟩ = some (.int .i64 m.site) ∧ w'.cell? ⟨w.heap.size, 1, none⟩ = some (.int .i64 m.seq) ∧ w'.cell? ⟨w.heap.size, 2, none⟩ = some (.slice va m.know.length vc) ∧ w'.cell? ⟨w.heap.size, 3, none⟩ = some (.int .i64 m.op.kind) ∧ w'.cell? ⟨w.heap.size, 4, none⟩ = some (.int .i64 m.op.epoch) ∧ w'.cell? ⟨w.heap.size, 5, none⟩ = some (.int .i64 m.op.id.time) ∧ w'.cell? ⟨w.heap.size, 6, none⟩ = some (.int .i64 m.op.id.site) ∧ w'.cell? ⟨w.heap.size, 7, none⟩ = some (.int .i64 m.op.ref.time) ∧ w'.cell? ⟨w.heap.size, 8, none⟩ = some (.int .i64 m.op.ref.site) ∧ w'.cell? ⟨w.heap.size, 9, none⟩ = some (.int .i64 m.op.rune) ∧ w'.cell? ⟨p, 0, none⟩ = some (.int .i64 (s.sites : Int)))
    (first | exact ⟨d0, d1, d2, d3, d4, d5, d6, d7, d8, d9, s0⟩ | exact ⟨e0, e1, e2, e3, e4, e5, e6, e7, e8, e9, t0⟩)
    (first
      | (go_at_call 30; refine (HC.out _ (grew HB.out (grew_drew _))).mono ?_; rintro e w1 ⟨rfl, hb⟩; rw [HE.out]; have HM1 := Lib.hid (Holds.keep (a := W.drew) HM.out (Keep.of_grew hb Non) (fun h => h)); have t0 : w1.cell? ⟨p, 0, none⟩ = some (.int .i64 (s.sites : Int)) := (hb.cell (p := ⟨p, 0, none⟩) (Nat.lt_of_lt_of_le HPL.out HB.out.size)).trans s0; have HB1 := Lib.hid (grew HB.out (grew (grew_drew _) hb)); clear hb; obtain ⟨⟨e0, e1, e2⟩, e3, e4, e5, e6, e7, e8, e9⟩ := msg_cells HM1.out))
  go_wp2_with fail
  have hbd := Resend.may_bounds HMAY.out
  have hI1 : I64 m.site := by unfold I64; omega
  have hI2 : I64 m.seq := by unfold I64; omega
  have HI := Lib.hid (And.intro hI1 hI2)
  have HB2 := Lib.hid (grew HB1.out (grew_alloc w1 (.cells #[.int .i64 m.site, .int .i64 m.seq] 64)))
  have HK2 := Lib.hid (Holds.new w1 [.int .i64 m.site, .int .i64 m.seq] 64)
  have HM2 := Lib.hid (HM1.out.keep (S := Non) (Keep.alloc _ _ (.cells #[.int .i64 m.site, .int .i64 m.seq] 64)) (fun h => h))
  have HG2 := Lib.hid HM1.out.lt
  generalize hW2 : (w1.alloc (.cells _ 64)) = W2 at *
  clear hW2 hbd hI1 hI2
  have HW2 := Lib.hid (HW.out.below HB2.out)
  have k0 := HK2.out.cell 0 (by simp)
  have k1 := HK2.out.cell 1 (by simp)
  simp only [List.getElem_cons_succ, List.getElem_cons_zero] at k0 k1
  have p2 := HW2.out.box.cell 2 (by simp)
  have p1 := HW2.out.box.cell 1 (by simp)
  simp only [List.getElem_cons_succ, List.getElem_cons_zero] at p1 p2
  have HK3 := Lib.hid (HK2.out.keep (S := Non) (Keep.alloc _ _ (.cells (msgL Mesg.none (.slice none 0 0)).toArray 40)) (fun h => h))
  have k0' := HK3.out.cell 0 (by simp)
  have k1' := HK3.out.cell 1 (by simp)
  have HW3 := Lib.hid (HW2.out.below (grew_alloc _ (.cells (msgL Mesg.none (.slice none 0 0)).toArray 40)))
  have p2' := HW3.out.box.cell 2 (by simp)
  simp only [List.getElem_cons_succ, List.getElem_cons_zero] at k0' k1' p2'
  simp only [msgL, Mesg.none, Mesg.noOp, Mesg.zero] at k0' k1' p2'
  have HLK : Hid (∀ W', Below W2.heap.size W2 W' → (Instr.lookup 85 (.map (some mp)) (.agg #[.int .i64 m.site, .int .i64 m.seq]) true).run Try.prog W' = .ok (.tuple #[(match at? es (m.site, m.seq) with | some x => x.val | none => msgV Mesg.none (.slice none 0 0)), .bool (at? es (m.site, m.seq)).isSome]) W') := Lib.hid (fun W' hb => MsgMap.look ask_key (HW2.out.map.below hb) ask_map HI.out.1 HI.out.2)
  cases hat : at? es (m.site, m.seq) with
  | some x =>
    have HR : Hid (Resend.keep s m = (7, s)) := Lib.hid (by unfold Resend.keep; rw [if_pos ⟨HMAY.out, HLEN.out⟩, find_is HW.out.is]; unfold Resend.key; rw [hat]; rfl)
    rw [hat] at HLK
    clear hat
    have q1 := HLK.out W2.drew (grew_drew _)
    have q2 := HLK.out ((W2.alloc (.cells (msgL Mesg.none (.slice none 0 0)).toArray 40)).drew) (grew (grew_alloc _ _) (grew_drew _))
    simp only [Ent.val, Ent.sl, msgV, msgL, Mesg.none, Mesg.noOp, Mesg.zero, Option.isSome_some] at q1 q2
    go_region
    all_goals
      go_wp2
      go_ret
      exact ⟨by rw [HR.out]; rfl, by rw [HR.out]; exact SStep.grew H0.out (grew HB2.out (grew (grew_alloc _ _) (grew_drew _)))⟩
  | none =>
    have HAT := Lib.hid hat
    rw [hat] at HLK
    clear hat
    have q1 := HLK.out W2.drew (grew_drew _)
    have q2 := HLK.out ((W2.alloc (.cells (msgL Mesg.none (.slice none 0 0)).toArray 40)).drew) (grew (grew_alloc _ _) (grew_drew _))
    simp only [msgV, msgL, Mesg.none, Mesg.noOp, Mesg.zero, Option.isSome_none] at q1 q2
    go_region
    all_goals
      clear k0' k1' p2' q1 q2 k0 k1 p1 p2 HK3 HW3 HLK
      go_wp2_with fail
      have HB3 := Lib.hid (grew (grew_alloc W2 (.cells #[.int .i64 0, .int .i64 0, .slice none 0 0, .int .i64 0, .int .i64 0, .int .i64 0, .int .i64 0, .int .i64 0, .int .i64 0, .int .i64 0] 40)) (grew_drew _))
      generalize (W2.alloc (.cells _ 40)).drew = W3 at HB3 ⊢
      have HW3 := Lib.hid (HW2.out.below HB3.out)
      have a1 := HW3.out.box.cell 1 (by simp)
      have a2 := HW3.out.box.cell 2 (by simp)
      simp only [List.getElem_cons_succ, List.getElem_cons_zero] at a1 a2
      have hlen := (HW3.out.map.below (grew_drew _)).len ask_map
      by_cases hfull : s.room ≤ es.length
      · have hdf : decide ((s.room : Int) ≤ (es.length : Int)) = true := decide_eq_true (by omega)
        have hdn : decide (s.room ≤ es.length) = true := decide_eq_true hfull
        have HR : Hid (Resend.keep s m = (5, s)) := Lib.hid (by
          unfold Resend.keep
          rw [if_pos ⟨HMAY.out, HLEN.out⟩, find_is HW.out.is]
          unfold Resend.key
          rw [HAT.out]
          rw [if_neg (by simp), if_neg (by rw [← HW.out.is]; simp; omega)])
        clear hfull
        go_region
        go_wp2
        go_ret
        exact ⟨by rw [HR.out]; rfl, by rw [HR.out]; exact SStep.grew H0.out (grew HB2.out (grew HB3.out (grew_drew _)))⟩
      · have hdf : decide ((s.room : Int) ≤ (es.length : Int)) = false := decide_eq_false (by omega)
        have hdn : decide (s.room ≤ es.length) = false := decide_eq_false hfull
        have HR : Hid (Resend.keep s m = (0, { s with l := s.l ++ [m] })) := Lib.hid (by
          unfold Resend.keep
          rw [if_pos ⟨HMAY.out, HLEN.out⟩, find_is HW.out.is]
          unfold Resend.key
          rw [HAT.out]
          rw [if_neg (by simp), if_pos (by rw [← HW.out.is]; simp; omega)])
        have HFULL := Lib.hid hfull
        clear hfull
        go_region
        go_wp2_with fail
        have HB4 := Lib.hid (grew HB3.out (grew_drew _))
        generalize W3.drew = W4 at HB4 ⊢
        clear a1 a2 hlen hdf hdn HB3 HW3
        have HX : Hid (∀ W', Keep (Just mp) W2 W' → W'.cell? ⟨w.heap.size, 0, none⟩ = some (.int .i64 m.site) ∧ W'.cell? ⟨w.heap.size, 1, none⟩ = some (.int .i64 m.seq) ∧ W'.cell? ⟨w.heap.size, 2, none⟩ = some (.slice va m.know.length vc) ∧ W'.cell? ⟨w.heap.size, 3, none⟩ = some (.int .i64 m.op.kind) ∧ W'.cell? ⟨w.heap.size, 4, none⟩ = some (.int .i64 m.op.epoch) ∧ W'.cell? ⟨w.heap.size, 5, none⟩ = some (.int .i64 m.op.id.time) ∧ W'.cell? ⟨w.heap.size, 6, none⟩ = some (.int .i64 m.op.id.site) ∧ W'.cell? ⟨w.heap.size, 7, none⟩ = some (.int .i64 m.op.ref.time) ∧ W'.cell? ⟨w.heap.size, 8, none⟩ = some (.int .i64 m.op.ref.site) ∧ W'.cell? ⟨w.heap.size, 9, none⟩ = some (.int .i64 m.op.rune) ∧ W'.cell? ⟨p, 2, none⟩ = some (.map (some mp)) ∧ W'.cell? ⟨w1.heap.size, 0, none⟩ = some (.int .i64 m.site) ∧ W'.cell? ⟨w1.heap.size, 1, none⟩ = some (.int .i64 m.seq)) := Lib.hid (fun W' hk => by
          have hne : ∀ b, w.heap.size ≤ b → ¬ Just mp b := fun b hb e => by
            have : b = mp := e
            have := HW.out.map.lt
            omega
          have hsz := HB1.out.size
          obtain ⟨⟨g0, g1, g2⟩, g3, g4, g5, g6, g7, g8, g9⟩ := msg_cells (HM2.out.keep hk (hne _ (Nat.le_refl _)))
          have hkk := HK2.out.keep hk (hne _ hsz)
          have hpp := HW2.out.box.keep hk (fun e => HW.out.pm e)
          exact ⟨g0, g1, g2, g3, g4, g5, g6, g7, g8, g9, hpp.cell 2 (by simp), hkk.cell 0 (by simp), hkk.cell 1 (by simp)⟩)
        have HJ : Hid (∀ W', Below W2.heap.size W2 W' → Keep (Just mp) W2 W') := Lib.hid (fun W' hb => Keep.of_grew hb _)
        obtain ⟨b0, b1, b2, b3, b4, b5, b6, b7, b8, b9, b10, b11, b12⟩ := HX.out W4 (HJ.out W4 HB4.out)
        have hbd := Resend.may_bounds HMAY.out
        have HKN : Hid (1 ≤ m.know.length ∧ m.know.length ≤ 1000000) := Lib.hid ⟨hbd.1, by omega⟩
        have hrm := HW.out.ok.room
        have hfl := HW.out.ok.full
        have hel : es.length = s.l.length := by rw [← HW.out.is]; simp
        have HES : Hid (es.length ≤ 1000000) := Lib.hid (by omega)
        clear hbd hrm hfl hel
        go_region_held3 (fun w' => w'.cell? ⟨w.heap.size, 0, none⟩ = some (.int .i64 m.site) ∧ w'.cell? ⟨w.heap.size, 1, none⟩ = some (.int .i64 m.seq) ∧ w'.cell? ⟨w.heap.size, 2, none⟩ = some (.slice va m.know.length vc) ∧ w'.cell? ⟨w.heap.size, 3, none⟩ = some (.int .i64 m.op.kind) ∧ w'.cell? ⟨w.heap.size, 4, none⟩ = some (.int .i64 m.op.epoch) ∧ w'.cell? ⟨w.heap.size, 5, none⟩ = some (.int .i64 m.op.id.time) ∧ w'.cell? ⟨w.heap.size, 6, none⟩ = some (.int .i64 m.op.id.site) ∧ w'.cell? ⟨w.heap.size, 7, none⟩ = some (.int .i64 m.op.ref.time) ∧ w'.cell? ⟨w.heap.size, 8, none⟩ = some (.int .i64 m.op.ref.site) ∧ w'.cell? ⟨w.heap.size, 9, none⟩ = some (.int .i64 m.op.rune) ∧ w'.cell? ⟨p, 2, none⟩ = some (.map (some mp)) ∧ w'.cell? ⟨w1.heap.size, 0, none⟩ = some (.int .i64 m.site) ∧ w'.cell? ⟨w1.heap.size, 1, none⟩ = some (.int .i64 m.seq))
          (first | exact ⟨b0, b1, b2, b3, b4, b5, b6, b7, b8, b9, b10, b11, b12⟩ | exact ⟨c0, c1, c2, c3, c4, c5, c6, c7, c8, c9, c10, c11, c12⟩ | exact ⟨f0, f1, f2, f3, f4, f5, f6, f7, f8, f9, f10, f11, f12⟩)
          (first
            | (go_at_call 47; refine (rs_copied m _ _ (HV.out.below (grew HB2.out (grew HB4.out (grew_drew _)))) HKN.out.1 HKN.out.2).mono ?_; rintro e w5 ⟨g, cap, rfl, hsl, hg, hb5⟩; have HB5 := Lib.hid (grew HB4.out (grew (grew_drew _) hb5)); obtain ⟨c0, c1, c2, c3, c4, c5, c6, c7, c8, c9, c10, c11, c12⟩ := HX.out w5 (HJ.out w5 HB5.out); have HG := Lib.hid (show w.heap.size ≤ g from Nat.le_trans (Nat.le_trans HB2.out.size HB4.out.size) hg); have HLT := Lib.hid (Ent.lt hsl HKN.out.1); obtain ⟨w6, hupd, hm6, hk6⟩ := MsgMap.store ask_key ((HW2.out.below HB5.out).map.mono (S' := fun b => S b ∨ b = g) (fun b hb => .inl hb)) ask_map HES.out ⟨m, g, cap⟩ HI.out hsl (.inr rfl) (fun e => by rcases e with e | e; exact (HW.out.off mp e).2 rfl; have := HW.out.map.lt; have := HG.out; omega); have HM6 := Lib.hid hm6; have HK6 := Lib.hid hk6; simp only [Ent.val, Ent.sl, msgV, keyV, Mesg.Msg.key] at hupd ⊢; obtain ⟨f0, f1, f2, f3, f4, f5, f6, f7, f8, f9, f10, f11, f12⟩ := HX.out w6 ((HJ.out w5 HB5.out).trans hk6 (fun _ _ e => e)); clear hsl hg hb5 hm6 hk6))
        go_wp2
        go_ret
        refine ⟨by rw [HR.out]; rfl, ?_⟩
        rw [HR.out]
        have hok := HW.out.ok.keep m
        rw [HR.out] at hok
        exact HW.out.put (grew HB2.out HB5.out) ⟨m, g, cap⟩ HG.out HLT.out HM6.out HK6.out HAT.out hok

theorem resend_Keep {w : World} {F : Nat → Prop} {p : Nat} {s : Resend.St} (h0 : IsStore w F p s) (m : Mesg.Msg) (v : Value) (hv : SliceI w v m.know) (hm : m.know.length ≤ 1000000000) :
    Calls Try.prog 26 #[.pointer (some ⟨p, 0, none⟩), msgV m v] w fun e w' => e = .returned (.int .i64 (Resend.keep s m).1) ∧ SStep w F p (Resend.keep s m).2 w' := by
  by_cases h : Mesg.may m = true ∧ m.know.length = s.sites
  · exact resend_Keep_yes h0 m v hv hm h.1 h.2
  · exact resend_Keep_bad h0 m v hv hm h
end Go.Proofs.Ytjklfjgdmklimaa
