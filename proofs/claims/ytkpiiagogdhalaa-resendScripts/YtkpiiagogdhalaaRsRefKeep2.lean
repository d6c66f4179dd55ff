/- What Keep of the reference's store comes to, where the message may be. -/
import Derived.Test.YtkpiiagogdhalaaRsRefKeep
namespace Go.Proofs.Ytkpiiagogdhalaa
open Go.RowKit Go.Maps
set_option linter.unusedVariables false

/-- A message more. -/
theorem RStoreW.put {w w5 w6 : World} {F : Nat → Prop} {p : Nat} {s : Resend.St} {V V2 : Value} {xs : List (Mesg.Msg × Value)} (h : RStoreW w F p s V xs) (hb : Below w.heap.size w w5) {m : Mesg.Msg} {u : Value}
    (hu : ∀ g, u.ownBlock = some g → w.heap.size ≤ g ∧ g < w5.heap.size) (hs : SliceI w5 u m.know) (ho : Owns w6 40 10 V2 (xs.length + 1) (msgCells xs ++ msgL m u)) (hk : Keep (At V) w5 w6) (hn : Near w5 V V2)
    (hok : Resend.Ok { s with l := s.l ++ [m] }) : RSStep w F p { s with l := s.l ++ [m] } (w6.setCell ⟨p, 2, none⟩ V2) := by
  have hpl := h.lt p h.inp
  have hpA : ¬ At V p := fun e => (h.row p e).2 rfl
  have kk : Keep (Just p) w6 (w6.setCell ⟨p, 2, none⟩ V2) := Keep.setCell _ _ _ _
  have hsz : (w6.setCell ⟨p, 2, none⟩ V2).heap.size = w6.heap.size := by simp [World.setCell]
  have hV2 : ∀ g, V2.ownBlock = some g → (V.ownBlock = some g ∨ w5.heap.size ≤ g) ∧ g ≠ p := fun g hg => by
    refine ⟨hn g hg, ?_⟩
    rcases hn g hg with e | e
    · exact (h.row g e).2
    · have := hb.size; omega
  refine ⟨fun b => F b ∨ u.ownBlock = some b ∨ V2.ownBlock = some b, ⟨V2, xs ++ [(m, u)], ⟨hok, ?_, ?_, by simp [h.is], ?_, fun g hg => ⟨.inr (.inr hg), (hV2 g hg).2⟩, .inl h.inp, ?_⟩⟩, ?_, fun b hb' => ?_⟩
  · have := ((h.box.keep (Keep.of_grew hb Non) (fun h => h)).keep hk hpA).set 2 V2 (by simp)
    simpa using this
  · have : Owns (w6.setCell ⟨p, 2, none⟩ V2) 40 10 V2 (xs.length + 1) (msgCells xs ++ msgL m u) := Owns.keep ho kk (fun g hg e => (hV2 g hg).2 e)
    unfold OwnM
    rw [List.length_append, msgCells_append]
    simpa [msgCells] using this
  · intro q hq
    rcases List.mem_append.1 hq with hq | hq
    · have hkq := h.know q hq
      refine ⟨((hkq.1.below hb).keep hk (fun g hg e => (hkq.2 g hg).2.2 e)).keep kk (fun g hg e => (hkq.2 g hg).2.1 e), fun g hg => ⟨.inl (hkq.2 g hg).1, (hkq.2 g hg).2.1, fun e => ?_⟩⟩
      rcases (hV2 g e).1 with e' | e'
      · exact (hkq.2 g hg).2.2 e'
      · have := h.lt g (hkq.2 g hg).1
        have := hb.size
        omega
    · rw [List.mem_singleton.1 hq]
      simp only
      have hne : ∀ g, u.ownBlock = some g → ¬ At V g ∧ g ≠ p := fun g hg => by
        have := hu g hg
        refine ⟨fun e => ?_, by omega⟩
        have := h.lt g (h.row g e).1
        omega
      refine ⟨(hs.keep hk (fun g hg => (hne g hg).1)).keep kk (fun g hg e => (hne g hg).2 e), fun g hg => ⟨.inr (.inl hg), (hne g hg).2, fun e => ?_⟩⟩
      rcases (hV2 g e).1 with e' | e'
      · exact (hne g hg).1 e'
      · have := (hu g hg).2; omega
  · intro b hb'
    rw [hsz]
    have h1 := hb.size
    have h2 := hk.size
    rcases hb' with hb' | hb' | hb'
    · have := h.lt b hb'; omega
    · have := (hu b hb').2; omega
    · exact Owns.lt ho hb'
  · exact ((Keep.of_grew hb F).trans (hk.more (S' := F) (fun b _ e => (h.row b e).1)) (fun _ _ e => e)).trans kk (fun b _ e => by rw [show b = p from e]; exact h.inp)
  · rcases hb' with hb' | hb' | hb'
    · exact .inl hb'
    · exact .inr (hu b hb').1
    · rcases (hV2 b hb').1 with e | e
      · exact .inl (h.row b e).1
      · exact .inr (Nat.le_trans hb.size e)

set_option maxRecDepth 100000 in
set_option maxHeartbeats 4000000 in
theorem ref08_Keep_yes {w : World} {F : Nat → Prop} {p : Nat} {s : Resend.St} (h0 : IsRStore w F p s) (m : Mesg.Msg) (v : Value) (hv : SliceI w v m.know) (hm : m.know.length ≤ 1000000000) (hmay : Mesg.may m = true) (hlen : m.know.length = s.sites) :
    Calls Try.prog 33 #[.pointer (some ⟨p, 0, none⟩), msgV m v] w fun e w' => e = .returned (.int .i64 (Resend.keep s m).1) ∧ RSStep w F p (Resend.keep s m).2 w' := by
  have HC := Lib.hid (fun W (hb : Below w.heap.size w W) => ref04_Check m v W (hv.below hb) hm)
  have HV := Lib.hid hv
  have H0 := Lib.hid h0
  obtain ⟨V, xs, h⟩ := h0
  have HPL := Lib.hid h.box.lt
  have HW := Lib.hid h
  have hst := h.ok.sites
  obtain ⟨va, vc, rfl⟩ := hv.shape
  obtain ⟨La, Lc, rfl⟩ := h.own.form
  have HB := Lib.hid (grew_alloc w (.cells (msgL m (.slice va m.know.length vc)).toArray 40))
  have HM := Lib.hid (Holds.new w (msgL m (.slice va m.know.length vc)) 40)
  clear hv h
  have HE := Lib.hid (checkN_yes hmay)
  have HMAY := Lib.hid hmay
  have hd : (((m.know.length : Nat) : Int) != ((s.sites : Nat) : Int)) = false := by rw [hlen]; simp
  have HLEN := Lib.hid hlen
  have hbd := Resend.may_bounds hmay
  have hkn : m.know.length ≤ 16 := hbd.2.1
  have HK1N := Lib.hid hbd.1
  have hxl : xs.length ≤ 100000 := by
    have h1 := HW.out.ok.full
    have h2 := HW.out.ok.room
    rw [← HW.out.is] at h1
    simp at h1
    omega
  clear hmay hlen hbd
  unfold msgV
  go_enter Try.func33, Try.ntmps33
  go_wp2_with fail
  unfold msgL at HB HM
  generalize hW : (w.alloc (.cells _ 40)) = W at *
  clear hW
  obtain ⟨⟨d0, d1, d2⟩, d3, d4, d5, d6, d7, d8, d9⟩ := msg_cells (m := m) (v := .slice va m.know.length vc) HM.out
  have s0 : W.cell? ⟨p, 0, none⟩ = some (.int .i64 (s.sites : Int)) := (HW.out.below HB.out).box.cell 0 (by simp)
  go_region_held3 (fun w' => w'.cell? ⟨w.heap.size, 0, none⟩ = some (.int .i64 m.site) ∧ w'.cell? ⟨w.heap.size, 1, none⟩ = some (.int .i64 m.seq) ∧ w'.cell? ⟨w.heap.size, 2, none⟩ = some (.slice va m.know.length vc) ∧ w'.cell? ⟨w.heap.size, 3, none⟩ = some (.int .i64 m.op.kind) ∧ w'.cell? ⟨w.heap.size, 4, none⟩ = some (.int .i64 m.op.epoch) ∧ w'.cell? ⟨w.heap.size, 5, none⟩ = some (.int .i64 m.op.id.time) ∧ w'.cell? ⟨w.heap.size, 6, none⟩ = some (.int .i64 m.op.id.site) ∧ w'.cell? ⟨w.heap.size, 7, none⟩ = some (.int .i64 m.op.ref.time) ∧ w'.cell? ⟨w.heap.size, 8, none⟩ = some (.int .i64 m.op.ref.site) ∧ w'.cell? ⟨w.heap.size, 9, none⟩ = some (.int .i64 m.op.rune) ∧ w'.cell? ⟨p, 0, none⟩ = some (.int .i64 (s.sites : Int)))
    (first | exact ⟨d0, d1, d2, d3, d4, d5, d6, d7, d8, d9, s0⟩ | exact ⟨e0, e1, e2, e3, e4, e5, e6, e7, e8, e9, t0⟩)
    (first
      | (go_at_call 26; refine (HC.out _ (grew HB.out (grew_drew _))).mono ?_; rintro e w1 ⟨rfl, hb⟩; rw [HE.out]; have HM1 := Lib.hid (Holds.keep (a := W.drew) HM.out (Keep.of_grew hb Non) (fun h => h)); have t0 : w1.cell? ⟨p, 0, none⟩ = some (.int .i64 (s.sites : Int)) := (hb.cell (p := ⟨p, 0, none⟩) (Nat.lt_of_lt_of_le HPL.out HB.out.size)).trans s0; have HB1 := Lib.hid (grew HB.out (grew (grew_drew _) hb)); clear hb; obtain ⟨⟨e0, e1, e2⟩, e3, e4, e5, e6, e7, e8, e9⟩ := msg_cells HM1.out))
  have H1 := Lib.hid (H0.out.below HB1.out)
  go_wp2_with fail
  refine (ref08_Get H1.out m.site m.seq).mono ?_
  rintro e w2 ⟨r, rfl, ⟨u, rfl, hs, hu⟩, hb2⟩
  have HB2 := Lib.hid (grew HB1.out hb2)
  have HM2 := Lib.hid (HM1.out.keep (Keep.of_grew hb2 Non) (fun h => h))
  clear hb2 hu e0 e1 e2 e3 e4 e5 e6 e7 e8 e9 t0
  cases hat : Resend.find s.l (m.site, m.seq) with
  | some x =>
    have HR : Hid (Resend.keep s m = (7, s)) := Lib.hid (by unfold Resend.keep; rw [if_pos ⟨HMAY.out, HLEN.out⟩]; unfold Resend.key; rw [hat]; rfl)
    rw [show Resend.get s (m.site, m.seq) = (x, true) from by unfold Resend.get; rw [hat]] at hs ⊢
    obtain ⟨ua, uc, rfl⟩ := hs.shape
    clear hat hs
    simp only [msgV]
    go_wp2
    go_ret
    exact ⟨by rw [HR.out]; rfl, by rw [HR.out]; exact RSStep.grew H0.out (grew HB2.out (grew_alloc _ _))⟩
  | none =>
    have HAT := Lib.hid hat
    rw [show Resend.get s (m.site, m.seq) = (Mesg.none, false) from by unfold Resend.get; rw [hat]] at hs ⊢
    obtain ⟨ua, uc, rfl⟩ := hs.shape
    clear hat hs
    simp only [msgV, Mesg.none, Mesg.noOp, Mesg.zero]
    have hb3 := grew_alloc w2 (.cells #[.int .i64 0, .int .i64 0, .slice ua 0 uc, .int .i64 0, .int .i64 0, .int .i64 0, .int .i64 0, .int .i64 0, .int .i64 0, .int .i64 0] 40)
    have HB3 := Lib.hid (grew HB2.out hb3)
    have HM3 := Lib.hid (HM2.out.keep (Keep.of_grew hb3 Non) (fun h => h))
    clear hb3
    go_wp2_with fail
    generalize (w2.alloc (.cells _ 40)) = W3 at *
    have HW3 := Lib.hid (HW.out.below HB3.out)
    have a1 := HW3.out.box.cell 1 (by simp)
    have a2 := HW3.out.box.cell 2 (by simp)
    simp only [List.getElem_cons_succ, List.getElem_cons_zero] at a1 a2
    by_cases hfull : s.room ≤ xs.length
    · have hdf : decide ((s.room : Int) ≤ (xs.length : Int)) = true := decide_eq_true (by omega)
      have hdn : decide (s.room ≤ xs.length) = true := decide_eq_true hfull
      have HR : Hid (Resend.keep s m = (5, s)) := Lib.hid (by
        unfold Resend.keep
        rw [if_pos ⟨HMAY.out, HLEN.out⟩]
        unfold Resend.key
        rw [HAT.out]
        rw [if_neg (by simp), if_neg (by rw [← HW.out.is]; simp; omega)])
      clear hfull
      go_quiet (fail)
      go_wp2
      go_ret
      exact ⟨by rw [HR.out]; rfl, by rw [HR.out]; exact RSStep.grew H0.out (grew HB3.out (grew_drewN _ _))⟩
    · have hdf : decide ((s.room : Int) ≤ (xs.length : Int)) = false := decide_eq_false (by omega)
      have hdn : decide (s.room ≤ xs.length) = false := decide_eq_false hfull
      have HR : Hid (Resend.keep s m = (0, { s with l := s.l ++ [m] })) := Lib.hid (by
        unfold Resend.keep
        rw [if_pos ⟨HMAY.out, HLEN.out⟩]
        unfold Resend.key
        rw [HAT.out]
        rw [if_neg (by simp), if_pos (by rw [← HW.out.is]; simp; omega)])
      clear hfull
      go_quiet (fail)
      go_wp2_with fail
      have HB4 := Lib.hid (grew HB3.out (grew_drewN W3 nq))
      have HM4 := Lib.hid (HM3.out.keep (Keep.of_grew (grew_drewN W3 nq) Non) (fun h => h))
      generalize W3.drewN nq = W4 at *
      clear a1 a2 hdf hdn HW3
      obtain ⟨⟨b0, b1, b2⟩, b3, b4, b5, b6, b7, b8, b9⟩ := msg_cells HM4.out
      have a2 := (HW.out.below HB4.out).box.cell 2 (by simp)
      simp only [List.getElem_cons_succ, List.getElem_cons_zero] at a2
      have HPA : Hid (¬ At (.slice La xs.length Lc) p) := Lib.hid (fun e => (HW.out.row p e).2 rfl)
      have HX : Hid (∀ w5, Below W4.heap.size W4 w5 → w5.cell? ⟨p, 2, none⟩ = some (.slice La xs.length Lc) ∧ ∀ O, (w5.alloc O).cell? ⟨p, 2, none⟩ = some (.slice La xs.length Lc)) := Lib.hid (fun w5 hb5 => ⟨(HW.out.below (grew HB4.out hb5)).box.cell 2 (by simp), fun O => (HW.out.below (grew (grew HB4.out hb5) (grew_alloc _ O))).box.cell 2 (by simp)⟩)
      have HX6 : Hid (∀ w5 w6, Below W4.heap.size W4 w5 → Keep (At (.slice La xs.length Lc)) w5 w6 → w6.cell? ⟨p, 2, none⟩ = some (.slice La xs.length Lc) ∧ w6.frozen? ⟨p, 2, none⟩ = false) := Lib.hid (fun w5 w6 hb5 hk => by
        have hh := (HW.out.below (grew HB4.out hb5)).box.keep hk HPA.out
        exact ⟨hh.cell 2 (by simp), hh.frozen 2⟩)
      have HOWN : Hid (∀ w5, Below W4.heap.size W4 w5 → Owns w5 40 10 (.slice La xs.length Lc) xs.length (msgCells xs)) := Lib.hid (fun w5 hb5 => (HW.out.below (grew HB4.out hb5)).own)
      go_region_law (first
        | (refine step_append_lit0 (w := w5) rfl (.tmp 45) (.tmp 48) rfl Try.underlying22 info_msg rfl (by decide) (by decide) (.slice La xs.length Lc) xs.length (msgCells xs) rfl (HOWN.out w5 HB5.out) 1 [.int .i64 m.site, .int .i64 m.seq, .slice ga m.know.length gc, .int .i64 m.op.kind, .int .i64 m.op.epoch, .int .i64 m.op.id.time, .int .i64 m.op.id.site, .int .i64 m.op.ref.time, .int .i64 m.op.ref.site, .int .i64 m.op.rune] _ rfl rfl rfl HONE.out (by omega) ?_; intro va2 cap2 w6 ho2 hk2 hn2; have HM6 := Lib.hid (And.intro ho2 (And.intro hk2 hn2)); obtain ⟨y2, yf⟩ := HX6.out w5 w6 HB5.out hk2; clear ho2 hk2 hn2)
        | (go_simp; go_at_call 51; refine (ref04_Copy_far m (.slice va m.know.length vc) _ (HV.out.below (grew HB4.out (grew_drew _))) (by omega)).mono ?_; rintro e w5 ⟨⟨u, rfl, hsl, hfar⟩, hb5⟩; have HB5 := Lib.hid (grew (grew_drew W4) hb5); have HSL := Lib.hid hsl; have HFAR := Lib.hid hfar; obtain ⟨ga, gc, rfl⟩ := hsl.shape; have HONE := Lib.hid (msgL_one m (v := .slice ga m.know.length gc) rfl); obtain ⟨x2, x2'⟩ := HX.out w5 HB5.out; clear hsl hfar hb5; simp only [msgV]))
      all_goals
        go_wp2
        go_ret
        refine ⟨by rw [HR.out]; rfl, ?_⟩
        rw [HR.out]
        have hok := HW.out.ok.keep m
        rw [HR.out] at hok
        exact HW.out.put (u := .slice ga m.know.length gc) (m := m) (grew HB4.out HB5.out) (fun g hg => ⟨Nat.le_trans HB4.out.size (HFAR.out g hg), SliceI.block_lt HSL.out HK1N.out hg⟩) HSL.out HM6.out.1 HM6.out.2.1 HM6.out.2.2 hok

theorem ref08_Keep {w : World} {F : Nat → Prop} {p : Nat} {s : Resend.St} (h0 : IsRStore w F p s) (m : Mesg.Msg) (v : Value) (hv : SliceI w v m.know) (hm : m.know.length ≤ 1000000000) :
    Calls Try.prog 33 #[.pointer (some ⟨p, 0, none⟩), msgV m v] w fun e w' => e = .returned (.int .i64 (Resend.keep s m).1) ∧ RSStep w F p (Resend.keep s m).2 w' := by
  by_cases h : Mesg.may m = true ∧ m.know.length = s.sites
  · exact ref08_Keep_yes h0 m v hv hm h.1 h.2
  · exact ref08_Keep_bad h0 m v hv hm h
end Go.Proofs.Ytkpiiagogdhalaa
