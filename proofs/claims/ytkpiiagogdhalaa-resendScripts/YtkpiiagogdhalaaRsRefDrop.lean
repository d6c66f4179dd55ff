/- What Drop of the reference's store comes to. -/
import Derived.Test.YtkpiiagogdhalaaRsRefKeep2
import Derived.Test.YtkpiiagogdhalaaVecRef
namespace Go.Proofs.Ytkpiiagogdhalaa
open Go.RowKit Go.Maps
set_option linter.unusedVariables false

def leftP (v : List Int) (xs : List (Mesg.Msg × Value)) : List (Mesg.Msg × Value) := xs.filter fun q => !Vecs.covers v q.1.site q.1.seq
theorem leftP_map (v : List Int) (xs : List (Mesg.Msg × Value)) : (leftP v xs).map Prod.fst = Resend.left v (xs.map Prod.fst) := by
  unfold leftP Resend.left
  rw [List.filter_map]
  rfl
theorem leftP_yes {v : List Int} {xs : List (Mesg.Msg × Value)} {k : Nat} (hk : k < xs.length) (h : Vecs.covers v xs[k].1.site xs[k].1.seq = false) : leftP v (xs.take (k + 1)) = leftP v (xs.take k) ++ [xs[k]] := by
  unfold leftP
  rw [List.take_succ_eq_append_getElem hk, List.filter_append, List.filter_cons, List.filter_nil, h]
  rfl
theorem leftP_no {v : List Int} {xs : List (Mesg.Msg × Value)} {k : Nat} (hk : k < xs.length) (h : Vecs.covers v xs[k].1.site xs[k].1.seq = true) : leftP v (xs.take (k + 1)) = leftP v (xs.take k) := by
  unfold leftP
  rw [List.take_succ_eq_append_getElem hk, List.filter_append, List.filter_cons, List.filter_nil, h]
  simp only [Bool.not_true, Bool.false_eq_true, if_false, List.append_nil]

/-- A slice of messages made since w. -/
structure MsgW (w : World) (V : Value) (ys : List (Mesg.Msg × Value)) (wr : World) : Prop where
  own : OwnM wr V ys
  new : ∀ g, V.ownBlock = some g → w.heap.size ≤ g
  bel : Below w.heap.size w wr
theorem MsgW.more {w w' wr : World} {V V' : Value} {l : List (Mesg.Msg × Value)} {m : Mesg.Msg} {u : Value} (h : MsgW w V l wr) (ho : Owns w' 40 10 V' (l.length + 1) (msgCells l ++ msgL m u)) (hk : Keep (At V) wr w') (hn : Near wr V V') : MsgW w V' (l ++ [(m, u)]) w' := by
  refine ⟨?_, fun g hg => ?_, ?_⟩
  · unfold OwnM
    rw [msgCells_append, List.length_append]
    simpa [msgCells] using ho
  · rcases hn g hg with e | e
    · exact h.new g e
    · exact Nat.le_trans h.bel.size e
  · exact h.bel.trans (hk.below h.bel.size (fun i hi => h.new i hi))

theorem RStoreW.thin {w wr : World} {F : Nat → Prop} {p : Nat} {s : Resend.St} {V V2 : Value} {xs : List (Mesg.Msg × Value)} {v : List Int} (h : RStoreW w F p s V xs) (hM : MsgW w V2 (leftP v xs) wr)
    (hok : Resend.Ok { s with l := Resend.left v s.l }) : RSStep w F p { s with l := Resend.left v s.l } (wr.setCell ⟨p, 2, none⟩ V2) := by
  have hpl := h.lt p h.inp
  have kk : Keep (Just p) wr (wr.setCell ⟨p, 2, none⟩ V2) := Keep.setCell _ _ _ _
  have hsz : (wr.setCell ⟨p, 2, none⟩ V2).heap.size = wr.heap.size := by simp [World.setCell]
  have hV2 : ∀ g, V2.ownBlock = some g → g ≠ p := fun g hg => by have := hM.new g hg; omega
  refine ⟨fun b => F b ∨ V2.ownBlock = some b, ⟨V2, leftP v xs, ⟨hok, ?_, Owns.keep hM.own kk (fun g hg e => hV2 g hg e), by rw [leftP_map, h.is], fun q hq => ?_, fun g hg => ⟨.inr hg, hV2 g hg⟩, .inl h.inp, fun b hb => ?_⟩⟩, ?_, fun b hb => ?_⟩
  · have := (h.box.keep (Keep.of_grew hM.bel Non) (fun h => h)).set 2 V2 (by simp)
    simpa using this
  · have hq := (List.mem_filter.1 hq).1
    have hkq := h.know q hq
    refine ⟨(hkq.1.below hM.bel).keep kk (fun g hg e => (hkq.2 g hg).2.1 e), fun g hg => ⟨.inl (hkq.2 g hg).1, (hkq.2 g hg).2.1, fun e => ?_⟩⟩
    have := hM.new g e
    have := h.lt g (hkq.2 g hg).1
    omega
  · rw [hsz]
    rcases hb with hb | hb
    · exact Nat.lt_of_lt_of_le (h.lt b hb) hM.bel.size
    · exact Owns.lt hM.own hb
  · exact (Keep.of_grew hM.bel F).trans kk (fun b _ e => by rw [show b = p from e]; exact h.inp)
  · rcases hb with hb | hb
    · exact .inl hb
    · exact .inr (hM.new b hb)

set_option maxRecDepth 100000 in
set_option maxHeartbeats 4000000 in
theorem ref08_Drop {w : World} {F : Nat → Prop} {p : Nat} {s : Resend.St} (h0 : IsRStore w F p s) (v : Value) (zs : List Int) (hv : SliceI w v zs) (hm : zs.length ≤ 1000000000) :
    Calls Try.prog 35 #[.pointer (some ⟨p, 0, none⟩), v] w fun e w' => e = .returned (.tuple #[.int .i64 (Resend.drop s zs).1, .int .i64 (Resend.drop s zs).2.1]) ∧ RSStep w F p (Resend.drop s zs).2.2 w' := by
  have HC := Lib.hid (ref06_May v zs w hv (by unfold maxLen; omega))
  have HV := Lib.hid hv
  have HM : Hid (zs.length ≤ maxLen) := Lib.hid (by unfold maxLen; omega)
  have H0 := Lib.hid h0
  obtain ⟨V, xs, h⟩ := h0
  have HW := Lib.hid h
  have hst := h.ok.sites
  have hxl : xs.length ≤ 100000 := by
    have h1 := h.ok.full
    have h2 := h.ok.room
    rw [← h.is] at h1
    simp at h1
    omega
  obtain ⟨va, vc, rfl⟩ := hv.shape
  obtain ⟨La, Lc, rfl⟩ := h.own.form
  have s0 := h.box.cell 0 (by simp)
  simp only [List.getElem_cons_zero] at s0
  clear hv h
  by_cases hmay : Vecs.may zs = true
  · have HE := Lib.hid hmay
    by_cases hlen : zs.length = s.sites
    · have hd : ((zs.length : Int) != (s.sites : Int)) = false := by rw [hlen]; simp
      have HR : Hid (Resend.drop s zs = ((s.l.length : Int) - (Resend.left zs s.l).length, 0, { s with l := Resend.left zs s.l })) := Lib.hid (by unfold Resend.drop; rw [if_pos ⟨hmay, hlen⟩])
      clear hmay hlen
      go_enter Try.func35, Try.ntmps35
      go_wp2_with fail
      refine HC.out.mono ?_
      rintro e _ ⟨rfl, rfl⟩
      rw [HE.out]
      go_wp2_with fail
      go_loopw [6, 7] (fun T i wr => ∃ k : Nat, k ≤ xs.length ∧ i = .int .i64 k ∧ MsgW w T (leftP zs (xs.take k)) wr) (fun _ i _ => xs.length - (intOf i).toNat)
      case atStart => exact ⟨0, by omega, rfl, ⟨OwnM.nil _, fun g hg => (by cases hg), Below.refl _ _⟩⟩
      case round =>
        obtain ⟨k, hk, rfl, hM⟩ := hrel
        have HMW := Lib.hid hM
        have HW1 := Lib.hid (HW.out.below hM.bel)
        have p2 := HW1.out.box.cell 2 (by simp)
        simp only [List.getElem_cons_succ, List.getElem_cons_zero] at p2
        obtain ⟨ta, tc, rfl⟩ := hM.own.form
        clear hM
        by_cases hlt : k < xs.length
        · have hdk : decide ((k : Int) < (xs.length : Int)) = true := decide_eq_true (by omega)
          have hdn : decide (k < xs.length) = true := decide_eq_true hlt
          have hik : (k : Int) < (xs.length : Int) := by omega
          obtain ⟨bv, rfl, hbv, hcell⟩ := OwnM.at HW1.out.own hlt
          have HCELL := Lib.hid hcell
          have HY : Hid (Vecs.covers zs xs[k].1.site xs[k].1.seq = false → leftP zs (xs.take (k + 1)) = leftP zs (xs.take k) ++ [xs[k]]) := Lib.hid (fun h => leftP_yes hlt h)
          have HN : Hid (Vecs.covers zs xs[k].1.site xs[k].1.seq = true → leftP zs (xs.take (k + 1)) = leftP zs (xs.take k)) := Lib.hid (fun h => leftP_no hlt h)
          have HKN := Lib.hid (HW1.out.know xs[k] (List.getElem_mem hlt)).1
          have hll : (leftP zs (xs.take k)).length ≤ 100000 := by
            have h1 : (leftP zs (xs.take k)).length ≤ (xs.take k).length := List.length_filter_le _ _
            rw [List.length_take] at h1
            omega
          clear hcell hbv
          generalize xs[k] = q at *
          obtain ⟨m, u⟩ := q
          simp only at HCELL HY HN HKN
          obtain ⟨ua, uc, rfl⟩ := HKN.out.shape
          have c0 : wr.cell? ⟨bv, k * 10, none⟩ = some (.int .i64 m.site) := HCELL.out 0 _ rfl
          have c1 : wr.cell? ⟨bv, k * 10 + 1, none⟩ = some (.int .i64 m.seq) := HCELL.out 1 _ rfl
          have HCV := Lib.hid (fun n => ref06_Covers (.slice va zs.length vc) zs m.site m.seq (wr.drewN n) (HV.out.below (grew HMW.out.bel (grew_drewN _ _))) HM.out)
          cases hc : Vecs.covers zs m.site m.seq
          · have HCE := Lib.hid hc
            have HNX := Lib.hid (HY.out hc)
            clear hc
            go_wp2_with fail
            go_quiet ((go_at_call 61; exact Calls.quiet_of_same ((HCV.out _).mono fun _ _ ⟨h1, h2⟩ => ⟨h1.trans (by rw [HCE.out]), h2.symm⟩)))
            have c2 : wr.cell? ⟨bv, k * 10 + 2, none⟩ = some (.slice ua m.know.length uc) := HCELL.out 2 _ rfl
            have c3 : wr.cell? ⟨bv, k * 10 + 3, none⟩ = some (.int .i64 m.op.kind) := HCELL.out 3 _ rfl
            have c4 : wr.cell? ⟨bv, k * 10 + 4, none⟩ = some (.int .i64 m.op.epoch) := HCELL.out 4 _ rfl
            have c5 : wr.cell? ⟨bv, k * 10 + 5, none⟩ = some (.int .i64 m.op.id.time) := HCELL.out 5 _ rfl
            have c6 : wr.cell? ⟨bv, k * 10 + 6, none⟩ = some (.int .i64 m.op.id.site) := HCELL.out 6 _ rfl
            have c7 : wr.cell? ⟨bv, k * 10 + 7, none⟩ = some (.int .i64 m.op.ref.time) := HCELL.out 7 _ rfl
            have c8 : wr.cell? ⟨bv, k * 10 + 8, none⟩ = some (.int .i64 m.op.ref.site) := HCELL.out 8 _ rfl
            have c9 : wr.cell? ⟨bv, k * 10 + 9, none⟩ = some (.int .i64 m.op.rune) := HCELL.out 9 _ rfl
            have HONE := Lib.hid (msgL_one m (v := .slice ua m.know.length uc) rfl)
            have HMW2 : Hid (MsgW w (.slice ta (leftP zs (xs.take k)).length tc) (leftP zs (xs.take k)) (wr.drewN nq)) := Lib.hid ⟨HMW.out.own.below (grew_drewN _ _), HMW.out.new, grew HMW.out.bel (grew_drewN _ _)⟩
            go_wp2_with (at_builtin; refine wp_append_lit (w := wr.drewN nq) rfl (.tmp 49) (.tmp 57) rfl Try.underlying22 info_msg rfl (by decide) (by decide) (.slice ta (leftP zs (xs.take k)).length tc) (leftP zs (xs.take k)).length (msgCells (leftP zs (xs.take k))) rfl HMW2.out.own 1 [.int .i64 m.site, .int .i64 m.seq, .slice ua m.know.length uc, .int .i64 m.op.kind, .int .i64 m.op.epoch, .int .i64 m.op.id.time, .int .i64 m.op.id.site, .int .i64 m.op.ref.time, .int .i64 m.op.ref.site, .int .i64 m.op.rune] _ rfl rfl rfl HONE.out (by omega) ?_; intro V2 w2 ho2 hk2 hn2; have HM2 := Lib.hid (HMW2.out.more (m := m) (u := .slice ua m.know.length uc) ho2 hk2 hn2); clear ho2 hk2 hn2)
            go_roundw
            case rel => exact ⟨k + 1, by omega, by go_num, by rw [HNX.out]; exact HM2.out⟩
            case measure => simp [intOf]; omega
          · have HCE := Lib.hid hc
            have HNX := Lib.hid (HN.out hc)
            clear hc
            go_wp2_with fail
            go_quiet ((go_at_call 61; exact Calls.quiet_of_same ((HCV.out _).mono fun _ _ ⟨h1, h2⟩ => ⟨h1.trans (by rw [HCE.out]), h2.symm⟩)))
            go_wp2
            go_roundw
            case rel => exact ⟨k + 1, by omega, by go_num, by rw [HNX.out]; exact ⟨HMW.out.own.below (grew_drewN _ _), HMW.out.new, grew HMW.out.bel (grew_drewN _ _)⟩⟩
            case measure => simp [intOf]; omega
        · have hdn : decide (k < xs.length) = false := decide_eq_false hlt
          have hdk : decide ((k : Int) < (xs.length : Int)) = false := decide_eq_false (by omega)
          have hke : xs.take k = xs := List.take_of_length_le (by omega)
          rw [hke] at HMW ⊢
          have hll : (leftP zs xs).length ≤ xs.length := List.length_filter_le _ _
          have f2 := HW1.out.box.frozen 2
          have HLN : Hid (((s.l.length : Nat) : Int) - ((Resend.left zs s.l).length : Nat) = (xs.length : Int) - ((leftP zs xs).length : Nat)) := Lib.hid (by
            rw [← HW.out.is, ← leftP_map]
            simp)
          have hwr : IntKind.i64.wrap ((xs.length : Int) - ((leftP zs xs).length : Int)) = (xs.length : Int) - ((leftP zs xs).length : Int) := by rw [IntKind.wrap_i64]; omega
          clear hke hlt
          go_wp2
          go_ret2
          refine ⟨by rw [HR.out]; simp only; rw [HLN.out]; rfl, ?_⟩
          rw [HR.out]
          have hok := HW.out.ok.drop zs
          rw [HR.out] at hok
          exact HW.out.thin HMW.out hok
    · have hd : ((zs.length : Int) != (s.sites : Int)) = true := by simp; omega
      have HR : Hid (Resend.drop s zs = (0, 1, s)) := Lib.hid (by unfold Resend.drop; rw [if_neg (fun h => hlen h.2)])
      clear hmay hlen
      go_enter Try.func35, Try.ntmps35
      go_wp2_with fail
      refine HC.out.mono ?_
      rintro e _ ⟨rfl, rfl⟩
      rw [HE.out]
      go_wp2
      go_ret2
      exact ⟨by rw [HR.out]; rfl, by rw [HR.out]; exact RSStep.grew H0.out (Below.refl _ _)⟩
  · have HE := Lib.hid (Bool.eq_false_iff.2 hmay)
    have HR : Hid (Resend.drop s zs = (0, 1, s)) := Lib.hid (by unfold Resend.drop; rw [if_neg (fun h => hmay h.1)])
    clear hmay
    go_enter Try.func35, Try.ntmps35
    go_wp2_with fail
    refine HC.out.mono ?_
    rintro e _ ⟨rfl, rfl⟩
    rw [HE.out]
    go_wp2
    go_ret2
    exact ⟨by rw [HR.out]; rfl, by rw [HR.out]; exact RSStep.grew H0.out (Below.refl _ _)⟩
end Go.Proofs.Ytkpiiagogdhalaa
