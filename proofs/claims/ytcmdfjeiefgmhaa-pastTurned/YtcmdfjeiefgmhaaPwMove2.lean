/- Where everybody's caret is: Move. -/
import Derived.Test.YtcmdfjeiefgmhaaPwSites
namespace Go.Proofs.Ytcmdfjeiefgmhaa
open Go.RowKit Carets
set_option linter.unusedVariables false

theorem Later.all {W : World} {b o : Nat} {v : Value} (hb : b < W.heap.size) (h : W.cell? ⟨b, o, none⟩ = some v) : ∀ p : Later W, p.at'.cell? ⟨b, o, none⟩ = some v := fun p => p.cell hb h

set_option maxRecDepth 100000 in
set_option maxHeartbeats 4000000 in
theorem past_Move {p : Nat} {L : List Car} {w : World} {F : Nat → Prop} (h : WhereV p L w F) (m : Mesg.Msg) (v : Value) (hv : SliceI w v m.know) (hm : m.know.length ≤ 1000000000) :
    Calls Try.prog 47 #[.pointer (some ⟨p, 0, none⟩), msgV m v] w fun e w' => e = .returned (.int .i64 (Carets.move L m).1) ∧ TStep (WhereV p (Carets.move L m).2) w F w' := by
  have HW := Lib.hid h
  have HPL : Hid (p < w.heap.size) := Lib.hid h.1.lt
  have HL := Lib.hid h.2.1
  have HR : Hid (Carets.move L m = if Mesg.may m = true ∧ m.know.length = L.length ∧ m.op.kind = 5 then (if m.seq ≤ (carAt L m.site.toNat).seq then (7, L) else (0, L.set m.site.toNat ⟨m.seq, m.op.epoch, (m.op.ref.time, m.op.ref.site)⟩)) else (1, L)) := Lib.hid rfl
  generalize Carets.move L m = r at HR ⊢
  have HMS : Hid (Mesg.may m = true → 0 ≤ m.site ∧ m.site < (m.know.length : Int) ∧ 1 ≤ m.seq) := Lib.hid (fun e => (may_site e).2)
  have HB := Lib.hid (grew_alloc w (.cells (msgL m v).toArray 38))
  have HM := Lib.hid (Holds.new w (msgL m v) 38)
  have HC := Lib.hid (fun W (hb : Below w.heap.size w W) => mesg_Check m v W (hv.below hb) hm)
  obtain ⟨va, vc, rfl⟩ := hv.shape
  have c0 := h.head
  clear h hv hm
  go_enter Try.func47, Try.ntmps47
  unfold msgV
  go_wp2_with fail
  have ew : (w.alloc (.cells (msgL m (.slice va m.know.length vc)).toArray 38)) = w.alloc (.cells #[.int .i64 m.site, .int .i64 m.seq, .slice va m.know.length vc, .int .i64 m.op.kind, .int .i64 m.op.epoch, .int .i64 m.op.id.time, .int .i64 m.op.id.site, .int .i64 m.op.ref.time, .int .i64 m.op.ref.site, .int .i64 m.op.rune] 38) := rfl
  rw [← ew]
  clear ew
  generalize (w.alloc (.cells (msgL m (.slice va m.know.length vc)).toArray 38)) = W at *
  have c1 := (HB.out.cell (p := ⟨p, 0, none⟩) HPL.out).trans c0
  clear c0
  have hq : w.heap.size < W.heap.size := HM.out.lt
  have hpW : p < W.heap.size := Nat.lt_of_lt_of_le HPL.out HB.out.size
  have hne : Nonempty (Later W) := ⟨⟨W, Below.refl _ _⟩⟩
  obtain ⟨⟨d0, d1, d2⟩, d3, d4, d5, d6, d7, d8, d9⟩ := msg_cells HM.out
  have q0 := Later.all hq d0
  have q1 := Later.all hq d1
  have q2 := Later.all hq d2
  have q3 := Later.all hq d3
  have q4 := Later.all hq d4
  have q5 := Later.all hq d5
  have q6 := Later.all hq d6
  have q7 := Later.all hq d7
  have q8 := Later.all hq d8
  have q9 := Later.all hq d9
  have qp := Later.all hpW c1
  have HCL : Hid (∀ P : Later W, Calls Try.prog 64 #[msgV m (.slice va m.know.length vc)] P.at' fun e w'' => e = .returned (.int .i64 (checkN m)) ∧ ∃ q : Later W, w'' = q.at') := Lib.hid (fun P => Calls.later (HC.out _ (grew HB.out P.bel)))
  clear d0 d1 d2 d3 d4 d5 d6 d7 d8 d9 hne c1
  have hne : Nonempty (Later W) := ⟨⟨W, Below.refl _ _⟩⟩
  by_cases hmay : Mesg.may m = true
  · have HE : Hid (checkN m = 0) := Lib.hid (by unfold checkN; rw [hmay]; rfl)
    rw [HE.out] at HCL
    obtain ⟨s1, s2, s3⟩ := HMS.out hmay
    have HSI : Hid (∃ i : Nat, m.site = i) := Lib.hid ⟨m.site.toNat, by omega⟩
    have HS123 := Lib.hid (And.intro s1 s2)
    clear s1 s2 s3
    unfold msgV at HCL
    by_cases hlen : m.know.length = L.length
    · have b1 : (((m.know.length : Nat) : Int) != ((L.length : Nat) : Int)) = false := by rw [hlen]; simp
      by_cases hk : m.op.kind = 5
      · rw [if_pos ⟨hmay, hlen, hk⟩] at HR
        have b2 : (m.op.kind != 5) = false := by simp [hk]
        obtain ⟨i, hsi⟩ := HSI.out
        have hi : i < L.length := by have := HS123.out; omega
        have hi16 : i < 16 := by have := HL.out; omega
        have hia : (i : Int) < 16 := by omega
        rw [hsi, Int.toNat_natCast] at HR
        have HI := Lib.hid (And.intro hi hi16)
        have HCE : Hid (∀ P : Later W, P.at'.cell? ⟨p, 1 + i * 4, none⟩ = some (.int .i64 (carAt L i).seq)) := Lib.hid (fun P => (((Keep.of_grew (grew HB.out P.bel) Non).cell HPL.out (fun h => h)).trans (HW.out.cell hi16).1))
        clear hmay hlen hk hi hi16 HE HMS
        rw [hsi] at q0 HCL
        clear hsi
        refine wp_region_later (by kernel_rfl) (by kernel_rfl) ?_
        repeat (go_big_quiet_step ((go_at_call 64; exact HCL.out _)))
        refine wpQuiet_nil ?_
        intro _ hw'
        obtain ⟨P1, hw1⟩ := hw'
        have HW1 := Lib.hid (HW.out)
        have r0 := q0 P1
        have r1 := q1 P1
        have r4 := q4 P1
        have r7 := q7 P1
        have r8 := q8 P1
        have rp := HCE.out P1
        have HP1 := Lib.hid P1.bel
        rw [← hw1] at r0 r1 r4 r7 r8 rp HP1
        clear hw1 q0 q1 q2 q3 q4 q5 q6 q7 q8 q9 qp HCL HCE
        rename_i w1
        have HB1 := Lib.hid (grew HB.out HP1.out)
        by_cases hseq : m.seq ≤ (carAt L i).seq
        · rw [if_pos hseq] at HR
          obtain rfl : r = (7, L) := HR.out
          have b3 : decide (m.seq ≤ (carAt L i).seq) = true := decide_eq_true hseq
          clear hseq
          generalize (carAt L i).seq = cs at *
          go_wp2
          go_quiet (fail)
          go_wp2
          go_ret
          exact ⟨rfl, TStep.same (WhereV.good _ _) HW.out (grew HB1.out (grew_drewN _ _))⟩
        · rw [if_neg hseq] at HR
          obtain rfl : r = (0, L.set i ⟨m.seq, m.op.epoch, (m.op.ref.time, m.op.ref.site)⟩) := HR.out
          have b3 : decide (m.seq ≤ (carAt L i).seq) = false := decide_eq_false hseq
          clear hseq
          have HST := Lib.hid (fun W' (hb : Below w.heap.size w W') => TStep.after hb (WhereV.set ((WhereV.good _ _).keep HW.out (Keep.of_grew hb Non) (fun _ _ h => h)) HI.out.1 ⟨m.seq, m.op.epoch, (m.op.ref.time, m.op.ref.site)⟩))
          have HCELL := Lib.hid (fun W' (hb : Below w.heap.size w W') => And.intro (WhereV.cell ((WhereV.good _ _).keep HW.out (Keep.of_grew hb Non) (fun _ _ h => h)) HI.out.2) ((HW.out.1.keep (Keep.of_grew hb Non) (fun h => h)).frozen))
          generalize (carAt L i).seq = cs at *
          go_wp2
          go_quiet (fail)
          go_wp2
          have hbb := grew_drewN w1 nq
          generalize w1.drewN nq = w2 at hbb ⊢
          have hq1 : w.heap.size < w1.heap.size := Nat.lt_of_lt_of_le HM.out.lt HP1.out.size
          have t0 := (hbb.cell (p := ⟨w.heap.size, 0, none⟩) hq1).trans r0
          have t1 := (hbb.cell (p := ⟨w.heap.size, 1, none⟩) hq1).trans r1
          have t4 := (hbb.cell (p := ⟨w.heap.size, 4, none⟩) hq1).trans r4
          have t7 := (hbb.cell (p := ⟨w.heap.size, 7, none⟩) hq1).trans r7
          have t8 := (hbb.cell (p := ⟨w.heap.size, 8, none⟩) hq1).trans r8
          obtain ⟨⟨x0, x1, x2, x3⟩, xf⟩ := HCELL.out w2 (grew HB1.out hbb)
          have HB2 := Lib.hid (grew (grew HB1.out hbb) (grew_drew w2))
          clear r0 r1 r4 r7 r8 rp hbb hq1
          go_still_tail 15, (by kernel_rfl)
          change wpList _ _ _ _ _ (World.drew _)
          go_wp2
          go_ret
          exact ⟨rfl, HST.out _ HB2.out⟩
      · rw [if_neg (fun e => hk e.2.2)] at HR
        obtain rfl : r = (1, L) := HR.out
        have b2 : (m.op.kind != 5) = true := by simp [hk]
        clear hmay hlen hk HE HMS
        refine wp_region_later (by kernel_rfl) (by kernel_rfl) ?_
        repeat (go_big_quiet_step ((go_at_call 64; exact HCL.out _)))
        refine wpQuiet_nil ?_
        intro _ hw'
        obtain ⟨P1, hw1⟩ := hw'
        subst hw1
        go_wp2
        go_ret
        exact ⟨rfl, TStep.same (WhereV.good _ _) HW.out (grew HB.out P1.bel)⟩
    · rw [if_neg (fun e => hlen e.2.1)] at HR
      obtain rfl : r = (1, L) := HR.out
      have b1 : (((m.know.length : Nat) : Int) != ((L.length : Nat) : Int)) = true := by simp; omega
      clear hmay hlen HE HMS
      refine wp_region_later (by kernel_rfl) (by kernel_rfl) ?_
      repeat (go_big_quiet_step ((go_at_call 64; exact HCL.out _)))
      refine wpQuiet_nil ?_
      intro _ hw'
      obtain ⟨P1, hw1⟩ := hw'
      subst hw1
      go_wp2
      go_ret
      exact ⟨rfl, TStep.same (WhereV.good _ _) HW.out (grew HB.out P1.bel)⟩
  · rw [if_neg (fun e => hmay e.1)] at HR
    obtain rfl : r = (1, L) := HR.out
    have HE : Hid (checkN m = 1) := Lib.hid (by unfold checkN; rw [Bool.eq_false_iff.2 hmay]; rfl)
    rw [HE.out] at HCL
    unfold msgV at HCL
    clear hmay HE HMS
    refine wp_region_later (by kernel_rfl) (by kernel_rfl) ?_
    repeat (go_big_quiet_step ((go_at_call 64; exact HCL.out _)))
    refine wpQuiet_nil ?_
    intro _ hw'
    obtain ⟨P1, hw1⟩ := hw'
    subst hw1
    go_wp2
    go_ret
    exact ⟨rfl, TStep.same (WhereV.good _ _) HW.out (grew HB.out P1.bel)⟩
end Go.Proofs.Ytcmdfjeiefgmhaa
