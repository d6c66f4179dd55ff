/- The reference's: Sites, Move. -/
import Derived.Test.YtcmdfjeiefgmhaaPwRef
import Derived.Test.YtcmdfjeiefgmhaaMesgRef3
namespace Go.Proofs.Ytcmdfjeiefgmhaa
open Go.RowKit Carets
set_option linter.unusedVariables false

theorem isAt_carIn {L : List Car} {i : Nat} (hi : i < L.length) (e : Int) : isAt L (i : Int) e = carIn (carAt L i) e := by
  unfold isAt
  rw [Int.toNat_natCast, decide_eq_true (by omega), Bool.true_and]

set_option maxRecDepth 100000 in
set_option maxHeartbeats 2000000 in
theorem ref16_Sites {q : Nat} {L : List Car} {w : World} {F : Nat → Prop} (h : RWhereV q L w F) (e : Int) :
    Calls Try.prog 52 #[.pointer (some ⟨q, 0, none⟩), .int .i64 e] w fun r w' => ∃ v, r = .returned v ∧ SliceI w' v (sitesK L e L.length) ∧ Below w.heap.size w w' := by
  have HW := Lib.hid h
  obtain ⟨g, hq, hg, _, hcs⟩ := h.cell
  have HQ := Lib.hid hq
  have HL16 : Hid (L.length ≤ 16) := Lib.hid (by obtain ⟨_, _, _, hl, _⟩ := h; exact hl.2)
  clear h hq hg hcs
  go_enter Try.func52, Try.ntmps52
  go_wp2
  go_loopw [5, 6] (fun o i wr => ∃ k : Nat, k ≤ L.length ∧ i = .int .i64 k ∧ OwnI wr o (sitesK L e k) ∧ (∀ g, o.ownBlock = some g → w.heap.size ≤ g) ∧ Below w.heap.size w wr) (fun _ i _ => L.length - (intOf i).toNat)
  case atStart => exact ⟨0, by omega, rfl, OwnI.nil _, fun g hg => (by cases hg), Below.refl _ _⟩
  case round =>
    obtain ⟨k, hk, rfl, ho, hn, hb⟩ := hrel
    have HO := Lib.hid ho
    have HN := Lib.hid hn
    have HB := Lib.hid hb
    have c0 := (HQ.out.keep (Keep.of_grew hb Non) (fun h => h)).cell 0 (by simp)
    simp only [List.getElem_cons_zero] at c0
    clear ho hn hb
    have hl16 := HL16.out
    by_cases hlt : k < L.length
    · have d1 : decide ((k : Int) < (L.length : Int)) = true := decide_eq_true (by omega)
      have d2 : decide (k < L.length) = true := decide_eq_true hlt
      have HS := Lib.hid (sitesK_succ L e k)
      have HKL := Lib.hid (sitesK_len L e k)
      have HC := Lib.hid (ref16_At ((RWhereV.good _ _).keep HW.out (Keep.of_grew HB.out Non) (fun _ _ h => h)) (k : Int) e)
      rw [isAt_carIn hlt] at HC
      generalize carIn (carAt L k) e = z at HS HC
      generalize atRef L (k : Int) e = rf at HC
      obtain ⟨r1, r2⟩ := rf
      simp only at HC
      cases z
      · have HS2 : Hid (sitesK L e (k + 1) = sitesK L e k) := Lib.hid (by rw [HS.out]; simp)
        go_wp2_with fail
        refine HC.out.mono ?_
        rintro r w1 ⟨rfl, hb⟩
        have HB3 := Lib.hid (grew hb (grew_alloc w1 (.cells #[.int .i64 r1, .int .i64 r2] 34)))
        clear hb
        go_wp2
        go_roundw
        case rel => exact ⟨k + 1, by omega, by go_num, by rw [HS2.out]; exact HO.out.below HB3.out, HN.out, grew HB.out HB3.out⟩
        case measure => simp [intOf]; omega
      · have HS2 : Hid (sitesK L e (k + 1) = sitesK L e k ++ [(k : Int)]) := Lib.hid (by rw [HS.out]; simp)
        go_wp2_with fail
        refine HC.out.mono ?_
        rintro r w1 ⟨rfl, hb⟩
        have HB3 := Lib.hid (grew hb (grew_alloc w1 (.cells #[.int .i64 r1, .int .i64 r2] 34)))
        have HO1 := Lib.hid (HO.out.below HB3.out)
        have HSZ : Hid ((w1.alloc (.cells #[.int .i64 r1, .int .i64 r2] 34)).heap.size = w1.heap.size + 1) := Lib.hid (Array.size_push _)
        clear hb
        go_wp2_with (first | (at_builtin; refine wp_append_num (w := w1.alloc (.cells #[.int .i64 r1, .int .i64 r2] 34)) rfl (.tmp 26) (.tmp 28) rfl _ (sitesK L e k) (k : Int) rfl (by rw [HSZ.out]; rfl) HO1.out (by have := HKL.out; have := HL16.out; omega) ?_; intro v2 w2 ho2 hk2 hn2; have HX := Lib.hid (And.intro ho2 (And.intro hk2 hn2)); clear ho2 hk2 hn2))
        have HN2 : Hid (∀ g, v2.ownBlock = some g → w.heap.size ≤ g) := Lib.hid (fun g hg => by
          rcases HX.out.2.2 g hg with q | q
          · exact HN.out g q
          · exact Nat.le_trans (Nat.le_trans HB.out.size HB3.out.size) q)
        have HB4 : Hid (Below w.heap.size w w2) := Lib.hid ((grew HB.out HB3.out).trans (HX.out.2.1.below (grew HB.out HB3.out).size (fun i hi => HN.out i hi)))
        go_roundw
        case rel => exact ⟨k + 1, by omega, by go_num, by rw [HS2.out]; exact HX.out.1, HN2.out, HB4.out⟩
        case measure => simp [intOf]; omega
    · obtain rfl : k = L.length := by omega
      have d1 : decide ((L.length : Int) < (L.length : Int)) = false := decide_eq_false (by omega)
      have d2 : decide (L.length < L.length) = false := decide_eq_false (by omega)
      go_wp2
      go_ret
      exact ⟨_, rfl, HO.out.slice, HB.out⟩

theorem RWhereV.set {q g : Nat} {L : List Car} {w w1 : World} {F : Nat → Prop} (hb : Below w.heap.size w w1) (h1 : Holds w q [.slice (some ⟨g, 0, none⟩) L.length L.length] 130) (h2 : Holds w g (carsL L) 132) (hn : 1 ≤ L.length ∧ L.length ≤ 16) (hF : ∀ k, F k ↔ k = q ∨ k = g) {i : Nat} (hi : i < L.length) (c : Car) :
    TStep (RWhereV q (L.set i c)) w F ((((w1.setCell ⟨g, i * 4, none⟩ (.int .i64 c.seq)).setCell ⟨g, i * 4 + 1, none⟩ (.int .i64 c.epoch)).setCell ⟨g, i * 4 + 2, none⟩ (.int .i64 c.ref.1)).setCell ⟨g, i * 4 + 3, none⟩ (.int .i64 c.ref.2)) := by
  have k1 := h1.keep (Keep.of_grew hb Non) (fun h => h)
  have k2 := h2.keep (Keep.of_grew hb Non) (fun h => h)
  have hqg : q ≠ g := h1.off h2 (by decide)
  have hlen : (carsL L).length = L.length * 4 := carsL_len L
  have g0 := k2.set (i * 4) (.int .i64 c.seq) (by rw [hlen]; omega)
  have g1 := g0.set (i * 4 + 1) (.int .i64 c.epoch) (by rw [List.length_set, hlen]; omega)
  have g2 := g1.set (i * 4 + 2) (.int .i64 c.ref.1) (by rw [List.length_set, List.length_set, hlen]; omega)
  have g3 := g2.set (i * 4 + 3) (.int .i64 c.ref.2) (by rw [List.length_set, List.length_set, List.length_set, hlen]; omega)
  have e := carsL_set L i hi c []
  simp only [List.length_nil, List.nil_append, Nat.zero_add] at e
  rw [e] at g3
  have t := (((Keep.setCell w1 g (i * 4) (.int .i64 c.seq)).trans (Keep.setCell _ g (i * 4 + 1) (.int .i64 c.epoch)) (fun _ _ h => h)).trans (Keep.setCell _ g (i * 4 + 2) (.int .i64 c.ref.1)) (fun _ _ h => h)).trans (Keep.setCell _ g (i * 4 + 3) (.int .i64 c.ref.2)) (fun _ _ h => h)
  exact ⟨F, ⟨g, by rw [List.length_set]; exact k1.keep t (fun e => hqg e), g3, by rw [List.length_set]; exact hn, hF⟩, (Keep.of_grew hb F).trans (t.more (S' := F) (fun k _ hk => (hF k).2 (.inr hk))) (fun _ _ h => h), fun k hk => .inl hk⟩

set_option maxRecDepth 100000 in
set_option maxHeartbeats 4000000 in
theorem ref16_Move {q : Nat} {L : List Car} {w : World} {F : Nat → Prop} (h : RWhereV q L w F) (m : Mesg.Msg) (v : Value) (hv : SliceI w v m.know) (hm : m.know.length ≤ 1000000000) :
    Calls Try.prog 48 #[.pointer (some ⟨q, 0, none⟩), msgV m v] w fun e w' => e = .returned (.int .i64 (Carets.move L m).1) ∧ TStep (RWhereV q (Carets.move L m).2) w F w' := by
  have HW := Lib.hid h
  obtain ⟨g, hq, hg, hF, hcs⟩ := h.cell
  have HL : Hid (1 ≤ L.length ∧ L.length ≤ 16) := Lib.hid (by obtain ⟨_, _, _, hl, _⟩ := h; exact hl)
  have HQ := Lib.hid hq
  have HG := Lib.hid hg
  have HFF := Lib.hid hF
  have HCS := Lib.hid hcs
  have HR : Hid (Carets.move L m = if Mesg.may m = true ∧ m.know.length = L.length ∧ m.op.kind = 5 then (if m.seq ≤ (carAt L m.site.toNat).seq then (7, L) else (0, L.set m.site.toNat ⟨m.seq, m.op.epoch, (m.op.ref.time, m.op.ref.site)⟩)) else (1, L)) := Lib.hid rfl
  generalize Carets.move L m = r at HR ⊢
  have HMS : Hid (Mesg.may m = true → 0 ≤ m.site ∧ m.site < (m.know.length : Int) ∧ 1 ≤ m.seq) := Lib.hid (fun e => (may_site e).2)
  have HB := Lib.hid (grew_alloc w (.cells (msgL m v).toArray 38))
  have HM := Lib.hid (Holds.new w (msgL m v) 38)
  have HC := Lib.hid (fun W (hb : Below w.heap.size w W) => ref04_Check m v W (hv.below hb) hm)
  obtain ⟨va, vc, rfl⟩ := hv.shape
  have c0 := hq.cell 0 (by simp)
  simp only [List.getElem_cons_zero] at c0
  have HPL : Hid (q < w.heap.size) := Lib.hid hq.lt
  have HGL : Hid (g < w.heap.size) := Lib.hid hg.lt
  clear h hv hm hq hg hF hcs
  go_enter Try.func48, Try.ntmps48
  unfold msgV
  go_wp2_with fail
  have ew : (w.alloc (.cells (msgL m (.slice va m.know.length vc)).toArray 38)) = w.alloc (.cells #[.int .i64 m.site, .int .i64 m.seq, .slice va m.know.length vc, .int .i64 m.op.kind, .int .i64 m.op.epoch, .int .i64 m.op.id.time, .int .i64 m.op.id.site, .int .i64 m.op.ref.time, .int .i64 m.op.ref.site, .int .i64 m.op.rune] 38) := rfl
  rw [← ew]
  clear ew
  generalize (w.alloc (.cells (msgL m (.slice va m.know.length vc)).toArray 38)) = W at *
  have c1 := (HB.out.cell (p := ⟨q, 0, none⟩) HPL.out).trans c0
  clear c0
  have hq : w.heap.size < W.heap.size := HM.out.lt
  have hpW : q < W.heap.size := Nat.lt_of_lt_of_le HPL.out HB.out.size
  obtain ⟨⟨d0, d1, d2⟩, d3, d4, d5, d6, d7, d8, d9⟩ := msg_cells HM.out
  have q0 := Later.all hq d0
  have q1 := Later.all hq d1
  have q2 := Later.all hq d2
  have q3 := Later.all hq d3
  have q4 := Later.all hq d4
  have q5 := Later.all hq d5
  have q6 := Later.all hq d6
  have q7 := Later.all hq d7
  have q8 := Later.all hq d8
  have q9 := Later.all hq d9
  have qp := Later.all hpW c1
  have HCL : Hid (∀ P : Later W, Calls Try.prog 56 #[msgV m (.slice va m.know.length vc)] P.at' fun e w'' => e = .returned (.int .i64 (checkN m)) ∧ ∃ q : Later W, w'' = q.at') := Lib.hid (fun P => Calls.later (HC.out _ (grew HB.out P.bel)))
  clear d0 d1 d2 d3 d4 d5 d6 d7 d8 d9 c1
  have hne : Nonempty (Later W) := ⟨⟨W, Below.refl _ _⟩⟩
  by_cases hmay : Mesg.may m = true
  · have HE : Hid (checkN m = 0) := Lib.hid (by unfold checkN; rw [hmay]; rfl)
    rw [HE.out] at HCL
    obtain ⟨s1, s2, s3⟩ := HMS.out hmay
    have HSI : Hid (∃ i : Nat, m.site = i) := Lib.hid ⟨m.site.toNat, by omega⟩
    have HS123 := Lib.hid (And.intro s1 s2)
    clear s1 s2 s3
    unfold msgV at HCL
    by_cases hlen : m.know.length = L.length
    · have b1 : (((m.know.length : Nat) : Int) != ((L.length : Nat) : Int)) = false := by rw [hlen]; simp
      by_cases hk : m.op.kind = 5
      · rw [if_pos ⟨hmay, hlen, hk⟩] at HR
        have b2 : (m.op.kind != 5) = false := by simp [hk]
        obtain ⟨i, hsi⟩ := HSI.out
        have hi : i < L.length := by have := HS123.out; omega
        have hia : (i : Int) < (L.length : Int) := by omega
        rw [hsi, Int.toNat_natCast] at HR
        have HI := Lib.hid hi
        have HCE := Lib.hid (HCS.out i hi)
        clear hmay hlen hk hi HE HMS
        rw [hsi] at q0 HCL
        clear hsi
        refine wp_region_later (by kernel_rfl) (by kernel_rfl) ?_
        repeat (go_big_quiet_step ((go_at_call 56; exact HCL.out _)))
        refine wpQuiet_nil ?_
        intro _ hw'
        obtain ⟨P1, hw1⟩ := hw'
        have r0 := q0 P1
        have r1 := q1 P1
        have r4 := q4 P1
        have r7 := q7 P1
        have r8 := q8 P1
        have rp := qp P1
        have HP1 := Lib.hid P1.bel
        rw [← hw1] at r0 r1 r4 r7 r8 rp HP1
        clear hw1 q0 q1 q2 q3 q4 q5 q6 q7 q8 q9 qp HCL
        rename_i w1
        have HB1 := Lib.hid (grew HB.out HP1.out)
        have rc := (HB1.out.cell (p := ⟨g, i * 4, none⟩) HGL.out).trans HCE.out.1
        by_cases hseq : m.seq ≤ (carAt L i).seq
        · rw [if_pos hseq] at HR
          obtain rfl : r = (7, L) := HR.out
          have b3 : decide (m.seq ≤ (carAt L i).seq) = true := decide_eq_true hseq
          clear hseq HCE HCS
          generalize (carAt L i).seq = cs at *
          go_wp2
          go_quiet (fail)
          go_wp2
          go_ret
          exact ⟨rfl, TStep.same (RWhereV.good _ _) HW.out (grew HB1.out (grew_drewN _ _))⟩
        · rw [if_neg hseq] at HR
          obtain rfl : r = (0, L.set i ⟨m.seq, m.op.epoch, (m.op.ref.time, m.op.ref.site)⟩) := HR.out
          have b3 : decide (m.seq ≤ (carAt L i).seq) = false := decide_eq_false hseq
          clear hseq
          have HST := Lib.hid (fun W' (hb : Below w.heap.size w W') => RWhereV.set hb HQ.out HG.out HL.out HFF.out HI.out ⟨m.seq, m.op.epoch, (m.op.ref.time, m.op.ref.site)⟩)
          have HFZ := Lib.hid (fun W' (hb : Below w.heap.size w W') => (HG.out.keep (Keep.of_grew hb Non) (fun h => h)).frozen)
          have HCE2 := Lib.hid (fun W' (hb : Below w.heap.size w W') => And.intro ((hb.cell (p := ⟨g, i * 4, none⟩) HGL.out).trans HCE.out.1) (And.intro ((hb.cell (p := ⟨g, i * 4 + 1, none⟩) HGL.out).trans HCE.out.2.1) (And.intro ((hb.cell (p := ⟨g, i * 4 + 2, none⟩) HGL.out).trans HCE.out.2.2.1) ((hb.cell (p := ⟨g, i * 4 + 3, none⟩) HGL.out).trans HCE.out.2.2.2))))
          clear HCE HCS
          generalize (carAt L i).seq = cs at *
          generalize (carAt L i).epoch = ce at *
          generalize (carAt L i).ref = cr at *
          go_wp2
          go_quiet (fail)
          go_wp2
          have hbb := grew_drewN w1 nq
          generalize w1.drewN nq = w2 at hbb ⊢
          have hq1 : w.heap.size < w1.heap.size := Nat.lt_of_lt_of_le HM.out.lt HP1.out.size
          have t0 := (hbb.cell (p := ⟨w.heap.size, 0, none⟩) hq1).trans r0
          have t1 := (hbb.cell (p := ⟨w.heap.size, 1, none⟩) hq1).trans r1
          have t4 := (hbb.cell (p := ⟨w.heap.size, 4, none⟩) hq1).trans r4
          have t7 := (hbb.cell (p := ⟨w.heap.size, 7, none⟩) hq1).trans r7
          have t8 := (hbb.cell (p := ⟨w.heap.size, 8, none⟩) hq1).trans r8
          have tp := (hbb.cell (p := ⟨q, 0, none⟩) (Nat.lt_of_lt_of_le HPL.out HB1.out.size)).trans rp
          obtain ⟨x0, x1, x2, x3⟩ := HCE2.out w2 (grew HB1.out hbb)
          have xf := HFZ.out w2 (grew HB1.out hbb)
          have HB2 := Lib.hid (grew (grew HB1.out hbb) (grew_drew w2))
          clear r0 r1 r4 r7 r8 rp rc hbb hq1
          go_still_tail 16, (by kernel_rfl)
          change wpList _ _ _ _ _ (World.drew _)
          go_wp2
          go_ret
          exact ⟨rfl, HST.out _ HB2.out⟩
      · rw [if_neg (fun e => hk e.2.2)] at HR
        obtain rfl : r = (1, L) := HR.out
        have b2 : (m.op.kind != 5) = true := by simp [hk]
        clear hmay hlen hk HE HMS
        refine wp_region_later (by kernel_rfl) (by kernel_rfl) ?_
        repeat (go_big_quiet_step ((go_at_call 56; exact HCL.out _)))
        refine wpQuiet_nil ?_
        intro _ hw'
        obtain ⟨P1, hw1⟩ := hw'
        subst hw1
        go_wp2
        go_ret
        exact ⟨rfl, TStep.same (RWhereV.good _ _) HW.out (grew HB.out P1.bel)⟩
    · rw [if_neg (fun e => hlen e.2.1)] at HR
      obtain rfl : r = (1, L) := HR.out
      have b1 : (((m.know.length : Nat) : Int) != ((L.length : Nat) : Int)) = true := by simp; omega
      clear hmay hlen HE HMS
      refine wp_region_later (by kernel_rfl) (by kernel_rfl) ?_
      repeat (go_big_quiet_step ((go_at_call 56; exact HCL.out _)))
      refine wpQuiet_nil ?_
      intro _ hw'
      obtain ⟨P1, hw1⟩ := hw'
      subst hw1
      go_wp2
      go_ret
      exact ⟨rfl, TStep.same (RWhereV.good _ _) HW.out (grew HB.out P1.bel)⟩
  · rw [if_neg (fun e => hmay e.1)] at HR
    obtain rfl : r = (1, L) := HR.out
    have HE : Hid (checkN m = 1) := Lib.hid (by unfold checkN; rw [Bool.eq_false_iff.2 hmay]; rfl)
    rw [HE.out] at HCL
    unfold msgV at HCL
    clear hmay HE HMS
    refine wp_region_later (by kernel_rfl) (by kernel_rfl) ?_
    repeat (go_big_quiet_step ((go_at_call 56; exact HCL.out _)))
    refine wpQuiet_nil ?_
    intro _ hw'
    obtain ⟨P1, hw1⟩ := hw'
    subst hw1
    go_wp2
    go_ret
    exact ⟨rfl, TStep.same (RWhereV.good _ _) HW.out (grew HB.out P1.bel)⟩
end Go.Proofs.Ytcmdfjeiefgmhaa
