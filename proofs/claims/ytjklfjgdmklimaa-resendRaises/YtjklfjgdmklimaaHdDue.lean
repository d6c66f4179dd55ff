/- What due and same of hold come to. -/
import Derived.Test.YtjklfjgdmklimaaHdMem
import Derived.BigQuiet
import Derived.BigRegion
namespace Go.Proofs.Ytjklfjgdmklimaa
open Go.RowKit Go.Maps
set_option linter.unusedVariables false

theorem cmp_below {xs ys : List Int} : (Vecs.below xs ys = true → (Vecs.cmp xs ys = 0 ∨ Vecs.cmp xs ys = 1)) ∧ (Vecs.below xs ys = false → Vecs.cmp xs ys ≠ 0 ∧ Vecs.cmp xs ys ≠ 1) := by
  unfold Vecs.cmp
  cases Vecs.below xs ys <;> cases Vecs.below ys xs <;> simp

set_option maxRecDepth 100000 in
set_option maxHeartbeats 4000000 in
theorem hold_due {w : World} {F : Nat → Prop} {p : Nat} {s : Hold.St} (h0 : IsHold w F p s) (m : Mesg.Msg) (v : Value) (hv : SliceI w v m.know) (hmay : Mesg.may m = true) (hlen : m.know.length = s.clock.length) :
    Calls Try.prog 33 #[.pointer (some ⟨p, 0, none⟩), msgV m v] w fun e w' => e = .returned (.bool (Hold.due s.clock m)) ∧ Below w.heap.size w w' := by
  obtain ⟨cb, cc, mp, S, es, h⟩ := h0
  have HV := Lib.hid hv
  have HW := Lib.hid h
  have hbd := Resend.may_bounds hmay
  have htog : Vecs.together m.know s.clock = true := Vecs.together_iff.2 ⟨Resend.may_vec hmay, Vecs.may_iff.2 ⟨h.ok.sites.1, h.ok.sites.2, h.ok.clock⟩, hlen⟩
  have hkl : m.know.length ≤ 16 := hbd.2.1
  have hcl : s.clock.length ≤ 16 := h.ok.sites.2
  have hs0 : (0 : Int) ≤ m.site := hbd.2.2.1.1
  have hs1 : m.site < (s.clock.length : Int) := by rw [← hlen]; exact hbd.2.2.1.2
  have hsn : m.site.toNat < s.clock.length := by omega
  have hco := h.ok.clock s.clock[m.site.toNat] (List.getElem_mem hsn)
  have HDU : Hid (Hold.due s.clock m = (decide (m.seq = s.clock[m.site.toNat] + 1) && Vecs.below m.know s.clock)) := Lib.hid (by
    unfold Hold.due
    rw [List.getD_eq_getElem?_getD, List.getElem?_eq_getElem hsn]
    rfl)
  have HCV := Lib.hid (cmpV_yes htog)
  obtain ⟨va, vc, rfl⟩ := hv.shape
  have HB := Lib.hid (grew_alloc w (.cells (msgL m (.slice va m.know.length vc)).toArray 40))
  have HM := Lib.hid (Holds.new w (msgL m (.slice va m.know.length vc)) 40)
  have HC := Lib.hid (fun W (hb : Below w.heap.size w W) => vec_Compare (.slice va m.know.length vc) (clockV cb s.clock.length cc) m.know s.clock W (hv.below hb) ((h.clk.below hb).slice) (by unfold maxLen; omega) (by unfold maxLen; omega))
  clear hv h hbd htog hmay hlen
  unfold msgV
  go_enter Try.func33, Try.ntmps33
  go_wp2_with fail
  unfold msgL at HB HM
  generalize hW : (w.alloc (.cells _ 40)) = W at *
  clear hW
  obtain ⟨⟨d0, d1, d2⟩, d3, d4, d5, d6, d7, d8, d9⟩ := msg_cells (m := m) (v := .slice va m.know.length vc) HM.out
  have c1 := (HW.out.below HB.out).box.cell 1 (by simp)
  simp only [List.getElem_cons_succ, List.getElem_cons_zero] at c1
  have ck : W.cell? ⟨cb, m.site.toNat, none⟩ = some (.int .i64 s.clock[m.site.toNat]) := by
    have := World.ownsRow.cellAt (HW.out.below HB.out).clk m.site.toNat (by omega)
    rw [this]
    simp [intCells, hsn]
  generalize s.clock[m.site.toNat] = cz at *
  unfold clockV at c1 HC
  have hcz : IntKind.i64.wrap (cz + 1) = cz + 1 := by have := hco.1; have := hco.2; rw [IntKind.wrap_i64]; omega
  go_quiet ((go_at_call 48; exact Calls.quiet_of ((HC.out _ (grew HB.out (grew_drewN _ _))).mono fun _ _ ⟨h1, h2⟩ => ⟨h1.trans (by rw [HCV.out]), h2⟩)))
  go_wp2_with fail
  by_cases hq : m.seq = cz + 1
  · have bq : (m.seq == cz + 1) = true := by simpa using hq
    cases hbl : Vecs.below m.know s.clock
    · have hc := cmp_below.2 hbl
      have b0 : (Vecs.cmp m.know s.clock == 0) = false := by simpa using hc.1
      have b1 : (Vecs.cmp m.know s.clock == 1) = false := by simpa using hc.2
      have HR : Hid (Hold.due s.clock m = false) := Lib.hid (by rw [HDU.out, hbl]; simp)
      clear hc hbl hq
      generalize Vecs.cmp m.know s.clock = cmp at *
      go_quiet (fail)
      go_wp2
      go_ret
      exact ⟨by rw [HR.out]; rfl, grew HB.out (grew (grew_drewN _ _) (grew_drewN _ _))⟩
    · have HR : Hid (Hold.due s.clock m = true) := Lib.hid (by rw [HDU.out, hbl]; simpa using hq)
      rcases cmp_below.1 hbl with hc | hc
      · have b0 : (Vecs.cmp m.know s.clock == 0) = true := by simpa using hc
        clear hc hbl hq
        generalize Vecs.cmp m.know s.clock = cmp at *
        go_quiet (fail)
        go_wp2
        go_ret
        exact ⟨by rw [HR.out]; rfl, grew HB.out (grew (grew_drewN _ _) (grew_drewN _ _))⟩
      · have b0 : (Vecs.cmp m.know s.clock == 0) = false := by simp [hc]
        have b1 : (Vecs.cmp m.know s.clock == 1) = true := by simpa using hc
        clear hc hbl hq
        generalize Vecs.cmp m.know s.clock = cmp at *
        go_quiet (fail)
        go_wp2
        go_ret
        exact ⟨by rw [HR.out]; rfl, grew HB.out (grew (grew_drewN _ _) (grew_drewN _ _))⟩
  · have bq : (m.seq == cz + 1) = false := by simpa using hq
    have HR : Hid (Hold.due s.clock m = false) := Lib.hid (by rw [HDU.out]; simp [hq])
    clear hq
    generalize Vecs.cmp m.know s.clock = cmp at *
    go_quiet (fail)
    go_wp2
    go_ret
    exact ⟨by rw [HR.out]; rfl, grew HB.out (grew (grew_drewN _ _) (grew_drewN _ _))⟩

theorem slice_at2 {w : World} {a : Option Addr} {cap : Nat} {zs : List Int} (h : SliceI w (.slice a zs.length cap) zs) {k : Nat} (hk : k < zs.length) : ∃ b off, a = some ⟨b, off, none⟩ ∧ w.cell? ⟨b, off + k, none⟩ = some (.int .i64 zs[k]) := by
  obtain ⟨a', cap', e, _, h⟩ := h
  injection e with e1 _ _
  subst e1
  rcases h with h | ⟨b, off, rfl, hlt, hc⟩
  · subst h; simp at hk
  · exact ⟨b, off, rfl, hc k hk⟩

set_option maxRecDepth 100000 in
set_option maxHeartbeats 4000000 in
theorem ints_Equal (u v : Value) (xs ys : List Int) (w : World) (hu : SliceI w u xs) (hv : SliceI w v ys) (hm : xs.length ≤ 1000000000) (hm2 : ys.length ≤ 1000000000) :
    Calls Try.prog 53 #[u, v] w fun e w' => e = .returned (.bool (decide (xs = ys))) ∧ Below w.heap.size w w' := by
  have HU := Lib.hid hu
  have HV := Lib.hid hv
  obtain ⟨ua, uc, rfl⟩ := hu.shape
  obtain ⟨va, vc, rfl⟩ := hv.shape
  clear hu hv
  by_cases hl : xs.length = ys.length
  · have hd : ((xs.length : Int) != (ys.length : Int)) = false := by rw [hl]; simp
    have HL := Lib.hid hl
    clear hl
    go_enter Try.func53, Try.ntmps53
    go_wp2
    go_loopw [13] (fun i wr => ∃ k : Nat, k ≤ xs.length ∧ i = .int .i64 k ∧ xs.take k = ys.take k ∧ Below w.heap.size w wr) (fun i _ => xs.length - (intOf i).toNat)
    case atStart => exact ⟨0, by omega, rfl, by simp, Below.refl _ _⟩
    case round =>
      obtain ⟨k, hk, rfl, htk, hbel⟩ := hrel
      have HT := Lib.hid htk
      have HB := Lib.hid hbel
      clear htk hbel
      by_cases hlt : k < xs.length
      · have hdk : decide ((k : Int) < (xs.length : Int)) = true := decide_eq_true (by omega)
        have hdn : decide (k < xs.length) = true := decide_eq_true hlt
        have hik : (k : Int) < (xs.length : Int) := by omega
        have hlt2 : k < ys.length := by have := HL.out; omega
        have hik2 : (k : Int) < (ys.length : Int) := by omega
        obtain ⟨bx, ox, rfl, x0⟩ := slice_at2 (HU.out.below HB.out) hlt
        obtain ⟨by_, oy, rfl, y0⟩ := slice_at2 (HV.out.below HB.out) hlt2
        have HN : Hid (xs[k] = ys[k] → xs.take (k + 1) = ys.take (k + 1)) := Lib.hid (fun e => (take_ext hlt hlt2 HT.out).2 e)
        have HNO : Hid (xs[k] ≠ ys[k] → xs ≠ ys) := Lib.hid (fun h e => h (by subst e; rfl))
        generalize xs[k] = x at *
        generalize ys[k] = y at *
        by_cases h0 : x = y
        · subst h0
          have HN2 := Lib.hid (HN.out rfl)
          have b0 : (x != x) = false := by simp
          go_wp2_with fail
          go_quiet (fail)
          go_wp2
          go_roundw
          case rel => exact ⟨k + 1, by omega, by go_num, HN2.out, grew HB.out (grew_drewN _ _)⟩
          case measure => simp [intOf]; omega
        · have b0 : (x != y) = true := by simpa using h0
          have HE : Hid (decide (xs = ys) = false) := Lib.hid (decide_eq_false (HNO.out h0))
          clear h0
          go_wp2_with fail
          go_quiet (fail)
          go_wp2
          go_ret
          exact ⟨by rw [HE.out]; rfl, grew HB.out (grew_drewN _ _)⟩
      · have hdn : decide (k < xs.length) = false := decide_eq_false hlt
        have hdk : decide ((k : Int) < (xs.length : Int)) = false := decide_eq_false (by omega)
        have HE : Hid (decide (xs = ys) = true) := Lib.hid (decide_eq_true (by
          have := HT.out
          have hl := HL.out
          rwa [List.take_of_length_le (by omega), List.take_of_length_le (by omega)] at this))
        go_wp2
        go_ret
        exact ⟨by rw [HE.out]; rfl, HB.out⟩
  · have hd : ((xs.length : Int) != (ys.length : Int)) = true := by simp; omega
    have HE : Hid (decide (xs = ys) = false) := Lib.hid (decide_eq_false (fun e => hl (by rw [e])))
    clear hl
    go_enter Try.func53, Try.ntmps53
    go_wp2
    go_ret
    exact ⟨by rw [HE.out]; rfl, Below.refl _ _⟩

set_option maxRecDepth 100000 in
set_option maxHeartbeats 1000000 in
theorem hold_same (a b : Mesg.Msg) (u v : Value) (w : World) (ha : SliceI w u a.know) (hb : SliceI w v b.know) (la : a.know.length ≤ 1000000000) (lb : b.know.length ≤ 1000000000) :
    Calls Try.prog 32 #[msgV a u, msgV b v] w fun e w' => e = .returned (.bool (decide (a = b))) ∧ Below w.heap.size w w' := by
  have HS := Lib.hid (fun W (h : Below w.heap.size w W) => ints_Equal u v a.know b.know W (ha.below h) (hb.below h) la lb)
  obtain ⟨ua, uc, rfl⟩ := ha.shape
  obtain ⟨va, vc, rfl⟩ := hb.shape
  clear ha hb la lb
  obtain ⟨s1, s2, s3, ⟨s4, s5, ⟨s6, s7⟩, ⟨s8, s9⟩, s10⟩⟩ := a
  obtain ⟨t1, t2, t3, ⟨t4, t5, ⟨t6, t7⟩, ⟨t8, t9⟩, t10⟩⟩ := b
  simp only at HS
  unfold msgV
  simp only
  by_cases h1 : s1 = t1
  · subst h1
    by_cases h2 : s2 = t2
    · subst h2
      by_cases h3 : s3 = t3
      · have HD : Hid (decide (s3 = t3) = true) := Lib.hid (decide_eq_true h3)
        have H3 := Lib.hid h3
        clear h3
        go_enter Try.func32, Try.ntmps32
        go_wp2_with fail
        refine (HS.out _ (grew (grew_alloc _ _) (grew_alloc _ _))).mono ?_
        rintro e w1 ⟨rfl, hb1⟩
        rw [HD.out]
        have HB := Lib.hid (grew (grew (grew_alloc _ _) (grew_alloc _ _)) hb1)
        obtain ⟨hxa, hxb, _, _⟩ := two_blocks w (msgL ⟨s1, s2, s3, ⟨s4, s5, ⟨s6, s7⟩, ⟨s8, s9⟩, s10⟩⟩ (.slice ua s3.length uc)) (msgL ⟨s1, s2, t3, ⟨t4, t5, ⟨t6, t7⟩, ⟨t8, t9⟩, t10⟩⟩ (.slice va t3.length vc)) 40 40
        obtain ⟨_, d3, d4, d5, d6, d7, d8, d9⟩ := msg_cells (hxa.keep (Keep.of_grew hb1 Non) (fun h => h))
        obtain ⟨_, e3, e4, e5, e6, e7, e8, e9⟩ := msg_cells (hxb.keep (Keep.of_grew hb1 Non) (fun h => h))
        simp only at d3 d4 d5 d6 d7 d8 d9 e3 e4 e5 e6 e7 e8 e9
        clear hb1 hxa hxb
        go_wp2
        all_goals go_ret
        all_goals refine ⟨ret_bool ?_, HB.out⟩
        all_goals have h3 := H3.out
        all_goals clear d3 d4 d5 d6 d7 d8 d9 e3 e4 e5 e6 e7 e8 e9 HB HS HD H3
        all_goals simp_all
      · have HD : Hid (decide (s3 = t3) = false) := Lib.hid (decide_eq_false h3)
        have HE : Hid (decide ((⟨s1, s2, s3, ⟨s4, s5, ⟨s6, s7⟩, ⟨s8, s9⟩, s10⟩⟩ : Mesg.Msg) = ⟨s1, s2, t3, ⟨t4, t5, ⟨t6, t7⟩, ⟨t8, t9⟩, t10⟩⟩) = false) := Lib.hid (decide_eq_false (fun e => h3 (by injection e)))
        clear h3
        go_enter Try.func32, Try.ntmps32
        go_wp2_with fail
        refine (HS.out _ (grew (grew_alloc _ _) (grew_alloc _ _))).mono ?_
        rintro e w1 ⟨rfl, hb1⟩
        rw [HD.out]
        have HB := Lib.hid (grew (grew (grew_alloc _ _) (grew_alloc _ _)) hb1)
        clear hb1
        go_wp2
        go_ret
        exact ⟨by rw [HE.out]; rfl, HB.out⟩
    · have b2 : (s2 == t2) = false := by simpa using h2
      have HE : Hid (decide ((⟨s1, s2, s3, ⟨s4, s5, ⟨s6, s7⟩, ⟨s8, s9⟩, s10⟩⟩ : Mesg.Msg) = ⟨s1, t2, t3, ⟨t4, t5, ⟨t6, t7⟩, ⟨t8, t9⟩, t10⟩⟩) = false) := Lib.hid (decide_eq_false (fun e => h2 (by injection e)))
      clear h2
      go_enter Try.func32, Try.ntmps32
      go_wp2
      go_ret
      exact ⟨by rw [HE.out]; rfl, grew (grew_alloc _ _) (grew_alloc _ _)⟩
  · have b1 : (s1 == t1) = false := by simpa using h1
    have HE : Hid (decide ((⟨s1, s2, s3, ⟨s4, s5, ⟨s6, s7⟩, ⟨s8, s9⟩, s10⟩⟩ : Mesg.Msg) = ⟨t1, t2, t3, ⟨t4, t5, ⟨t6, t7⟩, ⟨t8, t9⟩, t10⟩⟩) = false) := Lib.hid (decide_eq_false (fun e => h1 (by injection e)))
    clear h1
    go_enter Try.func32, Try.ntmps32
    go_wp2
    go_ret
    exact ⟨by rw [HE.out]; rfl, grew (grew_alloc _ _) (grew_alloc _ _)⟩
end Go.Proofs.Ytjklfjgdmklimaa
