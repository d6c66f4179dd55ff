/- Makers of Ids beside the document's. -/
import Derived.Test.YteooganpnmfkbaaIdRMaker
import Derived.Test.YteooganpnmfkbaaIdOpen
namespace Go.Proofs.Yteooganpnmfkbaa
open Go.RowKit
set_option linter.unusedVariables false

/-- A maker and the document's, side by side, and an Id in a list that came in. -/
def MInv (w0 : World) (g r : Nat) (s t1 t2 : Int) (b o : Nat) (x : Int × Int) (w : World) : Prop := (w.cell? ⟨b, o, none⟩ = some (.int .i64 x.1) ∧ w.cell? ⟨b, o + 1, none⟩ = some (.int .i64 x.2)) ∧ (b < w0.heap.size ∧ g ≠ r ∧ w0.heap.size ≤ g ∧ w0.heap.size ≤ r) ∧ IsMaker w g s t1 ∧ IsRMaker w r s t2 ∧ Below w0.heap.size w0 w
section
variable {w0 : World} {g r : Nat} {s t1 t2 : Int} {b o : Nat} {x : Int × Int} {w : World}
theorem MInv.below {w' : World} (h : MInv w0 g r s t1 t2 b o x w) (hb : Below w.heap.size w w') : MInv w0 g r s t1 t2 b o x w' := by
  have hl : b < w.heap.size := Nat.lt_of_lt_of_le h.2.1.1 h.2.2.2.2.size
  exact ⟨⟨by rw [hb.cell (p := ⟨b, o, none⟩) hl]; exact h.1.1, by rw [hb.cell (p := ⟨b, o + 1, none⟩) hl]; exact h.1.2⟩, h.2.1, Holds.keep h.2.2.1 (Keep.of_grew hb Non) (fun h => h), Holds.keep h.2.2.2.1 (Keep.of_grew hb Non) (fun h => h), grew h.2.2.2.2 hb⟩
theorem MInv.drew (h : MInv w0 g r s t1 t2 b o x w) : MInv w0 g r s t1 t2 b o x w.drew := h.below (grew_drew w)
theorem MInv.turn1 {w' : World} {t : Int} (h : MInv w0 g r s t1 t2 b o x w) (hm : IsMaker w' g s t) (hk : Keep (Just g) w w') : MInv w0 g r s t t2 b o x w' := by
  obtain ⟨⟨c0, c1⟩, ⟨hb, hn, hg, hr⟩, h1, h2, h3⟩ := h
  have hl : b < w.heap.size := Nat.lt_of_lt_of_le hb h3.size
  have hne : ¬ Just g b := fun e => by have e : b = g := e; omega
  exact ⟨⟨by rw [hk.cell hl hne]; exact c0, by rw [hk.cell hl hne]; exact c1⟩, ⟨hb, hn, hg, hr⟩, hm, Holds.keep h2 hk (fun e => hn (Eq.symm e)), h3.trans (hk.below h3.size (fun i e => by have e : i = g := e; omega))⟩
theorem MInv.turn2 {w' : World} {t : Int} (h : MInv w0 g r s t1 t2 b o x w) (hm : IsRMaker w' r s t) (hk : Keep (Just r) w w') : MInv w0 g r s t1 t b o x w' := by
  obtain ⟨⟨c0, c1⟩, ⟨hb, hn, hg, hr⟩, h1, h2, h3⟩ := h
  have hl : b < w.heap.size := Nat.lt_of_lt_of_le hb h3.size
  have hne : ¬ Just r b := fun e => by have e : b = r := e; omega
  exact ⟨⟨by rw [hk.cell hl hne]; exact c0, by rw [hk.cell hl hne]; exact c1⟩, ⟨hb, hn, hg, hr⟩, Holds.keep h1 hk (fun e => hn e), hm, h3.trans (hk.below h3.size (fun i e => by have e : i = r := e; omega))⟩
theorem minv_See (h : MInv w0 g r s t1 t2 b o x w) (y : Int × Int) : Calls Try.prog 43 #[.pointer (some ⟨g, 0, none⟩), .agg #[.int .i64 y.1, .int .i64 y.2]] w fun e w' => e = .returned (.int .i64 (Idn.chk y)) ∧ MInv w0 g r s (Idn.seen t1 y) t2 b o x w' :=
  (ident_See h.2.2.1 y).mono fun e w' ⟨h1, h2, h3⟩ => ⟨h1, h.turn1 h2 h3⟩
theorem minv_RSee (h : MInv w0 g r s t1 t2 b o x w) (y : Int × Int) : Calls Try.prog 44 #[.pointer (some ⟨r, 0, none⟩), .agg #[.int .i64 y.1, .int .i64 y.2]] w fun e w' => e = .returned (.int .i64 (Idn.chk y)) ∧ MInv w0 g r s t1 (Idn.seen t2 y) b o x w' :=
  (ref10_See h.2.2.2.1 y).mono fun e w' ⟨h1, h2, h3⟩ => ⟨h1, h.turn2 h2 h3⟩
/-- What Make makes, its error, the time behind it. -/
def Idn.make (s t : Int) : (Int × Int) × Int × Int := if t = 4294967295 then ((0, 0), 5, t) else ((t + 1, s), 0, t + 1)
theorem minv_Make (h : MInv w0 g r s t1 t2 b o x w) (ht : 0 ≤ t1 ∧ t1 ≤ 4294967295) : Calls Try.prog 46 #[.pointer (some ⟨g, 0, none⟩)] w fun e w' => e = .returned (.tuple #[.agg #[.int .i64 (Idn.make s t1).1.1, .int .i64 (Idn.make s t1).1.2], .int .i64 (Idn.make s t1).2.1]) ∧ MInv w0 g r s (Idn.make s t1).2.2 t2 b o x w' := by
  by_cases e : t1 = 4294967295
  · have he : Idn.make s t1 = ((0, 0), 5, t1) := if_pos e
    rw [he]
    exact (ident_Make_full h.2.2.1 (by omega)).mono fun e w' ⟨h1, h2⟩ => ⟨h1, h.below h2⟩
  · have he : Idn.make s t1 = ((t1 + 1, s), 0, t1 + 1) := if_neg e
    rw [he]
    exact (ident_Make h.2.2.1 (by omega)).mono fun e w' ⟨h1, h2, h3⟩ => ⟨h1, h.turn1 h2 h3⟩
theorem minv_RMake (h : MInv w0 g r s t1 t2 b o x w) (ht : 0 ≤ t2 ∧ t2 ≤ 4294967295) : Calls Try.prog 47 #[.pointer (some ⟨r, 0, none⟩)] w fun e w' => e = .returned (.tuple #[.agg #[.int .i64 (Idn.make s t2).1.1, .int .i64 (Idn.make s t2).1.2], .int .i64 (Idn.make s t2).2.1]) ∧ MInv w0 g r s t1 (Idn.make s t2).2.2 b o x w' ∧ Keep (Just r) w w' := by
  by_cases e : t2 = 4294967295
  · have he : Idn.make s t2 = ((0, 0), 5, t2) := if_pos e
    rw [he]
    exact (ref10_Make_full h.2.2.2.1 e).mono fun e w' ⟨h1, h2⟩ => ⟨h1, h.below h2, Keep.of_grew h2 _⟩
  · have he : Idn.make s t2 = ((t2 + 1, s), 0, t2 + 1) := if_neg e
    rw [he]
    exact (ref10_Make h.2.2.2.1 (by omega)).mono fun e w' ⟨h1, h2, h3⟩ => ⟨h1, h.turn2 h2 h3, h3⟩
end
theorem Idn.seen_in {t : Int} (ht : 0 ≤ t ∧ t ≤ 4294967295) (x : Int × Int) : 0 ≤ Idn.seen t x ∧ Idn.seen t x ≤ 4294967295 := by
  unfold Idn.seen
  split
  · rename_i h
    have := of_decide_eq_true h
    omega
  · exact ht

/-- Where the loop over the list stands. -/
def MLoop (w0 : World) (g r : Nat) (s : Int) (w : World) : Prop := ∃ t, (0 ≤ t ∧ t ≤ 4294967295) ∧ (g ≠ r ∧ w0.heap.size ≤ g ∧ w0.heap.size ≤ r) ∧ IsMaker w g s t ∧ IsRMaker w r s t ∧ Below w0.heap.size w0 w

set_option maxRecDepth 100000 in
set_option maxHeartbeats 8000000 in
theorem walk_IdentMakes (s : Int) (v : Value) (xs : List (Int × Int)) (w : World) (hs : (Lit.int .i64 s).wf = true) (hx : SliceG 2 idL w v xs ∧ xs.length ≤ maxLen ∧ ∀ x ∈ xs, I64 x.1 ∧ I64 x.2) :
    Calls Try.prog 10 #[.int .i64 s, v] w fun e w' => e = .returned (.bool true) ∧ Below w.heap.size w w' := by
  obtain ⟨hv, hm, _⟩ := hx
  have HV := Lib.hid hv
  obtain ⟨va, vc, rfl⟩ := hv.shape
  unfold maxLen at hm
  clear hv hs
  by_cases hok : 0 ≤ s ∧ s ≤ 15
  · have HOK := Lib.hid hok
    go_enter Try.func10, Try.ntmps10
    go_wp2_with fail
    refine (ident_New_yes s _ hok).mono ?_
    rintro e w1 ⟨rfl, hm1, hb1⟩
    go_wp2_with fail
    refine (ref10_New_yes s _ hok).mono ?_
    rintro e w2 ⟨rfl, hm2, hb2⟩
    have HL : Hid (MLoop w w.heap.size w1.heap.size s w2) := Lib.hid ⟨0, by decide, ⟨by have := Holds.lt hm1; omega, Nat.le_refl _, hb1.size⟩, Holds.keep hm1 (Keep.of_grew hb2 Non) (fun h => h), hm2, grew hb1 hb2⟩
    generalize w.heap.size = g at *
    generalize w1.heap.size = r at *
    clear hm1 hm2 hb1 hb2 hok
    go_wp2_with fail
    go_loopw [9] (fun i wr => ∃ k : Nat, k ≤ xs.length ∧ k ≤ 60 ∧ i = .int .i64 k ∧ MLoop w g r s wr) (fun i _ => 60 - (intOf i).toNat)
    case atStart => exact ⟨0, by omega, by omega, rfl, HL.out⟩
    case round =>
      obtain ⟨k, hk, hk60, rfl, hl⟩ := hrel
      have HL := Lib.hid hl
      clear hl
      by_cases hlt : k < xs.length ∧ k < 60
      · have d1 : decide ((k : Int) < (xs.length : Int)) = true := decide_eq_true (by omega)
        have d2 : decide ((k : Int) < 60) = true := decide_eq_true (by omega)
        have hia : (k : Int) < (xs.length : Int) := by omega
        obtain ⟨t, hti, ⟨hn, hg, hr⟩, hm1, hm2, hb⟩ := HL.out
        obtain ⟨b, off, rfl, hbl, hcells⟩ := HV.out.at hlt.1
        have q0 : wr.cell? ⟨b, off + k * 2, none⟩ = some (.int .i64 xs[k].1) := by rw [hb.cell (p := ⟨b, off + k * 2, none⟩) hbl]; exact hcells 0 _ rfl
        have q1 : wr.cell? ⟨b, off + k * 2 + 1, none⟩ = some (.int .i64 xs[k].2) := by rw [hb.cell (p := ⟨b, off + k * 2 + 1, none⟩) hbl]; exact hcells 1 _ rfl
        have HI : Hid (MInv w g r s t t b (off + k * 2) xs[k] wr) := Lib.hid ⟨⟨q0, q1⟩, ⟨hbl, hn, hg, hr⟩, hm1, hm2, hb⟩
        have HTI := Lib.hid hti
        clear hcells hm1 hm2 hb hti HL
        have HCK := Lib.hid (fun W => ref10_Check xs[k] W)
        generalize xs[k] = x at q0 q1 HI HCK
        obtain ⟨x1, x2⟩ := x
        simp only [idV] at q0 q1 HCK
        by_cases hmay : Idn.may (x1, x2) = true
        · have HC0 : Hid (Idn.chk (x1, x2) = 0) := Lib.hid (by unfold Idn.chk; rw [hmay]; rfl)
          have HS := Lib.hid (Idn.seen_in HTI.out (x1, x2))
          clear hmay
          go_wp2_with fail
          refine (HCK.out _).mono ?_
          rintro e wa ⟨rfl, hg1⟩
          rw [HC0.out]
          have HI := Lib.hid (HI.out.below hg1.below).drew
          clear hg1 q0 q1
          go_wp2_with fail
          go_region_held3 (fun w' => w'.cell? ⟨b, off + k * 2, none⟩ = some (.int .i64 x1) ∧ w'.cell? ⟨b, off + k * 2 + 1, none⟩ = some (.int .i64 x2))
            (first | exact HI.out.1)
            (first
              | (go_at_call 43; refine (minv_See HI.out (x1, x2)).mono ?_; rintro e wi ⟨rfl, hI⟩; rw [HC0.out]; have HI := Lib.hid hI; clear hI)
              | (go_at_call 44; refine (minv_RSee HI.out (x1, x2)).mono ?_; rintro e wi ⟨rfl, hI⟩; rw [HC0.out]; have HI := Lib.hid hI; clear hI))
          generalize Idn.seen t (x1, x2) = t' at HI HS
          have HTM := Lib.hid (fun n => ident_Time (w := wi.drewN n) (g := g) (s := s) (t := t') HI.out.2.2.1)
          obtain ⟨r0, r1⟩ := Holds.two HI.out.2.2.2.1
          go_wp2_with fail
          go_quiet ((go_at_call 45; exact Calls.quiet_of_same (HTM.out _)))
          go_wp2
          go_roundw
          case rel => exact ⟨k + 1, by omega, by omega, by go_num, t', HS.out, HI.out.2.1.2, HI.out.2.2.1, HI.out.2.2.2.1, grew HI.out.2.2.2.2 (grew_drewN _ _)⟩
          case measure => simp [intOf]; omega
        · have HC1 : Hid (Idn.chk (x1, x2) = 1 ∧ Idn.seen t (x1, x2) = t) := Lib.hid ⟨by unfold Idn.chk; rw [Bool.eq_false_iff.2 hmay]; rfl, by unfold Idn.seen; rw [Bool.eq_false_iff.2 hmay]; rfl⟩
          have HMK : Hid ((Idn.make s t = ((0, 0), 5, t)) ∨ (Idn.make s t = ((t + 1, s), 0, t + 1) ∧ Idn.chk (t + 1, s) = 0 ∧ t + 1 ≤ 4294967295)) := Lib.hid (by
            by_cases e : t = 4294967295
            · exact .inl (if_pos e)
            · refine .inr ⟨if_neg e, ?_, by have := HTI.out; omega⟩
              unfold Idn.chk Idn.may
              rw [if_pos (decide_eq_true (by have := HTI.out; have := HOK.out; show 1 ≤ t + 1 ∧ t + 1 ≤ 4294967295 ∧ 0 ≤ s ∧ s ≤ 15; omega))])
          clear hmay
          go_wp2_with fail
          refine (HCK.out _).mono ?_
          rintro e wa ⟨rfl, hg1⟩
          rw [HC1.out.1]
          have HI := Lib.hid (HI.out.below hg1.below)
          clear hg1 q0 q1
          obtain ⟨q0, q1⟩ := HI.out.1
          simp only at q0 q1
          go_wp2_with fail
          refine (minv_See HI.out (x1, x2)).mono ?_
          rintro e wb ⟨rfl, hI⟩
          rw [HC1.out.2] at hI
          rw [HC1.out.1]
          have HI := Lib.hid hI
          clear hI q0 q1
          go_wp2_with fail
          refine (ident_Time HI.out.2.2.1).mono ?_
          rintro e _ ⟨rfl, rfl⟩
          go_wp2_with fail
          refine (minv_Make HI.out HTI.out).mono ?_
          rintro e wc ⟨rfl, hI⟩
          have HI := Lib.hid hI
          clear hI
          have HRM := Lib.hid (fun W (h : MInv w g r s (Idn.make s t).2.2 t b (off + k * 2) (x1, x2) W) => minv_RMake h HTI.out)
          rcases HMK.out with he | ⟨he, hck, hle⟩
          · rw [he] at HI HRM ⊢
            simp only at HI HRM ⊢
            have HRL := Lib.hid (Holds.lt HI.out.2.2.2.1)
            have HA := Lib.hid (Holds.new wc [.int .i64 0, .int .i64 0] 49)
            have HI := Lib.hid (HI.out.below (grew_alloc wc (.cells #[.int .i64 0, .int .i64 0] 49)))
            go_wp2_with fail
            refine (HRM.out _ HI.out).mono ?_
            rintro e wd ⟨rfl, hI, hkp⟩
            have HA := Lib.hid (HA.out.keep hkp (fun e => by have e : wc.heap.size = r := e; have := HRL.out; omega))
            have HI := Lib.hid hI
            clear hI hkp
            have HC := Lib.hid (Holds.new wd [.int .i64 0, .int .i64 0] 49)
            have HA := Lib.hid (HA.out.keep (Keep.alloc Non wd (.cells #[.int .i64 0, .int .i64 0] 49)) (fun h => h))
            have HI := Lib.hid (HI.out.below (grew_alloc wd (.cells #[.int .i64 0, .int .i64 0] 49)))
            obtain ⟨a0, a1⟩ := HA.out.two
            obtain ⟨b0, b1⟩ := HC.out.two
            have HTM := Lib.hid (fun n => ident_Time (w := (wd.alloc (.cells #[.int .i64 0, .int .i64 0] 49)).drewN n) (g := g) (s := s) (t := t) HI.out.2.2.1)
            obtain ⟨r0, r1⟩ := Holds.two HI.out.2.2.2.1
            go_wp2_with fail
            go_quiet ((go_at_call 45; exact Calls.quiet_of_same (HTM.out _)))
            go_wp2
            go_roundw
            case rel => exact ⟨k + 1, by omega, by omega, by go_num, t, HTI.out, HI.out.2.1.2, HI.out.2.2.1, HI.out.2.2.2.1, grew HI.out.2.2.2.2 (grew_drewN _ _)⟩
            case measure => simp [intOf]; omega
          · rw [he] at HI HRM ⊢
            simp only at HI HRM ⊢
            have HRL := Lib.hid (Holds.lt HI.out.2.2.2.1)
            have HA := Lib.hid (Holds.new wc [.int .i64 (t + 1), .int .i64 s] 49)
            have HI := Lib.hid (HI.out.below (grew_alloc wc (.cells #[.int .i64 (t + 1), .int .i64 s] 49)))
            go_wp2_with fail
            refine (HRM.out _ HI.out).mono ?_
            rintro e wd ⟨rfl, hI, hkp⟩
            have HA := Lib.hid (HA.out.keep hkp (fun e => by have e : wc.heap.size = r := e; have := HRL.out; omega))
            have HI := Lib.hid hI
            clear hI hkp
            have HC := Lib.hid (Holds.new wd [.int .i64 (t + 1), .int .i64 s] 49)
            have HA := Lib.hid (HA.out.keep (Keep.alloc Non wd (.cells #[.int .i64 (t + 1), .int .i64 s] 49)) (fun h => h))
            have HI := Lib.hid (HI.out.below (grew_alloc wd (.cells #[.int .i64 (t + 1), .int .i64 s] 49)))
            obtain ⟨a0, a1⟩ := HA.out.two
            obtain ⟨b0, b1⟩ := HC.out.two
            have dle : decide (t + 1 ≤ t) = false := decide_eq_false (by omega)
            have HCA := Lib.hid (fun W => ident_Check (t + 1, s) W)
            rw [hck] at HCA
            simp only [idV] at HCA
            go_wp2_with fail
            refine (HCA.out _).mono ?_
            rintro e we ⟨rfl, hg1⟩
            have HI := Lib.hid (HI.out.below hg1.below)
            clear hg1 a0 a1 b0 b1
            have HTM := Lib.hid (fun n => ident_Time (w := we.drewN n) (g := g) (s := s) (t := t + 1) HI.out.2.2.1)
            obtain ⟨r0, r1⟩ := Holds.two HI.out.2.2.2.1
            go_wp2_with fail
            go_quiet ((go_at_call 45; exact Calls.quiet_of_same (HTM.out _)))
            go_wp2
            go_roundw
            case rel => exact ⟨k + 1, by omega, by omega, by go_num, t + 1, ⟨by have := HTI.out; omega, hle⟩, HI.out.2.1.2, HI.out.2.2.1, HI.out.2.2.2.1, grew HI.out.2.2.2.2 (grew_drewN _ _)⟩
            case measure => simp [intOf]; omega
      · by_cases d1 : k < xs.length
        · have e1 : decide ((k : Int) < (xs.length : Int)) = true := decide_eq_true (by omega)
          have e2 : decide ((k : Int) < 60) = false := decide_eq_false (by omega)
          go_wp2_with fail
          refine (law10_live _).mono ?_
          rintro e wz ⟨rfl, hb⟩
          obtain ⟨t, _, _, _, _, hbl⟩ := HL.out
          have HB := Lib.hid (grew hbl hb)
          clear hb hbl
          go_wp2
          go_ret
          exact ⟨rfl, HB.out⟩
        · have e1 : decide ((k : Int) < (xs.length : Int)) = false := decide_eq_false (by omega)
          go_wp2_with fail
          refine (law10_live _).mono ?_
          rintro e wz ⟨rfl, hb⟩
          obtain ⟨t, _, _, _, _, hbl⟩ := HL.out
          have HB := Lib.hid (grew hbl hb)
          clear hb hbl
          go_wp2
          go_ret
          exact ⟨rfl, HB.out⟩
  · go_enter Try.func10, Try.ntmps10
    go_wp2_with fail
    refine (ident_New_no s _ hok).mono ?_
    rintro e w1 ⟨rfl, h1⟩
    subst h1
    go_wp2_with fail
    refine (ref10_New_no s _ hok).mono ?_
    rintro e w1 ⟨rfl, h1⟩
    subst h1
    by_cases h0 : 0 < xs.length
    · have e1 : decide ((0 : Int) < (xs.length : Int)) = true := decide_eq_true (by omega)
      go_wp2_with fail
      go_loopw [9] (fun i wr => i = .int .i64 ((0 : Nat) : Int) ∧ Below w1.heap.size w1 wr) (fun _ _ => 0)
      case atStart => exact ⟨rfl, Below.refl _ _⟩
      case round =>
        obtain ⟨rfl, hbl⟩ := hrel
        have HBL := Lib.hid hbl
        clear hbl
        go_wp2_with fail
        refine (law10_live _).mono ?_
        rintro e wz ⟨rfl, hb⟩
        have HB := Lib.hid (grew HBL.out hb)
        clear hb
        go_wp2
        go_ret
        exact ⟨rfl, HB.out⟩
    · have e1 : decide ((0 : Int) < (xs.length : Int)) = false := decide_eq_false (by omega)
      go_wp2_with fail
      go_loopw [9] (fun i wr => i = .int .i64 ((0 : Nat) : Int) ∧ Below w1.heap.size w1 wr) (fun _ _ => 0)
      case atStart => exact ⟨rfl, Below.refl _ _⟩
      case round =>
        obtain ⟨rfl, hbl⟩ := hrel
        have HBL := Lib.hid hbl
        clear hbl
        go_wp2_with fail
        refine (law10_live _).mono ?_
        rintro e wz ⟨rfl, hb⟩
        have HB := Lib.hid (grew HBL.out hb)
        clear hb
        go_wp2
        go_ret
        exact ⟨rfl, HB.out⟩
end Go.Proofs.Yteooganpnmfkbaa
