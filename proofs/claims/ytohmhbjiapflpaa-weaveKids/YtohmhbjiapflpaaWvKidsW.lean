/- Kids stand behind, youngest first; what is dropped and put back stands as it stood: the walk of WeaveKids. -/
import Derived.Test.YtohmhbjiapflpaaWvThings
import Derived.Test.YtohmhbjiapflpaaWvKidM
import Derived.Test.YtohmhbjiapflpaaWvKids
import Derived.StillTailTactics
import Derived.IntWalk
namespace Go.Proofs.Ytohmhbjiapflpaa
open Go.RowKit Go.Maps
set_option linter.unusedVariables false

theorem w_Kids {Ts : List Th} {w0 w : World} {p : Nat} {L : List Wel} (h : Mine (LineT p L :: Ts) w0 w) (x : Int × Int) (hx1 : I64 x.1) (hx2 : I64 x.2) :
    Calls Try.prog 25 #[.pointer (some ⟨p, 0, none⟩), idV x] w fun e w' => ∃ v, e = .returned v ∧ SliceG 2 idL w' v (Weave.kids L x).reverse ∧ Mine (LineT p L :: Ts) w0 w' ∧ Below w.heap.size w w' :=
  (weave_Kids h.read h.ok.few x hx1 hx2).mono fun e w' ⟨v, k1, k2, k3⟩ => ⟨v, k1, k2, h.grew k3, k3⟩

theorem Weave.kid_facts {L : List Wel} (h : Weave.Ok L) (x : Int × Int) (i : Nat) (hi : i < (Weave.kids L x).reverse.length) :
    Weave.has L (Weave.kids L x).reverse[i] = true ∧ I64 ((Weave.kids L x).reverse[i]).1 ∧ I64 ((Weave.kids L x).reverse[i]).2 ∧ (Weave.has L x = true → Weave.place L x < Weave.place L (Weave.kids L x).reverse[i]) ∧
    ∀ j (hj : j < (Weave.kids L x).reverse.length), j < i → Idn.lt (Weave.kids L x).reverse[i] (Weave.kids L x).reverse[j] = true := by
  have hs := Weave.kids_spec h.apart x
  have hm : (Weave.kids L x).reverse[i] ∈ Weave.kids L x := List.mem_reverse.1 (List.getElem_mem hi)
  have hp : (Weave.kids L x).reverse.Pairwise (fun a b => Idn.lt b a = true) := List.pairwise_reverse.2 hs.1
  have hpw := List.pairwise_iff_getElem.1 hp
  refine ⟨?_, ?_, ?_, ?_, fun j hj hji => hpw j i hj hi hji⟩
  all_goals
    obtain ⟨e, he, hr, hid⟩ := (hs.2 _).1 hm
    rw [← hid]
  · exact Weave.has_iff.2 ⟨e, he, rfl⟩
  · have := of_decide_eq_true (h.may e he)
    unfold I64; omega
  · have := of_decide_eq_true (h.may e he)
    unfold I64; omega
  · intro hx
    obtain ⟨d, hd, q⟩ := Weave.has_iff.1 hx
    rw [← q]
    exact Weave.place_kid h hd he (hr.trans q.symm)

theorem Weave.kid_back {L : List Wel} (h : Weave.Ok L) (hr : Weave.Runes L) {x : Int × Int} (hh : Weave.has L x = true) (hk : Weave.kids L x = []) : ∃ (r : Int × Int) (rn : Int) (hi : Weave.place L x < (Weave.elements L).length),
    (Weave.elements L)[Weave.place L x] = ⟨x, r, rn⟩ ∧ Weave.drop L x = (0, Weave.less L x) ∧ Weave.has (Weave.less L x) x = false ∧ Weave.insert (Weave.less L x) x r rn = (0, Weave.less L x ++ [⟨x, r, rn⟩]) ∧ Weave.elements (Weave.less L x ++ [⟨x, r, rn⟩]) = Weave.elements L := by
  obtain ⟨hi, h1, h2⟩ := Weave.place_el h hh
  generalize hd : (Weave.elements L)[Weave.place L x] = d at h1 h2
  obtain ⟨id, r, rn⟩ := d
  simp only at h1
  subst h1
  obtain ⟨a, b, c⟩ := Weave.drop_yes h hr h2 hk
  exact ⟨r, rn, hi, hd, a, b, c, Weave.elements_back h h2 hk⟩

set_option maxRecDepth 100000 in
set_option maxHeartbeats 8000000 in
theorem walk_WeaveKids (v : Value) (os : List WOp) (x : Int × Int) (w : World) (hx : SliceG 6 WOp.cells w v os ∧ os.length ≤ maxLen ∧ ∀ o ∈ os, o.ok) (hI : I64 x.1 ∧ I64 x.2) :
    Calls Try.prog 4 #[v, idV x] w fun e w' => e = .returned (.bool true) ∧ Below w.heap.size w w' := by
  obtain ⟨hv, hm, hok⟩ := hx
  obtain ⟨x1, x2⟩ := x
  have HV := Lib.hid hv
  have HI := Lib.hid hI
  have HOK := Lib.hid hok
  obtain ⟨va, vc, rfl⟩ := hv.shape
  unfold maxLen at hm
  clear hv hok hI
  have HM0 := Lib.hid ((Mine.nothing w).alloc [.int .i64 x1, .int .i64 x2] 24)
  simp only [idV]
  go_enter Try.func4, Try.ntmps4
  go_wp2_with fail
  refine (w_New HM0.out).mono ?_
  rintro e w1 ⟨p, rfl, h⟩
  have H := Lib.hid h
  clear h HM0
  have HBX := Lib.hid (fun W (h : Mine [BoxV w.heap.size [.int .i64 x1, .int .i64 x2] 24] w W) => And.intro (h.box.cell 0 (by simp)) (h.box.cell 1 (by simp)))
  simp only [List.getElem_cons_zero, List.getElem_cons_succ] at HBX
  go_upto_block 0 with fail
  go_cut [6] from 22 to 60 (fun s6 wx => ∃ L', Weave.Runes L' ∧ Mine [LineT p L', BoxV w.heap.size [.int .i64 x1, .int .i64 x2] 24] w wx)
  case first =>
    go_wp2_with fail
    go_loopw [6] (fun i wr => ∃ k : Nat, k ≤ os.length ∧ k ≤ 60 ∧ i = .int .i64 k ∧ ∃ L, Weave.Runes L ∧ Mine [LineT p L, BoxV w.heap.size [.int .i64 x1, .int .i64 x2] 24] w wr) (fun i _ => 60 - (intOf i).toNat)
    case atStart => exact ⟨0, by omega, by omega, rfl, _, fun e he => by simp at he, H.out⟩
    case round =>
      obtain ⟨k, hk, hk60, rfl, L, hR, hM⟩ := hrel
      have HM := Lib.hid hM
      have HR := Lib.hid hR
      clear hM H hR HBX
      by_cases hlt : k < os.length ∧ k < 60
      · have d1 : decide ((k : Int) < (os.length : Int)) = true := decide_eq_true (by omega)
        have d1' : decide (k < os.length) = true := decide_eq_true hlt.1
        have d2 : decide ((k : Int) < 60) = true := decide_eq_true (by omega)
        have hia : (k : Int) < (os.length : Int) := by omega
        obtain ⟨b, off, e, hbl, hc⟩ := HV.out.at hlt.1
        cases e
        have hoo := HOK.out os[k] (List.getElem_mem hlt.1)
        have HCC := Lib.hid (fun (W : World) (hb : Below w.heap.size w W) j u (hu : (WOp.cells os[k])[j]? = some u) => (hb.cell (p := ⟨b, off + k * 6 + j, none⟩) hbl).trans (hc j u hu))
        clear hc
        generalize os[k] = o at HCC hoo
        obtain ⟨dr, ⟨y1, y2⟩, ⟨r1, r2⟩, rn⟩ := o
        obtain ⟨⟨hx1, hx2⟩, hr1, hr2⟩ := hoo
        simp only at hx1 hx2 hr1 hr2
        have HI2 := Lib.hid (And.intro hx1 hx2)
        clear hx1 hx2 hr1 hr2
        have hcc := HCC.out _ HM.out.bel
        have q0 := hcc 0 _ rfl
        have q1 := hcc 1 _ rfl
        have q2 := hcc 2 _ rfl
        have q3 := hcc 3 _ rfl
        have q4 := hcc 4 _ rfl
        have q5 := hcc 5 _ rfl
        simp only [Nat.add_zero] at q0
        clear hcc HCC
        cases dr
        · go_wp2_with fail
          go_still_tail 16, (by kernel_rfl)
          change wpList _ _ _ _ _ (World.drew _)
          have HM2 := Lib.hid (HM.out.grew (grew_drew _))
          clear q0 q1 q2 q3 q4 q5
          generalize World.drew wr = w2 at *
          go_wp2_with fail
          refine (w_Insert HM2.out (y1, y2) (r1, r2) rn).mono ?_
          rintro e w4 ⟨rfl, h⟩
          have HM4 := Lib.hid h
          clear h
          go_wp2
          go_roundw
          case rel => first | exact ⟨k + 1, by omega, by omega, by go_num, _, Weave.runes_insert HR.out _ _ _, HM4.out⟩ | ((repeat apply Exists.intro); exact ⟨⟨k + 1, by omega, by omega, by go_num, _, Weave.runes_insert HR.out _ _ _, HM4.out⟩, rfl⟩)
          case measure => simp [intOf]; omega
        · go_wp2_with fail
          refine (w_Drop HM.out (y1, y2) HI2.out.1 HI2.out.2).mono ?_
          rintro e w4 ⟨rfl, h⟩
          have HM4 := Lib.hid h
          clear h q0 q1 q2 q3 q4 q5
          go_wp2
          go_roundw
          case rel => first | exact ⟨k + 1, by omega, by omega, by go_num, _, Weave.runes_drop HR.out _, HM4.out⟩ | ((repeat apply Exists.intro); exact ⟨⟨k + 1, by omega, by omega, by go_num, _, Weave.runes_drop HR.out _, HM4.out⟩, rfl⟩)
          case measure => simp [intOf]; omega
      · have HNLT := Lib.hid hlt
        clear hlt
        by_cases d2 : k < os.length
        · have e1 : decide ((k : Int) < (os.length : Int)) = true := decide_eq_true (by omega)
          have e1' : decide (k < os.length) = true := decide_eq_true d2
          have e2 : decide ((k : Int) < 60) = false := decide_eq_false (by have := HNLT.out; omega)
          go_wp2
          go_meet
          exact ⟨L, HR.out, HM.out⟩
        · have e1 : decide ((k : Int) < (os.length : Int)) = false := decide_eq_false (by omega)
          have e1' : decide (k < os.length) = false := decide_eq_false d2
          go_wp2
          go_meet
          exact ⟨L, HR.out, HM.out⟩
  case rest =>
    obtain ⟨L, hR, hM⟩ := hcut
    have HM := Lib.hid hM
    have HR := Lib.hid hR
    clear hM H hR HV HOK
    obtain ⟨b0, b1⟩ := HBX.out _ HM.out.drop
    go_wp2_with fail
    refine (w_Kids HM.out (x1, x2) HI.out.1 HI.out.2).mono ?_
    rintro e w2 ⟨v2, rfl, hs, h, _⟩
    have HM2 := Lib.hid h
    have HS := Lib.hid hs
    have HKF := Lib.hid (Weave.kid_facts HM2.out.ok (x1, x2))
    have HL0 := Lib.hid (Weave.elements_few HM2.out.ok)
    have HDN : Hid (Weave.has L (x1, x2) = false ∨ 0 < (Weave.kids L (x1, x2)).reverse.length → (Weave.drop L (x1, x2)).1 ≠ 0 ∧ (Weave.drop L (x1, x2)).2 = L) := Lib.hid (fun q => Weave.drop_no (q.imp id (fun k e => by rw [e] at k; simp at k)))
    have HDY : Hid (Weave.has L (x1, x2) = true → ¬ 0 < (Weave.kids L (x1, x2)).reverse.length → _) := Lib.hid (fun q k => Weave.kid_back HM2.out.ok HR.out q (List.eq_nil_of_length_eq_zero (by simpa using k)))
    have HYL : Hid ((Weave.kids L (x1, x2)).reverse.length ≤ 4096) := Lib.hid (by have h1 := Weave.kids_len (L := L) (x1, x2); have h2 := HM2.out.ok.few; rw [List.length_reverse]; omega)
    obtain ⟨ya, yc, rfl⟩ := hs.shape
    clear hs h b0 b1 HM HR
    generalize (Weave.kids L (x1, x2)).reverse = ys at *
    obtain ⟨b0, b1⟩ := HBX.out _ HM2.out.drop
    go_wp2_with fail
    refine (w_Place HM2.out (x1, x2) HI.out.1 HI.out.2).mono ?_
    rintro e w3 ⟨rfl, h, hb⟩
    have HM3 := Lib.hid h
    have HS3 := Lib.hid (HS.out.below hb)
    clear h hb b0 b1 HM2 HS
    have hyl0 := HYL.out
    generalize Weave.has L (x1, x2) = hh at *
    generalize Weave.place L (x1, x2) = px at *
    go_wp2_with fail
    go_loopw [10] (fun i wr => ∃ k : Nat, k ≤ ys.length ∧ i = .int .i64 k ∧ Below w3.heap.size w3 wr) (fun i _ => ys.length - (intOf i).toNat)
    case atStart => exact ⟨0, by omega, rfl, Below.refl _ _⟩
    case round =>
      obtain ⟨k, hk, rfl, hB⟩ := hrel
      have HB := Lib.hid hB
      clear hB
      by_cases hlt : k < ys.length
      · have e1 : decide ((k : Int) < (ys.length : Int)) = true := decide_eq_true (by omega)
        have e2 : decide (k < ys.length) = true := decide_eq_true hlt
        have hka : (k : Int) < (ys.length : Int) := by omega
        obtain ⟨b, off, e, hbl, hc⟩ := (HS3.out.below HB.out).at hlt
        cases e
        have c0 := hc 0 _ rfl
        have c1 := hc 1 _ rfl
        simp only [Nat.add_zero] at c0
        have HK := Lib.hid (HKF.out k hlt)
        have HC := Lib.hid (And.intro hbl (And.intro c0 c1))
        clear hc
        go_wp2_with fail
        refine (w_Place (HM3.out.grew HB.out) (ys[k].1, ys[k].2) HK.out.2.1 HK.out.2.2.1).mono ?_
        rintro e w5 ⟨rfl, _, hb⟩
        have HB5 := Lib.hid hb
        have HT : Hid (Weave.has L (ys[k].1, ys[k].2) = true) := Lib.hid HK.out.1
        rw [HT.out]
        have HP : Hid (hh = true → px < Weave.place L (ys[k].1, ys[k].2)) := Lib.hid HK.out.2.2.2.1
        generalize Weave.place L (ys[k].1, ys[k].2) = py at *
        clear hb c0 c1 HT
        have hne : Nonempty (Later w5) := ⟨⟨w5, Below.refl _ _⟩⟩
        have f0 : ∀ p : Later w5, p.at'.cell? ⟨b, off + k * 2, none⟩ = some (.int .i64 ys[k].1) := fun p => p.cell (Nat.lt_of_lt_of_le HC.out.1 HB5.out.size) ((HB5.out.cell (p := ⟨b, off + k * 2, none⟩) HC.out.1).trans HC.out.2.1)
        have f1 : ∀ p : Later w5, p.at'.cell? ⟨b, off + k * 2 + 1, none⟩ = some (.int .i64 ys[k].2) := fun p => p.cell (Nat.lt_of_lt_of_le HC.out.1 HB5.out.size) ((HB5.out.cell (p := ⟨b, off + k * 2 + 1, none⟩) HC.out.1).trans HC.out.2.2)
        by_cases h0 : 0 < k
        · have z1 : decide ((0 : Int) < (k : Int)) = true := decide_eq_true (by omega)
          have z2 : decide (0 < k) = true := decide_eq_true h0
          have hkl : k - 1 < ys.length := by omega
          have s1 : IntKind.i64.wrap ((k : Int) - 1) = (k : Int) - 1 := IntWalk.i64_in _ (by omega)
          have s2 : (0 : Int) ≤ (k : Int) - 1 := by omega
          have s3 : ((k : Int) - 1).toNat = k - 1 := by omega
          have s4 : (k : Int) - 1 < (ys.length : Int) := by omega
          obtain ⟨b', off', e, hbl', hc⟩ := ((HS3.out.below HB.out).below HB5.out).at hkl
          cases e
          have g0 : ∀ p : Later w5, p.at'.cell? ⟨b, off + (k - 1) * 2, none⟩ = some (.int .i64 ys[k - 1].1) := fun p => p.cell hbl' (hc 0 _ rfl)
          have g1 : ∀ p : Later w5, p.at'.cell? ⟨b, off + (k - 1) * 2 + 1, none⟩ = some (.int .i64 ys[k - 1].2) := fun p => p.cell hbl' (hc 1 _ rfl)
          have HLT : Hid (Idn.lt ys[k] ys[k - 1] = true) := Lib.hid (HK.out.2.2.2.2 (k - 1) hkl (by omega))
          have hls : ∀ P : Later w5, Calls Try.prog 29 #[idV ys[k], idV ys[k - 1]] P.at' fun e w'' => e = .returned (.bool true) ∧ ∃ q : Later w5, w'' = q.at' := fun P => Calls.later ((ident_Less ys[k] ys[k - 1] P.at').mono fun e w' q => ⟨by rw [HLT.out] at q; exact q.1, q.2.below⟩)
          have HLS := Lib.hid hls
          clear hc hls hbl'
          cases hh with
          | false =>
            go_wp2_with fail
            refine wp_region_later (by kernel_rfl) (by kernel_rfl) ?_
            repeat (go_big_quiet_step ((go_at_call 29; exact HLS.out _)))
            refine wpQuiet_nil ?_
            intro _ hw'
            obtain ⟨⟨w8, hb8⟩, hw8⟩ := hw'
            subst hw8
            have HB8 := Lib.hid (grew (grew HB.out HB5.out) hb8)
            clear hb8 s1 s2 s3 s4
            go_wp2
            go_roundw
            case rel => exact ⟨k + 1, by omega, by go_num, HB8.out⟩
            case measure => simp [intOf]; omega
          | true =>
            have hp := HP.out rfl
            have l1 : decide ((py : Int) ≤ (px : Int)) = false := decide_eq_false (by omega)
            have l2 : decide (py ≤ px) = false := decide_eq_false (by omega)
            clear hp
            go_wp2_with fail
            refine wp_region_later (by kernel_rfl) (by kernel_rfl) ?_
            repeat (go_big_quiet_step ((go_at_call 29; exact HLS.out _)))
            refine wpQuiet_nil ?_
            intro _ hw'
            obtain ⟨⟨w8, hb8⟩, hw8⟩ := hw'
            subst hw8
            have HB8 := Lib.hid (grew (grew HB.out HB5.out) hb8)
            clear hb8 s1 s2 s3 s4
            go_wp2
            go_roundw
            case rel => exact ⟨k + 1, by omega, by go_num, HB8.out⟩
            case measure => simp [intOf]; omega
        · have z1 : decide ((0 : Int) < (k : Int)) = false := decide_eq_false (by omega)
          have z2 : decide (0 < k) = false := decide_eq_false h0
          cases hh with
          | false =>
            go_wp2_with fail
            refine wp_region_later (by kernel_rfl) (by kernel_rfl) ?_
            repeat (go_big_quiet_step (fail))
            refine wpQuiet_nil ?_
            intro _ hw'
            obtain ⟨⟨w8, hb8⟩, hw8⟩ := hw'
            subst hw8
            have HB8 := Lib.hid (grew (grew HB.out HB5.out) hb8)
            clear hb8
            go_wp2
            go_roundw
            case rel => exact ⟨k + 1, by omega, by go_num, HB8.out⟩
            case measure => simp [intOf]; omega
          | true =>
            have hp := HP.out rfl
            have l1 : decide ((py : Int) ≤ (px : Int)) = false := decide_eq_false (by omega)
            have l2 : decide (py ≤ px) = false := decide_eq_false (by omega)
            clear hp
            go_wp2_with fail
            refine wp_region_later (by kernel_rfl) (by kernel_rfl) ?_
            repeat (go_big_quiet_step (fail))
            refine wpQuiet_nil ?_
            intro _ hw'
            obtain ⟨⟨w8, hb8⟩, hw8⟩ := hw'
            subst hw8
            have HB8 := Lib.hid (grew (grew HB.out HB5.out) hb8)
            clear hb8
            go_wp2
            go_roundw
            case rel => exact ⟨k + 1, by omega, by go_num, HB8.out⟩
            case measure => simp [intOf]; omega
      · have e1 : decide ((k : Int) < (ys.length : Int)) = false := decide_eq_false (by omega)
        have e2 : decide (k < ys.length) = false := decide_eq_false hlt
        have HM4 := Lib.hid (HM3.out.grew HB.out)
        clear HM3 HS3 HKF
        go_wp2_with fail
        refine (w_Elements HM4.out).mono ?_
        rintro e w5 ⟨v5, rfl, h, _⟩
        obtain ⟨wa, wcp, e⟩ := h.rowG.shape
        subst e
        have HM5 := Lib.hid h
        clear h HM4 e1 e2 hlt hk HB
        have hl0 := HL0.out
        cases hh with
        | false =>
          clear HDY
          obtain ⟨hd1, hd2⟩ := HDN.out (by first | exact .inl rfl | exact .inr hyl)
          have e3 : ((Weave.drop L (x1, x2)).1 != 0) = true := by simpa using hd1
          obtain ⟨b0, b1⟩ := HBX.out _ HM5.out.drop.drop
          go_wp2_with fail
          refine (w_Drop HM5.out.swap (x1, x2) HI.out.1 HI.out.2).mono ?_
          rintro e w6 ⟨rfl, h⟩
          rw [hd2] at h
          have HM6 := Lib.hid h
          clear h b0 b1 hd1 hd2
          generalize (Weave.drop L (x1, x2)).1 = er at e3
          go_wp2_with fail
          refine (w_Elements HM6.out).mono ?_
          rintro e w7 ⟨v7, rfl, h, _⟩
          have HM7 := Lib.hid h
          clear h
          go_wp2_with fail
          refine (ref11_Same_same _ _ (Weave.elements L) _ HM7.out.rowG HM7.out.swap2.rowG (by have := HL0.out; omega)).mono ?_
          rintro e w8 ⟨rfl, hb8⟩
          have HM8 := Lib.hid (grew HM7.out.bel hb8)
          clear hb8
          go_wp2_with fail
          refine (law11_live _).mono ?_
          rintro e w9 ⟨rfl, hb9⟩
          have HM9 := Lib.hid (grew HM8.out hb9)
          clear hb9
          go_wp2
          go_ret
          exact ⟨rfl, HM9.out⟩
        | true =>
          by_cases hyl : 0 < ys.length
          · have y1 : decide ((0 : Int) < (ys.length : Int)) = true := decide_eq_true (by omega)
            have y2 : decide (0 < ys.length) = true := decide_eq_true hyl
            clear HDY
            obtain ⟨hd1, hd2⟩ := HDN.out (by first | exact .inl rfl | exact .inr hyl)
            have e3 : ((Weave.drop L (x1, x2)).1 != 0) = true := by simpa using hd1
            obtain ⟨b0, b1⟩ := HBX.out _ HM5.out.drop.drop
            go_wp2_with fail
            refine (w_Drop HM5.out.swap (x1, x2) HI.out.1 HI.out.2).mono ?_
            rintro e w6 ⟨rfl, h⟩
            rw [hd2] at h
            have HM6 := Lib.hid h
            clear h b0 b1 hd1 hd2
            generalize (Weave.drop L (x1, x2)).1 = er at e3
            go_wp2_with fail
            refine (w_Elements HM6.out).mono ?_
            rintro e w7 ⟨v7, rfl, h, _⟩
            have HM7 := Lib.hid h
            clear h
            go_wp2_with fail
            refine (ref11_Same_same _ _ (Weave.elements L) _ HM7.out.rowG HM7.out.swap2.rowG (by have := HL0.out; omega)).mono ?_
            rintro e w8 ⟨rfl, hb8⟩
            have HM8 := Lib.hid (grew HM7.out.bel hb8)
            clear hb8
            go_wp2_with fail
            refine (law11_live _).mono ?_
            rintro e w9 ⟨rfl, hb9⟩
            have HM9 := Lib.hid (grew HM8.out hb9)
            clear hb9
            go_wp2
            go_ret
            exact ⟨rfl, HM9.out⟩
          · have y1 : decide ((0 : Int) < (ys.length : Int)) = false := decide_eq_false (by omega)
            have y2 : decide (0 < ys.length) = false := decide_eq_false hyl
            obtain ⟨⟨r1, r2⟩, rn, hi, hel, hdr, hno, hins, hback⟩ := HDY.out rfl hyl
            have p1 : (px : Int) < ((Weave.elements L).length : Int) := by omega
            obtain ⟨b, off, e, hbl, hc⟩ := HM5.out.rowG.at hi
            cases e
            rw [hel] at hc
            have c0 := hc 0 _ rfl
            have c1 := hc 1 _ rfl
            have c2 := hc 2 _ rfl
            have c3 := hc 3 _ rfl
            have c4 := hc 4 _ rfl
            have c5 := hc 5 _ rfl
            simp only [Nat.add_zero] at c0
            have HM6 : Hid (Mine [BoxV w5.heap.size [.int .i64 x1, .int .i64 x2, .int .i64 r1, .int .i64 r2, .int .i64 rn, .slice none 0 0] 49, RowV 6 Wel.cells (.slice (some ⟨b, off, none⟩) (Weave.elements L).length wcp) (Weave.elements L), LineT p L, BoxV w.heap.size [.int .i64 x1, .int .i64 x2] 24] w (w5.alloc (.cells #[.int .i64 x1, .int .i64 x2, .int .i64 r1, .int .i64 r2, .int .i64 rn, .slice none 0 0] 49))) := Lib.hid (HM5.out.alloc _ _)
            obtain ⟨b0, b1⟩ := HBX.out _ HM6.out.drop.drop.drop
            have HF := Lib.hid (And.intro hdr (And.intro hno (And.intro hins hback)))
            clear hc hel hdr hno hins hback HDN HDY
            go_wp2_with fail
            refine (w_Drop HM6.out.swap2 (x1, x2) HI.out.1 HI.out.2).mono ?_
            rintro e w7 ⟨rfl, h⟩
            rw [HF.out.1] at h
            simp only [HF.out.1]
            have HM7 := Lib.hid h
            clear h b0 b1 c0 c1 c2 c3 c4 c5 HM6
            obtain ⟨b0, b1⟩ := HBX.out _ HM7.out.drop.drop.drop
            go_wp2_with fail
            refine (w_Place HM7.out (x1, x2) HI.out.1 HI.out.2).mono ?_
            rintro e w8 ⟨rfl, h, _⟩
            rw [HF.out.2.1]
            have HM8 := Lib.hid h
            clear h b0 b1 HM7
            generalize Weave.place (Weave.less L (x1, x2)) (x1, x2) = pz
            have m0 := HM8.out.swap.box.cell 0 (by simp)
            have m1 := HM8.out.swap.box.cell 1 (by simp)
            have m2 := HM8.out.swap.box.cell 2 (by simp)
            have m3 := HM8.out.swap.box.cell 3 (by simp)
            have m4 := HM8.out.swap.box.cell 4 (by simp)
            simp only [List.getElem_cons_zero, List.getElem_cons_succ] at m0 m1 m2 m3 m4
            go_wp2_with fail
            refine (w_Insert HM8.out (x1, x2) (r1, r2) rn).mono ?_
            rintro e w9 ⟨rfl, h⟩
            rw [HF.out.2.2.1] at h
            simp only [HF.out.2.2.1]
            have HM9 := Lib.hid h
            clear h m0 m1 m2 m3 m4 HM8
            go_wp2_with fail
            refine (w_Elements HM9.out).mono ?_
            rintro e w10 ⟨v10, rfl, h, _⟩
            rw [HF.out.2.2.2] at h
            have HM10 := Lib.hid h
            clear h HM9
            go_wp2_with fail
            refine (ref11_Same_same _ _ (Weave.elements L) _ HM10.out.rowG HM10.out.swap3.rowG (by have := HL0.out; omega)).mono ?_
            rintro e w11 ⟨rfl, hb11⟩
            have HM11 := Lib.hid (grew HM10.out.bel hb11)
            clear hb11
            go_wp2_with fail
            refine (law11_live _).mono ?_
            rintro e w12 ⟨rfl, hb12⟩
            have HM12 := Lib.hid (grew HM11.out hb12)
            clear hb12
            go_wp2
            go_ret
            exact ⟨rfl, HM12.out⟩
end Go.Proofs.Ytohmhbjiapflpaa
