/- Whatever is kept, dropped, and asked for: the walk of ResendScripts. -/
import Derived.Test.YtkpiiagogdhalaaRsBoth
import Derived.Deep.RegionLaw
import Derived.BigQuiet
namespace Go.Proofs.Ytkpiiagogdhalaa
open Go.RowKit Go.Maps
set_option linter.unusedVariables false

/-- A script's call, loaded. -/
theorem rop_at {w : World} {b off k : Nat} {o : ROp} (h : ∀ j u, o.cells[j]? = some u → w.cell? ⟨b, off + k * 14 + j, none⟩ = some u) :
    (w.cell? ⟨b, off + k * 14, none⟩ = some (.int .i64 o.do_) ∧ w.cell? ⟨b, off + k * 14 + 1, none⟩ = some (.int .i64 o.m.site) ∧ w.cell? ⟨b, off + k * 14 + 2, none⟩ = some (.int .i64 o.m.seq) ∧ w.cell? ⟨b, off + k * 14 + 3, none⟩ = some o.u) ∧ w.cell? ⟨b, off + k * 14 + 4, none⟩ = some (.int .i64 o.m.op.kind) ∧ w.cell? ⟨b, off + k * 14 + 5, none⟩ = some (.int .i64 o.m.op.epoch) ∧ w.cell? ⟨b, off + k * 14 + 6, none⟩ = some (.int .i64 o.m.op.id.time) ∧ w.cell? ⟨b, off + k * 14 + 7, none⟩ = some (.int .i64 o.m.op.id.site) ∧ w.cell? ⟨b, off + k * 14 + 8, none⟩ = some (.int .i64 o.m.op.ref.time) ∧ w.cell? ⟨b, off + k * 14 + 9, none⟩ = some (.int .i64 o.m.op.ref.site) ∧ w.cell? ⟨b, off + k * 14 + 10, none⟩ = some (.int .i64 o.m.op.rune) ∧ w.cell? ⟨b, off + k * 14 + 11, none⟩ = some o.v ∧ w.cell? ⟨b, off + k * 14 + 12, none⟩ = some (.int .i64 o.a) ∧ w.cell? ⟨b, off + k * 14 + 13, none⟩ = some (.int .i64 o.b) :=
  ⟨⟨h 0 _ rfl, h 1 _ rfl, h 2 _ rfl, h 3 _ rfl⟩, h 4 _ rfl, h 5 _ rfl, h 6 _ rfl, h 7 _ rfl, h 8 _ rfl, h 9 _ rfl, h 10 _ rfl, h 11 _ rfl, h 12 _ rfl, h 13 _ rfl⟩

set_option maxRecDepth 100000 in
set_option maxHeartbeats 20000000 in
theorem walk_ResendScripts (sites room : Int) (v : Value) (os : List ROp) (w : World) (hs : (Lit.int .i64 sites).wf = true) (hr : (Lit.int .i64 room).wf = true) (hos : SliceG 14 ROp.cells w v os ∧ os.length ≤ maxLen ∧ ∀ o ∈ os, o.ok w) :
    Calls Try.prog 8 #[.int .i64 sites, .int .i64 room, v] w fun e w' => e = .returned (.bool true) ∧ Below w.heap.size w w' := by
  obtain ⟨hG, hlm, hok⟩ := hos
  have HG := Lib.hid hG
  have HOK := Lib.hid hok
  unfold maxLen at hlm
  obtain ⟨va, vc, rfl⟩ := hG.shape
  clear hs hr hG hok
  cases hn : newOk sites room
  · have HN1 := Lib.hid (resend_New_no sites room w hn)
    have HN2 := Lib.hid (ref08_New_no sites room w hn)
    clear hn
    go_enter Try.func8, Try.ntmps8
    go_wp2_with fail
    refine HN1.out.mono ?_
    rintro e _ ⟨rfl, rfl⟩
    go_wp2_with fail
    refine HN2.out.mono ?_
    rintro e _ ⟨rfl, rfl⟩
    go_wp2_with fail
    go_loopw [11] (fun i wr => i = .int .i64 0 ∧ w = wr) (fun _ _ => 0)
    case atStart => exact ⟨rfl, rfl⟩
    case round =>
      obtain ⟨rfl, rfl⟩ := hrel
      by_cases h0 : 0 < os.length
      · have d0 : decide ((0 : Int) < (os.length : Int)) = true := decide_eq_true (by omega)
        have d0n : decide (0 < os.length) = true := decide_eq_true h0
        clear h0
        go_wp2_with fail
        refine (law08_live _).mono ?_
        rintro e w3 ⟨rfl, hb3⟩
        go_wp2
        go_ret
        exact ⟨rfl, hb3⟩
      · have d0 : decide ((0 : Int) < (os.length : Int)) = false := decide_eq_false (by omega)
        have d0n : decide (0 < os.length) = false := decide_eq_false h0
        clear h0
        go_wp2_with fail
        refine (law08_live _).mono ?_
        rintro e w3 ⟨rfl, hb3⟩
        go_wp2
        go_ret
        exact ⟨rfl, hb3⟩
  · have hb : (1 ≤ sites ∧ sites ≤ 16) ∧ 1 ≤ room ∧ room ≤ 100000 := by
      simp [newOk] at hn
      omega
    obtain ⟨n, rfl⟩ : ∃ n : Nat, sites = n := ⟨sites.toNat, by omega⟩
    obtain ⟨r, rfl⟩ : ∃ r : Nat, room = r := ⟨room.toNat, by omega⟩
    have HN1 := Lib.hid (resend_New_yes n r w (by omega) (by omega))
    have HN2 := Lib.hid (fun W => ref08_New_yes n r W (by omega) (by omega))
    clear hn hb
    go_enter Try.func8, Try.ntmps8
    go_wp2_with fail
    refine HN1.out.mono ?_
    rintro e w1 ⟨p, F, rfl, hst, hF, hb1⟩
    have HST := Lib.hid (And.intro hst (And.intro hF hb1))
    clear hst hF hb1
    go_wp2_with fail
    refine (HN2.out w1).mono ?_
    rintro e w2 ⟨q, G, rfl, hrt, hG, hb2⟩
    have HBO : Hid (Both w p q (Resend.new n r) (Resend.new n r) Non w2) := Lib.hid ⟨F, G, HST.out.1.below hb2, hrt, fun b hb => by
        rcases hb with hb | hb
        · exact HST.out.2.1 b hb
        · exact Nat.le_trans HST.out.2.2.size (hG b hb), fun b hb hg => by
        have := HST.out.1.lt b hb
        have := hG b hg
        omega, grew HST.out.2.2 hb2, fun b hb => hb.elim⟩
    clear hrt hG hb2
    go_wp2_with fail
    go_loopw [11] (fun i wr => ∃ k : Nat, k ≤ os.length ∧ i = .int .i64 k ∧ ∃ s, Both w p q s s Non wr) (fun i _ => os.length - (intOf i).toNat)
    case atStart => exact ⟨0, by omega, rfl, _, HBO.out⟩
    case round =>
      obtain ⟨k, hk, rfl, s, hB⟩ := hrel
      have HB := Lib.hid hB
      clear hB
      by_cases hlt : k < os.length
      · have hdk : decide ((k : Int) < (os.length : Int)) = true := decide_eq_true (by omega)
        have hdn : decide (k < os.length) = true := decide_eq_true hlt
        have hik : (k : Int) < (os.length : Int) := by omega
        by_cases h60 : k < 60
        · have d60 : decide ((k : Int) < 60) = true := decide_eq_true (by omega)
          obtain ⟨bs, off, rfl, hbs, hcs⟩ := SliceG.at (HG.out.below HB.out.below) hlt
          have hoo := HOK.out os[k] (List.getElem_mem hlt)
          generalize os[k] = o at *
          obtain ⟨dv, m, u, v, vs, a, b⟩ := o
          obtain ⟨⟨hu, hum⟩, ⟨hv, hvm⟩, ha, hb⟩ := hoo
          simp only at hu hum hv hvm ha hb
          unfold maxLen at hum hvm
          have HU := Lib.hid hu
          have HV := Lib.hid hv
          have HI := Lib.hid (And.intro ha hb)
          obtain ⟨ua, uc, rfl⟩ := hu.shape
          obtain ⟨xa, xc, rfl⟩ := hv.shape
          obtain ⟨⟨g0, g1, g2, g3⟩, g4, g5, g6, g7, g8, g9, g10, g11, g12, g13⟩ := rop_at hcs
          simp only at g0 g1 g2 g3 g4 g5 g6 g7 g8 g9 g10 g11 g12 g13
          have HKLT := Lib.hid hlt
          clear hu hv ha hb hcs hbs
          have HX1 := Lib.hid (Holds.new wr (ROp.cells ⟨dv, m, .slice ua m.know.length uc, .slice xa vs.length xc, vs, a, b⟩) 66)
          have hb1 := grew_alloc wr (.cells (ROp.cells ⟨dv, m, .slice ua m.know.length uc, .slice xa vs.length xc, vs, a, b⟩).toArray 66)
          have HB1 := Lib.hid (HB.out.grew (O' := fun b => b = wr.heap.size) hb1 (fun b hb => .inr (by rw [hb]; exact ⟨Nat.le_refl _, HX1.out.lt⟩)))
          clear hb1
          by_cases c1 : 30 < m.know.length
          · have e1 : decide ((30 : Int) < (m.know.length : Int)) = true := decide_eq_true (by omega)
            clear c1
            go_wp2_with fail
            refine (law08_live _).mono ?_
            rintro e w3 ⟨rfl, hb3⟩
            go_wp2
            go_ret
            exact ⟨rfl, grew HB1.out.below hb3⟩
          · have e1 : decide ((30 : Int) < (m.know.length : Int)) = false := decide_eq_false (by omega)
            by_cases c2 : 30 < vs.length
            · have e2 : decide ((30 : Int) < (vs.length : Int)) = true := decide_eq_true (by omega)
              clear c1 c2
              go_wp2_with fail
              refine (law08_live _).mono ?_
              rintro e w3 ⟨rfl, hb3⟩
              go_wp2
              go_ret
              exact ⟨rfl, grew HB1.out.below hb3⟩
            · have e2 : decide ((30 : Int) < (vs.length : Int)) = false := decide_eq_false (by omega)
              have HSM : Hid (m.know.length ≤ 30 ∧ vs.length ≤ 30) := Lib.hid ⟨by omega, by omega⟩
              clear c1 c2 hum hvm
              by_cases z0 : dv = 0
              · subst z0
                obtain ⟨kk, s2, hkp⟩ : ∃ kk s2, Resend.keep s m = (kk, s2) := ⟨_, _, rfl⟩
                have HKP := Lib.hid hkp
                have kke : (kk == kk) = true := by simp
                clear hkp
                go_wp2_with fail
                unfold ROp.cells at HX1 HB1
                simp only at HX1 HB1
                generalize (wr.alloc (.cells _ 66)) = W1 at *
                obtain ⟨⟨l1, l2, l3⟩, l4, l5, l6, l7, l8, l9, l10, l11, l12, l13⟩ := rop_cells (o := ⟨0, m, .slice ua m.know.length uc, .slice xa vs.length xc, vs, a, b⟩) HX1.out
                simp only at l1 l2 l3 l4 l5 l6 l7 l8 l9 l10 l11 l12 l13
                have HB1d := Lib.hid (HB1.out.grew (O' := fun b => b = wr.heap.size) (grew_drew W1) (fun b hb => .inl hb))
                have HLL : Hid (m.know.length ≤ 1000000000) := Lib.hid (by have := HSM.out; omega)
                go_region_law (first
                  | (go_simp; go_at_call 32; refine (both_Keep HB1d.out m (.slice ua m.know.length uc) (HU.out.below HB1d.out.below) HLL.out HKP.out).mono ?_; rintro e wa ⟨rfl, hBa, hka⟩; have HBa := Lib.hid hBa; have HXa := Lib.hid (Holds.keep (a := W1.drew) HX1.out hka (fun h => h rfl)); clear hBa hka; obtain ⟨⟨x1, x2, x3⟩, x4, x5, x6, x7, x8, x9, x10, _⟩ := rop_cells (o := ⟨0, m, .slice ua m.know.length uc, .slice xa vs.length xc, vs, a, b⟩) HXa.out; simp only at x1 x2 x3 x4 x5 x6 x7 x8 x9 x10)
                  | (go_simp; go_at_call 33; refine (both_RKeep HB1d.out m (.slice ua m.know.length uc) (HU.out.below HB1d.out.below) HLL.out HKP.out).mono ?_; rintro e wb ⟨rfl, hBb, hkb⟩; have HBb := Lib.hid hBb; have HXb := Lib.hid (Holds.keep (a := W1.drew) HX1.out hkb (fun h => h rfl)); clear hBb hkb; obtain ⟨⟨x1, x2, x3⟩, x4, x5, x6, x7, x8, x9, x10, _⟩ := rop_cells (o := ⟨0, m, .slice ua m.know.length uc, .slice xa vs.length xc, vs, a, b⟩) HXb.out; simp only at x1 x2 x3 x4 x5 x6 x7 x8 x9 x10)
                  | (go_simp; go_at_call 32; refine (both_Keep HBb.out m (.slice ua m.know.length uc) (HU.out.below HBb.out.below) HLL.out HKP.out).mono ?_; rintro e wz ⟨rfl, hBz, _⟩; have HBZ := Lib.hid hBz; clear hBz)
                  | (go_simp; go_at_call 33; refine (both_RKeep HBa.out m (.slice ua m.know.length uc) (HU.out.below HBa.out.below) HLL.out HKP.out).mono ?_; rintro e wz ⟨rfl, hBz, _⟩; have HBZ := Lib.hid hBz; clear hBz))
                all_goals
                  obtain ⟨ra, rc, c2⟩ := both_RLen HBZ.out
                  have hln := HBZ.out.full
                  have hne : ((s2.l.length : Int) != (s2.l.length : Int)) = false := by simp
                  have HLN := Lib.hid (fun n => both_Len (HBZ.out.grew (O' := Non) (grew_drewN wz n) (fun b hb => hb.elim)))
                  go_wp2_with fail
                  go_quiet ((go_at_call 39; exact Calls.quiet_of_same ((HLN.out _).mono fun _ _ ⟨h1, h2⟩ => ⟨h1, h2.symm⟩)))
                  go_wp2
                  go_roundw
                  case rel => exact ⟨k + 1, by have := HKLT.out; omega, by go_num, s2, HBZ.out.grew (O' := Non) (grew_drewN _ _) (fun b hb => hb.elim)⟩
                  case measure => simp [intOf]; have := HKLT.out; omega
              · have b0 : (dv == 0) = false := by simpa using z0
                by_cases z1 : dv = 1
                · subst z1
                  obtain ⟨kk, ll, s2, hdr⟩ : ∃ kk ll s2, Resend.drop s vs = (kk, ll, s2) := ⟨_, _, _, rfl⟩
                  have HDR := Lib.hid hdr
                  have kke : (kk == kk) = true := by simp
                  have lle : (ll == ll) = true := by simp
                  clear hdr
                  go_wp2_with fail
                  unfold ROp.cells at HX1 HB1
                  simp only at HX1 HB1
                  generalize (wr.alloc (.cells _ 66)) = W1 at *
                  refine (both_Drop HB1.out _ vs (HV.out.below HB1.out.below) (by have := HSM.out; omega) HDR.out).mono ?_
                  rintro e w3 ⟨rfl, hB3, hk3⟩
                  have HB3 := Lib.hid hB3
                  have HX3 := Lib.hid (HX1.out.keep hk3 (fun h => h rfl))
                  clear hB3 hk3
                  obtain ⟨⟨l1, l2, l3⟩, l4, l5, l6, l7, l8, l9, l10, l11, l12, l13⟩ := rop_cells (o := ⟨1, m, .slice ua m.know.length uc, .slice xa vs.length xc, vs, a, b⟩) HX3.out
                  simp only at l1 l2 l3 l4 l5 l6 l7 l8 l9 l10 l11 l12 l13
                  go_wp2_with fail
                  refine (both_RDrop HB3.out _ vs (HV.out.below HB3.out.below) (by have := HSM.out; omega) HDR.out).mono ?_
                  rintro e w4 ⟨rfl, hB4, hk4⟩
                  have HB4 := Lib.hid hB4
                  clear hB4 hk4 l1 l2 l3 l4 l5 l6 l7 l8 l9 l10 l11 l12 l13
                  obtain ⟨ra, rc, c2⟩ := both_RLen HB4.out
                  have hln := HB4.out.full
                  have hne : ((s2.l.length : Int) != (s2.l.length : Int)) = false := by simp
                  have HLN := Lib.hid (fun n => both_Len (HB4.out.grew (O' := Non) (grew_drewN w4 n) (fun b hb => hb.elim)))
                  go_wp2_with fail
                  go_quiet ((go_at_call 39; exact Calls.quiet_of_same ((HLN.out _).mono fun _ _ ⟨h1, h2⟩ => ⟨h1, h2.symm⟩)))
                  go_wp2
                  go_roundw
                  case rel => exact ⟨k + 1, by have := HKLT.out; omega, by go_num, s2, HB4.out.grew (O' := Non) (grew_drewN _ _) (fun b hb => hb.elim)⟩
                  case measure => simp [intOf]; have := HKLT.out; omega
                · have b1 : (dv == 1) = false := by simpa using z1
                  clear z0 z1
                  obtain ⟨gm, gb, hgt⟩ : ∃ gm gb, Resend.get s (a, b) = (gm, gb) := ⟨_, _, rfl⟩
                  have hgl := HB.out.got (a, b)
                  rw [hgt] at hgl
                  simp only at hgl
                  have HGT := Lib.hid hgt
                  have gbe : (gb == gb) = true := by simp
                  clear hgt
                  go_wp2_with fail
                  unfold ROp.cells at HX1 HB1
                  simp only at HX1 HB1
                  generalize (wr.alloc (.cells _ 66)) = W1 at *
                  refine (both_Get HB1.out a b HI.out.1 HI.out.2).mono ?_
                  rw [HGT.out]
                  rintro e w3 ⟨y, rfl, hy, hb3⟩
                  obtain ⟨ya, yc, rfl⟩ := hy.shape
                  have HY := Lib.hid hy
                  have HB3 := Lib.hid (HB1.out.grew (O' := fun b => b = wr.heap.size) hb3 (fun b hb => .inl hb))
                  have HX3 := Lib.hid (HX1.out.keep (Keep.of_grew hb3 Non) (fun h => h))
                  clear hy hb3
                  simp only [msgV]
                  have hb4 := grew_alloc w3 (.cells (msgL gm (.slice ya gm.know.length yc)).toArray 40)
                  have HY4 := Lib.hid (HY.out.below hb4)
                  have HBX := Lib.hid (Holds.new w3 (msgL gm (.slice ya gm.know.length yc)) 40)
                  have HB4 := Lib.hid (HB3.out.grew (O' := Non) hb4 (fun b hb => hb.elim))
                  have hx4 := HX3.out.keep (Keep.of_grew hb4 Non) (fun h => h)
                  obtain ⟨_, _, _, _, _, _, _, _, _, l12, l13⟩ := rop_cells (o := ⟨dv, m, .slice ua m.know.length uc, .slice xa vs.length xc, vs, a, b⟩) hx4
                  simp only at l12 l13
                  simp only [msgL] at l12 l13 HY4 HBX HB4
                  clear hb4 hx4
                  go_wp2_with fail
                  generalize (w3.alloc (.cells _ 40)) = W4 at *
                  refine (both_RGet HB4.out a b).mono ?_
                  rw [HGT.out]
                  rintro e w5 ⟨z, rfl, hz, hb5⟩
                  obtain ⟨za, zc, rfl⟩ := hz.shape
                  have HZ := Lib.hid hz
                  have HY5 := Lib.hid (HY4.out.below hb5)
                  have HBX5 := Lib.hid (HBX.out.keep (Keep.of_grew hb5 Non) (fun h => h))
                  have HB5 := Lib.hid (HB4.out.grew (O' := Non) hb5 (fun b hb => hb.elim))
                  clear hz hb5 l12 l13
                  simp only [msgV]
                  have hb6 := grew_alloc w5 (.cells (msgL gm (.slice za gm.know.length zc)).toArray 40)
                  have HY6 := Lib.hid (HY5.out.below hb6)
                  have HZ6 := Lib.hid (HZ.out.below hb6)
                  have HB6 := Lib.hid (HB5.out.grew (O' := Non) hb6 (fun b hb => hb.elim))
                  have hbx6 := HBX5.out.keep (Keep.of_grew hb6 Non) (fun h => h)
                  obtain ⟨⟨n0, n1, n2⟩, n3, n4, n5, n6, n7, n8, n9⟩ := msg_cells (m := gm) (v := .slice ya gm.know.length yc) hbx6
                  simp only [msgL] at n0 n1 n2 n3 n4 n5 n6 n7 n8 n9 HY6 HZ6 HB6
                  clear hb6 hbx6
                  go_wp2_with fail
                  clear n0 n1 n2 n3 n4 n5 n6 n7 n8 n9
                  generalize (w5.alloc (.cells _ 40)) = W6 at *
                  refine (ref04_Same gm gm _ _ _ HY6.out HZ6.out (by omega) (by omega)).mono ?_
                  rintro e w7 ⟨rfl, hb7⟩
                  rw [show decide (gm = gm) = true from by simp]
                  have HB7 := Lib.hid (HB6.out.grew (O' := Non) hb7 (fun b hb => hb.elim))
                  clear hb7
                  obtain ⟨ra, rc, c2⟩ := both_RLen HB7.out
                  have hln := HB7.out.full
                  have hne : ((s.l.length : Int) != (s.l.length : Int)) = false := by simp
                  have HLN := Lib.hid (fun n => both_Len (HB7.out.grew (O' := Non) (grew_drewN w7 n) (fun b hb => hb.elim)))
                  go_wp2_with fail
                  go_quiet ((go_at_call 39; exact Calls.quiet_of_same ((HLN.out _).mono fun _ _ ⟨h1, h2⟩ => ⟨h1, h2.symm⟩)))
                  go_wp2
                  go_roundw
                  case rel => exact ⟨k + 1, by have := HKLT.out; omega, by go_num, s, HB7.out.grew (O' := Non) (grew_drewN _ _) (fun b hb => hb.elim)⟩
                  case measure => simp [intOf]; have := HKLT.out; omega
        · have d60 : decide ((k : Int) < 60) = false := decide_eq_false (by omega)
          go_wp2_with fail
          refine (law08_live _).mono ?_
          rintro e w3 ⟨rfl, hb3⟩
          go_wp2
          go_ret
          exact ⟨rfl, grew HB.out.below hb3⟩
      · have hdn : decide (k < os.length) = false := decide_eq_false hlt
        have hdk : decide ((k : Int) < (os.length : Int)) = false := decide_eq_false (by omega)
        go_wp2_with fail
        refine (law08_live _).mono ?_
        rintro e w3 ⟨rfl, hb3⟩
        go_wp2
        go_ret
        exact ⟨rfl, grew HB.out.below hb3⟩
end Go.Proofs.Ytkpiiagogdhalaa
