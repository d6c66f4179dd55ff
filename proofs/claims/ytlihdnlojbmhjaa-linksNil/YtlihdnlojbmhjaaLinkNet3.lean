/- What Double and Cast of links come to. -/
import Derived.Test.YtlihdnlojbmhjaaLinkNet2
import Derived.Deep.RegionWith
namespace Go.Proofs.Ytlihdnlojbmhjaa
open Go.RowKit Go.Maps
open Links (Lk lk)
set_option linter.unusedVariables false

theorem Stepped.on {w w1 w2 : World} {F : Nat → Prop} {p : Nat} {N1 N2 : Links.Net} (h : Stepped w F p N1 w1) (g : ∀ F', IsNet w1 F' p N1 → Stepped w1 F' p N2 w2) : Stepped w F p N2 w2 := by
  obtain ⟨F1, h1, k1, n1⟩ := h
  obtain ⟨F2, h2, k2, n2⟩ := g F1 h1
  obtain ⟨k, n⟩ := keepS k1 n1 k2 n2
  exact ⟨F2, h2, k, n⟩

/-- What is known behind the copy of a text. -/
structure Copied (w2 : World) (p g r k room : Nat) (V : Value) (S : Nat → Prop) (ps : List (SV × List UInt8)) (x x' : SV) (l : List UInt8) : Prop where
  bag : Bag w2 S g V ps
  txt : Txt w2 (fun b => ¬ S b) x' l

set_option maxHeartbeats 2000000 in
theorem net_Double {w : World} {F : Nat → Prop} {p : Nat} {N : Links.Net} (h0 : IsNet w F p N) (a b i : Int) (ha : I64 a) (hb : I64 b) :
    Calls Try.prog 17 #[.pointer (some ⟨p, 0, none⟩), .int .i64 a, .int .i64 b, .int .i64 i] w fun e w' => e = .returned (.int .i64 (Links.double N a b i).1) ∧ Stepped w F p (Links.double N a b i).2 w' := by
  obtain ⟨mp, G, S, h⟩ := h0
  have H0 : Hid (IsNet w F p N) := Lib.hid ⟨mp, G, S, h⟩
  have HB := Lib.hid (net_bag h a b ha hb)
  cases hl : lk N.sites a b
  · rw [bagP_no hl] at HB
    have HR : Hid (Links.double N a b i = (1, N)) := Lib.hid (by unfold Links.double; rw [hl]; rfl)
    clear hl h
    go_enter Try.func17, Try.ntmps17
    go_wp2_with fail
    refine HB.out.mono ?_
    rintro e _ ⟨rfl, rfl⟩
    go_wp2
    go_ret
    exact ⟨by rw [HR.out]; rfl, by rw [HR.out]; exact Stepped.same H0.out⟩
  · rw [bagP_yes hl] at HB
    have HR0 : Hid (Links.double N a b i = if Links.has N a b i then (if (N.on a b).length < N.room then (0, N.set a.toNat b.toNat (N.on a b ++ [(N.on a b).getD i.toNat []])) else (5, N)) else (6, N)) := Lib.hid (by unfold Links.double; rw [hl]; rfl)
    obtain ⟨s, t, rfl, rfl, hlk⟩ := Links.lk_nat hl
    simp only [Int.toNat_natCast] at HB HR0
    obtain ⟨V, ps, hB, ht⟩ := h.bag s t hlk
    have hln : ps.length = (N.q s t).length := by rw [← ht]; simp
    have hful := h.full s t hlk
    have hrm := h.room
    have HH := Lib.hid (bag_has w (S s t) (G s t) V ps i hB (by omega))
    by_cases hi : 0 ≤ i ∧ i < ps.length
    · obtain ⟨k, rfl⟩ : ∃ k : Nat, i = k := ⟨i.toNat, by omega⟩
      have hk : k < ps.length := by omega
      have hd : (decide ((0 : Int) ≤ (k : Int)) && decide ((k : Int) < (ps.length : Int))) = true := by rw [decide_eq_true hi.1, decide_eq_true hi.2]; rfl
      rw [hd] at HH
      have hh : Links.has N s t k = true := by unfold Links.has; rw [Links.on_nat hlk, ← hln]; exact hd
      have HR : Hid (Links.double N (s : Int) (t : Int) (k : Int) = if ps.length < N.room then (0, N.set s t (N.q s t ++ [ps[k].2])) else (5, N)) := Lib.hid (by
        rw [HR0.out, hh, Links.on_nat hlk, ← hln, ← ht, Int.toNat_natCast, getD_map hk]; rfl)
      obtain ⟨r, cap, rfl, hcell, hcap⟩ := hB.at hk
      have hBd := hB.keep (Keep.of_grew (grew_drew w) Non) (fun _ _ h => h)
      have HCL := Lib.hid (txt_Clone w.drew (S s t) ps[k].1 ps[k].2 (hBd.txt _ (List.getElem_mem hk)) (by have := h.short s t hlk ps[k].2 (by rw [← ht]; exact List.mem_map_of_mem (List.getElem_mem hk)); omega))
      have c0 := hB.box.cell 0 (by simp)
      simp only [List.getElem_cons_zero] at c0
      have n1 := h.net.cell 1 (by simp)
      simp only [List.getElem_cons_succ, List.getElem_cons_zero] at n1
      have HBAG := Lib.hid hBd
      have HNW := Lib.hid h
      have HLK := Lib.hid hlk
      have HT := Lib.hid ht
      have HSLT : Hid (∀ b, S s t b → b < w.heap.size) := Lib.hid hB.lt
      have HSH : Hid (ps[k].2.length ≤ 5000) := Lib.hid (h.short s t hlk ps[k].2 (by rw [← ht]; exact List.mem_map_of_mem (List.getElem_mem hk)))
      have hpl := h.net.lt
      have hik : (k : Int) < (ps.length : Int) := by omega
      have hsm : ps.length ≤ 1000 := by omega
      have hln2 : ps.length ≤ N.room := by omega
      unfold SV.enc at HCL
      clear hl h hB ht hlk hi hd hln hh HR0 hBd
      generalize hx : ps[k].1 = x at *
      generalize hL : ps[k].2 = L at *
      clear hx hL
      by_cases hrn : ps.length < N.room
      · have HR2 : Hid (Links.double N (s : Int) (t : Int) (k : Int) = (0, N.set s t (N.q s t ++ [L]))) := Lib.hid (by rw [HR.out, if_pos hrn])
        go_enter Try.func17, Try.ntmps17
        go_wp2_with fail
        refine HB.out.mono ?_
        rintro e _ ⟨rfl, rfl⟩
        go_wp2_with fail
        refine HH.out.mono ?_
        rintro e _ ⟨rfl, rfl⟩
        go_wp2_with fail
        go_region_with (first
          | (go_at_call 28; refine HCL.out.mono ?_; rintro e w2 ⟨x', rfl, htx, hb2⟩; have HTX := Lib.hid htx; have HB2 := Lib.hid hb2; have n2 : w2.cell? ⟨p, 1, none⟩ = some (.int .i64 (N.room : Int)) := (hb2.cell (p := ⟨p, 1, none⟩) hpl).trans n1; clear htx hb2)
          | (go_at_call 24; refine (bag_add w2 (S s t) (G s t) _ ps x' L N.room (HBAG.out.keep (Keep.of_grew HB2.out Non) (fun _ _ h => h)) (HTX.out.mono (fun b hb hs => by have hb : w.heap.size ≤ b := hb; have := HSLT.out b hs; omega)) hrm.2 hrn).mono ?_; rintro e w3 ⟨rfl, hib, hkp⟩; have HIB := Lib.hid hib; have HKP := Lib.hid hkp; clear hib hkp))
        all_goals
          go_wp2
          go_ret
          refine ⟨by rw [HR2.out]; rfl, ?_⟩
          rw [HR2.out]
          have hbw := grew (grew_drew w) HB2.out
          have hkw : Keep (S s t) w w3 := (Keep.of_grew hbw (S s t)).trans HKP.out (fun _ _ h => h)
          have hst := HNW.out.upd HLK.out hkw HIB.out (fun b hb => by
            rcases hb with hb | ⟨hb, hl⟩ | hb
            · exact .inl hb
            · exact .inr (HTX.out.block hb hl).1
            · exact .inr (Nat.le_trans hbw.size hb.1)) (by simp; omega) (fun t' ht' => by
            rcases List.mem_append.1 ht' with ht' | ht'
            · rw [HT.out] at ht'; exact HNW.out.short s t HLK.out t' ht'
            · rw [List.mem_singleton.1 ht']; exact HSH.out)
          rw [HT.out] at hst
          exact hst
      · have HR2 : Hid (Links.double N (s : Int) (t : Int) (k : Int) = (5, N)) := Lib.hid (by rw [HR.out, if_neg hrn])
        go_enter Try.func17, Try.ntmps17
        go_wp2_with fail
        refine HB.out.mono ?_
        rintro e _ ⟨rfl, rfl⟩
        go_wp2_with fail
        refine HH.out.mono ?_
        rintro e _ ⟨rfl, rfl⟩
        go_wp2_with fail
        go_region_with (first
          | (go_at_call 28; refine HCL.out.mono ?_; rintro e w2 ⟨x', rfl, htx, hb2⟩; have HTX := Lib.hid htx; have HB2 := Lib.hid hb2; have n2 : w2.cell? ⟨p, 1, none⟩ = some (.int .i64 (N.room : Int)) := (hb2.cell (p := ⟨p, 1, none⟩) hpl).trans n1; clear htx hb2)
          | (go_at_call 24; refine (bag_add_full w2 (S s t) (G s t) _ ps _ N.room (HBAG.out.keep (Keep.of_grew HB2.out Non) (fun _ _ h => h)) hrm.2 (by omega) (by omega)).mono ?_; rintro e _ ⟨rfl, rfl⟩))
        all_goals
          go_wp2
          go_ret
          exact ⟨by rw [HR2.out]; rfl, by rw [HR2.out]; exact Stepped.grew H0.out (grew (grew_drew w) HB2.out)⟩
    · have hd : (decide ((0 : Int) ≤ i) && decide (i < (ps.length : Int))) = false := by rw [← Bool.not_eq_true]; intro hh; simp at hh; exact hi hh
      rw [hd] at HH
      have HR : Hid (Links.double N (s : Int) (t : Int) i = (6, N)) := Lib.hid (by
        have hh : Links.has N s t i = false := by unfold Links.has; rw [Links.on_nat hlk, ← hln]; exact hd
        rw [HR0.out, hh]; rfl)
      clear hl h hB ht hi hd hln HR0
      go_enter Try.func17, Try.ntmps17
      go_wp2_with fail
      refine HB.out.mono ?_
      rintro e _ ⟨rfl, rfl⟩
      go_wp2_with fail
      refine HH.out.mono ?_
      rintro e _ ⟨rfl, rfl⟩
      go_wp2
      go_ret
      exact ⟨by rw [HR.out]; rfl, by rw [HR.out]; exact Stepped.same H0.out⟩

theorem IsNet.head {w : World} {F : Nat → Prop} {p : Nat} {N : Links.Net} (h : IsNet w F p N) : w.cell? ⟨p, 0, none⟩ = some (.int .i64 (N.sites : Int)) ∧ 1 ≤ N.sites ∧ N.sites ≤ 16 := by
  obtain ⟨mp, G, S, h⟩ := h
  have n0 := h.net.cell 0 (by simp)
  simp only [List.getElem_cons_zero] at n0
  exact ⟨n0, h.sites⟩

set_option maxHeartbeats 1000000 in
theorem net_Cast {w : World} {F : Nat → Prop} {p : Nat} {N : Links.Net} (h0 : IsNet w F p N) (a : Int) (s : ByteArray) (ha : I64 a) (hs : s.size ≤ maxLen) :
    Calls Try.prog 13 #[.pointer (some ⟨p, 0, none⟩), .int .i64 a, .string s] w fun e w' => e = .returned (.int .i64 (Links.cast N a s.data.toList).1) ∧ Stepped w F p (Links.cast N a s.data.toList).2 w' := by
  obtain ⟨n0, hs1, hs2⟩ := h0.head
  have H0 := Lib.hid h0
  unfold Links.cast
  clear h0
  go_enter Try.func13, Try.ntmps13
  go_wp2
  go_loopw [7, 15] (fun took i wr => ∃ k : Nat, k ≤ N.sites ∧ i = .int .i64 k ∧ took = .int .i64 (Links.castTo N a s.data.toList k).1 ∧ Stepped w F p (Links.castTo N a s.data.toList k).2 wr) (fun _ i _ => N.sites - (intOf i).toNat)
  case atStart => exact ⟨0, by omega, rfl, rfl, Stepped.same H0.out⟩
  case round =>
    obtain ⟨k, hk, rfl, rfl, hst⟩ := hrel
    have HST := Lib.hid hst
    obtain ⟨F1, h1, k1, m1⟩ := hst
    have HN1 := Lib.hid h1
    have HK1 := Lib.hid (And.intro k1 m1)
    clear h1 k1 m1
    have hle := Links.castTo_le N a s.data.toList k
    by_cases hlt : k < N.sites
    · have hdk : decide ((k : Int) < (N.sites : Int)) = true := decide_eq_true (by omega)
      have hdn : decide (k < N.sites) = true := decide_eq_true hlt
      have HC : Hid (Links.castTo N a s.data.toList (k + 1) = ((Links.castTo N a s.data.toList k).1 + (if (Links.send (Links.castTo N a s.data.toList k).2 a k s.data.toList).1 = 0 then 1 else 0), (Links.send (Links.castTo N a s.data.toList k).2 a k s.data.toList).2)) := Lib.hid rfl
      have HSEND := Lib.hid (net_Send HN1.out a (k : Int) s ha ⟨by omega, by omega⟩ hs)
      generalize (Links.castTo N a s.data.toList k).2 = Nk at *
      generalize (Links.castTo N a s.data.toList k).1 = Tk at *
      generalize Links.send Nk a (k : Int) s.data.toList = R at *
      obtain ⟨er, N2⟩ := R
      simp only at HSEND HC
      go_wp2_with fail
      refine HSEND.out.mono ?_
      rintro e w2 ⟨rfl, hst2⟩
      have HST2 : Hid (Stepped w F p N2 w2) := Lib.hid (by
        obtain ⟨F2, h2, k2, n2⟩ := hst2
        obtain ⟨kk, nn⟩ := keepS HK1.out.1 HK1.out.2 k2 n2
        exact ⟨F2, h2, kk, nn⟩)
      clear hst2 HSEND
      by_cases her : er = 0
      · have hde : (er == 0) = true := beq_iff_eq.2 her
        have HC2 : Hid (Links.castTo N a s.data.toList (k + 1) = (Tk + 1, N2)) := Lib.hid (by rw [HC.out, if_pos her])
        clear her
        go_wp2
        go_roundw
        case rel => exact ⟨k + 1, by omega, by go_num, by rw [HC2.out], by rw [HC2.out]; exact HST2.out⟩
        case measure => simp [intOf]; omega
      · have hde : (er == 0) = false := beq_eq_false_iff_ne.2 her
        have HC2 : Hid (Links.castTo N a s.data.toList (k + 1) = (Tk, N2)) := Lib.hid (by rw [HC.out, if_neg her, Int.add_zero])
        clear her
        go_wp2
        go_roundw
        case rel => exact ⟨k + 1, by omega, by go_num, by rw [HC2.out], by rw [HC2.out]; exact HST2.out⟩
        case measure => simp [intOf]; omega
    · have hdk : decide ((k : Int) < (N.sites : Int)) = false := decide_eq_false (by omega)
      have hdn : decide (k < N.sites) = false := decide_eq_false hlt
      obtain rfl : N.sites = k := by omega
      go_wp2
      go_ret
      exact ⟨rfl, HST.out⟩
end Go.Proofs.Ytlihdnlojbmhjaa
