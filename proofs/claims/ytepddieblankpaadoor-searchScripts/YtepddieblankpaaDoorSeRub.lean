/- A search's Rub; a new one; one that is none. -/
import Derived.Test.YtepddieblankpaaDoorSeType
namespace Go.Proofs.YtepddieblankpaaDoor
open Go.RowKit Go.Shelf
attribute [local go_sem] Oper.semAt_some
set_option linter.unusedVariables false

theorem isEmpty_no {s : ByteArray} (h : s.size ≠ 0) : s.toList.isEmpty = false := by
  cases e : s.toList with
  | nil =>
    rw [ByteArray.toList_eq] at e
    have h0 : s.data.toList.length = 0 := by rw [e]; rfl
    rw [size_list] at h0
    exact absurd h0 h
  | cons a l => rfl
theorem isEmpty_yes {s : ByteArray} (h : s.size = 0) : s.toList.isEmpty = true := by
  rw [ByteArray.toList_eq]
  cases e : s.data.toList with
  | nil => rfl
  | cons a l =>
    have h0 : s.data.toList.length = 0 := by rw [size_list]; exact h
    rw [e] at h0
    simp at h0

theorem search_Rub_empty {w : World} {p : Nat} {v : Value} {pl : Int} {fd : Bool} (h : IsS w p v ByteArray.empty pl fd) :
    Calls Tryd.prog 20 #[.pointer (some ⟨p, 0, none⟩)] w fun e w' => e = .returned (.bool false) ∧ w = w' := by
  obtain ⟨c0, c1, c2, c3, z0, z1, z2, z3⟩ := h
  have hs : (ByteArray.empty.toList == ByteArray.toList { data := #[] }) = true := str_same rfl
  go_enter Tryd.func20, Tryd.ntmps20
  go_wp2
  go_ret
  exact ⟨rfl, rfl⟩

set_option maxRecDepth 100000 in
set_option maxHeartbeats 4000000 in
/-- The query loses its last rune: it is q now. -/
theorem search_Rub_last {w : World} {p : Nat} {v : Value} {ts : List ByteArray} {q qe : ByteArray} {pl : Int} {fd : Bool} (hS : Sea w p v ts qe pl fd) (hU : U8 w) (hgf : 1 ≠ p) (hga : 2 ≠ p) {r : Nat} (hr : Ut.Ok r) (hqe : qe = q ++ Utf8.encode r) (hq : qe.size ≤ 1000000000) (hz : q.size = 0) :
    Calls Tryd.prog 20 #[.pointer (some ⟨p, 0, none⟩)] w (SeaStep p v ts w false q 0 false) := by
  have H := Lib.hid hS
  obtain ⟨c0, c1, c2, c3, z0, z1, z2, z3⟩ := hS.box
  have hsz := (Ut.enc_len hr).1
  have hsz1 : 1 ≤ (Utf8.encode (r : Int)).size := by unfold Ut.enc at hsz; simpa using hsz
  have hl : Lib.decodeLastL qe.data.toList = (r, (Utf8.encode (r : Int)).size) := by
    rw [hqe, str_app]
    have := Ut.last_enc hr q.data.toList
    unfold Ut.enc at this
    rw [this]
    simp
  have HL := Lib.hid (utf8_Last qe w (by omega) hU)
  rw [hl] at HL
  have hqs : qe.size = q.size + (Utf8.encode (r : Int)).size := by rw [hqe, size_app]
  have hfr : qe.extract 0 q.size = q := by rw [hqe]; exact str_front _ _
  have hne : (qe.toList == ByteArray.toList { data := #[] }) = false := str_other (fun e => by rw [e] at hqs; have : (⟨#[]⟩ : ByteArray).size = 0 := rfl; omega)
  have HFR := Lib.hid hfr
  have hqle : q.size ≤ qe.size := by omega
  have hemp : qe.toList.isEmpty = false := isEmpty_no (by omega)
  generalize (Utf8.encode (r : Int)).size = m at *
  have hwr : IntKind.i64.wrap ((qe.size : Int) - (m : Int)) = (q.size : Int) := by rw [IntWalk.i64_in _ ⟨by omega, by omega⟩]; omega
  have hqi : (q.size : Int) ≤ (qe.size : Int) := by omega
  have hq0 : (0 : Int) ≤ (q.size : Int) := by omega
  have HQS := Lib.hid hqs
  have hws : wrap64 ((qe.size : Int) - (m : Int)) = (q.size : Int) := by rw [IntWalk.wrap64_in _ ⟨by omega, by omega⟩]; omega
  clear hl hqe hsz hS hfr hqs
  have HZ0 := Lib.hid hz
  clear hz
  go_enter Tryd.func20, Tryd.ntmps20
  go_wp2_with fail
  refine HL.out.mono ?_
  rintro e w1 ⟨rfl, hb⟩
  have H1 := Lib.hid (H.out.below hb)
  have HK1 := Lib.hid (Keep.of_grew hb (Just p))
  clear hb c0 c1 c2 c3 z0 z1 z2 z3
  obtain ⟨c0, c1, c2, c3, z0, z1, z2, z3⟩ := H1.out.box
  go_wp2_with fail
  go_still_tail 15, (by kernel_rfl)
  repeat still_step
  change wpList _ _ _ _ _ w1.drew
  obtain ⟨a, cap, rfl⟩ : ∃ a cap, v = .slice a ts.length cap := by obtain ⟨a, cap, e, _⟩ := H1.out.lines; exact ⟨a, cap, e⟩
  have hfew := H1.out.few
  have hz := HZ0.out
  have hqn : q.toList.isEmpty = true := isEmpty_yes hz
  have hqn2 : (q.toList == ByteArray.toList { data := #[] }) = true := str_same (str_ext (List.eq_nil_of_length_eq_zero (by rw [size_list]; exact hz)))
  clear hz
  have hfr := HFR.out
  go_wp2_with fail
  have HK2 : Hid (Keep (Just p) w ((w1.setCell ⟨p, 1, none⟩ (.string q)).drew)) := Lib.hid ((HK1.out.trans (Keep.setCell w1 p 1 _) (fun _ _ h => h)).trans (Keep.of_grew (grew_drew _) (Just p)) (fun _ _ h => h))
  have H2 : Hid (Sea ((w1.setCell ⟨p, 1, none⟩ (.string q)).drew) p (.slice a ts.length cap) ts q pl fd) := Lib.hid ((H1.out.turn (S := Just p) (Keep.setCell w1 p 1 _) (H1.out.box.ask q)).below (grew_drew _))
  generalize (w1.setCell ⟨p, 1, none⟩ (.string q)).drew = W6 at *
  refine (search_nowhere H2.out).mono ?_
  rintro e w8 ⟨⟨u, rfl⟩, h8, hk8⟩
  have H8 := Lib.hid (And.intro h8 hk8)
  clear h8 hk8
  go_wp2
  go_ret
  exact ⟨rfl, H8.out.1, HK2.out.trans H8.out.2 (fun _ _ h => h)⟩

set_option maxRecDepth 100000 in
set_option maxHeartbeats 4000000 in
/-- The query loses its last rune: it is q now. -/
theorem search_Rub_more {w : World} {p : Nat} {v : Value} {ts : List ByteArray} {q qe : ByteArray} {pl : Int} {fd : Bool} (hS : Sea w p v ts qe pl fd) (hU : U8 w) (hgf : 1 ≠ p) (hga : 2 ≠ p) {r : Nat} (hr : Ut.Ok r) (hqe : qe = q ++ Utf8.encode r) (hq : qe.size ≤ 1000000000) (hz : q.size ≠ 0) :
    Calls Tryd.prog 20 #[.pointer (some ⟨p, 0, none⟩)] w (SeaStep p v ts w (Srch.lastFit ts q ts.length).isSome q (Srch.placeOf 0 (Srch.lastFit ts q ts.length)) (Srch.foundOf false (Srch.lastFit ts q ts.length))) := by
  have H := Lib.hid hS
  obtain ⟨c0, c1, c2, c3, z0, z1, z2, z3⟩ := hS.box
  have hsz := (Ut.enc_len hr).1
  have hsz1 : 1 ≤ (Utf8.encode (r : Int)).size := by unfold Ut.enc at hsz; simpa using hsz
  have hl : Lib.decodeLastL qe.data.toList = (r, (Utf8.encode (r : Int)).size) := by
    rw [hqe, str_app]
    have := Ut.last_enc hr q.data.toList
    unfold Ut.enc at this
    rw [this]
    simp
  have HL := Lib.hid (utf8_Last qe w (by omega) hU)
  rw [hl] at HL
  have hqs : qe.size = q.size + (Utf8.encode (r : Int)).size := by rw [hqe, size_app]
  have hfr : qe.extract 0 q.size = q := by rw [hqe]; exact str_front _ _
  have hne : (qe.toList == ByteArray.toList { data := #[] }) = false := str_other (fun e => by rw [e] at hqs; have : (⟨#[]⟩ : ByteArray).size = 0 := rfl; omega)
  have HFR := Lib.hid hfr
  have hqle : q.size ≤ qe.size := by omega
  have hemp : qe.toList.isEmpty = false := isEmpty_no (by omega)
  generalize (Utf8.encode (r : Int)).size = m at *
  have hwr : IntKind.i64.wrap ((qe.size : Int) - (m : Int)) = (q.size : Int) := by rw [IntWalk.i64_in _ ⟨by omega, by omega⟩]; omega
  have hqi : (q.size : Int) ≤ (qe.size : Int) := by omega
  have hq0 : (0 : Int) ≤ (q.size : Int) := by omega
  have HQS := Lib.hid hqs
  have hws : wrap64 ((qe.size : Int) - (m : Int)) = (q.size : Int) := by rw [IntWalk.wrap64_in _ ⟨by omega, by omega⟩]; omega
  clear hl hqe hsz hS hfr hqs
  have HZ0 := Lib.hid hz
  clear hz
  go_enter Tryd.func20, Tryd.ntmps20
  go_wp2_with fail
  refine HL.out.mono ?_
  rintro e w1 ⟨rfl, hb⟩
  have H1 := Lib.hid (H.out.below hb)
  have HK1 := Lib.hid (Keep.of_grew hb (Just p))
  clear hb c0 c1 c2 c3 z0 z1 z2 z3
  obtain ⟨c0, c1, c2, c3, z0, z1, z2, z3⟩ := H1.out.box
  go_wp2_with fail
  go_still_tail 15, (by kernel_rfl)
  repeat still_step
  change wpList _ _ _ _ _ w1.drew
  obtain ⟨a, cap, rfl⟩ : ∃ a cap, v = .slice a ts.length cap := by obtain ⟨a, cap, e, _⟩ := H1.out.lines; exact ⟨a, cap, e⟩
  have hfew := H1.out.few
  have hz := HZ0.out
  have hqn : q.toList.isEmpty = false := isEmpty_no hz
  have hqn2 : (q.toList == ByteArray.toList { data := #[] }) = false := str_other (fun e => hz (by rw [e]; rfl))
  have hw : wrap64 ((ts.length : Int) - 1) = (ts.length : Int) - 1 := IntWalk.wrap64_in _ ⟨by omega, by omega⟩
  clear hz
  have hfr := HFR.out
  go_wp2_with fail
  have HK2 : Hid (Keep (Just p) w ((w1.setCell ⟨p, 1, none⟩ (.string q)).drew)) := Lib.hid ((HK1.out.trans (Keep.setCell w1 p 1 _) (fun _ _ h => h)).trans (Keep.of_grew (grew_drew _) (Just p)) (fun _ _ h => h))
  have H2 : Hid (Sea ((w1.setCell ⟨p, 1, none⟩ (.string q)).drew) p (.slice a ts.length cap) ts q pl fd) := Lib.hid ((H1.out.turn (S := Just p) (Keep.setCell w1 p 1 _) (H1.out.box.ask q)).below (grew_drew _))
  generalize (w1.setCell ⟨p, 1, none⟩ (.string q)).drew = W6 at *
  refine (search_look H2.out (Nat.le_refl _) rfl).mono ?_
  rintro e w8 ⟨rfl, h8, hk8⟩
  have H8 := Lib.hid (And.intro h8 hk8)
  clear h8 hk8
  go_wp2
  go_ret
  exact ⟨rfl, H8.out.1, HK2.out.trans H8.out.2 (fun _ _ h => h)⟩
end Go.Proofs.YtepddieblankpaaDoor
