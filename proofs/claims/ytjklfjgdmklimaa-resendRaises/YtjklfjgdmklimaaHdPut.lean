/- What Put of hold comes to where there is no hold, or the message may not be. -/
import Derived.Test.YtjklfjgdmklimaaHdTell
import Derived.Test.YtjklfjgdmklimaaRsKeep
namespace Go.Proofs.Ytjklfjgdmklimaa
open Go.RowKit Go.Maps
set_option linter.unusedVariables false

set_option maxRecDepth 100000 in
set_option maxHeartbeats 1000000 in
theorem hold_Put_nil (m : Mesg.Msg) (v : Value) (w : World) (hv : SliceI w v m.know) :
    Calls Try.prog 12 #[.pointer none, msgV m v] w fun e w' => e = .returned (.tuple #[.slice none 0 0, .int .i64 1]) ∧ Below w.heap.size w w' := by
  obtain ⟨va, vc, rfl⟩ := hv.shape
  clear hv
  unfold msgV
  go_enter Try.func12, Try.ntmps12
  go_wp2
  go_quiet (fail)
  go_wp2
  go_ret2
  exact ⟨rfl, grew (grew_alloc _ _) (grew_drewN _ _)⟩

set_option maxRecDepth 100000 in
set_option maxHeartbeats 4000000 in
theorem hold_Put_bad {w : World} {F : Nat → Prop} {p : Nat} {s : Hold.St} (h0 : IsHold w F p s) (m : Mesg.Msg) (v : Value) (hv : SliceI w v m.know) (hm : m.know.length ≤ 1000000000) (hbad : ¬ (Mesg.may m = true ∧ m.know.length = s.clock.length)) :
    Calls Try.prog 12 #[.pointer (some ⟨p, 0, none⟩), msgV m v] w fun e w' => e = .returned (.tuple #[.slice none 0 0, .int .i64 1]) ∧ Hold.put s m = ([], 1, s) ∧ Below w.heap.size w w' := by
  have HC := Lib.hid (fun W (hb : Below w.heap.size w W) => mesg_Check m v W (hv.below hb) hm)
  have HV := Lib.hid hv
  have H0 := Lib.hid h0
  obtain ⟨cb, cc, mp, S, es, h⟩ := h0
  have HPL := Lib.hid h.box.lt
  have HW := Lib.hid h
  have hst := h.ok.sites
  obtain ⟨va, vc, rfl⟩ := hv.shape
  have HB := Lib.hid (grew_alloc w (.cells (msgL m (.slice va m.know.length vc)).toArray 40))
  have HM := Lib.hid (Holds.new w (msgL m (.slice va m.know.length vc)) 40)
  clear hv h
  unfold msgV
  go_enter Try.func12, Try.ntmps12
  go_wp2_with fail
  unfold msgL at HB HM
  generalize hW : (w.alloc (.cells _ 40)) = W at *
  clear hW
  obtain ⟨⟨d0, d1, d2⟩, d3, d4, d5, d6, d7, d8, d9⟩ := msg_cells (m := m) (v := .slice va m.know.length vc) HM.out
  have s0 : W.cell? ⟨p, 1, none⟩ = some (.slice (some ⟨cb, 0, none⟩) s.clock.length cc) := (HW.out.below HB.out).box.cell 1 (by simp)
  by_cases hmay : Mesg.may m = true
  · have HE := Lib.hid (checkN_yes hmay)
    have HMAY := Lib.hid hmay
    by_cases hlen : m.know.length = s.clock.length
    · exact absurd ⟨hmay, hlen⟩ hbad
    · have hd : (((m.know.length : Nat) : Int) != ((s.clock.length : Nat) : Int)) = true := by simp; omega
      have HR : Hid (Hold.put s m = ([], 1, s)) := Lib.hid (by unfold Hold.put; rw [if_neg (fun h => hlen h.2)])
      clear hmay hlen
      go_region_held3 (fun w' => w'.cell? ⟨w.heap.size, 0, none⟩ = some (.int .i64 m.site) ∧ w'.cell? ⟨w.heap.size, 1, none⟩ = some (.int .i64 m.seq) ∧ w'.cell? ⟨w.heap.size, 2, none⟩ = some (.slice va m.know.length vc) ∧ w'.cell? ⟨w.heap.size, 3, none⟩ = some (.int .i64 m.op.kind) ∧ w'.cell? ⟨w.heap.size, 4, none⟩ = some (.int .i64 m.op.epoch) ∧ w'.cell? ⟨w.heap.size, 5, none⟩ = some (.int .i64 m.op.id.time) ∧ w'.cell? ⟨w.heap.size, 6, none⟩ = some (.int .i64 m.op.id.site) ∧ w'.cell? ⟨w.heap.size, 7, none⟩ = some (.int .i64 m.op.ref.time) ∧ w'.cell? ⟨w.heap.size, 8, none⟩ = some (.int .i64 m.op.ref.site) ∧ w'.cell? ⟨w.heap.size, 9, none⟩ = some (.int .i64 m.op.rune) ∧ w'.cell? ⟨p, 1, none⟩ = some (.slice (some ⟨cb, 0, none⟩) s.clock.length cc))
    (first | exact ⟨d0, d1, d2, d3, d4, d5, d6, d7, d8, d9, s0⟩ | exact ⟨e0, e1, e2, e3, e4, e5, e6, e7, e8, e9, t0⟩)
    (first
      | (go_at_call 30; refine (HC.out _ (grew HB.out (grew_drew _))).mono ?_; rintro e w1 ⟨rfl, hb⟩; rw [HE.out]; have HM1 := Lib.hid (Holds.keep (a := W.drew) HM.out (Keep.of_grew hb Non) (fun h => h)); have t0 : w1.cell? ⟨p, 1, none⟩ = some (.slice (some ⟨cb, 0, none⟩) s.clock.length cc) := (hb.cell (p := ⟨p, 1, none⟩) (Nat.lt_of_lt_of_le HPL.out HB.out.size)).trans s0; have HB1 := Lib.hid (grew HB.out (grew (grew_drew _) hb)); clear hb; obtain ⟨⟨e0, e1, e2⟩, e3, e4, e5, e6, e7, e8, e9⟩ := msg_cells HM1.out))
      go_wp2
      go_ret2
      exact ⟨rfl, HR.out, HB1.out⟩
  · have HE := Lib.hid (checkN_bad (Bool.eq_false_iff.2 hmay))
    have HR : Hid (Hold.put s m = ([], 1, s)) := Lib.hid (by unfold Hold.put; rw [if_neg (fun h => hmay h.1)])
    clear hmay
    first
    | (go_region_with ((go_at_call 30; refine (HC.out _ (grew HB.out (grew_drew _))).mono ?_; rintro e w1 ⟨rfl, hb⟩; rw [HE.out]; have HB1 := Lib.hid (grew HB.out (grew (grew_drew _) hb)); clear hb)))
    | fail
    all_goals
      go_wp2
      go_ret2
      exact ⟨rfl, HR.out, HB1.out⟩
end Go.Proofs.Ytjklfjgdmklimaa
