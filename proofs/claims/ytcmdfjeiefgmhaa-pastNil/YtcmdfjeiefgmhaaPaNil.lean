/- A log that is none, and what knows of carets that is none. -/
import Derived.Test.YtcmdfjeiefgmhaaPaLive
import Derived.Test.YtcmdfjeiefgmhaaMesgOpen
namespace Go.Proofs.Ytcmdfjeiefgmhaa
open Go.RowKit Carets
set_option linter.unusedVariables false

set_option maxRecDepth 100000 in
theorem past_Move_nil (m : Mesg.Msg) (v : Value) (w : World) (hv : SliceI w v m.know) :
    Calls Try.prog 47 #[.pointer none, msgV m v] w fun e w' => e = .returned (.int .i64 1) ∧ Below w.heap.size w w' := by
  have HB := Lib.hid (grew_alloc w (.cells (msgL m v).toArray 38))
  have HM := Lib.hid (Holds.new w (msgL m v) 38)
  obtain ⟨va, vc, rfl⟩ := hv.shape
  clear hv
  go_enter Try.func47, Try.ntmps47
  unfold msgV
  go_wp2_with fail
  have ew : (w.alloc (.cells (msgL m (.slice va m.know.length vc)).toArray 38)) = w.alloc (.cells #[.int .i64 m.site, .int .i64 m.seq, .slice va m.know.length vc, .int .i64 m.op.kind, .int .i64 m.op.epoch, .int .i64 m.op.id.time, .int .i64 m.op.id.site, .int .i64 m.op.ref.time, .int .i64 m.op.ref.site, .int .i64 m.op.rune] 38) := rfl
  rw [← ew]
  clear ew
  generalize (w.alloc (.cells (msgL m (.slice va m.know.length vc)).toArray 38)) = W at *
  have hne : Nonempty (Later W) := ⟨⟨W, Below.refl _ _⟩⟩
  refine wp_region_later (by kernel_rfl) (by kernel_rfl) ?_
  repeat (go_big_quiet_step (fail))
  refine wpQuiet_nil ?_
  intro _ hw'
  obtain ⟨P1, hw1⟩ := hw'
  subst hw1
  go_wp2
  go_ret
  exact ⟨rfl, grew HB.out P1.bel⟩

set_option maxRecDepth 100000 in
set_option maxHeartbeats 4000000 in
theorem walk_PastNil (m : Mesg.Msg) (u : Value) (s : ByteArray) (w : World) (hw : SliceI w u m.know ∧ m.know.length ≤ maxLen) (hs : s.size ≤ maxLen) :
    Calls Try.prog 11 #[msgV m u, .string s] w fun e w' => e = .returned (.bool true) ∧ Below w.heap.size w w' := by
  obtain ⟨hu, hm⟩ := hw
  have HU := Lib.hid hu
  obtain ⟨ua, uc, rfl⟩ := hu.shape
  clear hu hs
  have HB := Lib.hid (grew_alloc w (.cells (msgL m (.slice ua m.know.length uc)).toArray 38))
  have HX := Lib.hid (Holds.new w (msgL m (.slice ua m.know.length uc)) 38)
  unfold msgV
  by_cases h1 : 30 < m.know.length
  · have d1 : decide ((30 : Int) < (m.know.length : Int)) = true := decide_eq_true (by omega)
    clear h1
    go_enter Try.func11, Try.ntmps11
    go_wp2_with fail
    refine (law16_live _).mono ?_
    rintro e w3 ⟨rfl, hb3⟩
    go_wp2
    go_ret
    exact ⟨rfl, grew HB.out hb3⟩
  · have d1 : decide ((30 : Int) < (m.know.length : Int)) = false := decide_eq_false (by omega)
    clear h1
    by_cases h2 : 300 < s.size
    · have d2 : decide ((300 : Int) < (s.size : Int)) = true := decide_eq_true (by omega)
      clear h2
      go_enter Try.func11, Try.ntmps11
      go_wp2_with fail
      refine (law16_live _).mono ?_
      rintro e w3 ⟨rfl, hb3⟩
      go_wp2
      go_ret
      exact ⟨rfl, grew HB.out hb3⟩
    · have d2 : decide ((300 : Int) < (s.size : Int)) = false := decide_eq_false (by omega)
      clear h2
      go_enter Try.func11, Try.ntmps11
      go_wp2_with fail
      have HX0 := HX
      refine (past_Nowhere_no 17 (by decide) _).mono ?_
      rintro e w1 ⟨rfl, hb⟩
      have HX := Lib.hid (HX.out.keep (Keep.of_grew hb Non) (fun h => h))
      have HB := Lib.hid (grew HB.out hb)
      clear hb
      obtain ⟨⟨l0, l1, l2⟩, l3, l4, l5, l6, l7, l8, l9⟩ := msg_cells (m := m) HX.out
      go_wp2_with fail
      refine (past_Get_nil m.site _).mono ?_
      rintro e w2 ⟨rfl, hw⟩
      subst hw
      go_wp2_with fail
      refine (past_At_nil m.site m.seq _).mono ?_
      rintro e w3 ⟨rfl, hb⟩
      have HX := Lib.hid ((HX.out.keep (Keep.of_grew hb Non) (fun h => h)).keep (Keep.of_grew (grew_alloc w3 (.cells #[.int .i64 0, .int .i64 0] 34)) Non) (fun h => h))
      have HB := Lib.hid (grew (grew HB.out hb) (grew_alloc w3 (.cells #[.int .i64 0, .int .i64 0] 34)))
      clear hb l0 l1 l2 l3 l4 l5 l6 l7 l8 l9
      obtain ⟨⟨l0, l1, l2⟩, l3, l4, l5, l6, l7, l8, l9⟩ := msg_cells (m := m) HX.out
      go_wp2_with fail
      refine (past_Add_nil m.site s _).mono ?_
      rintro e w4 ⟨rfl, hw⟩
      subst hw
      go_wp2_with fail
      refine (past_All_nil _).mono ?_
      rintro e w5 ⟨rfl, hw⟩
      subst hw
      go_wp2_with fail
      refine (past_Move_nil m (.slice ua m.know.length uc) _ (HU.out.below HB.out)).mono ?_
      rintro e w6 ⟨rfl, hb⟩
      have HX := Lib.hid (HX.out.keep (Keep.of_grew hb Non) (fun h => h))
      have HB := Lib.hid (grew HB.out hb)
      clear hb l0 l1 l2 l3 l4 l5 l6 l7 l8 l9
      obtain ⟨⟨l0, l1, l2⟩, l3, l4, l5, l6, l7, l8, l9⟩ := msg_cells (m := m) HX.out
      go_wp2_with fail
      refine (past_Sites_nil m.seq _).mono ?_
      rintro e w7 ⟨rfl, hb⟩
      have HB := Lib.hid (grew HB.out hb)
      clear hb l0 l1 l2 l3 l4 l5 l6 l7 l8 l9
      go_wp2_with fail
      refine (law16_live _).mono ?_
      rintro e w8 ⟨rfl, hb⟩
      go_wp2
      go_ret
      exact ⟨rfl, grew HB.out hb⟩
end Go.Proofs.Ytcmdfjeiefgmhaa
