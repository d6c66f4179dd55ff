/- Some answers that the document gives of stores. -/
import Derived.Test.YtjklfjgdmklimaaRsLive
namespace Go.Proofs.Ytjklfjgdmklimaa
open Go.RowKit Go.Maps
set_option linter.unusedVariables false

theorem nat2 : ((2 : Nat) : Int) = 2 := rfl

set_option maxRecDepth 100000 in
set_option maxHeartbeats 4000000 in
theorem law08_live (w : World) :
    Calls Try.prog 24 #[] w fun e w' => e = .returned (.bool true) ∧ Below w.heap.size w w' := by
  go_enter Try.func24, Try.ntmps24
  go_wp2_with fail
  refine (slive_New 2 2 w w (Below.refl _ _) (by decide) (by decide) Non (fun _ h => h.elim)).mono ?_
  rintro e w1 ⟨p, rfl, hl, _⟩
  have H := Lib.hid hl
  clear hl
  go_wp2_with fail
  refine (resend_New_no 2 0 _ (by decide)).mono ?_
  rintro e _ ⟨rfl, rfl⟩
  go_wp2_with fail
  obtain ⟨hi2, hx2, hb2, hz2⟩ := two_blocks w1 [.int .i64 0, .int .i64 3] (msgL liveR (.slice (some ⟨w1.heap.size, 0, none⟩) 2 2)) 3 40
  have HKN : Hid (SliceI _ (.slice (some ⟨w1.heap.size, 0, none⟩) 2 2) [0, 3]) := Lib.hid ((two_ints w1 0 3).below (grew_alloc _ (.cells (msgL liveR (.slice (some ⟨w1.heap.size, 0, none⟩) 2 2)).toArray 40)))
  have HBX := Lib.hid hx2
  have H := Lib.hid (H.out.grew (O' := fun b => b = w1.heap.size ∨ b = w1.heap.size + 1) hb2 (fun b hb => .inr (by rcases hb with rfl | rfl <;> omega)))
  clear hi2 hx2 hb2 hz2
  simp only [msgL, liveR] at HKN HBX H
  generalize (w1.alloc (.cells _ 3)).alloc (.cells _ 40) = W2 at *
  refine (slive_Keep H.out liveR (.slice (some ⟨w1.heap.size, 0, none⟩) 2 2) HKN.out (by decide)).mono ?_
  rintro e w3 ⟨rfl, hl, hk⟩
  rw [live_keep] at hl ⊢
  have H := Lib.hid hl
  have HKN := Lib.hid (HKN.out.keep hk (fun g hg h => h (.inl (Option.some.inj hg).symm)))
  have HBX := Lib.hid (HBX.out.keep hk (fun h => h (.inr rfl)))
  clear hl hk
  obtain ⟨⟨l0, l1, l2⟩, l3, l4, l5, l6, l7, l8, l9⟩ := msg_cells (m := liveR) HBX.out
  simp only [liveR] at l0 l1 l2 l3 l4 l5 l6 l7 l8 l9
  go_wp2_with fail
  refine (slive_Keep H.out liveR (.slice (some ⟨w1.heap.size, 0, none⟩) 2 2) HKN.out (by decide)).mono ?_
  rintro e w4 ⟨rfl, hl, hk⟩
  rw [live_keep2] at hl ⊢
  have H := Lib.hid hl
  have HKN := Lib.hid (HKN.out.keep hk (fun g hg h => h (.inl (Option.some.inj hg).symm)))
  have HBX := Lib.hid (HBX.out.keep hk (fun h => h (.inr rfl)))
  clear hl hk l0 l1 l2 l3 l4 l5 l6 l7 l8 l9
  go_wp2_with fail
  refine (slive_Get H.out 0 1 (by unfold I64; omega) (by unfold I64; omega)).mono ?_
  rintro e w5 ⟨u, rfl, hs, hl, hb5⟩
  rw [live_get] at hs ⊢
  have HU := Lib.hid hs
  have H := Lib.hid hl
  have HKN := Lib.hid (HKN.out.below hb5)
  have HBX := Lib.hid (HBX.out.keep (Keep.of_grew hb5 Non) (fun h => h))
  obtain ⟨ua, uc, rfl⟩ := hs.shape
  clear hs hl hb5
  simp only [msgV, liveR]
  go_wp2_with fail
  obtain ⟨hx6, hi6, hb6, hz6⟩ := two_blocks w5 (msgL liveR (.slice ua liveR.know.length uc)) [.int .i64 1, .int .i64 0] 40 3
  have HKN := Lib.hid (HKN.out.below hb6)
  have HBX := Lib.hid (HBX.out.keep (Keep.of_grew hb6 Non) (fun h => h))
  have HBY := Lib.hid hx6
  have HU := Lib.hid (HU.out.below hb6)
  have HV : Hid (SliceI _ (.slice (some ⟨(w5.alloc (.cells (msgL liveR (.slice ua liveR.know.length uc)).toArray 40)).heap.size, 0, none⟩) 2 2) [1, 0]) := Lib.hid (two_ints (w5.alloc (.cells (msgL liveR (.slice ua liveR.know.length uc)).toArray 40)) 1 0)
  rw [show (w5.alloc (.cells (msgL liveR (.slice ua liveR.know.length uc)).toArray 40)).heap.size = w5.heap.size + 1 from Array.size_push _] at HV
  have H := Lib.hid (H.out.grew (O' := fun b => ((b = w1.heap.size ∨ b = w1.heap.size + 1) ∨ (Value.slice ua liveR.know.length uc).ownBlock = some b) ∨ b = w5.heap.size) hb6 (fun b hb => by
    rcases hb with hb | rfl
    · exact .inl hb
    · exact .inr (by omega)))
  clear hx6 hi6 hb6 hz6
  simp only [msgL, liveR] at HKN HBX HBY HU HV H
  generalize (w5.alloc (.cells _ 40)).alloc (.cells _ 3) = W6 at *
  refine (slive_Drop H.out (.slice (some ⟨w5.heap.size + 1, 0, none⟩) 2 2) [1, 0] HV.out (by decide)).mono ?_
  rintro e w7 ⟨rfl, hl, hk⟩
  rw [live_drop] at hl ⊢
  have H := Lib.hid hl
  have HKN := Lib.hid (HKN.out.keep hk (fun g hg h => h (.inl (.inl (.inl (Option.some.inj hg).symm)))))
  have HBX := Lib.hid (HBX.out.keep hk (fun h => h (.inl (.inl (.inr rfl)))))
  have HBY := Lib.hid (HBY.out.keep hk (fun h => h (.inr rfl)))
  have HU := Lib.hid (HU.out.keep hk (fun g hg h => h (.inl (.inr hg))))
  clear hl hk HV
  go_wp2_with fail
  refine (slive_Get H.out 0 1 (by unfold I64; omega) (by unfold I64; omega)).mono ?_
  rintro e w8 ⟨u2, rfl, hs, hl, hb8⟩
  rw [live_get2] at hs ⊢
  have H := Lib.hid hl
  have HKN := Lib.hid (HKN.out.below hb8)
  have HU := Lib.hid (HU.out.below hb8)
  have HBX := Lib.hid (HBX.out.keep (Keep.of_grew hb8 Non) (fun h => h))
  have HBY := Lib.hid (HBY.out.keep (Keep.of_grew hb8 Non) (fun h => h))
  obtain ⟨ub, ud, rfl⟩ := hs.shape
  clear hs hl hb8
  simp only [msgV, Mesg.none, Mesg.noOp, Mesg.zero]
  go_wp2_with fail
  have hbz := grew_alloc w8 (.cells #[.int .i64 0, .int .i64 0, .slice ub 0 ud, .int .i64 0, .int .i64 0, .int .i64 0, .int .i64 0, .int .i64 0, .int .i64 0, .int .i64 0] 40)
  have hzz : (w8.alloc (.cells #[.int .i64 0, .int .i64 0, .slice ub 0 ud, .int .i64 0, .int .i64 0, .int .i64 0, .int .i64 0, .int .i64 0, .int .i64 0, .int .i64 0] 40)).heap.size = w8.heap.size + 1 := Array.size_push _
  have HKN := Lib.hid (HKN.out.below hbz)
  have HU := Lib.hid (HU.out.below hbz)
  have HBX := Lib.hid (HBX.out.keep (Keep.of_grew hbz Non) (fun h => h))
  have HBY := Lib.hid (HBY.out.keep (Keep.of_grew hbz Non) (fun h => h))
  have H := Lib.hid (H.out.grew (O' := Non) hbz (fun b hb => hb.elim))
  have HZZ := Lib.hid hzz
  clear hbz hzz
  generalize w8.alloc (.cells _ 40) = W9 at *
  have ha9 := (two_ints W9 0 1).below (grew_alloc _ (.cells #[.int .i64 2, .int .i64 1] 3))
  have hb9 := two_ints (W9.alloc (.cells #[.int .i64 0, .int .i64 1] 3)) 2 1
  rw [show (W9.alloc (.cells #[.int .i64 0, .int .i64 1] 3)).heap.size = W9.heap.size + 1 from Array.size_push _] at hb9
  have hbe := grew (grew_alloc W9 (.cells #[.int .i64 0, .int .i64 1] 3)) (grew_alloc _ (.cells #[.int .i64 2, .int .i64 1] 3))
  rw [HZZ.out] at ha9 hb9
  refine (resend_Asks _ _ [0, 1] [2, 1] 5 _ ha9 hb9 (by decide) (by decide)).mono ?_
  rintro e w10 ⟨V, rfl, hV, hb10⟩
  rw [live_asks] at hV ⊢
  have hbe := grew hbe hb10
  have HKN := Lib.hid (HKN.out.below hbe)
  have HU := Lib.hid (HU.out.below hbe)
  have HBX := Lib.hid (HBX.out.keep (Keep.of_grew hbe Non) (fun h => h))
  have HBY := Lib.hid (HBY.out.keep (Keep.of_grew hbe Non) (fun h => h))
  have H := Lib.hid (H.out.grew (O' := Non) hbe (fun b hb => hb.elim))
  have HV := Lib.hid hV
  obtain ⟨g, gc, rfl⟩ : ∃ g gc, V = .slice (some ⟨g, 0, none⟩) 2 gc := by
    rcases hV.2 with ⟨_, h0⟩ | ⟨g, cap, cur, rfl, _⟩
    · simp at h0
    · exact ⟨g, cap, rfl⟩
  clear hV hb10 hbe ha9 hb9
  obtain ⟨⟨l0, l1, l2⟩, l3, l4, l5, l6, l7, l8, l9⟩ := msg_cells (m := liveR) HBX.out
  obtain ⟨⟨m0, m1, m2⟩, m3, m4, m5, m6, m7, m8, m9⟩ := msg_cells (m := liveR) (v := .slice ua 2 uc) HBY.out
  simp only [liveR] at l0 l1 l2 l3 l4 l5 l6 l7 l8 l9 m0 m1 m2 m3 m4 m5 m6 m7 m8 m9
  go_wp2_with fail
  refine (ref04_Same liveR liveR (.slice ua 2 uc) (.slice (some ⟨w1.heap.size, 0, none⟩) 2 2) _ HU.out HKN.out (by decide) (by decide)).mono ?_
  rintro e w11 ⟨rfl, hb11⟩
  rw [show decide (liveR = liveR) = true from by simp]
  have H := Lib.hid (H.out.grew (O' := Non) hb11 (fun b hb => hb.elim))
  have c2 : w11.cell? ⟨g, 2, none⟩ = some (.int .i64 0) := by
    rw [hb11.cell (p := ⟨g, 2, none⟩) (HV.out.lt rfl), World.ownsRow.cellAt HV.out 2 (by decide)]
    rfl
  have c3 : w11.cell? ⟨g, 3, none⟩ = some (.int .i64 2) := by
    rw [hb11.cell (p := ⟨g, 3, none⟩) (HV.out.lt rfl), World.ownsRow.cellAt HV.out 3 (by decide)]
    rfl
  clear hb11 l0 l1 l2 l3 l4 l5 l6 l7 l8 l9 m0 m1 m2 m3 m4 m5 m6 m7 m8 m9
  go_wp2_with fail
  refine (slive_Len H.out).mono ?_
  rintro e _ ⟨rfl, rfl⟩
  rw [show ((liveS2.l.length : Nat) : Int) = 0 from rfl]
  go_wp2
  go_ret
  exact ⟨rfl, H.out.below⟩
end Go.Proofs.Ytjklfjgdmklimaa
