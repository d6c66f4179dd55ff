/- Some answers that the document gives of logs and carets. -/
import Derived.Test.YtcmdfjeiefgmhaaPaCalls
import Derived.Test.YtcmdfjeiefgmhaaInts
import Derived.Test.YtcmdfjeiefgmhaaThMore
namespace Go.Proofs.Ytcmdfjeiefgmhaa
open Go.RowKit Carets
set_option linter.unusedVariables false

def sLs : ByteArray := ⟨#[108, 115]⟩
def sRm : ByteArray := ⟨#[114, 109]⟩
def sX : ByteArray := ⟨#[120]⟩
def mPl : Mesg.Msg := ⟨1, 2, [0, 1], ⟨5, 1, ⟨0, 0⟩, ⟨4, 0⟩, 0⟩⟩
def cPl : List Car := [noCar, ⟨2, 1, (4, 0)⟩]
theorem pl1 : Past.add [] 0 ⟨#[108, 115]⟩ = (0, [sLs]) := by kernel_rfl
theorem pl2 : Past.add [sLs] 0 ⟨#[108, 115]⟩ = (7, [sLs]) := by kernel_rfl
theorem pl3 : Past.add [sLs] 0 ⟨#[114, 109]⟩ = (8, [sLs]) := by kernel_rfl
theorem pl4 : Past.add [sLs] 2 ⟨#[120]⟩ = (6, [sLs]) := by kernel_rfl
theorem pl5 : Past.line [sLs] 0 = ⟨#[108, 115]⟩ := by kernel_rfl
theorem pl6 : Past.has [sLs] 0 = true := by kernel_rfl
theorem pl7 : Carets.move (List.replicate 2 noCar) mPl = (0, cPl) := by kernel_rfl
theorem pl8 : Carets.move cPl mPl = (7, cPl) := by kernel_rfl
theorem pl9 : atRef cPl 1 1 = (4, 0) := by kernel_rfl
theorem pl10 : isAt cPl 1 1 = true := by kernel_rfl
theorem pl11 : isAt cPl 1 0 = false := by kernel_rfl
theorem pl12 : atRef cPl 1 0 = (0, 0) := by kernel_rfl
theorem pl13 : sitesK cPl 1 cPl.length = [1] := by kernel_rfl
theorem pl14 : Past.begins [sLs] [⟨#[108, 115]⟩, ⟨#[120]⟩] = true := by kernel_rfl
theorem pl15 : Past.begins [⟨#[120]⟩] [sLs] = false := by kernel_rfl
theorem pl16 : ((⟨#[108, 115]⟩ : ByteArray).toList == (⟨#[108, 115]⟩ : ByteArray).toList) = true := str_same rfl

set_option maxRecDepth 100000 in
set_option maxHeartbeats 4000000 in
theorem law16_live (w : World) : Calls Try.prog 36 #[] w fun e w' => e = .returned (.bool true) ∧ Below w.heap.size w w' := by
  have HS := Lib.hid pl16
  go_enter Try.func36, Try.ntmps36
  go_wp2_with fail
  refine (m_New (Mine.nothing w)).mono ?_
  rintro e w1 ⟨p, rfl, h⟩
  have H := Lib.hid h
  clear h
  go_wp2_with fail
  refine (m_Nowhere H.out 2 (by decide)).mono ?_
  rintro e w2 ⟨q, rfl, h⟩
  have H := Lib.hid h
  clear h
  go_wp2_with fail
  refine (past_Nowhere_no 0 (by decide) w2).mono ?_
  rintro e w3 ⟨rfl, hb⟩
  have H := Lib.hid (H.out.grew hb).swap
  clear hb
  go_wp2_with fail
  refine (m_Add H.out (by decide) 0 ⟨#[108, 115]⟩).mono ?_
  rintro e w4 ⟨rfl, h⟩
  rw [pl1] at h ⊢
  have H := Lib.hid h
  clear h
  go_wp2_with fail
  refine (m_Add H.out (by decide) 0 ⟨#[108, 115]⟩).mono ?_
  rintro e w5 ⟨rfl, h⟩
  rw [pl2] at h ⊢
  have H := Lib.hid h
  clear h
  go_wp2_with fail
  refine (m_Add H.out (by decide) 0 ⟨#[114, 109]⟩).mono ?_
  rintro e w6 ⟨rfl, h⟩
  rw [pl3] at h ⊢
  have H := Lib.hid h
  clear h
  go_wp2_with fail
  refine (m_Add H.out (by decide) 2 ⟨#[120]⟩).mono ?_
  rintro e w7 ⟨rfl, h⟩
  rw [pl4] at h ⊢
  have H := Lib.hid h
  clear h
  go_wp2_with fail
  refine (m_Get H.out 0).mono ?_
  rintro e w8 ⟨rfl, hw⟩
  subst hw
  rw [pl5, pl6]
  have hz : (w7.alloc (.cells #[.int .i64 0, .int .i64 1] 3)).heap.size = w7.heap.size + 1 := Array.size_push _
  have H := Lib.hid (H.out.row [0, 1])
  have H := Lib.hid (H.out.alloc (msgL mPl (.slice (some ⟨w7.heap.size, 0, none⟩) 2 2)) 38)
  rw [show (w7.alloc (.cells (([0, 1] : List Int).map (Value.int .i64)).toArray 3)).heap.size = w7.heap.size + 1 from hz] at H
  have H := Lib.hid H.out.swap3
  clear hz
  go_wp2_with fail
  generalize w7.heap.size = b at *
  have HA := Lib.hid H.out.swap2.ints
  refine (m_Move H.out mPl (.slice (some ⟨b, 0, none⟩) 2 2) HA.out (by decide)).mono ?_
  rintro e w9 ⟨rfl, h⟩
  rw [pl7] at h ⊢
  have H := Lib.hid h
  obtain ⟨⟨d0, d1, d2⟩, d3, d4, d5, d6, d7, d8, d9⟩ := msg_cells h.swap.box
  clear h
  unfold mPl at d0 d1 d3 d4 d5 d6 d7 d8 d9
  simp only at d0 d1 d3 d4 d5 d6 d7 d8 d9
  go_wp2_with fail
  have HA := Lib.hid H.out.swap2.ints
  refine (m_Move H.out mPl (.slice (some ⟨b, 0, none⟩) 2 2) HA.out (by decide)).mono ?_
  rintro e w10 ⟨rfl, h⟩
  rw [pl8] at h ⊢
  have H := Lib.hid h
  clear h d0 d1 d2 d3 d4 d5 d6 d7 d8 d9
  go_wp2_with fail
  refine (m_At H.out 1 1).mono ?_
  rintro e w11 ⟨rfl, h, hb⟩
  rw [pl9, pl10]
  have H := Lib.hid (h.alloc [.int .i64 4, .int .i64 0] 34).swap
  clear h hb
  go_wp2_with fail
  refine (m_At H.out 1 0).mono ?_
  rintro e w12 ⟨rfl, h, hb⟩
  rw [pl12, pl11]
  have H := Lib.hid (h.grew (grew_alloc w12 (.cells #[.int .i64 0, .int .i64 0] 34)))
  have hx := H.out.swap.box
  have x0 := hx.cell 0 (by simp)
  have x1 := hx.cell 1 (by simp)
  simp only [List.getElem_cons_zero, List.getElem_cons_succ] at x0 x1
  have hs := HS.out
  clear h hb hx
  go_wp2_with fail
  refine (m_Sites H.out 1).mono ?_
  rintro e w13 ⟨v13, rfl, hs13, h, hb⟩
  rw [pl13] at hs13
  have H := Lib.hid h
  have HS13 := Lib.hid (hs13.below (grew_alloc w13 (.cells #[.int .i64 1] 3)))
  have HI13 := Lib.hid (int1 w13 1)
  obtain ⟨va, vc, e13⟩ := hs13.shape
  subst e13
  clear h hb hs13 x0 x1
  go_wp2_with fail
  have H := Lib.hid (H.out.grew (grew_alloc w13 (.cells #[.int .i64 1] 3))).swap4
  refine (ref01_Same _ _ [1] [1] _ HS13.out HI13.out (by decide) (by decide)).mono ?_
  rintro e w14 ⟨rfl, hb⟩
  have H := Lib.hid (H.out.grew hb)
  clear hb
  rw [decide_eq_true (rfl : ([1] : List Int) = [1])]
  go_wp2_with fail
  refine (m_All H.out (by decide)).mono ?_
  rintro e w15 ⟨v15, rfl, h, _⟩
  have H := Lib.hid (h.grew (grew_alloc w15 (.cells #[.string ⟨#[108, 115]⟩, .string ⟨#[120]⟩] 9)))
  have HX := Lib.hid (text2 w15 ⟨#[108, 115]⟩ ⟨#[120]⟩)
  have HT := Lib.hid H.out.texts
  obtain ⟨ta, tc, e15, _⟩ := h.texts.shape
  subst e15
  clear h
  go_wp2_with fail
  refine (past_Prefix _ _ [sLs] [⟨#[108, 115]⟩, ⟨#[120]⟩] _ HT.out HX.out (by decide) (by decide)).mono ?_
  rintro e w16 ⟨rfl, hb⟩
  rw [pl14]
  have H := Lib.hid (H.out.grew (grew hb (grew_alloc w16 (.cells #[.string ⟨#[120]⟩] 9)))).drop
  have HX := Lib.hid (text1 w16 ⟨#[120]⟩)
  clear hb
  go_wp2_with fail
  generalize (w16.alloc (.cells #[.string ⟨#[120]⟩] 9)) = W at *
  refine (m_All H.out (by decide)).mono ?_
  rintro e w17 ⟨v17, rfl, h, hb⟩
  have HX := Lib.hid (HX.out.below hb)
  have H := Lib.hid h
  have HT := Lib.hid h.texts
  obtain ⟨ta2, tc2, e17, _⟩ := h.texts.shape
  subst e17
  clear h hb
  go_wp2_with fail
  refine (past_Prefix _ _ [⟨#[120]⟩] [sLs] _ HX.out HT.out (by decide) (by decide)).mono ?_
  rintro e w18 ⟨rfl, hb⟩
  rw [pl15]
  have H := Lib.hid (H.out.grew hb)
  clear hb
  go_wp2
  go_ret
  exact ⟨rfl, H.out.bel⟩
end Go.Proofs.Ytcmdfjeiefgmhaa
