/- What EditDoes compares: acts told; lists of acts, states that are the same. -/
import Derived.Test.YtakjoodlediemaaEdApplW
namespace Go.Proofs.Ytakjoodlediemaa
open Go.RowKit
set_option linter.unusedVariables false

theorem info_actR : (Try.prog.info? 69).map (fun i => (i.zero, i.size, i.bytes)) = some (some (.agg #[.int .i64 0, .int .i64 0, .int .i64 0]), 3, 24) := by kernel_rfl
/-- The slice v has a row of its own, that holds these acts of the document's. -/
def OwnRA (w : World) (v : Value) (l : List EAct) : Prop := Owns w 69 3 v l.length (actCells l)
theorem OwnRA.slice {w : World} {v : Value} {l : List EAct} (h : OwnRA w v l) : SliceG 3 EAct.cells w v l := owns_actg h
theorem OwnRA.nil (w : World) : OwnRA w (.slice none 0 0) [] := Owns.nil _ _ _
theorem OwnRA.shape {w : World} {v : Value} {l : List EAct} (h : OwnRA w v l) : ∃ a cap, v = .slice a l.length cap := h.slice.shape

set_option maxRecDepth 100000 in
set_option maxHeartbeats 4000000 in
theorem law18_Told (u : Value) (acs : List EAct) (w : World) (hu : SliceG 3 EAct.cells w u acs) (hk : acs.length ≤ 1000000) :
    Calls Try.prog 12 #[u] w fun e w' => ∃ V, e = .returned V ∧ OwnRA w' V acs ∧ (∀ g, V.ownBlock = some g → w.heap.size ≤ g) ∧ Below w.heap.size w w' := by
  have HU := Lib.hid hu
  obtain ⟨ua, uc, rfl⟩ := hu.shape
  clear hu
  go_enter Try.func12, Try.ntmps12
  go_wp2
  go_loopw [3, 4] (fun T i wr => ∃ k : Nat, k ≤ acs.length ∧ i = .int .i64 k ∧ OwnRA wr T (acs.take k) ∧ (∀ g, T.ownBlock = some g → w.heap.size ≤ g) ∧ Below w.heap.size w wr) (fun _ i _ => acs.length - (intOf i).toNat)
  case atStart => exact ⟨0, by omega, rfl, OwnRA.nil _, fun g hg => (by cases hg), Below.refl _ _⟩
  case round =>
    obtain ⟨k, hkk, rfl, ho, hf, hB⟩ := hrel
    have HO := Lib.hid ho
    have HF := Lib.hid hf
    have HB := Lib.hid hB
    obtain ⟨ta, tc, rfl⟩ := ho.shape
    have hlk : (acs.take k).length = k := by rw [List.length_take]; omega
    rw [hlk] at HO HF ⊢
    clear ho hf hB
    by_cases hlt : k < acs.length
    · have hdk : decide ((k : Int) < (acs.length : Int)) = true := decide_eq_true (by omega)
      have hdn : decide (k < acs.length) = true := decide_eq_true hlt
      have hik : (k : Int) < (acs.length : Int) := by omega
      obtain ⟨b0, off, e3, hb0, q0, q1, q2⟩ := act3 HU.out hlt
      have x0 := (HB.out.cell (p := ⟨b0, off + k * 3, none⟩) hb0).trans q0
      have x1 := (HB.out.cell (p := ⟨b0, off + k * 3 + 1, none⟩) hb0).trans q1
      have x2 := (HB.out.cell (p := ⟨b0, off + k * 3 + 2, none⟩) hb0).trans q2
      subst e3
      have HTK : Hid (acs.take (k + 1) = acs.take k ++ [acs[k]]) := Lib.hid (List.take_succ_eq_append_getElem hlt)
      have HLK := Lib.hid hlk
      have HKK := Lib.hid hlt
      clear q0 q1 q2 hlk
      generalize acs[k] = A at *
      obtain ⟨p0, p1, p2⟩ := A
      simp only at x0 x1 x2
      clear hlt
      go_wp2_with fail
      have HOW : Hid (Owns wr 69 3 (.slice ta k tc) k (actCells (acs.take k))) := Lib.hid (by have := HO.out; unfold OwnRA at this; rw [HLK.out] at this; exact this)
      have HK1 : Hid (k + 1 ≤ 1000000000) := Lib.hid (by have := HKK.out; omega)
      have HONE : Hid (∀ u ∈ [Value.int .i64 p0, .int .i64 p1, .int .i64 p2], u.oneCell' = true) := Lib.hid (by intro u hu; simp at hu; rcases hu with rfl | rfl | rfl <;> rfl)
      go_region_law ((refine step_append_lit (w := wr) rfl (.tmp 11) (.tmp 28) rfl Try.underlying35 info_actR rfl (by decide) (by decide) (.slice ta k tc) k (actCells (acs.take k)) rfl HOW.out 1 [.int .i64 p0, .int .i64 p1, .int .i64 p2] _ rfl rfl rfl HONE.out HK1.out ?_; intro va2 cap2 w3 ho2 hk2 hn2; have HM2 := Lib.hid (And.intro ho2 (And.intro hk2 hn2)); clear ho2 hk2 hn2))
      all_goals
        go_wp2
        go_roundw
        case rel =>
          refine ⟨k + 1, by have := HKK.out; omega, by go_num, ?_, ?_, ?_⟩
          · rw [HTK.out]
            unfold OwnRA
            rw [actCells_app, List.length_append, HLK.out]
            exact HM2.out.1
          · intro g hg
            rcases HM2.out.2.2 g hg with h | h
            · exact HF.out g h
            · exact Nat.le_trans HB.out.size h
          · exact HB.out.trans (HM2.out.2.1.below HB.out.size (fun i e => HF.out i e))
        case measure => simp [intOf]; have := HKK.out; omega
    · have hdn : decide (k < acs.length) = false := decide_eq_false hlt
      have hdk : decide ((k : Int) < (acs.length : Int)) = false := decide_eq_false (by omega)
      have hke : acs.take k = acs := List.take_of_length_le (by omega)
      obtain rfl : k = acs.length := by omega
      have HKE := Lib.hid hke
      clear hke hlk hlt
      go_wp2
      go_ret
      exact ⟨_, rfl, by rw [HKE.out] at HO; exact HO.out, HF.out, HB.out⟩


set_option maxRecDepth 100000 in
set_option maxHeartbeats 4000000 in
theorem ref18_Same (u v : Value) (acs : List EAct) (w : World) (hu : SliceG 3 EAct.cells w u acs) (hv : SliceG 3 EAct.cells w v acs) (hk : acs.length ≤ 1000000) :
    Calls Try.prog 11 #[u, v] w fun e w' => e = .returned (.bool true) ∧ Below w.heap.size w w' := by
  have HU := Lib.hid hu
  have HV := Lib.hid hv
  obtain ⟨ua, uc, rfl⟩ := hu.shape
  obtain ⟨va, vc, rfl⟩ := hv.shape
  clear hu hv
  go_enter Try.func11, Try.ntmps11
  go_wp2
  go_loopw [5] (fun i wr => ∃ k : Nat, k ≤ acs.length ∧ i = .int .i64 k ∧ Below w.heap.size w wr) (fun i _ => acs.length - (intOf i).toNat)
  case atStart => exact ⟨0, by omega, rfl, Below.refl _ _⟩
  case round =>
    obtain ⟨k, hkk, rfl, hB⟩ := hrel
    have HB := Lib.hid hB
    clear hB
    by_cases hlt : k < acs.length
    · have hdk : decide ((k : Int) < (acs.length : Int)) = true := decide_eq_true (by omega)
      have hdn : decide (k < acs.length) = true := decide_eq_true hlt
      have hik : (k : Int) < (acs.length : Int) := by omega
      obtain ⟨b0, off, e3, hb0, q0, q1, q2⟩ := act3 HU.out hlt
      obtain ⟨b1, off1, e4, hb1, r0, r1, r2⟩ := act3 HV.out hlt
      have x0 := (HB.out.cell (p := ⟨b0, off + k * 3, none⟩) hb0).trans q0
      have x1 := (HB.out.cell (p := ⟨b0, off + k * 3 + 1, none⟩) hb0).trans q1
      have x2 := (HB.out.cell (p := ⟨b0, off + k * 3 + 2, none⟩) hb0).trans q2
      have y0 := (HB.out.cell (p := ⟨b1, off1 + k * 3, none⟩) hb1).trans r0
      have y1 := (HB.out.cell (p := ⟨b1, off1 + k * 3 + 1, none⟩) hb1).trans r1
      have y2 := (HB.out.cell (p := ⟨b1, off1 + k * 3 + 2, none⟩) hb1).trans r2
      subst e3 e4
      clear q0 q1 q2 r0 r1 r2
      generalize acs[k] = A at *
      obtain ⟨p0, p1, p2⟩ := A
      simp only at x0 x1 x2 y0 y1 y2
      go_wp2_with fail
      go_quiet (fail)
      go_wp2
      go_roundw
      case rel => exact ⟨k + 1, by omega, by go_num, grew HB.out (grew_drewN _ _)⟩
      case measure => simp [intOf]; omega
    · have hdn : decide (k < acs.length) = false := decide_eq_false hlt
      have hdk : decide ((k : Int) < (acs.length : Int)) = false := decide_eq_false (by omega)
      go_wp2
      go_ret
      exact ⟨rfl, HB.out⟩

set_option maxRecDepth 100000 in
set_option maxHeartbeats 4000000 in
theorem law18_same (lv kv lu ku : Value) (l kl : List Int) (z : Int) (w : World) (h1 : SliceI w lv l) (h2 : SliceI w kv kl) (h3 : SliceI w lu l) (h4 : SliceI w ku kl) (hl : l.length ≤ 1000000) (hk : kl.length ≤ 1000000) :
    Calls Try.prog 10 #[.agg #[lv, .int .i64 z, kv], .agg #[lu, .int .i64 z, ku]] w fun e w' => e = .returned (.bool true) ∧ Below w.heap.size w w' := by
  obtain ⟨W0, hW0⟩ : ∃ W0, w.alloc (.cells #[lv, .int .i64 z, kv] 29) = W0 := ⟨_, rfl⟩
  obtain ⟨W1, hW1⟩ : ∃ W1, W0.alloc (.cells #[lu, .int .i64 z, ku] 24) = W1 := ⟨_, rfl⟩
  have HX0 : Hid (Holds W0 w.heap.size [lv, .int .i64 z, kv] 29) := Lib.hid (by rw [← hW0]; exact Holds.new w _ _)
  have HY : Hid (Holds W1 W0.heap.size [lu, .int .i64 z, ku] 24) := Lib.hid (by rw [← hW1]; exact Holds.new W0 _ _)
  have HB0 : Hid (Below w.heap.size w W0) := Lib.hid (by rw [← hW0]; exact grew_alloc _ _)
  have HB01 : Hid (Below W0.heap.size W0 W1) := Lib.hid (by rw [← hW1]; exact grew_alloc _ _)
  have HX := Lib.hid (HX0.out.keep (Keep.of_grew HB01.out Non) (fun h => h))
  have HB := Lib.hid (grew HB0.out HB01.out)
  have H1 := Lib.hid (h1.below HB.out)
  have H2 := Lib.hid (h2.below HB.out)
  have H3 := Lib.hid (h3.below HB.out)
  have H4 := Lib.hid (h4.below HB.out)
  obtain ⟨a1, b1, rfl⟩ := h1.shape
  obtain ⟨a2, b2, rfl⟩ := h2.shape
  obtain ⟨a3, b3, rfl⟩ := h3.shape
  obtain ⟨a4, b4, rfl⟩ := h4.shape
  have HL := Lib.hid (And.intro hl hk)
  have HSZ : Hid (W0.heap.size = w.heap.size + 1) := Lib.hid (by rw [← hW0]; simp)
  clear h1 h2 h3 h4 hl hk
  have HC : Hid (∀ W, Below W1.heap.size W1 W → (W.cell? ⟨w.heap.size, 0, none⟩ = some (.slice a1 l.length b1) ∧ W.cell? ⟨w.heap.size, 1, none⟩ = some (.int .i64 z) ∧ W.cell? ⟨w.heap.size, 2, none⟩ = some (.slice a2 kl.length b2)) ∧ W.cell? ⟨W0.heap.size, 0, none⟩ = some (.slice a3 l.length b3) ∧ W.cell? ⟨W0.heap.size, 1, none⟩ = some (.int .i64 z) ∧ W.cell? ⟨W0.heap.size, 2, none⟩ = some (.slice a4 kl.length b4)) := Lib.hid (fun W hb => by
    have g1 := HX.out.keep (Keep.of_grew hb Non) (fun h => h)
    have g2 := HY.out.keep (Keep.of_grew hb Non) (fun h => h)
    exact ⟨⟨g1.cell 0 (by simp), g1.cell 1 (by simp), g1.cell 2 (by simp)⟩, g2.cell 0 (by simp), g2.cell 1 (by simp), g2.cell 2 (by simp)⟩)
  obtain ⟨⟨x0, x1, x2⟩, y0, y1, y2⟩ := HC.out W1 (Below.refl _ _)
  go_enter Try.func10, Try.ntmps10
  go_wp2_with fail
  refine (ref01_Same _ _ l l _ H1.out H3.out (by have := HL.out; omega) (by have := HL.out; omega)).mono ?_
  rintro e W2 ⟨rfl, hb2⟩
  have HB2 := Lib.hid hb2
  clear x0 x1 x2 y0 y1 y2 hb2
  obtain ⟨⟨x0, x1, x2⟩, y0, y1, y2⟩ := HC.out W2 HB2.out
  rw [decide_eq_true rfl]
  go_wp2_with fail
  refine (ref01_Same _ _ kl kl _ (H2.out.below HB2.out) (H4.out.below HB2.out) (by have := HL.out; omega) (by have := HL.out; omega)).mono ?_
  rintro e W3 ⟨rfl, hb3⟩
  have HB3 := Lib.hid (grew HB.out (grew HB2.out hb3))
  clear hb3
  rw [decide_eq_true rfl]
  go_wp2
  go_ret
  exact ⟨rfl, HB3.out⟩
end Go.Proofs.Ytakjoodlediemaa
