/- Some answers that the document gives of lines. -/
import Derived.Test.YtohmhbjiapflpaaWvKids
import Derived.Test.YtohmhbjiapflpaaWvNil
import Derived.Test.YtohmhbjiapflpaaIdRef
namespace Go.Proofs.Ytohmhbjiapflpaa
open Go.RowKit Go.Maps
set_option linter.unusedVariables false

/-- A line that the call itself made, since w0. -/
def LvLine (w0 : World) (p : Nat) (L : List Wel) (w : World) : Prop := ∃ F, IsLine w F p L ∧ (∀ k, F k → w0.heap.size ≤ k) ∧ Below w0.heap.size w0 w
theorem LvLine.step {w0 w w' : World} {p : Nat} {L L' : List Wel} (h : LvLine w0 p L w) (hs : ∀ F, IsLine w F p L → LStep w F p L' w') : LvLine w0 p L' w' := by
  obtain ⟨F, h1, h2, h3⟩ := h
  obtain ⟨F', k1, k2, k3⟩ := hs F h1
  refine ⟨F', k1, fun k hk => ?_, h3.trans (k2.below h3.size (fun i hi => h2 i hi))⟩
  rcases k3 k hk with q | q
  · exact h2 k q
  · exact Nat.le_trans h3.size q
theorem LvLine.grew {w0 w w' : World} {p : Nat} {L : List Wel} (h : LvLine w0 p L w) (hb : Below w.heap.size w w') : LvLine w0 p L w' := h.step (fun F hF => LStep.grew hF hb)
theorem LvLine.bel {w0 w : World} {p : Nat} {L : List Wel} (h : LvLine w0 p L w) : Below w0.heap.size w0 w := by
  obtain ⟨_, _, _, h⟩ := h
  exact h
theorem LvLine.read {w0 w : World} {p : Nat} {L : List Wel} (h : LvLine w0 p L w) : LRead w p L := by
  obtain ⟨_, h, _⟩ := h
  exact h.read
theorem LvLine.ok {w0 w : World} {p : Nat} {L : List Wel} (h : LvLine w0 p L w) : Weave.Ok L := by
  obtain ⟨_, h, _⟩ := h
  exact h.ok
theorem lv_New (w : World) : Calls Try.prog 14 #[] w fun e w' => e = .returned (.pointer (some ⟨w.heap.size, 0, none⟩)) ∧ LvLine w w.heap.size [] w' :=
  (weave_New w).mono fun e w' ⟨h1, h2, h3⟩ => ⟨h1, _, h2, fun k hk => by have hk : k = w.heap.size := hk; omega, h3⟩
theorem lv_Insert {w0 w : World} {p : Nat} {L : List Wel} (h : LvLine w0 p L w) (x ref : Int × Int) (r : Int) :
    Calls Try.prog 17 #[.pointer (some ⟨p, 0, none⟩), idV x, idV ref, .int .i64 r] w fun e w' => e = .returned (.int .i64 (Weave.insert L x ref r).1) ∧ LvLine w0 p (Weave.insert L x ref r).2 w' := by
  obtain ⟨F, h1, h2, h3⟩ := h
  exact (weave_Insert h1 x ref r).mono fun e w' ⟨k1, k2⟩ => ⟨k1, by
    obtain ⟨F', q1, q2, q3⟩ := k2
    refine ⟨F', q1, fun k hk => ?_, h3.trans (q2.below h3.size (fun i hi => h2 i hi))⟩
    rcases q3 k hk with q | q
    · exact h2 k q
    · exact Nat.le_trans h3.size q⟩
theorem lv_Drop {w0 w : World} {p : Nat} {L : List Wel} (h : LvLine w0 p L w) (x : Int × Int) (hx1 : I64 x.1) (hx2 : I64 x.2) :
    Calls Try.prog 15 #[.pointer (some ⟨p, 0, none⟩), idV x] w fun e w' => e = .returned (.int .i64 (Weave.drop L x).1) ∧ LvLine w0 p (Weave.drop L x).2 w' := by
  obtain ⟨F, h1, h2, h3⟩ := h
  exact (weave_Drop h1 x hx1 hx2).mono fun e w' ⟨k1, k2⟩ => ⟨k1, by
    obtain ⟨F', q1, q2, q3⟩ := k2
    refine ⟨F', q1, fun k hk => ?_, h3.trans (q2.below h3.size (fun i hi => h2 i hi))⟩
    rcases q3 k hk with q | q
    · exact h2 k q
    · exact Nat.le_trans h3.size q⟩

def lw1 : Wel := ⟨(1, 0), (0, 0), 97⟩
def lw2 : Wel := ⟨(2, 0), (1, 0), 98⟩
def lw3 : Wel := ⟨(2, 1), (0, 0), 99⟩
theorem wl1 : Weave.insert [] (1, 0) (0, 0) 97 = (0, [lw1]) := by kernel_rfl
theorem wl2 : Weave.insert [lw1] (2, 0) (1, 0) 98 = (0, [lw1, lw2]) := by kernel_rfl
theorem wl3 : Weave.insert [lw1, lw2] (2, 1) (0, 0) 99 = (0, [lw1, lw2, lw3]) := by kernel_rfl
theorem wl4 : Weave.insert [lw1, lw2, lw3] (2, 1) (0, 0) 99 = (7, [lw1, lw2, lw3]) := by kernel_rfl
theorem wl5 : Weave.insert [lw1, lw2, lw3] (5, 1) (4, 0) 99 = (6, [lw1, lw2, lw3]) := by kernel_rfl
theorem wl6 : Weave.drop [lw1, lw2, lw3] (1, 0) = (8, [lw1, lw2, lw3]) := by kernel_rfl
theorem wl7 : Weave.elements [lw1, lw2, lw3] = [lw3, lw1, lw2] := by kernel_rfl
theorem wl8 : Weave.place [lw1, lw2, lw3] (2, 0) = 2 := by kernel_rfl
theorem wl9 : Weave.has [lw1, lw2, lw3] (2, 0) = true := by kernel_rfl
theorem wl10 : Weave.drop [lw1, lw2, lw3] (2, 0) = (0, [lw1, lw3]) := by kernel_rfl
theorem wl11 : (Weave.kids [lw1, lw3] (0, 0)).reverse = [(2, 1), (1, 0)] := by kernel_rfl

theorem law11_id (t s : Int) (w : World) : Calls Try.prog 31 #[.int .i64 t, .int .i64 s] w fun e w' => e = .returned (.agg #[.int .i64 t, .int .i64 s]) ∧ Below w.heap.size w w' := by
  go_enter Try.func31, Try.ntmps31
  go_wp2
  refine bodyPost_ret (v := .agg #[.int .i64 t, .int .i64 s]) (by simp [results, Try.results31, go_sem]) rfl ?_
  exact ⟨rfl, grew_alloc _ _⟩

theorem lit_two (w : World) (a b : Int × Int) : SliceG 2 idL (w.alloc (.cells #[.int .i64 a.1, .int .i64 a.2, .int .i64 b.1, .int .i64 b.2] 24)) (.slice (some ⟨w.heap.size, 0, none⟩) 2 2) [a, b] :=
  own_ids_slice (ys := [a, b]) ⟨rfl, .inr ⟨w.heap.size, 2, #[.int .i64 a.1, .int .i64 a.2, .int .i64 b.1, .int .i64 b.2], rfl, Nat.zero_le _, heap_alloc_new _ _, Nat.le_refl _, by unfold maxLen; omega, rfl, rfl⟩⟩
theorem i64_small {x : Int} (h : 0 ≤ x ∧ x ≤ 9) : I64 x := by
  unfold I64
  omega

set_option maxRecDepth 100000 in
set_option maxHeartbeats 4000000 in
theorem law11_live (w : World) : Calls Try.prog 28 #[] w fun e w' => e = .returned (.bool true) ∧ Below w.heap.size w w' := by
  go_enter Try.func28, Try.ntmps28
  go_wp2_with fail
  refine (lv_New w).mono ?_
  rintro e w1 ⟨rfl, h1⟩
  have H1 := Lib.hid h1
  clear h1
  generalize w.heap.size = p at H1 ⊢
  have HI := H1
  clear H1
  go_wp2_with (first | (go_at_call 31; refine (law11_id _ _ _).mono ?_; rintro e wi ⟨rfl, hb⟩; have HI := Lib.hid (LvLine.grew HI.out hb); clear hb))
  refine (lv_Insert HI.out (1, 0) (0, 0) 97).mono ?_
  rintro e w2 ⟨rfl, h2⟩
  rw [wl1] at h2 ⊢
  have HI := Lib.hid h2
  clear h2
  go_wp2_with (first | (go_at_call 31; refine (law11_id _ _ _).mono ?_; rintro e wi ⟨rfl, hb⟩; have HI := Lib.hid (LvLine.grew HI.out hb); clear hb))
  refine (lv_Insert HI.out (2, 0) (1, 0) 98).mono ?_
  rintro e w3 ⟨rfl, h2⟩
  rw [wl2] at h2 ⊢
  have HI := Lib.hid h2
  clear h2
  go_wp2_with (first | (go_at_call 31; refine (law11_id _ _ _).mono ?_; rintro e wi ⟨rfl, hb⟩; have HI := Lib.hid (LvLine.grew HI.out hb); clear hb))
  refine (lv_Insert HI.out (2, 1) (0, 0) 99).mono ?_
  rintro e w4 ⟨rfl, h2⟩
  rw [wl3] at h2 ⊢
  have HI := Lib.hid h2
  clear h2
  go_wp2_with (first | (go_at_call 31; refine (law11_id _ _ _).mono ?_; rintro e wi ⟨rfl, hb⟩; have HI := Lib.hid (LvLine.grew HI.out hb); clear hb))
  refine (lv_Insert HI.out (2, 1) (0, 0) 99).mono ?_
  rintro e w5 ⟨rfl, h2⟩
  rw [wl4] at h2 ⊢
  have HI := Lib.hid h2
  clear h2
  go_wp2_with (first | (go_at_call 31; refine (law11_id _ _ _).mono ?_; rintro e wi ⟨rfl, hb⟩; have HI := Lib.hid (LvLine.grew HI.out hb); clear hb))
  refine (lv_Insert HI.out (5, 1) (4, 0) 99).mono ?_
  rintro e w6 ⟨rfl, h2⟩
  rw [wl5] at h2 ⊢
  have HI := Lib.hid h2
  clear h2
  go_wp2_with (first | (go_at_call 31; refine (law11_id _ _ _).mono ?_; rintro e wi ⟨rfl, hb⟩; have HI := Lib.hid (LvLine.grew HI.out hb); clear hb))
  refine (lv_Drop HI.out (1, 0) (i64_small (by decide)) (i64_small (by decide))).mono ?_
  rintro e w7 ⟨rfl, h2⟩
  rw [wl6] at h2 ⊢
  have HI := Lib.hid h2
  clear h2
  go_wp2_with (first | (go_at_call 31; refine (law11_id _ _ _).mono ?_; rintro e wi ⟨rfl, hb⟩; have HI := Lib.hid (LvLine.grew HI.out hb); clear hb))
  have HEL := Lib.hid (weave_Elements HI.out.ok HI.out.read (by rw [wl7]; decide))
  rw [wl7] at HEL
  refine HEL.out.mono ?_
  rintro e w8 ⟨v, rfl, ho, hb⟩
  have HX := Lib.hid ho.slice
  have HI := Lib.hid (LvLine.grew HI.out hb)
  obtain ⟨va, vc, rfl⟩ := HX.out.shape
  clear ho hb
  have HXK := Lib.hid (fun W (hb : Below w8.heap.size w8 W) => HX.out.below hb)
  have HW8 := Lib.hid (Below.refl w8.heap.size w8)
  go_wp2_with (first | (go_at_call 31; refine (law11_id _ _ _).mono ?_; rintro e wi ⟨rfl, hb⟩; have HI := Lib.hid (LvLine.grew HI.out hb); have HW8 := Lib.hid (grew HW8.out hb); clear hb))
  have HPL := Lib.hid (weave_Place HI.out.ok HI.out.read (2, 0) (i64_small (by decide)) (i64_small (by decide)) (by rw [wl7]; decide))
  rw [wl8, wl9] at HPL
  refine HPL.out.mono ?_
  rintro e w9 ⟨rfl, hb⟩
  have HI := Lib.hid (LvLine.grew HI.out hb)
  have HX9 := Lib.hid (HXK.out _ (grew HW8.out hb))
  clear hb
  obtain ⟨a', cap', he, _, hcs⟩ := HX9.out
  rcases hcs with h0 | ⟨b, off, hab, hlt, hcell⟩
  · cases h0
  injection he with he1 he2 he3
  subst he1 he3 hab
  have r0 : w9.cell? ⟨b, off + 4, none⟩ = some (.int .i64 99) := hcell 0 (by decide) 4 _ rfl
  have r1 : w9.cell? ⟨b, off + 6 + 4, none⟩ = some (.int .i64 97) := hcell 1 (by decide) 4 _ rfl
  have r2 : w9.cell? ⟨b, off + 12 + 4, none⟩ = some (.int .i64 98) := hcell 2 (by decide) 4 _ rfl
  have r1' : w9.cell? ⟨b, off + 10, none⟩ = some (.int .i64 97) := r1
  have r2' : w9.cell? ⟨b, off + 16, none⟩ = some (.int .i64 98) := r2
  clear hcell he2 hlt
  go_wp2_with (first | (go_at_call 31; refine (law11_id _ _ _).mono ?_; rintro e wi ⟨rfl, hb⟩; have HI := Lib.hid (LvLine.grew HI.out hb); clear hb))
  refine (lv_Drop HI.out (2, 0) (i64_small (by decide)) (i64_small (by decide))).mono ?_
  rintro e w10 ⟨rfl, h2⟩
  rw [wl10] at h2 ⊢
  have HI := Lib.hid h2
  clear h2 r0 r1 r2 r1' r2'
  go_wp2_with (first | (go_at_call 31; refine (law11_id _ _ _).mono ?_; rintro e wi ⟨rfl, hb⟩; have HI := Lib.hid (LvLine.grew HI.out hb); clear hb))
  refine (weave_Len HI.out.read).mono ?_
  rintro e w11 ⟨rfl, hb⟩
  have HI := Lib.hid (LvLine.grew HI.out hb)
  clear hb
  go_wp2_with (first | (go_at_call 31; refine (law11_id _ _ _).mono ?_; rintro e wi ⟨rfl, hb⟩; have HI := Lib.hid (LvLine.grew HI.out hb); clear hb))
  have HKD := Lib.hid (weave_Kids HI.out.read HI.out.ok.few (0, 0) (i64_small (by decide)) (i64_small (by decide)))
  rw [wl11] at HKD
  refine HKD.out.mono ?_
  rintro e w12 ⟨v12, rfl, hs, hb⟩
  have HI := Lib.hid (LvLine.grew HI.out hb)
  have HS := Lib.hid hs
  clear hs hb
  go_wp2_with (first | (go_at_call 31; refine (law11_id _ _ _).mono ?_; rintro e wi ⟨rfl, hb⟩; have HI := Lib.hid (LvLine.grew HI.out hb); have HS := Lib.hid (HS.out.below hb); clear hb))
  refine (ref10_Same _ _ [(2, 1), (1, 0)] [(2, 1), (1, 0)] _ (HS.out.below (grew_alloc _ _)) (lit_two _ (2, 1) (1, 0)) (by decide) (by decide)).mono ?_
  rintro e w13 ⟨rfl, hb⟩
  have HI := Lib.hid (LvLine.grew HI.out (grew (grew_alloc _ _) hb))
  clear hb
  rw [decide_eq_true (rfl : [((2 : Int), (1 : Int)), (1, 0)] = [(2, 1), (1, 0)])]
  go_wp2
  go_ret
  exact ⟨rfl, HI.out.bel⟩
end Go.Proofs.Ytohmhbjiapflpaa
