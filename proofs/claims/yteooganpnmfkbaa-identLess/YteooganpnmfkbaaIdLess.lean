/- Which of any two Ids is first. -/
import Derived.Test.YteooganpnmfkbaaIdOpen
import Derived.Shelf.SlSortCmp.QuietGrown
namespace Go.Proofs.Yteooganpnmfkbaa
open Go.RowKit
set_option linter.unusedVariables false

/-- Three Ids in boxes. -/
def ThreeIn (w0 : World) (n : Nat) (a b c : Int × Int) (w : World) : Prop := ((w.cell? ⟨n, 0, none⟩ = some (.int .i64 a.1) ∧ w.cell? ⟨n, 1, none⟩ = some (.int .i64 a.2) ∧ w.cell? ⟨n + 1, 0, none⟩ = some (.int .i64 b.1) ∧ w.cell? ⟨n + 1, 1, none⟩ = some (.int .i64 b.2) ∧ w.cell? ⟨n + 1 + 1, 0, none⟩ = some (.int .i64 c.1) ∧ w.cell? ⟨n + 1 + 1, 1, none⟩ = some (.int .i64 c.2))) ∧ n + 1 + 1 < w.heap.size ∧ Below w0.heap.size w0 w
theorem ThreeIn.below {w0 w w' : World} {n : Nat} {a b c : Int × Int} (h : ThreeIn w0 n a b c w) (hb : Below w.heap.size w w') : ThreeIn w0 n a b c w' := by
  obtain ⟨⟨h1, h2, h3, h4, h5, h6⟩, hl, h7⟩ := h
  refine ⟨⟨?_, ?_, ?_, ?_, ?_, ?_⟩, Nat.lt_of_lt_of_le hl hb.size, grew h7 hb⟩
  · rw [hb.cell (p := ⟨n, 0, none⟩) (by show n < _; omega)]; exact h1
  · rw [hb.cell (p := ⟨n, 1, none⟩) (by show n < _; omega)]; exact h2
  · rw [hb.cell (p := ⟨n + 1, 0, none⟩) (by show n + 1 < _; omega)]; exact h3
  · rw [hb.cell (p := ⟨n + 1, 1, none⟩) (by show n + 1 < _; omega)]; exact h4
  · rw [hb.cell (p := ⟨n + 1 + 1, 0, none⟩) hl]; exact h5
  · rw [hb.cell (p := ⟨n + 1 + 1, 1, none⟩) hl]; exact h6
theorem ThreeIn.drew {w0 w : World} {n : Nat} {a b c : Int × Int} (h : ThreeIn w0 n a b c w) : ThreeIn w0 n a b c w.drew := h.below (grew_drew w)
theorem ThreeIn.new (w : World) (a b c : Int × Int) : ThreeIn w w.heap.size a b c (((w.alloc (.cells #[.int .i64 a.1, .int .i64 a.2] 49)).alloc (.cells #[.int .i64 b.1, .int .i64 b.2] 49)).alloc (.cells #[.int .i64 c.1, .int .i64 c.2] 49)) := by
  obtain ⟨hx, hy⟩ := two_blk w [.int .i64 a.1, .int .i64 a.2] [.int .i64 b.1, .int .i64 b.2] 49 49
  have z : ((w.alloc (.cells #[.int .i64 a.1, .int .i64 a.2] 49)).alloc (.cells #[.int .i64 b.1, .int .i64 b.2] 49)).heap.size = w.heap.size + 1 + 1 := by
    have z1 : (w.alloc (.cells #[.int .i64 a.1, .int .i64 a.2] 49)).heap.size = w.heap.size + 1 := Array.size_push _
    rw [← z1]; exact Array.size_push _
  have hz := Holds.new ((w.alloc (.cells #[.int .i64 a.1, .int .i64 a.2] 49)).alloc (.cells #[.int .i64 b.1, .int .i64 b.2] 49)) [.int .i64 c.1, .int .i64 c.2] 49
  rw [z] at hz
  have hx := hx.keep (S := Non) (Keep.alloc _ _ (.cells #[.int .i64 c.1, .int .i64 c.2] 49)) (fun h => h)
  have hy := hy.keep (S := Non) (Keep.alloc _ _ (.cells #[.int .i64 c.1, .int .i64 c.2] 49)) (fun h => h)
  exact ⟨⟨hx.two.1, hx.two.2, hy.two.1, hy.two.2, hz.two.1, hz.two.2⟩, hz.lt, grew (grew (grew_alloc _ _) (grew_alloc _ _)) (grew_alloc _ _)⟩

theorem Idn.three (a b : Int × Int) : (Idn.lt a b = true ∧ Idn.lt b a = false ∧ a ≠ b) ∨ (Idn.lt a b = false ∧ Idn.lt b a = true ∧ a ≠ b) ∨ (Idn.lt a b = false ∧ Idn.lt b a = false ∧ a = b) := by
  by_cases e : a = b
  · subst e
    exact .inr (.inr ⟨Idn.lt_irrefl _, Idn.lt_irrefl _, rfl⟩)
  · rcases Idn.lt_total e with h | h
    · exact .inl ⟨h, Idn.lt_asymm h, e⟩
    · exact .inr (.inl ⟨Idn.lt_asymm h, h, e⟩)

set_option maxRecDepth 100000 in
set_option maxHeartbeats 4000000 in
theorem walk_IdentLess (a b c : Int × Int) (w : World) (ha : I64 a.1 ∧ I64 a.2) (hb : I64 b.1 ∧ I64 b.2) (hc : I64 c.1 ∧ I64 c.2) :
    Calls Try.prog 8 #[idV a, idV b, idV c] w fun e w' => e = .returned (.bool true) ∧ Below w.heap.size w w' := by
  clear ha hb hc
  have HAB := Lib.hid (fun W => ident_Less a b W)
  have HBA := Lib.hid (fun W => ident_Less b a W)
  have HBC := Lib.hid (fun W => ident_Less b c W)
  have HAC := Lib.hid (fun W => ident_Less a c W)
  have HRA := Lib.hid (fun W => ref10_Less a b W)
  have HCK := Lib.hid (fun W => ident_Check a W)
  have HRK := Lib.hid (fun W => ref10_Check a W)
  have HTR : Hid (Idn.lt a b = true → Idn.lt b c = true → Idn.lt a c = true) := Lib.hid Idn.lt_trans
  have H3 := Idn.three a b
  have HT := Lib.hid (ThreeIn.new w a b c)
  generalize Idn.lt a b = p at HAB HRA HTR H3
  generalize Idn.lt b a = q at HBA H3
  generalize Idn.lt b c = r at HBC HTR
  generalize Idn.lt a c = s at HAC HTR
  generalize Idn.chk a = k at HCK HRK
  unfold idV at HAB HBA HBC HAC HRA HCK HRK ⊢
  obtain ⟨a1, a2⟩ := a
  obtain ⟨b1, b2⟩ := b
  obtain ⟨c1, c2⟩ := c
  simp only at HAB HBA HBC HAC HRA HCK HRK HT ⊢
  have HE : Hid ((p = true ∧ q = false ∧ (decide (a1 = b1) && decide (a2 = b2)) = false) ∨ (p = false ∧ q = true ∧ (decide (a1 = b1) && decide (a2 = b2)) = false) ∨ (p = false ∧ q = false ∧ (decide (a1 = b1) && decide (a2 = b2)) = true)) := Lib.hid (by
    rcases H3 with ⟨h1, h2, h3⟩ | ⟨h1, h2, h3⟩ | ⟨h1, h2, h3⟩
    · refine .inl ⟨h1, h2, ?_⟩; simp at h3; by_cases e : a1 = b1 <;> simp [e]; exact h3 e
    · refine .inr (.inl ⟨h1, h2, ?_⟩); simp at h3; by_cases e : a1 = b1 <;> simp [e]; exact h3 e
    · refine .inr (.inr ⟨h1, h2, ?_⟩); simp at h3; simp [h3])
  clear H3
  go_enter Try.func8, Try.ntmps8
  go_wp2_with fail
  refine (HAB.out _).mono ?_
  rintro e w1 ⟨rfl, hg⟩
  have HT := Lib.hid (HT.out.below hg.below)
  clear hg
  obtain ⟨⟨l0, l1, l2, l3, l4, l5⟩, _⟩ := HT.out
  go_wp2_with fail
  refine (HBA.out _).mono ?_
  rintro e w2 ⟨rfl, hg⟩
  have HT := Lib.hid (HT.out.below hg.below)
  clear hg l0 l1 l2 l3 l4 l5
  have hq := fun W => eql_id a1 a2 b1 b2 W
  have hgd := fun op a b W => guard_id op a b #[.int .i64 a1, .int .i64 a2] #[.int .i64 b1, .int .i64 b2] W
  generalize heq : (decide (a1 = b1) && decide (a2 = b2)) = eq at HE
  have hq2 : ∀ W, (binOp .eql 49 (.agg #[.int .i64 a1, .int .i64 a2]) (.agg #[.int .i64 b1, .int .i64 b2])).run Try.prog W = .ok (.bool eq) W := fun W => by rw [hq W, ← heq]; simp [Bool.decide_and]
  have HEQ := Lib.hid heq
  clear hq heq
  have mixed : Try.prog.follows .mixedOrders = true := by kernel_rfl
  obtain ⟨⟨l0, l1, l2, l3, l4, l5⟩, hlt, _⟩ := HT.out
  have g0 := cell_grown (w := w2) (a := ⟨w.heap.size, 0, none⟩) (by show w.heap.size < _; omega) l0
  have g1 := cell_grown (w := w2) (a := ⟨w.heap.size, 1, none⟩) (by show w.heap.size < _; omega) l1
  have g2 := cell_grown (w := w2) (a := ⟨w.heap.size + 1, 0, none⟩) (by show w.heap.size + 1 < _; omega) l2
  have g3 := cell_grown (w := w2) (a := ⟨w.heap.size + 1, 1, none⟩) (by show w.heap.size + 1 < _; omega) l3
  clear l0 l1 l2 l3 l4 l5 hlt
  go_wp2_with fail
  rcases HE.out with ⟨rfl, rfl, rfl⟩ | ⟨rfl, rfl, rfl⟩ | ⟨rfl, rfl, rfl⟩
  all_goals
    go_quiet_grown (first
        | (go_at_call 32; exact Calls.grown_of (HRA.out _))
        | (go_at_call 33; exact Calls.grown_of (HCK.out _))
        | (go_at_call 34; exact Calls.grown_of (HRK.out _)))
    have HT := Lib.hid (HT.out.below (Grown.below (w' := Go.Sort.grow (w2.drewN nq) osq) ⟨nq, osq, rfl⟩))
    generalize Go.Sort.grow (w2.drewN nq) osq = w3 at *
    clear g0 g1 g2 g3
    obtain ⟨⟨l0, l1, l2, l3, l4, l5⟩, _⟩ := HT.out
  · go_wp2_with fail
    refine (HBC.out _).mono ?_
    rintro e w4 ⟨rfl, hg⟩
    have HT := Lib.hid (HT.out.below hg.below)
    clear hg l0 l1 l2 l3 l4 l5
    obtain ⟨⟨l0, l1, l2, l3, l4, l5⟩, _⟩ := HT.out
    cases r with
    | false =>
      go_wp2_with fail
      refine (law10_live _).mono ?_
      rintro e w6 ⟨rfl, hb⟩
      have HB := Lib.hid (grew HT.out.2.2 hb)
      clear hb
      go_wp2
      go_ret
      exact ⟨rfl, HB.out⟩
    | true =>
      have hs := HTR.out (by simp) (by simp)
      go_wp2_with fail
      refine (HAC.out _).mono ?_
      rintro e w5 ⟨rfl, hg⟩
      have HT := Lib.hid (HT.out.below hg.below)
      clear hg l0 l1 l2 l3 l4 l5
      rw [hs]
      go_wp2_with fail
      refine (law10_live _).mono ?_
      rintro e w6 ⟨rfl, hb⟩
      have HB := Lib.hid (grew HT.out.2.2 hb)
      clear hb
      go_wp2
      go_ret
      exact ⟨rfl, HB.out⟩
  all_goals
    go_wp2_with fail
    refine (law10_live _).mono ?_
    rintro e w6 ⟨rfl, hb⟩
    have HB := Lib.hid (grew HT.out.2.2 hb)
    clear hb
    go_wp2
    go_ret
    exact ⟨rfl, HB.out⟩
end Go.Proofs.Yteooganpnmfkbaa
