/- Names of elements: which of two is first. -/
import Derived.Test.YtohmhbjiapflpaaInts
import Derived.Sort.Grow
import Derived.StillTailTactics
namespace Go.Proofs.Ytohmhbjiapflpaa
open Go.RowKit
open Go.Sort (grow grow_empty grow_grow alloc_eq_grow size_grow heap_grow_old)
set_option linter.unusedVariables false

def Idn.cmp1 (x y : Int) : Int := if x < y then -1 else if y < x then 1 else 0
def Idn.cmp (x y : Int × Int) : Int := if Idn.cmp1 x.1 y.1 ≠ 0 then Idn.cmp1 x.1 y.1 else Idn.cmp1 x.2 y.2
/-- The less of two. -/
def Idn.lt (x y : Int × Int) : Bool := decide (x.1 < y.1 ∨ x.1 = y.1 ∧ x.2 < y.2)
theorem Idn.cmp_lt (x y : Int × Int) : decide (Idn.cmp x y < 0) = Idn.lt x y := by
  unfold Idn.cmp Idn.cmp1 Idn.lt
  rw [decide_eq_decide]
  split <;> (try split) <;> (try split) <;> (try split) <;> omega

theorem ret_num {k : IntKind} {a b : Int} (h : a = b) : Ending.returned (.int k a) = .returned (.int k b) := by rw [h]
theorem ret_bo {a b : Bool} (h : a = b) : Ending.returned (.bool a) = .returned (.bool b) := by rw [h]

def idL (x : Int × Int) : List Value := [.int .i64 x.1, .int .i64 x.2]
def idV (x : Int × Int) : Value := .agg #[.int .i64 x.1, .int .i64 x.2]

/-- Blocks were laid, orders drawn, and nothing else. -/
def Grown (w w' : World) : Prop := ∃ q os, w' = grow (w.drewN q) os
theorem Grown.refl (w : World) : Grown w w := ⟨0, #[], by rw [grow_empty]; rfl⟩
theorem Grown.trans {a b c : World} (h : Grown a b) (k : Grown b c) : Grown a c := by
  obtain ⟨q, os, rfl⟩ := h
  obtain ⟨p, ps, rfl⟩ := k
  refine ⟨q + p, os ++ ps, ?_⟩
  show grow (grow ((a.drewN q).drewN p) os) ps = _
  rw [grow_grow, World.drewN_drewN]
theorem Grown.alloc (w : World) (o : Obj) : Grown w (w.alloc o) := ⟨0, #[o], by rw [alloc_eq_grow]; rfl⟩
theorem Grown.drew (w : World) : Grown w w.drew := ⟨1, #[], by rw [grow_empty]; rfl⟩
theorem Grown.drewN (w : World) (n : Nat) : Grown w (w.drewN n) := ⟨n, #[], by rw [grow_empty]⟩
theorem Grown.below {w w' : World} (h : Grown w w') : Below w.heap.size w w' := by
  obtain ⟨q, os, rfl⟩ := h
  exact ⟨rfl, rfl, rfl, by rw [size_grow]; exact Nat.le_add_right _ _, fun i hi => by rw [heap_grow_old (w.drewN q) os hi]; rfl⟩

theorem cmp_Compare (x y : Int) (w : World) : Calls Try.prog 79 #[.int .i64 x, .int .i64 y] w fun e w' => e = .returned (.int .i64 (Idn.cmp1 x y)) ∧ w' = w := by
  go_enter Try.func79, Try.ntmps79
  go_wp2
  all_goals
    go_ret
    refine ⟨ret_num ?_, rfl⟩
    unfold Idn.cmp1
    split <;> (try split) <;> omega

set_option maxHeartbeats 1000000 in
theorem cmp_Or (a b : Int) (g : Nat) (w : World) (h0 : w.cell? ⟨g, 0, none⟩ = some (.int .i64 a)) (h1 : w.cell? ⟨g, 1, none⟩ = some (.int .i64 b)) : Calls Try.prog 78 #[.slice (some ⟨g, 0, none⟩) 2 2] w fun e w' => e = .returned (.int .i64 (if a ≠ 0 then a else b)) ∧ w' = w := by
  generalize hr : (if a ≠ 0 then a else b) = r
  have HR := Lib.hid hr
  have H0 := Lib.hid h0
  have H1 := Lib.hid h1
  clear h0 h1 hr
  go_enter Try.func78, Try.ntmps78
  go_wp2
  go_loopw [8] (fun i wr => wr = w ∧ ∃ k : Nat, k ≤ 2 ∧ i = .int .i64 k ∧ (1 ≤ k → a = 0) ∧ (k = 2 → b = 0)) (fun i _ => 2 - (intOf i).toNat)
  case atStart => exact ⟨rfl, 0, by omega, rfl, by omega, by omega⟩
  case round =>
    obtain ⟨rfl, k, hk, rfl, ha, hb⟩ := hrel
    rcases (by omega : k = 0 ∨ k = 1 ∨ k = 2) with rfl | rfl | rfl
    · have l0 := H0.out
      by_cases hz : a = 0
      · have hd : (a != 0) = false := by simp [hz]
        clear ha hb
        go_wp2
        go_roundw
        case rel => exact ⟨trivial, 1, by omega, by go_num, fun _ => hz, by omega⟩
        case measure => simp [intOf]
      · have hd : (a != 0) = true := by simp [hz]
        clear ha hb
        go_wp2
        go_ret
        exact ⟨ret_num (by rw [← HR.out, if_pos hz]), rfl⟩
    · have l1 := H1.out
      have hz := ha (Nat.le_refl _)
      by_cases hy : b = 0
      · have hd : (b != 0) = false := by simp [hy]
        clear ha hb
        go_wp2
        go_roundw
        case rel => exact ⟨trivial, 2, by omega, by go_num, fun _ => hz, fun _ => hy⟩
        case measure => simp [intOf]
      · have hd : (b != 0) = true := by simp [hy]
        clear ha hb
        go_wp2
        go_ret
        exact ⟨ret_num (by rw [← HR.out, if_neg (by simp [hz])]), rfl⟩
    · have hz := ha (by omega)
      have hy := hb rfl
      clear ha hb
      go_wp2
      go_ret
      exact ⟨ret_num (by rw [← HR.out, if_neg (by simp [hz]), hy]), rfl⟩

/-- Two blocks one behind the other. -/
theorem two_blk (w : World) (A B : List Value) (t u : TypeId) : Holds ((w.alloc (.cells A.toArray t)).alloc (.cells B.toArray u)) w.heap.size A t ∧ Holds ((w.alloc (.cells A.toArray t)).alloc (.cells B.toArray u)) (w.heap.size + 1) B u := by
  have z1 : (w.alloc (.cells A.toArray t)).heap.size = w.heap.size + 1 := Array.size_push _
  refine ⟨(Holds.new w A t).keep (S := Non) (Keep.alloc _ _ _) (fun h => h), ?_⟩
  have := Holds.new (w.alloc (.cells A.toArray t)) B u
  rw [z1] at this
  exact this
theorem Holds.two {w : World} {g : Nat} {a b : Value} {t : TypeId} (h : Holds w g [a, b] t) : w.cell? ⟨g, 0, none⟩ = some a ∧ w.cell? ⟨g, 1, none⟩ = some b := ⟨h.cell 0 (by simp), h.cell 1 (by simp)⟩

set_option maxRecDepth 10000 in
set_option maxHeartbeats 1000000 in
theorem ident_compare (x y : Int × Int) (w : World) : Calls Try.prog 63 #[idV x, idV y] w fun e w' => e = .returned (.int .i64 (Idn.cmp x y)) ∧ Grown w w' := by
  have HE : Hid (Idn.cmp x y = if Idn.cmp1 x.1 y.1 ≠ 0 then Idn.cmp1 x.1 y.1 else Idn.cmp1 x.2 y.2) := Lib.hid rfl
  generalize Idn.cmp x y = r at HE ⊢
  unfold idV
  obtain ⟨x1, x2⟩ := x
  obtain ⟨y1, y2⟩ := y
  simp only at HE ⊢
  go_enter Try.func63, Try.ntmps63
  go_wp2_with fail
  obtain ⟨hx, hy⟩ := two_blk w [.int .i64 x1, .int .i64 x2] [.int .i64 y1, .int .i64 y2] 24 24
  have HG : Hid (Grown w ((w.alloc (.cells [.int .i64 x1, .int .i64 x2].toArray 24)).alloc (.cells [.int .i64 y1, .int .i64 y2].toArray 24))) := Lib.hid ((Grown.alloc _ _).trans (Grown.alloc _ _))
  obtain ⟨c0, c1⟩ := hx.two
  obtain ⟨d0, d1⟩ := hy.two
  clear hx hy
  generalize (w.alloc (.cells _ 24)).alloc (.cells _ 24) = W at *
  go_still_tail 10, (by kernel_rfl)
  still_call (cmp_Compare _ _ _)
  repeat still_step
  still_call (cmp_Compare _ _ _)
  repeat still_step
  refine wpStill_nil ?_
  change wpList _ _ _ _ _ (World.drew _)
  go_wp2_with fail
  have hn : Holds (W.alloc (.cells #[.int .i64 (Idn.cmp1 x1 y1), .int .i64 (Idn.cmp1 x2 y2)] 3)) W.heap.size [.int .i64 (Idn.cmp1 x1 y1), .int .i64 (Idn.cmp1 x2 y2)] 3 := Holds.new W [.int .i64 (Idn.cmp1 x1 y1), .int .i64 (Idn.cmp1 x2 y2)] 3
  refine (cmp_Or (Idn.cmp1 x1 y1) (Idn.cmp1 x2 y2) W.heap.size (World.drew (W.alloc (.cells #[.int .i64 (Idn.cmp1 x1 y1), .int .i64 (Idn.cmp1 x2 y2)] 3))) hn.two.1 hn.two.2).mono ?_
  rintro e w1 ⟨rfl, rfl⟩
  rw [← HE.out]
  clear hn c0 c1 d0 d1
  go_wp2
  go_ret
  exact ⟨rfl, (HG.out.trans (Grown.alloc _ _)).trans (Grown.drew _)⟩

set_option maxHeartbeats 1000000 in
theorem ident_Less (x y : Int × Int) (w : World) : Calls Try.prog 29 #[idV x, idV y] w fun e w' => e = .returned (.bool (Idn.lt x y)) ∧ Grown w w' := by
  have HC := Lib.hid (fun W => ident_compare x y W)
  have HE := Lib.hid (Idn.cmp_lt x y)
  generalize Idn.cmp x y = r at HC HE
  generalize Idn.lt x y = b at HE ⊢
  unfold idV at HC ⊢
  go_enter Try.func29, Try.ntmps29
  go_wp2_with fail
  refine (HC.out _).mono ?_
  rintro e w1 ⟨rfl, hg⟩
  have HG := Lib.hid (((Grown.alloc _ _).trans (Grown.alloc _ _)).trans hg)
  clear hg
  go_wp2
  go_ret
  exact ⟨ret_bo HE.out, HG.out⟩

/-- Whether one may be. -/
def Idn.may (x : Int × Int) : Bool := decide (1 ≤ x.1 ∧ x.1 ≤ 4294967295 ∧ 0 ≤ x.2 ∧ x.2 ≤ 15)
def Idn.chk (x : Int × Int) : Int := if Idn.may x then 0 else 1

theorem ident_isSite (n : Int) (w : World) : Calls Try.prog 64 #[.int .i64 n] w fun e w' => e = .returned (.bool (decide (0 ≤ n ∧ n ≤ 15))) ∧ w' = w := by
  go_enter Try.func64, Try.ntmps64
  go_wp2
  all_goals
    go_ret
    exact ⟨ret_bo (Bool.eq_iff_iff.2 (by simp <;> omega)), rfl⟩

set_option maxHeartbeats 1000000 in
theorem ident_Check (x : Int × Int) (w : World) : Calls Try.prog 30 #[idV x] w fun e w' => e = .returned (.int .i64 (Idn.chk x)) ∧ Grown w w' := by
  have HE : Hid (Idn.chk x = if Idn.may x then 0 else 1) := Lib.hid rfl
  generalize Idn.chk x = c at HE ⊢
  unfold idV
  obtain ⟨x1, x2⟩ := x
  simp only [Idn.may] at HE ⊢
  go_enter Try.func30, Try.ntmps30
  go_wp2_with (go_at_call 64; refine (ident_isSite _ _).mono ?_; rintro e w1 ⟨rfl, rfl⟩)
  all_goals
    go_ret
    refine ⟨ret_num ?_, Grown.alloc _ _⟩
    rw [HE.out]
    simp_all
    try omega
end Go.Proofs.Ytohmhbjiapflpaa
