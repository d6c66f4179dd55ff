/- What ident.Rank comes to, of a list that rises. -/
import Derived.Test.YtohmhbjiapflpaaIdOrder
namespace Go.Proofs.Ytohmhbjiapflpaa
open Go.RowKit
open Go.Sort (grow)
set_option linter.unusedVariables false

theorem SliceG.id {w : World} {a : Option Addr} {cap : Nat} {ys : List (Int × Int)} (h : SliceG 2 idL w (.slice a ys.length cap) ys) {i : Nat} (hi : i < ys.length) : ∃ b off, a = some ⟨b, off, none⟩ ∧ w.cell? ⟨b, off + i * 2, none⟩ = some (.int .i64 ys[i].1) ∧ w.cell? ⟨b, off + i * 2 + 1, none⟩ = some (.int .i64 ys[i].2) := by
  obtain ⟨b, off, e, _, hc⟩ := h.at hi
  exact ⟨b, off, e, hc 0 _ rfl, hc 1 _ rfl⟩

set_option maxRecDepth 100000 in
set_option maxHeartbeats 1000000 in
theorem ident_Rank1 (bl bx : Nat) (a : Option Addr) (cap : Nat) (ys : List (Int × Int)) (x : Int × Int) (i : Nat) (W : World) (hl : W.cell? ⟨bl, 0, none⟩ = some (.slice a ys.length cap)) (h0 : W.cell? ⟨bx, 0, none⟩ = some (.int .i64 x.1)) (h1 : W.cell? ⟨bx, 1, none⟩ = some (.int .i64 x.2)) (hs : SliceG 2 idL W (.slice a ys.length cap) ys) (hi : i < ys.length) (hm : ys.length ≤ 1000000000) :
    Calls Try.prog 85 #[.int .i64 i, .pointer (some ⟨bl, 0, none⟩), .pointer (some ⟨bx, 0, none⟩)] W fun e w' => e = .returned (.bool (!Idn.lt ys[i] x)) ∧ Grown W w' := by
  obtain ⟨b, off, rfl, c0, c1⟩ := hs.id hi
  have HL := Lib.hid (fun V => ident_Less ys[i] x V)
  generalize Idn.lt ys[i] x = r at HL ⊢
  generalize ys[i] = y at c0 c1 HL
  clear hs
  obtain ⟨x1, x2⟩ := x
  obtain ⟨y1, y2⟩ := y
  simp only [idV] at h0 h1 c0 c1 HL
  have hb : (i : Int) < (ys.length : Int) := by omega
  go_enter Try.func85, Try.ntmps85
  go_wp2_with fail
  go_still_tail 5, (by kernel_rfl)
  change wpList _ _ _ _ _ (World.drew _)
  go_wp2_with fail
  refine (HL.out _).mono ?_
  rintro e w1 ⟨rfl, hg⟩
  have HG := Lib.hid ((Grown.drew W).trans hg)
  clear hg hl h0 h1 c0 c1
  go_wp2
  go_ret
  exact ⟨rfl, HG.out⟩

set_option maxRecDepth 100000 in
set_option maxHeartbeats 2000000 in
theorem ident_Rank (v : Value) (ys : List (Int × Int)) (x : Int × Int) (w : World) (hv : SliceG 2 idL w v ys) (hp : ys.Pairwise (fun x y => Idn.lt x y = true)) (hm : ys.length ≤ 1000000000) :
    Calls Try.prog 73 #[v, idV x] w fun e w' => e = .returned (.tuple #[.int .i64 (Idn.rank ys x : Nat), .bool (decide (x ∈ ys))]) ∧ Below w.heap.size w w' := by
  have HV := Lib.hid hv
  obtain ⟨a, cap, rfl⟩ := hv.shape
  clear hv
  have HM := Lib.hid hm
  have HP := Lib.hid hp
  have eg : ∀ args w, (callFunc 85 args).run Try.prog w = .ok (.enter 85 args) w := enters_of Try.func85 (by kernel_rfl) rfl
  have hcnt : (List.range ys.length).countP (fun i => !(!Idn.lt ys[i]! x)) = Idn.rank ys x := by
    have h := Go.Lib.countP_range ys.toArray (fun y => Idn.lt y x)
    simp only [List.size_toArray, List.getElem!_toArray] at h
    simp only [Bool.not_not]
    rw [h]
    rfl
  have HSE : Hid (∀ (bl bx : Nat) (W : World), W.cell? ⟨bl, 0, none⟩ = some (.slice a ys.length cap) → W.cell? ⟨bx, 0, none⟩ = some (.int .i64 x.1) → W.cell? ⟨bx, 1, none⟩ = some (.int .i64 x.2) → bl < W.heap.size → bx < W.heap.size → SliceG 2 idL W (.slice a ys.length cap) ys → Calls Try.prog 84 #[.int .i64 ys.length, .func (.func 85) #[] #[.pointer (some ⟨bl, 0, none⟩), .pointer (some ⟨bx, 0, none⟩)]] W fun e w' => e = .returned (.int .i64 (Idn.rank ys x : Nat)) ∧ Grown W w') := Lib.hid (fun bl bx W q1 q2 q3 l1 l2 q4 => by
    have hcon := Any.sort_Search searchIdLays 85 #[.pointer (some ⟨bl, 0, none⟩), .pointer (some ⟨bx, 0, none⟩)] ys.length (fun i => !Idn.lt ys[i]! x) W eg (by have := HM.out; omega) (fun m os i hi => by
      have hb : Below W.heap.size W (grow (W.drewN m) os) := Grown.below ⟨m, os, rfl⟩
      have := ident_Rank1 bl bx a cap ys x i (grow (W.drewN m) os) (by rw [hb.cell (p := ⟨bl, 0, none⟩) l1]; exact q1) (by rw [hb.cell (p := ⟨bx, 0, none⟩) l2]; exact q2) (by rw [hb.cell (p := ⟨bx, 1, none⟩) l2]; exact q3) (q4.below hb) hi HM.out
      rw [getElem!_pos ys i hi]
      exact this) (fun i j hij hj h => by
      have h' : (!Idn.lt ys[i]! x) = true := h
      show (!Idn.lt ys[j]! x) = true
      rw [getElem!_pos ys i (by omega)] at h'
      rw [getElem!_pos ys j hj]
      rw [Idn.rank_at HP.out x i (by omega)] at h'
      rw [Idn.rank_at HP.out x j hj]
      simp at h' ⊢
      omega)
    rw [hcnt] at hcon
    exact hcon)
  clear hcnt eg hm hp
  have HMEM := Lib.hid (Idn.rank_mem HP.out x)
  have HRL := Lib.hid (Idn.rank_le ys x)
  generalize Idn.rank ys x = r at HSE HMEM HRL ⊢
  unfold idV
  obtain ⟨x1, x2⟩ := x
  simp only at HSE ⊢
  go_enter Try.func73, Try.ntmps73
  go_wp2_with fail
  obtain ⟨hx, hy⟩ := two_blk w [.slice a ys.length cap] [.int .i64 x1, .int .i64 x2] 41 24
  have HG : Hid (Grown w ((w.alloc (.cells [.slice a ys.length cap].toArray 41)).alloc (.cells [.int .i64 x1, .int .i64 x2].toArray 24))) := Lib.hid ((Grown.alloc _ _).trans (Grown.alloc _ _))
  have l0 := hx.cell 0 (by simp)
  simp only [List.getElem_cons_zero] at l0
  obtain ⟨d0, d1⟩ := hy.two
  have HX := Lib.hid hx
  have HY := Lib.hid hy
  clear hx hy
  generalize (w.alloc (.cells _ 41)).alloc (.cells _ 24) = W at *
  refine (HSE.out w.heap.size (w.heap.size + 1) W l0 d0 d1 HX.out.lt HY.out.lt (HV.out.below HG.out.below)).mono ?_
  rintro e w1 ⟨rfl, hg⟩
  have HG1 := Lib.hid (HG.out.trans hg)
  have HX1 := Lib.hid (HX.out.keep (Keep.of_grew hg.below Non) (fun h => h))
  have HY1 := Lib.hid (HY.out.keep (Keep.of_grew hg.below Non) (fun h => h))
  clear hg l0 d0 d1
  have l0 := HX1.out.cell 0 (by simp)
  simp only [List.getElem_cons_zero] at l0
  obtain ⟨d0, d1⟩ := HY1.out.two
  have hrl := HRL.out
  have hml := HM.out
  by_cases hr : r < ys.length
  · have e1 : decide ((r : Int) < (ys.length : Int)) = true := decide_eq_true (by omega)
    have hb : (r : Int) < (ys.length : Int) := by omega
    obtain ⟨b, off, rfl, c0, c1⟩ := (HV.out.below HG1.out.below).id hr
    have HQQ : Hid (decide (((x1, x2) : Int × Int) ∈ ys) = (decide (ys[r].1 = x1) && decide (ys[r].2 = x2))) := Lib.hid (by
      rw [Bool.eq_iff_iff]
      simp only [decide_eq_true_eq, Bool.and_eq_true]
      rw [HMEM.out]
      constructor
      · rintro ⟨_, e⟩; rw [e]; exact ⟨rfl, rfl⟩
      · rintro ⟨e2, e3⟩; exact ⟨hr, Prod.ext e2 e3⟩)
    generalize ys[r] = z at c0 c1 HQQ
    obtain ⟨z1, z2⟩ := z
    simp only at c0 c1 HQQ
    have hq := fun W => eql_id z1 z2 x1 x2 W
    have hgd := fun op a b W => guard_id op a b #[.int .i64 z1, .int .i64 z2] #[.int .i64 x1, .int .i64 x2] W
    go_wp2_with fail
    go_quiet (fail)
    go_wp2
    go_ret2
    exact ⟨by rw [HQQ.out]; rfl, grew HG1.out.below (grew_drewN _ _)⟩
  · have e1 : decide ((r : Int) < (ys.length : Int)) = false := decide_eq_false (by omega)
    have HQQ : Hid (decide (((x1, x2) : Int × Int) ∈ ys) = false) := Lib.hid (decide_eq_false (fun h => by obtain ⟨h1, _⟩ := HMEM.out.1 h; exact hr h1))
    go_wp2_with fail
    go_quiet (fail)
    go_wp2
    go_ret2
    exact ⟨by rw [HQQ.out]; rfl, grew HG1.out.below (grew_drewN _ _)⟩
end Go.Proofs.Ytohmhbjiapflpaa
