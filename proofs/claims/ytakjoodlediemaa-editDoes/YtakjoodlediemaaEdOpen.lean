/- A gap is opened and closed. -/
import Derived.Test.YtakjoodlediemaaEdGap
namespace Go.Proofs.Ytakjoodlediemaa
open Go.RowKit
set_option linter.unusedVariables false

theorem copy_in {w0 w : World} {g r : Nat} {R : List Int} {a b n : Nat} (h : IsGap w0 w g r R a b n) {v : Value} {l : List Int} (hv : SliceI w0 v l) (hl : l.length ≤ n) :
    ∃ W u, (∀ ty, (Builtin.copy_ #[22, 22] ty #[.slice (some ⟨r, 0, none⟩) n n, v]).run Try.prog w = .ok u W) ∧ u = .int .i64 l.length ∧ IsGap w0 W g r (l ++ R.drop l.length) a b n := by
  obtain ⟨va, vc, rfl, hc, hrow⟩ := hv
  have key : ∀ (ad : Addr), (∀ j u, (intCells l)[j]? = some u → w.cell? (ad.add j) = some u) → ∃ W u, (∀ ty, (Builtin.copy_ #[22, 22] ty #[.slice (some ⟨r, 0, none⟩) n n, .slice (some ad) l.length vc]).run Try.prog w = .ok u W) ∧ u = .int .i64 l.length ∧ IsGap w0 W g r (l ++ R.drop l.length) a b n := by
    intro ad hsrc
    have hm : Nat.min l.length n = l.length := Nat.min_eq_left hl
    refine ⟨_, _, fun ty => run_copy_num w ty r 0 n n ad l.length vc (intCells R).toArray (intCells l) h.row (by rw [intCells_len, hm]) hsrc (by rw [intCells_len]; simp [intCells]; have := h.len; omega) (intCells_one _), by rw [hm]; rfl, ?_⟩
    have e : (intCells R).toArray.toList.take 0 ++ intCells l ++ (intCells R).toArray.toList.drop (0 + (intCells l).length) = intCells (l ++ R.drop l.length) := by
      rw [intCells_len]
      unfold intCells
      simp [List.map_drop]
    rw [e]
    obtain ⟨h1, h2⟩ := holds_row (w := w) h.row (intCells (l ++ R.drop l.length))
    refine ⟨h.box.keep h2 h.ne, h1, ?_, h.ab, h.bn, h.ne, h.newg, h.newr, h.bel.trans (h2.below h.bel.size (fun i e => by have e : i = r := e; rw [e]; exact h.newr))⟩
    simp only [List.length_append, List.length_drop, h.len]
    omega
  rcases hrow with rfl | ⟨b0, off, rfl, hb, hcells⟩
  · cases va with
    | some ad => exact key ad (fun j u hu => by simp [intCells] at hu)
    | none =>
      obtain ⟨i0, hi, hz0, hz1, hz2⟩ := info_parts info_i64
      refine ⟨w, .int .i64 0, fun ty => by simp [Builtin.copy_, run_underlying Try.underlying22, Builtin.lenOf, Builtin.firstCells, sizeOf, typeInfo, hi, goInt]; try rfl, rfl, ?_⟩
      rw [List.length_nil, List.drop_zero, List.nil_append]
      exact h
  · exact key ⟨b0, off, none⟩ (fun j u hu => by
      rw [show (⟨b0, off, none⟩ : Addr).add j = ⟨b0, off + j, none⟩ from by unfold Addr.add; split <;> simp_all]
      have hj : j < l.length := by
        have := (List.getElem?_eq_some_iff.1 hu).1
        rwa [intCells_len] at this
      rw [h.bel.cell (p := ⟨b0, off + j, none⟩) hb, hcells j hj]
      simpa [intCells, List.getElem?_eq_getElem hj] using hu)

set_option maxRecDepth 100000 in
set_option maxHeartbeats 4000000 in
theorem gap_open (v : Value) (l : List Int) (w : World) (hv : SliceI w v l) (hl : l.length ≤ 1000000) (k : Nat) (hk : k ≤ 1000000) :
    Calls Try.prog 28 #[v, .int .i64 k] w fun e w' => ∃ g r R, e = .returned (.pointer (some ⟨g, 0, none⟩)) ∧ IsGap w w' g r R l.length (l.length + k) (l.length + k) ∧ R.take l.length ++ R.drop (l.length + k) = l := by
  have HV := Lib.hid hv
  obtain ⟨va, vc, rfl⟩ := hv.shape
  clear hv
  obtain ⟨W, hmake, hown, hbel⟩ := ints_zeros Try.underlying22 (l.length + k) w (by omega)
  have hcast : ((l.length + k : Nat) : Int) = (l.length : Int) + (k : Int) := by omega
  have hmk := hmake
  rw [hcast] at hmk
  obtain ⟨N, hN⟩ : ∃ N, l.length + k = N := ⟨_, rfl⟩
  rw [hN] at hmk hmake hown ⊢
  have hrow : Holds W w.heap.size (intCells (List.replicate N 0)) 3 := by
    rcases hown.2 with ⟨e, _⟩ | ⟨g, cap, cur, e, _, hg, _, _, hsz, ht⟩
    · cases e
    · injection e with e1 e2 e3
      injection e1 with e1
      injection e1 with e1
      subst e1
      subst e3
      unfold Holds
      have hl : cur.toList = intCells (List.replicate N 0) := by rw [← ht, List.take_of_length_le]; simp [hsz]
      rw [← hl, Array.toArray_toList]
      exact hg
  have hG0 : IsGap w (W.alloc (.cells #[.slice (some ⟨w.heap.size, 0, none⟩) N N, .int .i64 (l.length : Int), .int .i64 ((l.length : Int) + (k : Int))] 77)) W.heap.size w.heap.size (List.replicate N 0) l.length N N := by
    rw [← hcast, hN]
    exact ⟨Holds.new W [.slice (some ⟨w.heap.size, 0, none⟩) N N, .int .i64 (l.length : Int), .int .i64 (N : Int)] 77, hrow.keep (Keep.alloc Non W _) (fun h => h), by simp, by omega, Nat.le_refl _, by have := hrow.lt; omega, hbel.size, Nat.le_refl _, hbel.trans (Below.mono (grew_alloc W _) hbel.size)⟩
  obtain ⟨W3, u, hcp, hu, hG3⟩ := copy_in hG0 HV.out (by omega)
  subst hu
  have HG3 := Lib.hid hG3
  have hc0 := (HG3.out.cells).1
  have hx0 := hG0.cells.1
  have HNN := Lib.hid hN
  clear hG3 hG0 hown hmake hrow hN hcast
  go_enter Try.func28, Try.ntmps28
  go_wp2
  go_ret
  refine ⟨_, _, _, rfl, HG3.out, ?_⟩
  rw [List.take_left, List.drop_eq_nil_of_le (by simp; have := HNN.out; omega), List.append_nil]

set_option maxRecDepth 100000 in
set_option maxHeartbeats 4000000 in
theorem gap_close {w0 w : World} {g r : Nat} {R : List Int} {a b n : Nat} (h : IsGap w0 w g r R a b n) (hn : n ≤ 10000000) :
    Calls Try.prog 30 #[.pointer (some ⟨g, 0, none⟩)] w fun e w' => ∃ v, e = .returned v ∧ OwnI w' v (R.take a ++ R.drop b) ∧ (∀ k, v.ownBlock = some k → w0.heap.size ≤ k) ∧ Below w0.heap.size w0 w' := by
  have HG := Lib.hid h
  clear h
  have hab := HG.out.ab
  have hbn := HG.out.bn
  have hlen := HG.out.len
  obtain ⟨c0, c1, c2, f1, f2⟩ := HG.out.cells
  have q1 : (a : Int) ≤ (n : Int) := by omega
  have q2 : (b : Int) ≤ (n : Int) := by omega
  have HOW : Hid (∀ W, Below w.heap.size w W → Owns W 3 1 (.slice (some ⟨r, 0, none⟩) a n) a (intCells (R.take a))) := Lib.hid (fun W hb => by
    have hr := (HG.out.grew hb).row
    refine ⟨by rw [intCells_len, List.length_take]; omega, .inr ⟨r, n, (intCells R).toArray, rfl, Nat.zero_le _, hr, by omega, by unfold maxLen; omega, by simp [intCells]; omega, ?_⟩⟩
    unfold intCells
    simp [List.map_take])
  have HSR : Hid (∀ W, Below w.heap.size w W → ∀ j u, (intCells (R.drop b))[j]? = some u → W.cell? ((⟨r, b, none⟩ : Addr).add j) = some u) := Lib.hid (fun W hb j u hu => by
    have := (HG.out.grew hb).src b (n - b) (by omega) j u (by rw [show b + (n - b) = n from by omega, List.take_of_length_le (by omega)]; exact hu)
    exact this)
  by_cases q5 : n = b
  · subst q5
    clear HSR
    go_enter Try.func30, Try.ntmps30
    go_wp2_with fail
    go_still_tail 18, (by kernel_rfl)
    change wpList _ _ _ _ _ w.drew
    go_wp2_with (at_builtin; refine wp_append_any rfl (.tmp 11) (.tmp 20) rfl Try.underlying22 info_i64 rfl (by decide) (by decide) (.slice (some ⟨r, 0, none⟩) a n) a (intCells (R.take a)) rfl (HOW.out _ (grew_drew w)) ⟨r, 0, none⟩ 0 0 (intCells (R.drop n)) rfl (by rw [List.drop_eq_nil_of_le (by omega)]; simp [intCells]) (by rw [List.drop_eq_nil_of_le (by omega)]; intro j u hu; simp [intCells] at hu) (intCells_one _) (by omega) ?_; intro v' w6 ho2 hk2 hn2; have HM6 := Lib.hid (And.intro ho2 (And.intro hk2 hn2)); clear ho2 hk2 hn2)
    go_ret
    refine ⟨v', rfl, ?_, fun k hk => ?_, ?_⟩
    · have h1 := HM6.out.1
      unfold OwnI
      rw [List.length_append, List.length_take, List.length_drop, hlen]
      unfold intCells at h1 ⊢
      rw [List.map_append]
      rw [show min a n + (n - n) = a + 0 from by omega]
      exact h1
    · rcases HM6.out.2.2 k hk with e | e
      · have e : some r = some k := e
        injection e with e
        rw [← e]
        exact HG.out.newr
      · exact Nat.le_trans HG.out.bel.size e
    · exact (HG.out.grew (grew_drew w)).bel.trans (HM6.out.2.1.below (HG.out.grew (grew_drew w)).bel.size (fun i e => by
        have e : some r = some i := e
        injection e with e
        rw [← e]
        exact HG.out.newr))
  · go_enter Try.func30, Try.ntmps30
    go_wp2_with fail
    go_still_tail 18, (by kernel_rfl)
    change wpList _ _ _ _ _ w.drew
    go_wp2_with (at_builtin; refine wp_append_any rfl (.tmp 11) (.tmp 20) rfl Try.underlying22 info_i64 rfl (by decide) (by decide) (.slice (some ⟨r, 0, none⟩) a n) a (intCells (R.take a)) rfl (HOW.out _ (grew_drew w)) ⟨r, b, none⟩ (n - b) (n - b) (intCells (R.drop b)) rfl (by rw [intCells_len, List.length_drop]; omega) (HSR.out _ (grew_drew w)) (intCells_one _) (by omega) ?_; intro v' w6 ho2 hk2 hn2; have HM6 := Lib.hid (And.intro ho2 (And.intro hk2 hn2)); clear ho2 hk2 hn2)
    go_ret
    refine ⟨v', rfl, ?_, fun k hk => ?_, ?_⟩
    · have h1 := HM6.out.1
      unfold OwnI
      rw [List.length_append, List.length_take, List.length_drop, hlen]
      unfold intCells at h1 ⊢
      rw [List.map_append]
      rw [show min a n + (n - b) = a + (n - b) from by omega]
      exact h1
    · rcases HM6.out.2.2 k hk with e | e
      · have e : some r = some k := e
        injection e with e
        rw [← e]
        exact HG.out.newr
      · exact Nat.le_trans HG.out.bel.size e
    · exact (HG.out.grew (grew_drew w)).bel.trans (HM6.out.2.1.below (HG.out.grew (grew_drew w)).bel.size (fun i e => by
        have e : some r = some i := e
        injection e with e
        rw [← e]
        exact HG.out.newr))
end Go.Proofs.Ytakjoodlediemaa
