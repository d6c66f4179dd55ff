/- A log: New, Get, Add. -/
import Derived.Test.YtcmdfjeiefgmhaaPaMem
namespace Go.Proofs.Ytcmdfjeiefgmhaa
open Go.RowKit
set_option linter.unusedVariables false

abbrev PaT : TypeId := 121

theorem past_New (w : World) : Calls Try.prog 35 #[] w fun e w' => e = .returned (.pointer (some ⟨w.heap.size, 0, none⟩)) ∧ LogV 121 w.heap.size [] w' (fun k => k = w.heap.size) ∧ Below w.heap.size w w' := by
  have H := Lib.hid (Holds.new w [.slice none 0 0] 121)
  have HB := Lib.hid (grew_alloc w (.cells #[.slice none 0 0] 121))
  go_enter Try.func35, Try.ntmps35
  go_wp2
  go_ret
  exact ⟨rfl, ⟨_, H.out, OwnS.nil _, fun g hg => (by cases hg), fun _ => rfl, fun k => ⟨.inl, fun h => h.elim id (fun h => (by cases h))⟩⟩, HB.out⟩

theorem Past.line_at {L : List ByteArray} {i : Nat} (hi : i < L.length) : Past.line L (i : Int) = L[i] := by
  unfold Past.line
  rw [if_pos (by omega), Int.toNat_natCast, List.getD_eq_getElem?_getD, List.getElem?_eq_getElem hi]
  rfl
theorem Past.line_no {L : List ByteArray} {e : Int} (h : ¬ (0 ≤ e ∧ e < L.length)) : Past.line L e = ⟨#[]⟩ ∧ Past.has L e = false := ⟨by unfold Past.line; rw [if_neg h], by unfold Past.has; exact decide_eq_false h⟩
theorem LogV.cells {t : TypeId} {p : Nat} {L : List ByteArray} {w : World} {F : Nat → Prop} (h : LogV t p L w F) : ∃ a cap, w.cell? ⟨p, 0, none⟩ = some (.slice a L.length cap) ∧ ∀ i (hi : i < L.length), ∃ b off, a = some ⟨b, off, none⟩ ∧ w.cell? ⟨b, off + i, none⟩ = some (.string L[i]) := by
  obtain ⟨v, h1, h2, _⟩ := h
  have c0 := h1.cell 0 (by simp)
  simp only [List.getElem_cons_zero] at c0
  obtain ⟨a, cap, e, _, hr⟩ := h2.slice
  subst e
  refine ⟨a, cap, c0, fun i hi => ?_⟩
  rcases hr with rfl | ⟨b, off, ha, _, hc⟩
  · simp at hi
  · exact ⟨b, off, ha, hc i hi⟩

set_option maxHeartbeats 1000000 in
theorem past_Get {p : Nat} {L : List ByteArray} {w : World} {F : Nat → Prop} (h : LogV 121 p L w F) (e : Int) :
    Calls Try.prog 39 #[.pointer (some ⟨p, 0, none⟩), .int .i64 e] w fun r w' => r = .returned (.tuple #[.string (Past.line L e), .bool (Past.has L e)]) ∧ w = w' := by
  obtain ⟨a, cap, c0, hc⟩ := h.cells
  clear h
  by_cases h0 : e < 0
  · obtain ⟨k1, k2⟩ := Past.line_no (L := L) (e := e) (by omega)
    rw [k1, k2]
    have d1 : decide (e < 0) = true := decide_eq_true h0
    clear k1 k2 hc
    go_enter Try.func39, Try.ntmps39
    go_wp2
    go_ret2
    exact ⟨rfl, rfl⟩
  · obtain ⟨i, rfl⟩ : ∃ i : Nat, e = i := ⟨e.toNat, by omega⟩
    have d1 : decide ((i : Int) < 0) = false := decide_eq_false h0
    by_cases hi : i < L.length
    · have d2 : decide ((L.length : Int) ≤ (i : Int)) = false := decide_eq_false (by omega)
      have d3 : decide (L.length ≤ i) = false := decide_eq_false (by omega)
      have hia : (i : Int) < (L.length : Int) := by omega
      obtain ⟨b, off, rfl, c1⟩ := hc i hi
      have HL := Lib.hid (Past.line_at hi)
      have HH : Hid (Past.has L (i : Int) = true) := Lib.hid (decide_eq_true (by omega))
      rw [HL.out, HH.out]
      clear hc HL HH
      generalize L[i] = s at *
      go_enter Try.func39, Try.ntmps39
      go_wp2
      go_ret2
      exact ⟨rfl, rfl⟩
    · have d2 : decide ((L.length : Int) ≤ (i : Int)) = true := decide_eq_true (by omega)
      have d3 : decide (L.length ≤ i) = true := decide_eq_true (by omega)
      obtain ⟨k1, k2⟩ := Past.line_no (L := L) (e := i) (by omega)
      rw [k1, k2]
      clear k1 k2 hc
      go_enter Try.func39, Try.ntmps39
      go_wp2
      go_ret2
      exact ⟨rfl, rfl⟩
theorem past_Get_nil (e : Int) (w : World) : Calls Try.prog 39 #[.pointer none, .int .i64 e] w fun r w' => r = .returned (.tuple #[.string ⟨#[]⟩, .bool false]) ∧ w = w' := by
  go_enter Try.func39, Try.ntmps39
  go_wp2
  go_ret2
  exact ⟨rfl, rfl⟩
theorem past_Add_nil (e : Int) (s : ByteArray) (w : World) : Calls Try.prog 37 #[.pointer none, .int .i64 e, .string s] w fun r w' => r = .returned (.int .i64 1) ∧ w = w' := by
  go_enter Try.func37, Try.ntmps37
  go_wp2
  go_ret
  exact ⟨rfl, rfl⟩
theorem past_All_nil (w : World) : Calls Try.prog 42 #[.pointer none] w fun r w' => r = .returned (.slice none 0 0) ∧ w = w' := by
  go_enter Try.func42, Try.ntmps42
  go_wp2
  go_ret
  exact ⟨rfl, rfl⟩

theorem past_again (a b : ByteArray) (w : World) : Calls Try.prog 69 #[.string a, .string b] w fun r w' => r = .returned (.int .i64 (if a = b then 7 else 8)) ∧ w = w' := by
  by_cases h : a = b
  · have d := str_same h
    have HR : Hid ((if a = b then (7 : Int) else 8) = 7) := Lib.hid (if_pos h)
    rw [HR.out]
    clear h HR
    go_enter Try.func69, Try.ntmps69
    go_wp2
    go_ret
    exact ⟨rfl, rfl⟩
  · have d := str_other h
    have HR : Hid ((if a = b then (7 : Int) else 8) = 8) := Lib.hid (if_neg h)
    rw [HR.out]
    clear h HR
    go_enter Try.func69, Try.ntmps69
    go_wp2
    go_ret
    exact ⟨rfl, rfl⟩

/-- One line more. -/
theorem LogV.more {t : TypeId} (ht : t ≠ 9) {p : Nat} {L : List ByteArray} {w w1 : World} {F : Nat → Prop} {v v1 : Value} {s : ByteArray} (h1 : Holds w p [v] t) (h3 : ∀ g, v.ownBlock = some g → g ≠ p) (h5 : ∀ k, F k ↔ k = p ∨ v.ownBlock = some k)
    (ho : OwnS w1 v1 (L ++ [s])) (hk : Keep (At v) w w1) (hn : Near w v v1) : TStep (LogV t p (L ++ [s])) w F (w1.setCell ⟨p, 0, none⟩ v1) := by
  have hp : ¬ At v p := fun e => h3 p e rfl
  have hh := h1.keep hk hp
  have kk : Keep (Just p) w1 (w1.setCell ⟨p, 0, none⟩ v1) := Keep.setCell _ _ _ _
  have hap : ∀ g, v1.ownBlock = some g → g ≠ p := fun g hg e => by
    subst e
    rcases hn g hg with q | q
    · exact h3 g q rfl
    · have := h1.lt; omega
  have hne : v1 ≠ .slice none 0 0 := fun e => by
    obtain ⟨a, cap, e2⟩ := ho.form
    rw [e2] at e
    injection e with _ e _
    simp at e
  refine ⟨fun k => k = p ∨ v1.ownBlock = some k, ⟨v1, by have := hh.set 0 v1 (by simp); simpa using this, ho.keep kk (fun g hg e => hap g hg e), hap, fun e => by simp at e, fun k => Iff.rfl⟩, ?_, fun k hk => ?_⟩
  · exact (hk.more (fun i _ e => (h5 i).2 (.inr e))).trans kk (fun i _ e => (h5 i).2 (.inl e))
  · rcases hk with rfl | hk
    · exact .inl ((h5 _).2 (.inl rfl))
    · rcases hn k hk with q | q
      · exact .inl ((h5 k).2 (.inr q))
      · exact .inr q

set_option maxRecDepth 100000 in
set_option maxHeartbeats 2000000 in
theorem past_Add {p : Nat} {L : List ByteArray} {w : World} {F : Nat → Prop} (h : LogV 121 p L w F) (hL : L.length ≤ 10000) (e : Int) (s : ByteArray) :
    Calls Try.prog 37 #[.pointer (some ⟨p, 0, none⟩), .int .i64 e, .string s] w fun r w' => r = .returned (.int .i64 (Past.add L e s).1) ∧ TStep (LogV 121 p (Past.add L e s).2) w F w' := by
  have HS := Lib.hid (TStep.same (LogV.good _ _ _) h (Below.refl _ _))
  have HG := Lib.hid (past_Get h e)
  have HA : Hid (Past.add L e s = if e < 0 ∨ 20000 < s.size then (1, L) else if e < L.length then (if L.getD e.toNat ⟨#[]⟩ = s then 7 else 8, L) else if (L.length : Int) < e then (6, L) else if 10000 ≤ L.length then (5, L) else (0, L ++ [s])) := Lib.hid rfl
  generalize Past.add L e s = q at HA ⊢
  by_cases h0 : e < 0
  · obtain rfl : q = (1, L) := by rw [HA.out, if_pos (.inl h0)]
    have d1 : decide (e < 0) = true := decide_eq_true h0
    clear h HA h0
    go_enter Try.func37, Try.ntmps37
    go_wp2
    go_ret
    exact ⟨rfl, HS.out⟩
  · have d1 : decide (e < 0) = false := decide_eq_false h0
    by_cases hz : 20000 < s.size
    · obtain rfl : q = (1, L) := by rw [HA.out, if_pos (.inr hz)]
      have d2 : decide ((20000 : Int) < (s.size : Int)) = true := decide_eq_true (by omega)
      clear h HA h0 hz
      go_enter Try.func37, Try.ntmps37
      go_wp2
      go_ret
      exact ⟨rfl, HS.out⟩
    · have d2 : decide ((20000 : Int) < (s.size : Int)) = false := decide_eq_false (by omega)
      rw [if_neg (by omega)] at HA
      by_cases hi : e < L.length
      · rw [if_pos hi] at HA
        obtain ⟨i, rfl⟩ : ∃ i : Nat, e = i := ⟨e.toNat, by omega⟩
        have hin : i < L.length := by omega
        have HL := Lib.hid (Past.line_at hin)
        have HH : Hid (Past.has L (i : Int) = true) := Lib.hid (decide_eq_true (by omega))
        rw [HL.out, HH.out] at HG
        obtain rfl : q = (if L[i] = s then 7 else 8, L) := by rw [HA.out, Int.toNat_natCast, List.getD_eq_getElem?_getD, List.getElem?_eq_getElem hin]; rfl
        clear h HA h0 hz hi HL HH
        generalize L[i] = l at *
        have HAG := Lib.hid (past_again l s)
        generalize (if l = s then (7 : Int) else 8) = z at HAG ⊢
        go_enter Try.func37, Try.ntmps37
        go_wp2_with fail
        refine HG.out.mono ?_
        rintro r w1 ⟨rfl, hw⟩
        subst hw
        go_wp2_with fail
        refine (HAG.out _).mono ?_
        rintro r w2 ⟨rfl, hw⟩
        subst hw
        go_wp2
        go_ret
        exact ⟨rfl, HS.out⟩
      · rw [if_neg hi] at HA
        obtain ⟨k1, k2⟩ := Past.line_no (L := L) (e := e) (by omega)
        rw [k1, k2] at HG
        clear k1 k2
        obtain ⟨v, g1, g2, g3, g4, g5⟩ := h
        obtain ⟨a, cap, rfl⟩ := g2.form
        have c0 := g1.cell 0 (by simp)
        have f0 := g1.frozen 0
        simp only [List.getElem_cons_zero] at c0
        have HO := Lib.hid g2
        have HH := Lib.hid g1
        have H3 := Lib.hid g3
        have H5 := Lib.hid g5
        clear g1 g2 g3 g4 g5
        by_cases hgt : (L.length : Int) < e
        · obtain rfl : q = (6, L) := by rw [HA.out, if_pos hgt]
          have d3 : decide ((L.length : Int) < e) = true := decide_eq_true hgt
          clear HA h0 hz hi hgt
          go_enter Try.func37, Try.ntmps37
          go_wp2_with fail
          refine HG.out.mono ?_
          rintro r w1 ⟨rfl, hw⟩
          subst hw
          go_wp2
          go_ret
          exact ⟨rfl, HS.out⟩
        · rw [if_neg hgt] at HA
          have d3 : decide ((L.length : Int) < e) = false := decide_eq_false hgt
          by_cases hf : 10000 ≤ L.length
          · obtain rfl : q = (5, L) := by rw [HA.out, if_pos hf]
            have d4 : decide ((10000 : Int) ≤ (L.length : Int)) = true := decide_eq_true (by omega)
            clear HA h0 hz hi hgt hf
            go_enter Try.func37, Try.ntmps37
            go_wp2_with fail
            refine HG.out.mono ?_
            rintro r w1 ⟨rfl, hw⟩
            subst hw
            go_wp2
            go_ret
            exact ⟨rfl, HS.out⟩
          · obtain rfl : q = (0, L ++ [s]) := by rw [HA.out, if_neg hf]
            have d4 : decide ((10000 : Int) ≤ (L.length : Int)) = false := decide_eq_false (by omega)
            clear HA h0 hz hi hgt hf
            go_enter Try.func37, Try.ntmps37
            go_wp2_with fail
            refine HG.out.mono ?_
            rintro r w1 ⟨rfl, hw⟩
            subst hw
            go_wp2_with (at_builtin; refine wp_append_text rfl (.tmp 47) (.tmp 49) rfl (.slice a L.length cap) L s rfl rfl HO.out (by omega) ?_; intro v1 w1 ho1 hk1 hn1; have HH1 := Lib.hid (HH.out.keep hk1 (fun e => H3.out p e rfl)); have c1 := HH1.out.cell 0 (by simp); have f1 := HH1.out.frozen 0; simp only [List.getElem_cons_zero] at c1; have HT := Lib.hid (LogV.more (by decide) HH.out H3.out H5.out ho1 hk1 hn1); obtain ⟨a1, cap1, rfl⟩ : ∃ a1 cap1, v1 = .slice a1 (L.length + 1) cap1 := by { obtain ⟨a, c, e⟩ := ho1.form; exact ⟨a, c, by rw [e, List.length_append]; rfl⟩ }; clear ho1 hk1 hn1)
            go_ret
            exact ⟨rfl, HT.out⟩
end Go.Proofs.Ytcmdfjeiefgmhaa
