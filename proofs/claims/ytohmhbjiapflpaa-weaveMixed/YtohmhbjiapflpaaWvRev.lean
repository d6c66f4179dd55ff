/- slices.Reverse of Ids. -/
import Derived.Test.YtohmhbjiapflpaaIdCompact
import Derived.Test.YtohmhbjiapflpaaIdOrder
import Derived.Shelf.SlicesE.Reverse
namespace Go.Proofs.Ytohmhbjiapflpaa
open Go.RowKit Go.Maps Go.Lib Go.Sort
set_option linter.unusedVariables false

set_option maxRecDepth 100000 in
set_option maxHeartbeats 4000000 in
theorem ids_Reverse_arr (b cap : Nat) (d : Array (Int × Int)) (w : World) (h : IdRow w b d) (hm : d.size ≤ 1000000) :
    Calls Try.prog 61 #[.slice (some ⟨b, 0, none⟩) d.size cap] w fun e w' => e = .returned (.tuple #[]) ∧ IdRow w' b d.reverse ∧ Keep (Just b) w w' := by
  have H := Lib.hid h
  clear h
  have hw0 : IntKind.i64.wrap ((d.size : Int) - 1) = (d.size : Int) - 1 := by rw [IntKind.wrap_i64]; omega
  go_enter Try.func61, Try.ntmps61
  go_wp2
  go_loopw [2, 3] (fun s2 s3 wr => ∃ (i jn : Nat) (jz : Int) (dk : Array (Int × Int)), s2 = .int .i64 i ∧ s3 = .int .i64 jz ∧ ((i : Int) < jz → jz = jn ∧ jn < d.size) ∧ (¬ (i : Int) < jz → ¬ i < jn) ∧
    dk.size = d.size ∧ IdRow wr b dk ∧ Keep (Just b) w wr ∧ reverseLoop i jn dk = reverseLoop 0 (d.size - 1) d) (fun s2 s3 _ => (intOf s3 - intOf s2).toNat)
  case atStart => exact ⟨0, d.size - 1, (d.size : Int) - 1, d, rfl, rfl, fun h => ⟨by omega, by omega⟩, fun h => by omega, rfl, H.out, Keep.refl _ _, rfl⟩
  case round =>
    obtain ⟨i, jn, jz, dk, rfl, rfl, h1, h2, hds, hrow, hkeep, heq⟩ := hrel
    have HR := Lib.hid hrow
    have HK := Lib.hid hkeep
    have HDS := Lib.hid hds
    have HEQ := Lib.hid heq
    clear hrow hkeep heq
    by_cases hlt : (i : Int) < jz
    · obtain ⟨rfl, hjn⟩ := h1 hlt
      have hij : i < jn := by omega
      have e1 : decide ((i : Int) < (jn : Int)) = true := decide_eq_true hlt
      have e2 : decide (i < jn) = true := decide_eq_true hij
      obtain ⟨⟨a0, a1⟩, f0, f1⟩ := HR.out.2 i (by omega)
      obtain ⟨⟨b0, b1⟩, f2, f3⟩ := HR.out.2 jn (by omega)
      have HSW : Hid (swp dk i jn = (dk.setIfInBounds i dk[jn]!).setIfInBounds jn dk[i]!) := Lib.hid rfl
      generalize dk[i]! = u at a0 a1 HSW
      generalize dk[jn]! = v at b0 b1 HSW
      obtain ⟨u1, u2⟩ := u
      obtain ⟨v1, v2⟩ := v
      simp only at a0 a1 b0 b1
      have hb1 : (i : Int) < (d.size : Int) := by omega
      have hb2 : (jn : Int) < (d.size : Int) := by omega
      have hw1 : IntKind.i64.wrap ((i : Int) + 1) = (i : Int) + 1 := by rw [IntKind.wrap_i64]; omega
      have hw2 : IntKind.i64.wrap ((jn : Int) - 1) = (jn : Int) - 1 := by rw [IntKind.wrap_i64]; omega
      have HIJ := Lib.hid (And.intro hij hjn)
      clear h1 h2 hds hlt
      go_wp2_with fail
      go_region
      all_goals
        have HR2 := Lib.hid (((HR.out.set (k := i) (by have := HDS.out; omega) v1 v2).set (k := jn) (by have := HDS.out; rw [Array.size_setIfInBounds]; omega) u1 u2).keep (Keep.of_grew (grew_drew _) Non) (fun h => h))
        have HK2 := Lib.hid (((((HK.out.trans (Keep.setCell _ b (i * 2) (.int .i64 v1)) (fun _ _ h => h)).trans (Keep.setCell _ b (i * 2 + 1) (.int .i64 v2)) (fun _ _ h => h)).trans (Keep.setCell _ b (jn * 2) (.int .i64 u1)) (fun _ _ h => h)).trans (Keep.setCell _ b (jn * 2 + 1) (.int .i64 u2)) (fun _ _ h => h)).trans (Keep.of_grew (grew_drew _) (Just b)) (fun _ _ h => h))
        rw [← HSW.out] at HR2
        go_wp2
        go_roundw
        case rel =>
          have heq := HEQ.out
          rw [reverseLoop, if_pos HIJ.out.1] at heq
          have h3 := HIJ.out.1
          have h4 := HIJ.out.2
          exact ⟨i + 1, jn - 1, (jn : Int) - 1, swp dk i jn, by go_num, by go_num, fun h => ⟨by omega, by omega⟩, fun h => by omega, by rw [size_swp]; exact HDS.out, HR2.out, HK2.out, heq⟩
        case measure => simp [intOf]; omega
    · have hnot := h2 hlt
      have e1 : decide ((i : Int) < jz) = false := decide_eq_false hlt
      go_wp2
      go_end0
      have h3 := HEQ.out
      rw [reverseLoop, if_neg hnot, Lib.reverseLoop_reverse] at h3
      rw [h3] at HR
      exact ⟨rfl, HR.out, HK.out⟩
/-- The same over a list. -/
theorem ids_Reverse (v : Value) (xs : List (Int × Int)) (w : World) (ho : Owns w 24 2 v xs.length (idCells xs)) (hm : xs.length ≤ 1000000) :
    Calls Try.prog 61 #[v] w fun e w' => e = .returned (.tuple #[]) ∧ SliceG 2 idL w' v xs.reverse ∧ Keep (At v) w w' := by
  rcases ho.2 with ⟨rfl, h0⟩ | ⟨g, cap, cur, rfl, _, hg, hn, _⟩
  · obtain rfl : xs = [] := List.eq_nil_of_length_eq_zero h0
    have hw0 : IntKind.i64.wrap ((0 : Int) - 1) = -1 := by decide
    have : Calls Try.prog 61 #[.slice none 0 0] w fun e w' => e = .returned (.tuple #[]) ∧ w' = w := by
      go_enter Try.func61, Try.ntmps61
      go_wp2
      go_loopw [2, 3] (fun s2 s3 wr => s2 = .int .i64 0 ∧ s3 = .int .i64 (-1) ∧ wr = w) (fun _ _ _ => 0)
      case atStart => exact ⟨rfl, rfl, rfl⟩
      case round =>
        obtain ⟨rfl, rfl, rfl⟩ := hrel
        go_wp2
        go_end0
        exact ⟨rfl, rfl⟩
    refine this.mono ?_
    rintro e w' ⟨he, rfl⟩
    exact ⟨he, ⟨none, 0, rfl, Nat.le_refl _, .inl rfl⟩, Keep.refl _ _⟩
  · have h := ids_Reverse_arr g cap xs.toArray w (Owns.idRow ho).1 (by simpa using hm)
    rw [List.size_toArray] at h
    refine h.mono ?_
    rintro e w' ⟨he, hr, hk⟩
    refine ⟨he, ?_, hk.more (fun i _ e => by have e : i = g := e; rw [e]; rfl)⟩
    rw [List.reverse_toArray] at hr
    have := IdRow.slice (cap := cap) hr (by simpa using hn)
    rw [List.length_reverse] at this
    exact this
end Go.Proofs.Ytohmhbjiapflpaa
