/- How wide runes are: the table in memory; Width, Total, Fit. -/
import Derived.Test.YtepddieblankpaaDoorInts0
import Derived.Test.YtepddieblankpaaDoorSliceG
import Derived.Test.YtepddieblankpaaDoorCelMath
import Derived.Laws.Rows
import Derived.Laws.Tables
namespace Go.Proofs.YtepddieblankpaaDoor
open Go.RowKit
set_option linter.unusedVariables false

def rowC (r : Int × Int × Int) : List Value := [.int .i64 r.1, .int .i64 r.2.1, .int .i64 r.2.2]
/-- The table lies as it was laid. -/
def Tab (w : World) : Prop := ∃ v, w.cell? ⟨0, 0, none⟩ = some v ∧ SliceG 3 rowC w v Cel.rows
theorem Tab.below {w w' : World} (h : Tab w) (hb : Below w.heap.size w w') : Tab w' := by
  obtain ⟨v, hc, hs⟩ := h
  exact ⟨v, by rw [hb.cell (block_lt_of_cell hc)]; exact hc, hs.below hb⟩

/-- A cell of a slice of numbers. -/
theorem SliceI.row {w : World} {a : Option Addr} {cap : Nat} {zs : List Int} (h : SliceI w (.slice a zs.length cap) zs) {k : Nat} (hk : k < zs.length) :
    ∃ b off, a = some ⟨b, off, none⟩ ∧ w.cell? ⟨b, off + k, none⟩ = some (.int .i64 zs[k]) := by
  obtain ⟨a', cap', e, _, h⟩ := h
  injection e with e1 _ _
  subst e1
  rcases h with h | ⟨b, off, rfl, hlt, hc⟩
  · subst h; simp at hk
  · exact ⟨b, off, rfl, hc k hk⟩

set_option maxHeartbeats 1000000 in
theorem cells_Width (n : Int) (w : World) (ht : Tab w) :
    Calls Tryd.prog 38 #[.int .i64 n] w fun e w' => e = .returned (.int .i64 (Cel.wid n)) ∧ Below w.heap.size w w' := by
  by_cases h1 : n < 32
  · have d1 : decide (n < 32) = true := decide_eq_true h1
    have HR : Hid (Cel.wid n = 0) := Lib.hid (Cel.wid_out (.inl h1))
    clear ht h1
    go_enter Tryd.func38, Tryd.ntmps38
    go_wp2
    go_ret
    exact ⟨by rw [HR.out]; rfl, Below.refl _ _⟩
  have d1 : decide (n < 32) = false := decide_eq_false h1
  by_cases h2 : 1114111 < n
  · have d2 : decide (1114111 < n) = true := decide_eq_true h2
    have HR : Hid (Cel.wid n = 0) := Lib.hid (Cel.wid_out (.inr h2))
    clear ht h1 h2
    go_enter Tryd.func38, Tryd.ntmps38
    go_wp2
    go_ret
    exact ⟨by rw [HR.out]; rfl, Below.refl _ _⟩
  have d2 : decide (1114111 < n) = false := decide_eq_false h2
  have HR : Hid (Cel.wid n = Cel.look Cel.rows n) := Lib.hid (if_neg (by omega))
  obtain ⟨v, hv, hs⟩ := ht
  obtain ⟨a, cap, rfl⟩ := hs.shape
  have hlen : Cel.rows.length = 19 := by decide
  have HS := Lib.hid hs
  rw [hlen] at hv
  clear hs h1 h2
  go_enter Tryd.func38, Tryd.ntmps38
  go_wp2
  go_loopw [13] (fun i wr => ∃ k : Nat, k ≤ 19 ∧ i = .int .i64 k ∧ Hid (Cel.look (Cel.rows.drop k) n = Cel.wid n) ∧ Below w.heap.size w wr) (fun i _ => 19 - (intOf i).toNat)
  case atStart => exact ⟨0, by omega, rfl, Lib.hid (by rw [HR.out]; rfl), Below.refl _ _⟩
  case round =>
    obtain ⟨k, hk, rfl, hL, hb⟩ := hrel
    have HB := Lib.hid hb
    clear hb
    by_cases hlt : k < 19
    · have hdk : decide ((k : Int) < 19) = true := decide_eq_true (by omega)
      have hdn : decide (k < 19) = true := by simpa using hlt
      have hik : (k : Int) < 19 := by omega
      have hkr : k < Cel.rows.length := by rw [hlen]; exact hlt
      obtain ⟨b, off, rfl, hblk, hc⟩ := SliceG.at (HS.out.below HB.out) hkr
      have c0 := hc 0 _ rfl
      have c1 := hc 1 _ rfl
      have c2 := hc 2 _ rfl
      have HK : Hid (Cel.look (Cel.rows.drop k) n = if Cel.rows[k].1 ≤ n ∧ n ≤ Cel.rows[k].2.1 then Cel.rows[k].2.2 else Cel.look (Cel.rows.drop (k + 1)) n) := Lib.hid (by
        rw [List.drop_eq_getElem_cons hkr]; rfl)
      generalize Cel.rows[k].1 = lo at c0 HK
      generalize Cel.rows[k].2.1 = hi at c1 HK
      generalize Cel.rows[k].2.2 = wd at c2 HK
      clear hc
      simp only [Nat.add_zero] at c0
      by_cases h1 : lo ≤ n
      · have e1 : decide (lo ≤ n) = true := decide_eq_true h1
        by_cases h2 : n ≤ hi
        · have e2 : decide (n ≤ hi) = true := decide_eq_true h2
          have HA : Hid (Cel.wid n = wd) := Lib.hid (by rw [← hL.out, HK.out, if_pos ⟨h1, h2⟩])
          clear h1 h2
          go_wp2
          go_ret
          exact ⟨by rw [HA.out]; rfl, grew HB.out (grew_alloc _ _)⟩
        · have e2 : decide (n ≤ hi) = false := decide_eq_false h2
          have HA : Hid (Cel.look (Cel.rows.drop (k + 1)) n = Cel.wid n) := Lib.hid (by rw [← hL.out, HK.out, if_neg (by omega)])
          clear h1 h2
          go_wp2
          go_roundw
          case rel => exact ⟨k + 1, by omega, by go_num, HA, grew HB.out (grew_alloc _ _)⟩
          case measure => simp [intOf]; omega
      · have e1 : decide (lo ≤ n) = false := decide_eq_false h1
        have HA : Hid (Cel.look (Cel.rows.drop (k + 1)) n = Cel.wid n) := Lib.hid (by rw [← hL.out, HK.out, if_neg (by omega)])
        clear h1
        go_wp2
        go_roundw
        case rel => exact ⟨k + 1, by omega, by go_num, HA, grew HB.out (grew_alloc _ _)⟩
        case measure => simp [intOf]; omega
    · have hdn : decide (k < 19) = false := by simpa using hlt
      have hdk : decide ((k : Int) < 19) = false := decide_eq_false (by omega)
      have HA : Hid (Cel.wid n = 1) := Lib.hid (by
        have : k = 19 := by omega
        rw [← hL.out, this]; rfl)
      go_wp2
      go_ret
      exact ⟨by rw [HA.out]; rfl, HB.out⟩

set_option maxHeartbeats 1000000 in
theorem cells_Total (v : Value) (zs : List Int) (w : World) (ht : Tab w) (hv : SliceI w v zs) (hm : zs.length ≤ 1000000000) :
    Calls Tryd.prog 43 #[v] w fun e w' => e = .returned (.int .i64 (Cel.total zs)) ∧ Below w.heap.size w w' := by
  have HT := Lib.hid ht
  have HV := Lib.hid hv
  obtain ⟨a, cap, rfl⟩ := hv.shape
  clear ht hv
  go_enter Tryd.func43, Tryd.ntmps43
  go_wp2
  go_loopw [3, 8] (fun s i wr => ∃ k : Nat, k ≤ zs.length ∧ i = .int .i64 k ∧ s = .int .i64 (Cel.total (zs.take k)) ∧ Below w.heap.size w wr) (fun _ i _ => zs.length - (intOf i).toNat)
  case atStart => exact ⟨0, by omega, rfl, rfl, Below.refl _ _⟩
  case round =>
    obtain ⟨k, hk, rfl, rfl, hb⟩ := hrel
    have HB := Lib.hid hb
    clear hb
    by_cases hlt : k < zs.length
    · have hdk : decide ((k : Int) < (zs.length : Int)) = true := decide_eq_true (by omega)
      have hdn : decide (k < zs.length) = true := by simpa using hlt
      have hik : (k : Int) < (zs.length : Int) := by omega
      obtain ⟨b, off, rfl, hcell⟩ := SliceI.row (HV.out.below HB.out) hlt
      have HC := Lib.hid (cells_Width zs[k] wr (HT.out.below HB.out))
      have hr := Cel.wid_range zs[k]
      have hr2 := Cel.total_range (zs.take k)
      have hr3 : (zs.take k).length ≤ zs.length := by rw [List.length_take]; omega
      have HS := Lib.hid (Cel.total_snoc zs hlt)
      generalize Cel.total (zs.take k) = t at *
      generalize Cel.wid zs[k] = wd at *
      generalize zs[k] = x at *
      have hw : wrap64 (t + wd) = t + wd := IntWalk.wrap64_in _ ⟨by omega, by omega⟩
      go_wp2_with (go_at_call 38; refine HC.out.mono ?_; rintro e w' ⟨rfl, hb'⟩)
      go_roundw
      case rel => exact ⟨k + 1, by omega, by go_num, by rw [HS.out], grew HB.out hb'⟩
      case measure => simp [intOf]; omega
    · have hdn : decide (k < zs.length) = false := by simpa using hlt
      have hdk : decide ((k : Int) < (zs.length : Int)) = false := decide_eq_false (by omega)
      have HE : Hid (zs.take k = zs) := Lib.hid (List.take_of_length_le (by omega))
      go_wp2
      go_ret
      exact ⟨by rw [HE.out]; rfl, HB.out⟩

set_option maxHeartbeats 1000000 in
theorem cells_Fit (v : Value) (zs : List Int) (most : Int) (w : World) (ht : Tab w) (hv : SliceI w v zs) (hm : zs.length ≤ 1000000000) :
    Calls Tryd.prog 41 #[v, .int .i64 most] w fun e w' => e = .returned (.tuple #[.int .i64 (Cel.fit zs most 0 : Nat), .int .i64 (Cel.total (zs.take (Cel.fit zs most 0)))]) ∧ Below w.heap.size w w' := by
  have HT := Lib.hid ht
  have HV := Lib.hid hv
  obtain ⟨a, cap, rfl⟩ := hv.shape
  clear ht hv
  go_enter Tryd.func41, Tryd.ntmps41
  go_wp2
  go_loopw [6, 12] (fun s i wr => ∃ k : Nat, k ≤ zs.length ∧ i = .int .i64 k ∧ s = .int .i64 (Cel.total (zs.take k)) ∧ Hid (Cel.fit zs most k = Cel.fit zs most 0) ∧ Below w.heap.size w wr) (fun _ i _ => zs.length - (intOf i).toNat)
  case atStart => exact ⟨0, by omega, rfl, rfl, Lib.hid rfl, Below.refl _ _⟩
  case round =>
    obtain ⟨k, hk, rfl, rfl, hF, hb⟩ := hrel
    have HB := Lib.hid hb
    clear hb
    by_cases hlt : k < zs.length
    · have hdk : decide ((k : Int) < (zs.length : Int)) = true := decide_eq_true (by omega)
      have hdn : decide (k < zs.length) = true := by simpa using hlt
      have hik : (k : Int) < (zs.length : Int) := by omega
      obtain ⟨b, off, rfl, hcell⟩ := SliceI.row (HV.out.below HB.out) hlt
      have HC := Lib.hid (cells_Width zs[k] wr (HT.out.below HB.out))
      have hr := Cel.wid_range zs[k]
      have hr2 := Cel.total_range (zs.take k)
      have hr3 : (zs.take k).length ≤ zs.length := by rw [List.length_take]; omega
      have HS := Lib.hid (Cel.total_snoc zs hlt)
      have HN := Lib.hid (fun g => Cel.fit_on (most := most) hlt g)
      have HY := Lib.hid (fun g => Cel.fit_stop (most := most) hlt g)
      have HX : Hid (Cel.total (zs.take k) = Cel.total (zs.take k)) := Lib.hid rfl
      have HZ : Hid (Cel.fit zs most k = k → Cel.total (zs.take (Cel.fit zs most 0)) = Cel.total (zs.take k)) := Lib.hid (fun g => by rw [← hF.out, g])
      generalize Cel.total (zs.take k) = t at *
      generalize Cel.wid zs[k] = wd at *
      generalize zs[k] = x at *
      have hw : wrap64 (t + wd) = t + wd := IntWalk.wrap64_in _ ⟨by omega, by omega⟩
      by_cases hc : most < t + wd
      · have hd : decide (most < t + wd) = true := decide_eq_true hc
        have HR : Hid (Cel.fit zs most 0 = k ∧ Cel.total (zs.take (Cel.fit zs most 0)) = t) := Lib.hid (by
          have g := HY.out (by rw [HS.out]; exact hc)
          exact ⟨by rw [← hF.out, g], HZ.out g⟩)
        clear hc
        go_wp2_with (go_at_call 38; refine HC.out.mono ?_; rintro e w' ⟨rfl, hb'⟩)
        go_ret2
        exact ⟨by rw [HR.out.2, HR.out.1]; rfl, grew HB.out hb'⟩
      · have hd : decide (most < t + wd) = false := decide_eq_false hc
        have HR : Hid (Cel.fit zs most (k + 1) = Cel.fit zs most 0) := Lib.hid (by
          rw [← hF.out, HN.out (by rw [HS.out]; exact hc)])
        clear hc
        go_wp2_with (go_at_call 38; refine HC.out.mono ?_; rintro e w' ⟨rfl, hb'⟩)
        go_roundw
        case rel => exact ⟨k + 1, by omega, by go_num, by rw [HS.out], HR, grew HB.out hb'⟩
        case measure => simp [intOf]; omega
    · have hdn : decide (k < zs.length) = false := by simpa using hlt
      have hdk : decide ((k : Int) < (zs.length : Int)) = false := decide_eq_false (by omega)
      have HE : Hid (Cel.fit zs most 0 = zs.length ∧ zs.take k = zs.take (Cel.fit zs most 0)) := Lib.hid (by
        have e := Cel.fit_end (most := most) hlt
        exact ⟨by rw [← hF.out, e], by rw [← hF.out, e, show k = zs.length from by omega]⟩)
      go_wp2
      go_ret2
      exact ⟨by rw [← HE.out.2, HE.out.1]; rfl, HB.out⟩
end Go.Proofs.YtepddieblankpaaDoor
