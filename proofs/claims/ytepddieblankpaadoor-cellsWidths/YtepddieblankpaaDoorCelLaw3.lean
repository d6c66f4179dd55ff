/- The walks of CellsJoined, CellsPlain. -/
import Derived.Test.YtepddieblankpaaDoorCelFit
namespace Go.Proofs.YtepddieblankpaaDoor
open Go.RowKit
set_option linter.unusedVariables false

theorem grew2 {w w1 w2 : World} {v1 : Value} (hb : Below w.heap.size w w1) (hk : Keep (At v1) w1 w2) (hn : Near w (.slice none 0 0) v1) : Below w.heap.size w w2 :=
  hb.trans (hk.below hb.size (fun i hi => by
    rcases hn i hi with h | h
    · cases h
    · exact h))

set_option maxHeartbeats 2000000 in
theorem walk_CellsJoined (a : Option Addr) (len cap : Nat) (zs : List Int) (a' : Option Addr) (len' cap' : Nat) (zs' : List Int) (w : World) (hr : IsRow .i64 w a len cap zs) (hr' : IsRow .i64 w a' len' cap' zs') (ht : Tab w) :
    Calls Tryd.prog 12 #[.slice a len cap, .slice a' len' cap'] w fun e w' => e = .returned (.bool true) ∧ Below w.heap.size w w' := by
  obtain ⟨ys, hs, rfl, hmx, _⟩ := hr.slice
  obtain ⟨us, hs', rfl, hmx', _⟩ := hr'.slice
  unfold maxLen at hmx hmx'
  have L := Lib.hid (Liv.refl ht)
  have HV := Lib.hid hs
  have HU := Lib.hid hs'
  clear hr hs ht hr' hs'
  by_cases h1 : 200 < ys.length
  · have d1 : decide ((200 : Int) < (ys.length : Int)) = true := decide_eq_true (by omega)
    clear h1
    go_enter Tryd.func12, Tryd.ntmps12
    go_wp2_with fail
    refine (law20_live _ L.out.1).mono ?_
    rintro e w2 ⟨rfl, hb⟩
    go_wp2
    go_ret
    exact ⟨rfl, hb⟩
  have d1 : decide ((200 : Int) < (ys.length : Int)) = false := decide_eq_false (by omega)
  by_cases h2 : 200 < us.length
  · have d2 : decide ((200 : Int) < (us.length : Int)) = true := decide_eq_true (by omega)
    clear h1 h2
    go_enter Tryd.func12, Tryd.ntmps12
    go_wp2_with fail
    refine (law20_live _ L.out.1).mono ?_
    rintro e w2 ⟨rfl, hb⟩
    go_wp2
    go_ret
    exact ⟨rfl, hb⟩
  have d2 : decide ((200 : Int) < (us.length : Int)) = false := decide_eq_false (by omega)
  have hl1 : ys.length ≤ 200 := by omega
  have hl2 : us.length ≤ 200 := by omega
  have HT := Lib.hid (Cel.total_append ys us)
  have r1 := Cel.total_range ys
  have r2 := Cel.total_range us
  have hle : (ys ++ us).length ≤ 1000000000 := by rw [List.length_append]; omega
  clear h1 h2
  go_enter Tryd.func12, Tryd.ntmps12
  go_wp2_with (first
    | (refine wp_append_nums rfl _ _ rfl v1 ys rfl HO1.out _ us rfl (HU.out.below hb1) (by omega) ?_
       intro v2 w2 ho2 hk2 hn2
       have L2 : Hid (Liv w w2) := Lib.hid ⟨L.out.1.below (grew2 hb1 hk2 hn1), grew2 hb1 hk2 hn1⟩
       have HO2 := Lib.hid ho2.slice
       clear ho2 hk2)
    | (refine wp_append_nums rfl _ _ rfl (.slice none 0 0) [] rfl (OwnI.nil _) _ ys rfl HV.out (by simp only [List.length_nil]; omega) ?_
       intro v1 w1 ho1 hk1 hn1
       rw [List.nil_append] at ho1
       have hb1 : Below w.heap.size w w1 := hk1.fresh (fun i _ h => by cases h)
       have HO1 := Lib.hid ho1
       clear ho1 hk1))
  refine (cells_Total _ _ _ L2.out.1 HO2.out hle).mono ?_
  rintro e w3 ⟨rfl, hb⟩
  have L3 := Lib.hid (L2.out.next hb)
  clear hb L2
  go_wp2_with fail
  refine (cells_Total _ ys _ L3.out.1 (HV.out.below L3.out.2) (by omega)).mono ?_
  rintro e w4 ⟨rfl, hb⟩
  have L4 := Lib.hid (L3.out.next hb)
  clear hb L3
  go_wp2_with fail
  refine (cells_Total _ us _ L4.out.1 (HU.out.below L4.out.2) (by omega)).mono ?_
  rintro e w5 ⟨rfl, hb⟩
  have L5 := Lib.hid (L4.out.next hb)
  clear hb L4
  rw [HT.out]
  generalize Cel.total ys = x at *
  generalize Cel.total us = y at *
  have hw : wrap64 (x + y) = x + y := IntWalk.wrap64_in _ ⟨by omega, by omega⟩
  have he : (x + y == x + y) = true := by simp
  go_wp2_with fail
  refine (law20_live _ L5.out.1).mono ?_
  rintro e wl ⟨rfl, hb⟩
  have LL := Lib.hid (L5.out.next hb)
  clear hb
  go_wp2
  go_ret
  exact ⟨rfl, LL.out.2⟩

theorem own_snoc {w w1 : World} {base : Nat} {v v1 : Value} (hb : Below base w w1) (hn : ∀ g, v.ownBlock = some g → base ≤ g) (hN : Near w1 v v1) (hs : base ≤ w.heap.size) : ∀ g, v1.ownBlock = some g → base ≤ g := by
  intro g hg
  rcases hN g hg with h | h
  · exact hn g h
  · have := hb.size; omega

set_option maxHeartbeats 4000000 in
theorem walk_CellsPlain (s : ByteArray) (n : Int) (w : World) (hs : s.size ≤ maxLen) (hn : (Lit.int .i64 n).wf = true) (ht : Tab w) :
    Calls Tryd.prog 13 #[.string s, .int .i64 n] w fun e w' => e = .returned (.bool true) ∧ Below w.heap.size w w' := by
  have L := Lib.hid (Liv.refl ht)
  unfold maxLen at hs
  clear ht hn
  by_cases h1 : 200 < s.size
  · have d1 : decide ((200 : Int) < (s.size : Int)) = true := decide_eq_true (by omega)
    clear h1
    go_enter Tryd.func13, Tryd.ntmps13
    go_wp2_with fail
    refine (law20_live _ L.out.1).mono ?_
    rintro e w2 ⟨rfl, hb⟩
    go_wp2
    go_ret
    exact ⟨rfl, hb⟩
  have d1 : decide ((200 : Int) < (s.size : Int)) = false := decide_eq_false (by omega)
  by_cases h2 : n < 0
  · have d2 : decide (n < 0) = true := decide_eq_true h2
    clear h1 h2
    go_enter Tryd.func13, Tryd.ntmps13
    go_wp2_with fail
    refine (law20_live _ L.out.1).mono ?_
    rintro e w2 ⟨rfl, hb⟩
    go_wp2
    go_ret
    exact ⟨rfl, hb⟩
  have d2 : decide (n < 0) = false := decide_eq_false h2
  have hsz : s.size ≤ 200 := by omega
  clear h1
  go_enter Tryd.func13, Tryd.ntmps13
  go_wp2
  go_loopw [5, 6] (fun v i wr => ∃ (k : Nat) (l : List Int), k ≤ s.size ∧ i = .int .i64 k ∧ l.length = k ∧ Hid (∀ x ∈ l, 32 ≤ x ∧ x ≤ 126) ∧ Hid (OwnI wr v l) ∧ Hid (∀ g, v.ownBlock = some g → w.heap.size ≤ g) ∧ Hid (Below w.heap.size w wr)) (fun _ i _ => s.size - (intOf i).toNat)
  case atStart => exact ⟨0, [], by omega, rfl, rfl, Lib.hid (by simp), Lib.hid (OwnI.nil _), Lib.hid (fun g h => by cases h), Lib.hid (Below.refl _ _)⟩
  case round =>
    obtain ⟨k, l, hk, rfl, hl, HP, HO, HN, HB⟩ := hrel
    have HT := Lib.hid (L.out.1.below HB.out)
    by_cases hlt : k < s.size
    · have hdk : decide ((k : Int) < (s.size : Int)) = true := decide_eq_true (by omega)
      have hik : (k : Int) < (s.size : Int) := by omega
      have hdn : decide (k < s.size) = true := decide_eq_true hlt
      obtain ⟨c, hc⟩ : ∃ c : Int, (((s[k]'hlt).toNat : Nat) : Int) = c := ⟨_, rfl⟩
      have hcb : 0 ≤ c ∧ c < 256 := by have := (s[k]'hlt).toNat_lt; omega
      have hw : wrap64 (((s[k]'hlt).toNat : Nat) : Int) = c := by rw [hc]; exact IntWalk.wrap64_in _ ⟨by omega, by omega⟩
      by_cases g1 : c < 32
      · have e1 : decide ((((s[k]'hlt).toNat : Nat) : Int) < 32) = true := by rw [hc]; exact decide_eq_true g1
        clear hc g1 hw
        go_wp2_with fail
        refine (law20_live _ HT.out).mono ?_
        rintro e w2 ⟨rfl, hb⟩
        go_wp2
        go_ret
        exact ⟨rfl, grew HB.out hb⟩
      have e1 : decide ((((s[k]'hlt).toNat : Nat) : Int) < 32) = false := by rw [hc]; exact decide_eq_false g1
      by_cases g2 : 126 < c
      · have e2 : decide (126 < (((s[k]'hlt).toNat : Nat) : Int)) = true := by rw [hc]; exact decide_eq_true g2
        clear hc g1 g2 hw
        go_wp2_with fail
        refine (law20_live _ HT.out).mono ?_
        rintro e w2 ⟨rfl, hb⟩
        go_wp2
        go_ret
        exact ⟨rfl, grew HB.out hb⟩
      have e2 : decide (126 < (((s[k]'hlt).toNat : Nat) : Int)) = false := by rw [hc]; exact decide_eq_false g2
      have HP2 : Hid (∀ x ∈ l ++ [c], 32 ≤ x ∧ x ≤ 126) := Lib.hid (fun x hx => by
        rcases List.mem_append.1 hx with g | g
        · exact HP.out x g
        · rw [List.mem_singleton.1 g]; omega)
      have HL := Lib.hid hl
      have HK := Lib.hid hlt
      have hwc : wrap64 c = c := by rw [← hc]; rw [hw, hc]
      have e3 : decide (c < 32) = false := decide_eq_false g1
      have e4 : decide (126 < c) = false := decide_eq_false g2
      clear hl g1 g2 hcb
      go_wp2_with (at_builtin; refine wp_append_num rfl _ _ rfl u5 l c rfl rfl HO.out (by rw [HL.out]; have := HK.out; omega) ?_; intro v5 w5 ho5 hk5 hn5; have HM5 := Lib.hid (And.intro ho5 (And.intro hk5 hn5)); clear ho5 hk5 hn5)
      go_roundw
      case rel => exact ⟨k + 1, l ++ [c], by have := HK.out; omega, by go_num, by rw [List.length_append, HL.out]; rfl, HP2, Lib.hid HM5.out.1, Lib.hid (fun g hg => by
        rcases HM5.out.2.2 g hg with e | e
        · exact HN.out g e
        · exact Nat.le_trans HB.out.size e), Lib.hid (HB.out.trans (HM5.out.2.1.below HB.out.size (fun i e => HN.out i e)))⟩
      case measure => simp [intOf]; have := HK.out; omega
    · have hdk : decide ((k : Int) < (s.size : Int)) = false := decide_eq_false (by omega)
      have hle : l.length ≤ 1000000000 := by omega
      have hls : l.length = s.size := by omega
      obtain ⟨f1, f2⟩ := Cel.fit_plain l HP.out (most := n) (by omega)
      have ft := Cel.total_plain l HP.out
      have HF := Lib.hid (cells_Fit _ l n wr HT.out HO.out.slice hle)
      rw [f2, f1] at HF
      rw [hls] at HF ft
      have HFT := Lib.hid ft
      have HS := Lib.hid HO.out.slice
      have e1 : (((s.size : Nat) : Int) == ((s.size : Nat) : Int)) = true := by simp
      have e2 : (n == n) = true := by simp
      clear f1 f2 ft hl hls
      by_cases hm : n ≤ (s.size : Int)
      · rw [show min n (s.size : Int) = n from by omega] at HF
        have d3 : decide (n ≤ (s.size : Int)) = true := decide_eq_true hm
        go_wp2_with fail
        refine HF.out.mono ?_
        rintro e w1 ⟨rfl, hb⟩
        have L1 : Hid (Liv w w1) := Lib.hid (Liv.next ⟨HT.out, HB.out⟩ hb)
        have HS1 := Lib.hid (HS.out.below hb)
        clear hb HF
        go_wp2_with fail
        refine (cells_Total _ l _ L1.out.1 HS1.out hle).mono ?_
        rintro e w2 ⟨rfl, hb⟩
        have L2 := Lib.hid (L1.out.next hb)
        clear hb
        rw [HFT.out]
        go_wp2_with fail
        refine (law20_live _ L2.out.1).mono ?_
        rintro e wl ⟨rfl, hb⟩
        have LL := Lib.hid (L2.out.next hb)
        clear hb
        go_wp2
        go_ret
        exact ⟨rfl, LL.out.2⟩
      · rw [show min n (s.size : Int) = (s.size : Int) from by omega] at HF
        have d3 : decide (n ≤ (s.size : Int)) = false := decide_eq_false hm
        have d4 : decide ((s.size : Int) < n) = true := decide_eq_true (by omega)
        have hm2 : (s.size : Int) < n := by omega
        go_wp2_with fail
        refine HF.out.mono ?_
        rintro e w1 ⟨rfl, hb⟩
        have L1 : Hid (Liv w w1) := Lib.hid (Liv.next ⟨HT.out, HB.out⟩ hb)
        have HS1 := Lib.hid (HS.out.below hb)
        clear hb HF
        go_wp2_with fail
        refine (cells_Total _ l _ L1.out.1 HS1.out hle).mono ?_
        rintro e w2 ⟨rfl, hb⟩
        have L2 := Lib.hid (L1.out.next hb)
        clear hb
        rw [HFT.out]
        go_wp2_with fail
        refine (law20_live _ L2.out.1).mono ?_
        rintro e wl ⟨rfl, hb⟩
        have LL := Lib.hid (L2.out.next hb)
        clear hb
        go_wp2
        go_ret
        exact ⟨rfl, LL.out.2⟩
end Go.Proofs.YtepddieblankpaaDoor
