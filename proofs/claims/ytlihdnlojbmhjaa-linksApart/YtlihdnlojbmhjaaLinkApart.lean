/- The walk of LinksApart. -/
import Derived.Test.YtlihdnlojbmhjaaLinkLive
import Derived.Test.YtlihdnlojbmhjaaLinkMath2
namespace Links

/-- Texts on the way from i to j, and others back. -/
def two (i j : Nat) (xs ys : List (List UInt8)) : Net := ((new 5 1000).set i j xs).set j i ys
def exs (l : List (List UInt8)) : List (List UInt8) := l.map (120 :: ·)
theorem two_lk {i j : Nat} (h : Lk 5 i j) (xs ys : List (List UInt8)) : Lk (two i j xs ys).sites i j ∧ Lk (two i j xs ys).sites j i := ⟨h, h.2.1, h.1, fun e => h.2.2 e.symm⟩
theorem two_on {i j : Nat} (h : Lk 5 i j) (xs ys : List (List UInt8)) : (two i j xs ys).on i j = xs ∧ (two i j xs ys).on j i = ys := by
  have h' : Lk 5 j i := ⟨h.2.1, h.1, fun e => h.2.2 e.symm⟩
  refine ⟨?_, set_on (N := (new 5 1000).set i j xs) h' ys⟩
  rw [two, set_on_other (N := (new 5 1000).set i j xs) h ys (fun e => h.2.2 e.1)]
  exact set_on (N := new 5 1000) h xs
theorem two_zero (i j : Nat) : two i j [] [] = new 5 1000 := by
  unfold two Net.set new
  simp
theorem set_swap {N : Net} {i j i' j' : Nat} (ts us : List (List UInt8)) (h : ¬ (i' = i ∧ j' = j)) : (N.set i j ts).set i' j' us = (N.set i' j' us).set i j ts := by
  unfold Net.set
  simp only
  congr 1
  funext a b
  by_cases h1 : a = i' ∧ b = j'
  · obtain ⟨rfl, rfl⟩ := h1
    simp [h]
  · simp [h1]
theorem two_set {i j : Nat} (h : Lk 5 i j) (xs ys zs : List (List UInt8)) : (two i j xs ys).set i j zs = two i j zs ys ∧ (two i j xs ys).set j i zs = two i j xs zs := by
  constructor
  · unfold two
    rw [set_swap ys zs (fun e => h.2.2 e.1), set_set]
  · unfold two
    rw [set_set]
theorem two_send {i j : Nat} (h : Lk 5 i j) {xs ys : List (List UInt8)} {s : List UInt8} (hs : s.length ≤ 5000) (hx : xs.length < 1000) : send (two i j xs ys) i j s = (0, two i j (xs ++ [s]) ys) := by
  rw [send_yes (two_lk h xs ys).1 hs (by rw [(two_on h xs ys).1]; exact hx), (two_on h xs ys).1, (two_set h xs ys _).1]
theorem two_back {i j : Nat} (h : Lk 5 i j) {xs ys : List (List UInt8)} {s : List UInt8} (hs : s.length ≤ 5000) (hx : ys.length < 1000) : send (two i j xs ys) j i s = (0, two i j xs (ys ++ [s])) := by
  rw [send_yes (two_lk h xs ys).2 hs (by rw [(two_on h xs ys).2]; exact hx), (two_on h xs ys).2, (two_set h xs ys _).2]
theorem two_take {i j : Nat} (h : Lk 5 i j) {x : List UInt8} {xs ys : List (List UInt8)} : take (two i j (x :: xs) ys) i j 0 = (x, true, two i j xs ys) := by
  have := take_yes (k := 0) (two_lk h (x :: xs) ys).1 (by rw [(two_on h (x :: xs) ys).1]; simp)
  have e : take (two i j (x :: xs) ys) i j 0 = _ := this
  rw [e]
  simp only [(two_on h (x :: xs) ys).1, (two_set h (x :: xs) ys _).1]
  simp
end Links

namespace Go.Proofs.Ytlihdnlojbmhjaa
open Go.RowKit Go.Maps
set_option linter.unusedVariables false

/-- The texts as bytes. -/
def bl (ts : List ByteArray) : List (List UInt8) := ts.map fun t => t.data.toList

theorem strs_at {w : World} {a : Option Addr} {n cap : Nat} {ts : List ByteArray} (h : SliceS w (.slice a n cap) ts) {k : Nat} (hk : k < ts.length) : ∃ b off, a = some ⟨b, off, none⟩ ∧ b < w.heap.size ∧ w.cell? ⟨b, off + k, none⟩ = some (.string ts[k]) := by
  obtain ⟨a', cap', e, _, h⟩ := h
  injection e with e1 e2 e3
  subst e1
  rcases h with h | ⟨b, off, ha, hb, hc⟩
  · subst h; simp at hk
  · exact ⟨b, off, ha, hb, hc k hk⟩

set_option maxRecDepth 100000 in
set_option maxHeartbeats 8000000 in
theorem walk_LinksApart (a : Option Addr) (len cap : Nat) (ss : List ByteArray) (from_ to_ : Int) (w : World) (hv : IsStrs w a len cap ss) (hf : (Lit.int .i64 from_).wf = true) (ht : (Lit.int .i64 to_).wf = true) :
    Calls Try.prog 5 #[.slice a len cap, .int .i64 from_, .int .i64 to_] w fun e w' => e = .returned (.bool true) ∧ Below w.heap.size w w' := by
  clear hf ht
  obtain ⟨ts, hsl, hm, hz⟩ := hv.slice
  obtain ⟨a', cap', hform, hcap, _⟩ := id hsl
  injection hform with e1 e2 e3
  subst e1 e2 e3
  unfold maxLen at hm
  clear hv
  by_cases hok : ts.length ≤ 60 ∧ 0 ≤ from_ ∧ from_ ≤ 4 ∧ 0 ≤ to_ ∧ to_ ≤ 4 ∧ from_ ≠ to_
  · obtain ⟨i, rfl⟩ : ∃ i : Nat, from_ = i := ⟨from_.toNat, by omega⟩
    obtain ⟨j, rfl⟩ : ∃ j : Nat, to_ = j := ⟨to_.toNat, by omega⟩
    have hlk : Links.Lk 5 i j := ⟨by omega, by omega, by omega⟩
    have hi4 : i ≤ 4 := by omega
    have hj4 : j ≤ 4 := by omega
    have h60 : ts.length ≤ 60 := by omega
    have d1 : decide ((60 : Int) < (ts.length : Int)) = false := decide_eq_false (by omega)
    have d2 : decide ((i : Int) < 0) = false := decide_eq_false (by omega)
    have d3 : decide ((4 : Int) < (i : Int)) = false := decide_eq_false (by omega)
    have d4 : decide ((j : Int) < 0) = false := decide_eq_false (by omega)
    have d5 : decide ((4 : Int) < (j : Int)) = false := decide_eq_false (by omega)
    have d6 : ((i : Int) == (j : Int)) = false := by rw [beq_eq_false_iff_ne]; omega
    have HSL := Lib.hid hsl
    have HLK := Lib.hid hlk
    have HI : Hid (I64 (i : Int)) := Lib.hid ⟨by omega, by omega⟩
    have HJ : Hid (I64 (j : Int)) := Lib.hid ⟨by omega, by omega⟩
    have HZ := Lib.hid hz
    clear hok hsl hlk hz hcap
    go_enter Try.func5, Try.ntmps5
    go_wp2_with fail
    refine (lives_New 5 1000 w w (Below.refl _ _) (by decide) (by decide)).mono ?_
    rintro e w1 ⟨p, rfl, hl⟩
    rw [← Links.two_zero i j] at hl
    have H := Lib.hid hl
    clear hl
    go_wp2
    clear d1 d2 d3 d4 d5 d6
    go_loopw [9] (fun c wr => ∃ k : Nat, k ≤ ts.length ∧ c = .int .i64 k ∧ (∀ t ∈ ts.take k, t.size ≤ 300) ∧ Lives w p (Links.two i j (bl (ts.take k)) (Links.exs (bl (ts.take k)))) wr) (fun c _ => ts.length - (intOf c).toNat)
    case atStart => exact ⟨0, by omega, rfl, by simp, H.out⟩
    case round =>
      obtain ⟨k, hk, rfl, hall, hl⟩ := hrel
      have H := Lib.hid hl
      have HALL := Lib.hid hall
      clear hl hall
      by_cases hlt : k < ts.length
      · have hdk : decide ((k : Int) < (ts.length : Int)) = true := decide_eq_true (by omega)
        have hdn : decide (k < ts.length) = true := decide_eq_true hlt
        have hik : (k : Int) < (ts.length : Int) := by omega
        obtain ⟨b, off, rfl, hb, hcell⟩ := strs_at HSL.out hlt
        have hcell' : wr.cell? ⟨b, off + k, none⟩ = some (.string ts[k]) := by rw [H.out.below.cell (p := ⟨b, off + k, none⟩) hb]; exact hcell
        have htk : (ts.take (k + 1)) = ts.take k ++ [ts[k]] := List.take_succ_eq_append_getElem hlt
        have HTK : Hid (bl (ts.take (k + 1)) = bl (ts.take k) ++ [ts[k].data.toList] ∧ Links.exs (bl (ts.take (k + 1))) = Links.exs (bl (ts.take k)) ++ [120 :: ts[k].data.toList]) := Lib.hid (by rw [htk]; exact ⟨by unfold bl; rw [List.map_append]; rfl, by unfold Links.exs bl; rw [List.map_append, List.map_append]; rfl⟩)
        have HALL2 : Hid (ts[k].size ≤ 300 → ∀ t ∈ ts.take (k + 1), t.size ≤ 300) := Lib.hid (fun h t ht => by
          rw [htk] at ht
          rcases List.mem_append.1 ht with g | g
          · exact HALL.out t g
          · rw [List.mem_singleton.1 g]; exact h)
        have HLX : Hid ((bl (ts.take k)).length < 1000 ∧ (Links.exs (bl (ts.take k))).length < 1000) := Lib.hid (by simp [bl, Links.exs]; omega)
        have hmx := HZ.out ts[k] (List.getElem_mem hlt)
        have HMX := Lib.hid hmx
        unfold maxLen at hmx
        generalize htt : ts[k] = t at *
        clear htt htk hcell
        by_cases h3 : 300 < t.size
        · have hd3 : decide ((300 : Int) < (t.size : Int)) = true := decide_eq_true (by omega)
          clear h3
          go_wp2_with fail
          refine (law05_live _).mono ?_
          rintro e w2 ⟨rfl, hb2⟩
          go_wp2
          go_ret
          exact ⟨rfl, grew H.out.below hb2⟩
        · have hd3 : decide ((300 : Int) < (t.size : Int)) = false := decide_eq_false (by omega)
          have h3' : t.size ≤ 300 := by omega
          have hlen : t.data.toList.length ≤ 300 := by rw [size_list]; exact h3'
          clear h3
          go_wp2_with fail
          refine (lives_Send H.out i j t HI.out HJ.out HMX.out).mono ?_
          rintro e w2 ⟨rfl, hl⟩
          rw [Links.two_send HLK.out (by omega) HLX.out.1] at hl ⊢
          have H2 := Lib.hid hl
          clear hl
          have hcell2 : w2.cell? ⟨b, off + k, none⟩ = some (.string t) := by
            rw [H2.out.below.cell (p := ⟨b, off + k, none⟩) hb, ← H.out.below.cell (p := ⟨b, off + k, none⟩) hb]
            exact hcell'
          clear hcell'
          go_wp2_with fail
          refine (lives_Send H2.out j i _ HJ.out HI.out (by rw [ByteArray.size_append]; unfold maxLen; show 1 + t.size ≤ _; omega)).mono ?_
          rintro e w3 ⟨rfl, hl⟩
          have e2 : ((⟨#[120]⟩ : ByteArray) ++ t).data.toList = 120 :: t.data.toList := by rw [str_app]; rfl
          rw [e2, Links.two_back HLK.out (by simp only [List.length_cons]; omega) HLX.out.2, ← HTK.out.1, ← HTK.out.2] at hl
          rw [e2, Links.two_back HLK.out (by simp only [List.length_cons]; omega) HLX.out.2]
          have H3 := Lib.hid hl
          clear hl hcell2 e2
          have HA3 := Lib.hid (HALL2.out h3')
          go_wp2
          go_roundw
          case rel => exact ⟨k + 1, by omega, by go_num, HA3.out, H3.out⟩
          case measure => simp [intOf]; omega
      · have hdk : decide ((k : Int) < (ts.length : Int)) = false := decide_eq_false (by omega)
        have hdn : decide (k < ts.length) = false := decide_eq_false hlt
        have he : ts.take k = ts := List.take_of_length_le (by omega)
        have H4 : Hid (Lives w p (Links.two i j (bl (ts.drop 0)) (Links.exs (bl ts))) wr) := Lib.hid (by have := H.out; rw [he] at this; exact this)
        clear H HALL he
        go_wp2
        clear hdk hdn
        go_loopw [10] (fun c wr => ∃ m : Nat, m ≤ ts.length ∧ c = .int .i64 m ∧ Lives w p (Links.two i j (bl (ts.drop m)) (Links.exs (bl ts))) wr) (fun c _ => ts.length - (intOf c).toNat)
        case atStart => exact ⟨0, by omega, rfl, H4.out⟩
        case round =>
          obtain ⟨m, hm2, rfl, hl⟩ := hrel
          have H := Lib.hid hl
          clear hl
          by_cases hlt2 : m < ts.length
          · have hdk : decide ((m : Int) < (ts.length : Int)) = true := decide_eq_true (by omega)
            have hdn : decide (m < ts.length) = true := decide_eq_true hlt2
            have him : (m : Int) < (ts.length : Int) := by omega
            obtain ⟨b, off, rfl, hb, hcell⟩ := strs_at HSL.out hlt2
            have HDR : Hid (bl (ts.drop m) = ts[m].data.toList :: bl (ts.drop (m + 1))) := Lib.hid (by rw [List.drop_eq_getElem_cons hlt2]; rfl)
            have hss : (ts[m].toList == ts[m].toList) = true := str_same rfl
            generalize htt : ts[m] = t at *
            clear htt
            go_wp2_with fail
            refine (lives_Take H.out i j 0 HI.out HJ.out).mono ?_
            rintro e w2 ⟨rfl, hl⟩
            rw [HDR.out, Links.two_take HLK.out] at hl
            rw [HDR.out, Links.two_take HLK.out]
            simp only at hl ⊢
            rw [str_whole t]
            have H2 := Lib.hid hl
            clear hl
            have hcell2 : w2.cell? ⟨b, off + m, none⟩ = some (.string t) := by rw [H2.out.below.cell (p := ⟨b, off + m, none⟩) hb]; exact hcell
            clear hcell
            go_wp2
            go_roundw
            case rel => exact ⟨m + 1, by omega, by go_num, H2.out⟩
            case measure => simp [intOf]; omega
          · have hdk : decide ((m : Int) < (ts.length : Int)) = false := decide_eq_false (by omega)
            have hdn : decide (m < ts.length) = false := decide_eq_false hlt2
            have he : ts.drop m = [] := List.drop_eq_nil_of_le (by omega)
            have H5 : Hid (Lives w p (Links.two i j [] (Links.exs (bl ts))) wr) := Lib.hid (by have := H.out; rw [he] at this; exact this)
            have HL1 : Hid (((Links.two i j [] (Links.exs (bl ts))).on i j).length = 0) := Lib.hid (by rw [(Links.two_on HLK.out _ _).1]; rfl)
            have HL2 : Hid (((Links.two i j [] (Links.exs (bl ts))).on j i).length = ts.length) := Lib.hid (by rw [(Links.two_on HLK.out _ _).2]; simp [Links.exs, bl])
            clear H he
            go_wp2_with fail
            refine (lives_Len H5.out i j HI.out HJ.out).mono ?_
            rintro e _ ⟨rfl, rfl⟩
            rw [HL1.out]
            go_wp2_with fail
            refine (lives_Len H5.out j i HJ.out HI.out).mono ?_
            rintro e _ ⟨rfl, rfl⟩
            rw [HL2.out]
            go_wp2_with fail
            refine (law05_live _).mono ?_
            rintro e w3 ⟨rfl, hb3⟩
            go_wp2
            go_ret
            exact ⟨rfl, grew H5.out.below hb3⟩
  · have hc : decide ((60 : Int) < (ts.length : Int)) = true ∨ (decide ((60 : Int) < (ts.length : Int)) = false ∧ decide (from_ < 0) = true) ∨ (decide ((60 : Int) < (ts.length : Int)) = false ∧ decide (from_ < 0) = false ∧ decide (4 < from_) = true) ∨ (decide ((60 : Int) < (ts.length : Int)) = false ∧ decide (from_ < 0) = false ∧ decide (4 < from_) = false ∧ decide (to_ < 0) = true) ∨ (decide ((60 : Int) < (ts.length : Int)) = false ∧ decide (from_ < 0) = false ∧ decide (4 < from_) = false ∧ decide (to_ < 0) = false ∧ decide (4 < to_) = true) ∨ (decide ((60 : Int) < (ts.length : Int)) = false ∧ decide (from_ < 0) = false ∧ decide (4 < from_) = false ∧ decide (to_ < 0) = false ∧ decide (4 < to_) = false ∧ (from_ == to_) = true) := by
      simp only [decide_eq_true_eq, decide_eq_false_iff_not, beq_iff_eq]
      omega
    clear hok hsl hz
    rcases hc with d1 | ⟨d1, d2⟩ | ⟨d1, d2, d3⟩ | ⟨d1, d2, d3, d4⟩ | ⟨d1, d2, d3, d4, d5⟩ | ⟨d1, d2, d3, d4, d5, d6⟩
    all_goals
      go_enter Try.func5, Try.ntmps5
      go_wp2_with fail
      refine (law05_live _).mono ?_
      rintro e w1 ⟨rfl, hb⟩
      go_wp2
      go_ret
      exact ⟨rfl, hb⟩
end Go.Proofs.Ytlihdnlojbmhjaa
