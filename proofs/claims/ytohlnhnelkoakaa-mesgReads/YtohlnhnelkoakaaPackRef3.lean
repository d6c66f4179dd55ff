/- What the document's own answers of layer 1 come to: Cut, Each. -/
import Derived.Test.YtohlnhnelkoakaaPackRef2
namespace Go.Proofs.Ytohlnhnelkoakaa
open Go.RowKit
set_option linter.unusedVariables false

theorem OwnsI.below {w w' : World} {base : Nat} {v : Value} {l : List Int} (h : OwnsI w base v l) (_hb : base ≤ w.heap.size) (hb : Below w.heap.size w w') : OwnsI w' base v l := by
  refine ⟨h.1, ?_⟩
  rcases h.2 with hn | ⟨g, cap, cur, rfl, h1, hg, rest⟩
  · exact .inl hn
  · exact .inr ⟨g, cap, cur, rfl, h1, by rw [hb.block g (Array.getElem?_eq_some_iff.1 hg).1]; exact hg, rest⟩

set_option maxHeartbeats 2000000 in
theorem ref01_EachF (s : ByteArray) (w : World) (hs : s.size ≤ 1000000000) :
    Calls Try.prog 40 #[.string s] w fun e w' => EachF (Pack.each s.data.toList) w w' e ∧ Below w.heap.size w w' := by
  rcases Pack.take_cases s.data.toList with ⟨n, t, hT, hn, hl⟩ | ⟨er, hT, he⟩
  · have HT : Hid (takeV (Pack.take s.data.toList) = .tuple #[.int .i64 (n : Int), .string (str t), .int .i64 0]) := Lib.hid (by rw [hT]; rfl)
    have htl : t.length ≤ 1000000000 := by
      have := congrArg List.length hl
      rw [List.length_append, size_list] at this
      omega
    clear hl
    by_cases h1 : 1000 < n
    · have HC : Hid (Pack.each s.data.toList = ([], [], 2)) := Lib.hid (by unfold Pack.each; rw [hT]; simp only [if_true]; rw [if_pos h1])
      have hd : decide ((1000 : Int) < (n : Int)) = true := by simp; omega
      clear hT h1
      go_enter Try.func40, Try.ntmps40
      go_wp2_with fail
      refine (ref01_Take s _ hs).mono ?_
      rintro e w1 ⟨rfl, hb1⟩
      rw [HT.out]
      go_wp2
      go_ret3
      exact ⟨by rw [HC.out]; exact ⟨_, rfl, SliceI.none _, no_block _⟩, hb1⟩
    · have hd : decide ((1000 : Int) < (n : Int)) = false := by simp; omega
      have HC : Hid (Pack.each s.data.toList = Pack.eachN n t) := Lib.hid (by unfold Pack.each; rw [hT]; simp only [if_true]; rw [if_neg h1])
      have hn1 : n ≤ 1000 := by omega
      clear hT h1
      go_enter Try.func40, Try.ntmps40
      go_wp2_with fail
      refine (ref01_Take s _ hs).mono ?_
      rintro e w1 ⟨rfl, hb1⟩
      have HB := Lib.hid hb1
      clear hb1
      rw [HT.out]
      go_wp2
      go_loopw [6, 8, 9] (fun r v i wr => ∃ (j : Nat) (acc : List Nat) (rest : List UInt8), j ≤ n ∧ i = .int .i64 j ∧ r = .string (str rest) ∧ rest.length ≤ 1000000000 ∧ acc.length = j
          ∧ OwnsI wr w.heap.size v (natI acc) ∧ fin acc (Pack.eachN (n - j) rest) = Pack.eachN n t ∧ Below w.heap.size w wr) (fun _ _ i _ => n - (intOf i).toNat)
      case atStart => exact ⟨0, [], t, by omega, rfl, rfl, htl, rfl, OwnsI.nil _ _, fin_start _ _, HB.out⟩
      case round =>
        obtain ⟨j, acc, rest, hj, rfl, rfl, hrl, hacc, hown, hfin, hbel⟩ := hrel
        have HA := Lib.hid hacc
        have HO2 := Lib.hid hown
        have HF := Lib.hid hfin
        have HB2 := Lib.hid hbel
        clear hacc hown hfin hbel
        have hss : (str rest).size ≤ 1000000000 := by rw [str_size]; exact hrl
        by_cases hlt : j < n
        · have hdj : decide ((j : Int) < (n : Int)) = true := by simp; omega
          have hdn : decide (j < n) = true := by simpa using hlt
          obtain ⟨m, hm⟩ : ∃ m, n - j = m + 1 := ⟨n - j - 1, by omega⟩
          rcases Pack.take_cases rest with ⟨x, t2, hT2, hnx, hlx⟩ | ⟨er, hT2, hex⟩
          · have HRX : Hid (takeV (Pack.take (str rest).data.toList) = .tuple #[.int .i64 (x : Int), .string (str t2), .int .i64 0]) := Lib.hid (by rw [str_data, hT2]; rfl)
            have HF2 : Hid (fin (acc ++ [x]) (Pack.eachN (n - (j + 1)) t2) = Pack.eachN n t) := Lib.hid (by
              rw [← HF.out, hm, fin_step acc m x rest _ hT2, show n - (j + 1) = m by omega])
            have hal : (natI acc).length < 1000000000 := by unfold natI; rw [List.length_map, HA.out]; omega
            have HAL := Lib.hid hal
            have HNI : Hid (natI (acc ++ [x]) = natI acc ++ [(x : Int)]) := Lib.hid (by simp [natI])
            have HRL : Hid (t2.length ≤ 1000000000) := Lib.hid (by
              have := congrArg List.length hlx
              rw [List.length_append] at this
              omega)
            clear hT2 hlx hm hal
            go_wp2_with fail
            refine (ref01_Take (str rest) _ hss).mono ?_
            rintro e w2 ⟨rfl, hb2⟩
            rw [HRX.out]
            have HO3 := Lib.hid (OwnsI.below HO2.out HB2.out.size hb2)
            have HB3 := Lib.hid (HB2.out.trans (hb2.mono HB2.out.size))
            have hbs := HB3.out.size
            clear hb2
            go_wp2_with (at_builtin; refine wp_append_int rfl (.tmp 38) (.tmp 40) rfl w.heap.size _ (natI acc) _ rfl rfl HO3.out hbs HAL.out ?_; intro v1 w3 ho1 hb3)
            go_roundw
            case rel => exact ⟨j + 1, acc ++ [x], t2, by omega, by go_num, rfl, HRL.out, by rw [List.length_append, HA.out]; rfl, by rw [HNI.out]; exact ho1, HF2.out, HB3.out.trans hb3⟩
            case measure => simp [intOf]; omega
          · have HRX : Hid (takeV (Pack.take (str rest).data.toList) = .tuple #[.int .i64 0, .string ⟨#[]⟩, .int .i64 (er : Int)]) := Lib.hid (by rw [str_data, hT2]; rfl)
            have HE : Hid (Pack.each s.data.toList = ([], [], er)) := Lib.hid (by
              rw [HC.out, ← HF.out, hm]; exact fin_err acc m er rest hT2 hex)
            have hne : ((er : Int) != 0) = true := by rcases hex with rfl | rfl <;> rfl
            clear hex hT2 hm
            go_wp2_with fail
            refine (ref01_Take (str rest) _ hss).mono ?_
            rintro e w2 ⟨rfl, hb2⟩
            rw [HRX.out]
            go_wp2
            go_ret3
            exact ⟨by rw [HE.out]; exact ⟨_, rfl, SliceI.none _, no_block _⟩, grew HB2.out hb2⟩
        · obtain rfl : j = n := by omega
          have hdn : decide (j < j) = false := by simp
          have HE : Hid (Pack.each s.data.toList = (acc, rest, 0)) := Lib.hid (by
            rw [HC.out, ← HF.out, Nat.sub_self]
            unfold fin Pack.eachN
            simp)
          have HSL := Lib.hid HO2.out.slice
          go_wp2
          go_ret3
          exact ⟨by rw [HE.out]; exact ⟨_, rfl, HSL.out, fun g hg => (World.ownsRow.lt HO2.out g hg).1⟩, HB2.out⟩
  · have HT : Hid (takeV (Pack.take s.data.toList) = .tuple #[.int .i64 0, .string ⟨#[]⟩, .int .i64 (er : Int)]) := Lib.hid (by rw [hT]; rfl)
    have HC : Hid (Pack.each s.data.toList = ([], [], er)) := Lib.hid (by
      unfold Pack.each; rw [hT]; rcases he with rfl | rfl <;> rfl)
    have hne : ((er : Int) != 0) = true := by rcases he with rfl | rfl <;> rfl
    clear hT he
    go_enter Try.func40, Try.ntmps40
    go_wp2_with fail
    refine (ref01_Take s _ hs).mono ?_
    rintro e w1 ⟨rfl, hb1⟩
    rw [HT.out]
    go_wp2
    go_ret3
    exact ⟨by rw [HC.out]; exact ⟨_, rfl, SliceI.none _, no_block _⟩, hb1⟩

theorem ref01_Each (s : ByteArray) (w : World) (hs : s.size ≤ 1000000000) :
    Calls Try.prog 40 #[.string s] w fun e w' => EachV (Pack.each s.data.toList) w' e ∧ Below w.heap.size w w' :=
  (ref01_EachF s w hs).mono fun _ _ ⟨⟨v, h1, h2, _⟩, h3⟩ => ⟨⟨v, h1, h2⟩, h3⟩
end Go.Proofs.Ytohlnhnelkoakaa
