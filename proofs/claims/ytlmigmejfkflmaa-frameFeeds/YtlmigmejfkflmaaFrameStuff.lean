/- What frame.stuff and frame.Pack come to. -/
import Derived.Test.YtlmigmejfkflmaaKeep
import Derived.Test.YtlmigmejfkflmaaCrcSeal
import Derived.Test.YtlmigmejfkflmaaFrameMath2
namespace Go.Proofs.Ytlmigmejfkflmaa
open Go.RowKit
set_option linter.unusedVariables false

theorem keep_near {a b c : World} {v v1 v2 : Value} (h1 : Keep (At v) a b) (n1 : Near a v v1) (h2 : Keep (At v1) b c) (n2 : Near b v1 v2) : Keep (At v) a c ∧ Near a v v2 := by
  refine ⟨h1.trans h2 (fun i hi h => ?_), fun g hg => ?_⟩
  · rcases n1 i h with k | k
    · exact k
    · omega
  · rcases n2 g hg with k | k
    · exact n1 g k
    · exact .inr (Nat.le_trans h1.size k)
theorem near_refl (w : World) (v : Value) : Near w v v := fun g hg => .inl hg

theorem data_at (s : ByteArray) (k : Nat) (h : k < s.size) : s.data.toList[k]'(by rw [size_list]; exact h) = s[k] := by simp [ByteArray.getElem_eq_getElem_data]

theorem take_data (s : ByteArray) (k : Nat) (h : k < s.size) : s.data.toList.take (k + 1) = s.data.toList.take k ++ [s[k]] := by
  rw [List.take_succ_eq_append_getElem (by rw [size_list]; exact h), data_at s k h]

theorem stuff_snoc (s : ByteArray) (k : Nat) (h : k < s.size) : Frame.stuff (s.data.toList.take (k + 1)) = Frame.stuff (s.data.toList.take k) ++ Frame.stuff1 s[k] := by
  rw [take_data s k h, Frame.stuff_append]
  simp [Frame.stuff]

theorem byte_eq {c : UInt8} {n : Nat} (hn : n < 256) : (((c.toNat : Int) == (n : Int)) = true) ↔ c = UInt8.ofNat n := by
  rw [beq_iff_eq, Int.ofNat_inj]
  constructor
  · intro h; exact UInt8.toNat_inj.1 (by rw [h, UInt8.toNat_ofNat', Nat.mod_eq_of_lt hn])
  · intro h; rw [h, UInt8.toNat_ofNat', Nat.mod_eq_of_lt hn]

theorem byte_is {c : UInt8} {d : UInt8} (h : c = d) : ((c.toNat : Int) == (d.toNat : Int)) = true := by subst h; simp
theorem byte_not {c : UInt8} {d : UInt8} (h : c ≠ d) : ((c.toNat : Int) == (d.toNat : Int)) = false := by
  rw [beq_eq_false_iff_ne]
  intro e
  exact h (UInt8.toNat_inj.1 (Int.ofNat_inj.1 e))

set_option maxHeartbeats 1000000 in
theorem frame_stuff (v : Value) (l : List UInt8) (s : ByteArray) (w : World) (hown : OwnB w v l) (hlen : l.length + 2 * s.size ≤ 1000000) :
    Calls Try.prog 19 #[v, .string s] w fun e w' => ∃ v', e = .returned v' ∧ OwnB w' v' (l ++ Frame.stuff s.data.toList) ∧ Keep (At v) w w' ∧ Near w v v' := by
  have HO := Lib.hid hown
  clear hown
  go_enter Try.func19, Try.ntmps19
  go_wp2
  go_loopw [0, 8] (fun b i wr => ∃ k : Nat, k ≤ s.size ∧ i = .int .i64 k ∧ OwnB wr b (l ++ Frame.stuff (s.data.toList.take k)) ∧ Keep (At v) w wr ∧ Near w v b) (fun _ i _ => s.size - (intOf i).toNat)
  case atStart => exact ⟨0, by omega, rfl, by simpa [Frame.stuff] using HO.out, Keep.refl _ _, near_refl _ _⟩
  case round =>
    obtain ⟨k, hk, rfl, hown, hkeep, hnear⟩ := hrel
    have HO2 := Lib.hid hown
    have HK := Lib.hid hkeep
    have HN := Lib.hid hnear
    clear hown hkeep hnear
    by_cases hlt : k < s.size
    · have hd : decide ((k : Int) < (s.size : Int)) = true := by simp; omega
      have HS := Lib.hid (stuff_snoc s k hlt)
      have hll : (l ++ Frame.stuff (s.data.toList.take k)).length ≤ 1000000 := by
        have := (Frame.stuff_len (s.data.toList.take k)).2
        rw [List.length_take] at this
        rw [List.length_append]; omega
      have HL := Lib.hid hll
      clear hll
      by_cases h1 : s[k] = 126
      · have hb1 : ((s[k].toNat : Int) == 126) = true := byte_is h1
        have HE : Hid (Frame.stuff1 s[k] = [125, 94]) := Lib.hid (by rw [h1]; rfl)
        clear h1
        go_wp2_with (at_builtin; refine wp_append_bytes rfl (.tmp 22) (.tmp 23) rfl _ _ [125, 94] _ rfl rfl rfl HO2.out (by have := HL.out; simp only [List.length_cons, List.length_nil]; omega) ?_; intro v1 w1 ho1 hk1 hn1)
        go_roundw
        case rel =>
          have := keep_near HK.out HN.out hk1 hn1
          exact ⟨k + 1, by omega, by go_num, by rw [HS.out, HE.out, ← List.append_assoc]; exact ho1, this.1, this.2⟩
        case measure => simp [intOf]; omega
      · have hb1 : ((s[k].toNat : Int) == 126) = false := byte_not h1
        by_cases h2 : s[k] = 125
        · have hb2 : ((s[k].toNat : Int) == 125) = true := byte_is h2
          have HE : Hid (Frame.stuff1 s[k] = [125, 93]) := Lib.hid (by rw [h2]; rfl)
          clear h1 h2
          go_wp2_with (at_builtin; refine wp_append_bytes rfl (.tmp 27) (.tmp 28) rfl _ _ [125, 93] _ rfl rfl rfl HO2.out (by have := HL.out; simp only [List.length_cons, List.length_nil]; omega) ?_; intro v1 w1 ho1 hk1 hn1)
          go_roundw
          case rel =>
            have := keep_near HK.out HN.out hk1 hn1
            exact ⟨k + 1, by omega, by go_num, by rw [HS.out, HE.out, ← List.append_assoc]; exact ho1, this.1, this.2⟩
          case measure => simp [intOf]; omega
        · have hb2 : ((s[k].toNat : Int) == 125) = false := byte_not h2
          have HE : Hid (Frame.stuff1 s[k] = [s[k]]) := Lib.hid (by simp [Frame.stuff1, h1, h2])
          clear h1 h2
          go_wp2_with (at_builtin; refine wp_append_bytes rfl (.tmp 14) (.tmp 18) rfl _ _ [s[k]] _ rfl rfl rfl HO2.out (by have := HL.out; simp only [List.length_cons, List.length_nil]; omega) ?_; intro v1 w1 ho1 hk1 hn1)
          go_roundw
          case rel =>
            have := keep_near HK.out HN.out hk1 hn1
            exact ⟨k + 1, by omega, by go_num, by rw [HS.out, HE.out, ← List.append_assoc]; exact ho1, this.1, this.2⟩
          case measure => simp [intOf]; omega
    · have hd : decide ((k : Int) < (s.size : Int)) = false := by simp; omega
      have e1 : s.data.toList.take k = s.data.toList := List.take_of_length_le (by rw [size_list]; omega)
      rw [e1] at HO2
      clear e1
      go_wp2
      go_ret
      exact ⟨_, rfl, HO2.out, HK.out, HN.out⟩

/-- A row of bytes that is just made. -/
theorem OwnB.lit (w : World) (l : List UInt8) (cs : Array Value) (hcs : cs = (byteCells l).toArray) (hl : l.length ≤ 1000000) : OwnB (w.alloc (.cells cs 5)) (.slice (some ⟨w.heap.size, 0, none⟩) l.length l.length) l := by
  subst hcs
  refine ⟨by simp [byteCells], .inr ⟨w.heap.size, l.length, _, rfl, Nat.zero_le _, heap_alloc_new w _, Nat.le_refl _, by unfold maxLen; omega, by simp [byteCells], ?_⟩⟩
  simp [byteCells, List.take_of_length_le]

theorem OwnB.below {w w' : World} {v : Value} {l : List UInt8} (h : OwnB w v l) (hb : Below w.heap.size w w') : OwnB w' v l := Owns.keep h (Keep.of_grew hb Non) (fun _ _ h => h)

/-- The bytes of a frame. -/
def frameS (s : ByteArray) : ByteArray := ⟨(Frame.frame s.data.toList).toArray⟩

theorem sealS_data (s : ByteArray) : (sealS s).data.toList = Frame.sealed s.data.toList := by
  unfold sealS tailS Frame.sealed
  rw [str_app]
theorem frameS_data (s : ByteArray) : (frameS s).data.toList = Frame.frame s.data.toList := by simp [frameS]

set_option maxHeartbeats 1000000 in
theorem frame_Pack_yes (s : ByteArray) (w : World) (hs : s.size ≤ 2000) :
    Calls Try.prog 11 #[.string s] w fun e w' => e = .returned (.tuple #[.string (frameS s), .int .i64 0]) ∧ Below w.heap.size w w' := by
  have hd : decide ((2000 : Int) < (s.size : Int)) = false := by simp; omega
  have hss : (sealS s).size = s.size + 3 := by unfold sealS; rw [size_app]; rfl
  have HSD := Lib.hid (sealS_data s)
  have HSS := Lib.hid hss
  clear hss
  go_enter Try.func11, Try.ntmps11
  go_wp2_with fail
  refine (crcs_Seal s _ (by omega)).mono ?_
  rintro e w1 ⟨rfl, hb1⟩
  go_wp2_with fail
  refine (frame_stuff _ [126] (sealS s) w1 ((OwnB.lit w [126] _ rfl (by decide)).below hb1) (by rw [HSS.out]; simp only [List.length_cons, List.length_nil]; omega)).mono ?_
  rintro e w2 ⟨v2, rfl, hown2, hk2, hn2⟩
  rw [HSD.out] at hown2
  have hl := (Frame.stuff_len (Frame.sealed s.data.toList)).2
  have hl2 := Frame.sealed_len s.data.toList
  have hl3 := size_list s
  have HLEN : Hid (([126] ++ Frame.stuff (Frame.sealed s.data.toList)).length + ([126] : List UInt8).length ≤ 1000000000) := Lib.hid (by simp only [List.length_append, List.length_cons, List.length_nil]; omega)
  clear hl hl2 hl3
  go_wp2_with (at_builtin; refine wp_append_bytes rfl (.tmp 10) (.tmp 11) rfl _ _ [126] _ rfl rfl rfl hown2 HLEN.out ?_; intro v3 w3 hown3 hk3 hn3; have hcv := hown3.to.text)
  go_ret2
  refine ⟨rfl, ?_⟩
  have k1 : Keep (At (.slice (some ⟨w.heap.size, 0, none⟩) 1 1)) w w1 := (Keep.alloc _ w _).trans (Keep.of_grew hb1 Non) (fun _ _ h => h.elim)
  have n1 : Near w (.slice (some ⟨w.heap.size, 0, none⟩) 1 1) (.slice (some ⟨w.heap.size, 0, none⟩) 1 1) := near_refl _ _
  have k2 := keep_near k1 n1 hk2 (fun g hg => by
    rcases hn2 g hg with k | k
    · exact .inl k
    · exact .inr k)
  exact (keep_near k2.1 k2.2 hk3 hn3).1.fresh (fun i hi h => by simp [At, Value.ownBlock] at h; omega)

theorem frame_Pack_no (s : ByteArray) (w : World) (hs : 2000 < s.size) (hm : s.size ≤ maxLen) :
    Calls Try.prog 11 #[.string s] w fun e w' => e = .returned (.tuple #[.string ⟨#[]⟩, .int .i64 1]) ∧ w = w' := by
  unfold maxLen at hm
  have hd : decide ((2000 : Int) < (s.size : Int)) = true := by simp; omega
  go_enter Try.func11, Try.ntmps11
  go_wp2
  go_ret2
  exact ⟨rfl, rfl⟩
end Go.Proofs.Ytlmigmejfkflmaa
