/- What the statements of layer 3 lean on: lists held against one another, how long they are, and that some answers are the document's. -/
import Derived.Test.YtlmigmejfkflmaaFrameRead
import Derived.Laws.MakeOwn
namespace Go.Proofs.Ytlmigmejfkflmaa
open Go.RowKit
set_option linter.unusedVariables false

theorem take_exts {xs ys : List ByteArray} {k : Nat} (ha : k < xs.length) (hb : k < ys.length) (h : xs.take k = ys.take k) : (xs.take (k + 1) = ys.take (k + 1)) ↔ xs[k] = ys[k] := by
  rw [List.take_succ_eq_append_getElem ha, List.take_succ_eq_append_getElem hb, h]
  exact ⟨fun h => by have := List.append_cancel_left h; injection this, fun h => by rw [h]⟩

/-- Are two lists of texts the same? -/
def sameS (xs ys : List ByteArray) : Bool := decide (xs = ys)

set_option maxHeartbeats 1000000 in
theorem ref03_Texts (va vb : Value) (xs ys : List ByteArray) (w : World) (ha : SliceS w va xs) (hb : SliceS w vb ys) (hm : xs.length ≤ 1000000000) (hm2 : ys.length ≤ maxLen) :
    Calls Try.prog 15 #[va, vb] w fun e w' => e = .returned (.bool (sameS xs ys)) ∧ Below w.heap.size w w' := by
  unfold maxLen at hm2
  obtain ⟨aa, ca, rfl, hca, hra⟩ := ha
  obtain ⟨ab, cb, rfl, hcb, hrb⟩ := hb
  by_cases hl : xs.length = ys.length
  · have hd : ((xs.length : Int) != (ys.length : Int)) = false := by simp; omega
    by_cases h0 : xs.length = 0
    · obtain rfl : xs = [] := List.eq_nil_of_length_eq_zero h0
      obtain rfl : ys = [] := List.eq_nil_of_length_eq_zero hl.symm
      clear hra hrb hd
      go_enter Try.func15, Try.ntmps15
      go_wp2
      go_rounds 1
      go_ret
      exact ⟨rfl, Below.refl _ _⟩
    · rcases hra with rfl | ⟨ba, oa, rfl, _, hcellA⟩
      · exact absurd rfl h0
      · rcases hrb with rfl | ⟨bb, ob, rfl, _, hcellB⟩
        · exact absurd hl h0
        · have HA := Lib.hid hcellA
          have HB := Lib.hid hcellB
          have HL := Lib.hid hl
          clear hcellA hcellB hl
          go_enter Try.func15, Try.ntmps15
          go_wp2
          go_loopw [5] (fun i wr => ∃ k : Nat, k ≤ xs.length ∧ i = .int .i64 k ∧ xs.take k = ys.take k ∧ ∃ n, wr = w.drewN n) (fun i _ => xs.length - (intOf i).toNat)
          case atStart => exact ⟨0, by omega, rfl, rfl, 0, rfl⟩
          case round =>
            obtain ⟨k, hk, rfl, heq, n, rfl⟩ := hrel
            have HEQ := Lib.hid heq
            clear heq
            by_cases hlt : k < xs.length
            · have hdk : decide ((k : Int) < (xs.length : Int)) = true := by simp; omega
              have hdn : decide (k < xs.length) = true := by simpa using hlt
              have hlb : k < ys.length := by rw [← HL.out]; exact hlt
              have hca' := HA.out k hlt
              have hcb' := HB.out k hlb
              have HX := Lib.hid (take_exts hlt hlb HEQ.out)
              have hia : (k : Int) < (xs.length : Int) := by omega
              have hib : (k : Int) < (ys.length : Int) := by omega
              generalize hxa : xs[k] = x at *
              generalize hyb : ys[k] = y at *
              have HXA := Lib.hid hxa
              have HYB := Lib.hid hyb
              clear hxa hyb
              by_cases hxy : x = y
              · have hne := str_same hxy
                have HXY := Lib.hid hxy
                clear hxy
                go_wp2
                go_quiet (fail)
                go_wp2
                go_roundw
                case rel => exact ⟨k + 1, by omega, by go_num, HX.out.2 HXY.out, n + nq, by simp⟩
                case measure => simp [intOf]; omega
              · have hne := str_other hxy
                have HXY := Lib.hid hxy
                clear hxy
                go_wp2
                go_quiet (fail)
                go_wp2
                go_ret
                exact ⟨by
                  have : xs ≠ ys := fun h => HXY.out (by subst h; rw [← HXA.out, ← HYB.out])
                  simp [sameS, this], by rw [World.drewN_drewN]; exact grew_drewN w _⟩
            · have hdn : decide (k < xs.length) = false := by simpa using hlt
              go_wp2
              go_ret
              exact ⟨by
                have e1 : xs.take k = xs := List.take_of_length_le (by omega)
                have e2 : ys.take k = ys := List.take_of_length_le (by rw [← HL.out]; omega)
                have : xs = ys := by rw [← e1, ← e2]; exact HEQ.out
                simp [sameS, this], grew_drewN w n⟩
  · have hd : ((xs.length : Int) != (ys.length : Int)) = true := by simp; omega
    have hne : xs ≠ ys := fun h => hl (by rw [h])
    have HN := Lib.hid hne
    clear hra hrb hl hne
    go_enter Try.func15, Try.ntmps15
    go_wp2
    go_ret
    exact ⟨by simp [sameS, HN.out], Below.refl _ _⟩

/-- Are there at most 40 texts of 3000 bytes? -/
def shortB (ts : List ByteArray) : Bool := decide (ts.length ≤ 40 ∧ ∀ t ∈ ts, t.size ≤ 3000)

set_option maxHeartbeats 1000000 in
theorem law03_short (v : Value) (ts : List ByteArray) (w : World) (hv : SliceS w v ts) (hm : ts.length ≤ maxLen) (hz : ∀ t ∈ ts, t.size ≤ maxLen) :
    Calls Try.prog 13 #[v] w fun e w' => e = .returned (.bool (shortB ts)) ∧ w = w' := by
  unfold maxLen at hm hz
  obtain ⟨a, cap, rfl, hcap, hrow⟩ := hv
  have HZ := Lib.hid hz
  have HROW := Lib.hid hrow
  clear hz hrow
  by_cases h40 : ts.length ≤ 40
  · have hd40 : decide ((40 : Int) < (ts.length : Int)) = false := by simp; omega
    go_enter Try.func13, Try.ntmps13
    go_wp2
    go_loop [3] (fun i => ∃ k : Nat, k ≤ ts.length ∧ i = .int .i64 k ∧ ∀ t ∈ ts.take k, t.size ≤ 3000) (fun i => ts.length - (intOf i).toNat)
    case atStart => exact ⟨0, by omega, rfl, by simp⟩
    case round =>
      obtain ⟨k, hk, rfl, hall⟩ := hrel
      have HA := Lib.hid hall
      clear hall
      by_cases hlt : k < ts.length
      · have hdk : decide ((k : Int) < (ts.length : Int)) = true := by simp; omega
        have hdn : decide (k < ts.length) = true := by simpa using hlt
        have hia : (k : Int) < (ts.length : Int) := by omega
        rcases HROW.out with h | ⟨blk, off, rfl, hblk, hcells⟩
        · subst h; simp at hlt
        · have hcell := hcells k hlt
          have hts := HZ.out _ (List.getElem_mem hlt)
          clear hcells
          have HT : Hid (∀ t ∈ ts.take (k + 1), t ∈ ts.take k ∨ t = ts[k]) := Lib.hid (fun t ht => by
            rw [List.take_succ_eq_append_getElem hlt] at ht
            rcases List.mem_append.1 ht with h | h
            · exact .inl h
            · exact .inr (List.mem_singleton.1 h))
          by_cases hs : ts[k].size ≤ 3000
          · have hds : decide ((3000 : Int) < (ts[k].size : Int)) = false := by simp; omega
            go_wp2
            go_round
            case rel =>
              refine ⟨k + 1, by omega, by go_num, fun t ht => ?_⟩
              rcases HT.out t ht with h | h
              · exact HA.out t h
              · rw [h]; exact hs
            case measure => simp [intOf]; omega
          · have hds : decide ((3000 : Int) < (ts[k].size : Int)) = true := by simp; omega
            have HN : Hid (shortB ts = false) := Lib.hid (by
              unfold shortB
              rw [decide_eq_false_iff_not]
              rintro ⟨_, h⟩
              exact hs (h _ (List.getElem_mem hlt)))
            go_wp2
            go_ret
            exact ⟨by rw [HN.out]; rfl, rfl⟩
      · have hdn : decide (k < ts.length) = false := by simpa using hlt
        have HN : Hid (shortB ts = true) := Lib.hid (by
          unfold shortB
          rw [decide_eq_true_iff]
          refine ⟨h40, fun t ht => HA.out t ?_⟩
          rw [List.take_of_length_le (by omega)]
          exact ht)
        go_wp2
        go_ret
        exact ⟨by rw [HN.out]; rfl, rfl⟩
  · have hd40 : decide ((40 : Int) < (ts.length : Int)) = true := by simp; omega
    have HN : Hid (shortB ts = false) := Lib.hid (by
      unfold shortB
      rw [decide_eq_false_iff_not]
      rintro ⟨h, _⟩
      exact h40 h)
    go_enter Try.func13, Try.ntmps13
    go_wp2
    go_ret
    exact ⟨by rw [HN.out]; rfl, rfl⟩

/-- 'make([]byte, n)' as a text. -/
theorem zeros_text (n : Nat) (w : World) (hn : n ≤ 1000000) : ∃ v W s, (Instr.makeSlice 39 (.int .i64 (n : Int)) (.int .i64 (n : Int))).run Try.prog w = .ok v W
    ∧ (convert 39 9 v).run Try.prog W = .ok (.string s) W ∧ s.size = n ∧ Below w.heap.size w W := by
  obtain ⟨i0, hi, hz0, hz1, hz2⟩ := info_parts info_u8
  have h := run_make (P := Try.prog) w 39 5 i0 (.int .u8 0) Try.underlying39 hi hz0 .i64 .i64 (n : Int) (n : Int) (by omega) (by omega) (by rw [hz2]; omega) (by omega)
  refine ⟨_, _, ⟨(List.replicate n (0 : UInt8)).toArray⟩, h, ?_, by rw [← size_list]; simp, grew_alloc _ _⟩
  have e : (Int.toNat (n : Int)) = (List.replicate n (0 : UInt8)).length := by simp
  rw [e]
  refine run_convert_bytes_back (P := Try.prog) _ 39 9 5 ⟨w.heap.size, 0, none⟩ _ (List.replicate n (0 : UInt8)) Try.underlying39 Try.underlying5 Try.underlying9 (fun j hj => ?_)
  rw [show (⟨w.heap.size, 0, none⟩ : Addr).add j = ⟨w.heap.size, j, none⟩ from by unfold Addr.add; split <;> simp_all, cell_of_row _ _ _ _ _ _ (heap_alloc_new _ _)]
  have hj' : j < n := by simpa using hj
  rw [hz1]
  have e1 : (Value.int .u8 0).cells = #[.int .u8 0] := rfl
  rw [e1]
  simp [madeCells, hj', Nat.mod_one]

theorem one_text (w : World) (t : ByteArray) : SliceS (w.alloc (.cells #[.string t] 9)) (.slice (some ⟨w.heap.size, 0, none⟩) 1 1) [t] :=
  ⟨_, 1, rfl, by simp, .inr ⟨w.heap.size, 0, rfl, by simp, fun i hi => by
    rw [cell_of_row _ _ _ _ _ _ (heap_alloc_new _ _)]
    have hi2 : i < 1 := by simpa using hi
    rcases (by omega : i = 0) with rfl
    rfl⟩⟩

/-- The texts that Feed tells, and the reader behind it. -/
theorem Fed.slice {w : World} {g : Nat} {v : Value} {wr : World} {t : Value} {st : Frame.R} {vr : Value} (h : Fed w g v wr t st vr) : SliceS wr t (strs st.told) := h.own.slice
theorem Fed.fresh {w : World} {g : Nat} {v : Value} {wr : World} {t : Value} {st : Frame.R} {vr : Value} (h : Fed w g v wr t st vr) {B : Nat} (hB : B ≤ w.heap.size) (hs : ∀ k, RdAt g v k → B ≤ k) : Below B w wr := h.keep.below hB hs
theorem Fed.after {w : World} {g : Nat} {v : Value} {wr : World} {t : Value} {st : Frame.R} {vr : Value} (h : Fed w g v wr t st vr) {B : Nat} (hB : B ≤ w.heap.size) (hs : ∀ k, RdAt g v k → B ≤ k) : ∀ k, RdAt g vr k → B ≤ k := fun k hk => by
  rcases h.near k hk with e | e
  · exact hs k e
  · omega

theorem pack_live : frameS ⟨#[97, 126, 125]⟩ = ⟨#[126, 97, 125, 94, 125, 93, 146, 181, 38, 126]⟩ := by decide +kernel

set_option maxRecDepth 100000 in
set_option maxHeartbeats 2000000 in
theorem law03_live (w : World) :
    Calls Try.prog 10 #[] w fun e w' => e = .returned (.bool true) ∧ Below w.heap.size w w' := by
  go_enter Try.func10, Try.ntmps10
  go_wp2_with fail
  refine (frame_Pack_yes _ _ (by decide)).mono ?_
  rintro e w1 ⟨rfl, hb1⟩
  rw [pack_live]
  obtain ⟨zv, zW, zs, hmake, hconv, hzs, hzb⟩ := zeros_text 2001 w1 (by omega)
  rw [show ((2001 : Nat) : Int) = 2001 from rfl] at hmake
  have HZS := Lib.hid hzs
  clear hzs
  go_wp2_with fail
  refine (frame_Pack_no zs _ (by rw [HZS.out]; omega) (by rw [HZS.out]; decide)).mono ?_
  rintro e w2 ⟨rfl, rfl⟩
  clear hmake hconv
  go_wp2_with fail
  refine (frame_New _).mono ?_
  rintro e w3 ⟨rfl, rfl⟩
  have HR3 := Lib.hid (Rd.new zW)
  have hz3 := grew_alloc zW (.cells #[.slice none 0 0, .int .i64 0] 44)
  have hg3 : ∀ k, RdAt zW.heap.size (.slice none 0 0) k → zW.heap.size ≤ k := fun k hk => by
    rcases hk with rfl | hk
    · exact Nat.le_refl _
    · simp [At, Value.ownBlock] at hk
  have HG3 := Lib.hid hg3
  have HZ3 := Lib.hid hz3
  clear hg3 hz3
  have hsz3 : zW.heap.size ≤ (zW.alloc (.cells #[.slice none 0 0, .int .i64 0] 44)).heap.size := HZ3.out.size
  generalize (zW.alloc (.cells #[.slice none 0 0, .int .i64 0] 44)) = w3 at *
  unfold ptr
  go_wp2_with fail
  rw [show (ByteArray.mk #[120]) ++ (ByteArray.mk #[126, 97, 125, 94, 125, 93, 146, 181, 38, 126]).extract 0 4 = ⟨#[120, 126, 97, 125, 94]⟩ from by decide +kernel]
  refine (frame_Feed zW.heap.size _ [] 0 _ _ HR3.out (by decide) (by decide)).mono ?_
  rintro e w4 ⟨t4, v4, rfl, hf4⟩
  rw [show Frame.feed ⟨[], 0, []⟩ (ByteArray.mk #[120, 126, 97, 125, 94]).data.toList = ⟨[97, 125, 94], 1, []⟩ from by decide +kernel] at hf4
  have HF4 := Lib.hid hf4
  obtain ⟨a4, c4, rfl⟩ := hf4.own.form
  clear hf4
  have HG4 := Lib.hid (HF4.out.after hsz3 HG3.out)
  have HB4 := Lib.hid (HF4.out.fresh hsz3 HG3.out)
  have hsz4 : zW.heap.size ≤ w4.heap.size := Nat.le_trans hsz3 HF4.out.keep.size
  rw [show (strs []).length = 0 from rfl] at *
  go_wp2_with fail
  rw [show (ByteArray.mk #[126, 97, 125, 94, 125, 93, 146, 181, 38, 126]).extract 4 10 ++ (ByteArray.mk #[122, 122, 126]) = ⟨#[125, 93, 146, 181, 38, 126, 122, 122, 126]⟩ from by decide +kernel]
  refine (frame_Feed zW.heap.size _ [97, 125, 94] 1 _ _ HF4.out.rd (by decide) (by decide)).mono ?_
  rintro e w5 ⟨t5, v5, rfl, hf5⟩
  rw [show Frame.feed ⟨[97, 125, 94], 1, []⟩ (ByteArray.mk #[125, 93, 146, 181, 38, 126, 122, 122, 126]).data.toList = ⟨[], 2, [[97, 126, 125]]⟩ from by decide +kernel] at hf5
  have HF5 := Lib.hid hf5
  clear hf5
  have HB5 := Lib.hid (HF5.out.fresh hsz4 HG4.out)
  go_wp2_with fail
  refine (frame_Pack_yes _ _ (by decide)).mono ?_
  rintro e w6 ⟨rfl, hb6⟩
  rw [show frameS ⟨#[]⟩ = ⟨#[126, 183, 4, 206, 126]⟩ from by decide +kernel]
  have HS6 := Lib.hid ((HF5.out.slice.below hb6).below (grew_alloc w6 (.cells #[.string ⟨#[97, 126, 125]⟩] 9)))
  have HR6 := Lib.hid ((HF5.out.rd.keep (Keep.of_grew hb6 Non) (fun _ _ h => h)).keep (Keep.of_grew (grew_alloc w6 (.cells #[.string ⟨#[97, 126, 125]⟩] 9)) Non) (fun _ _ h => h))
  go_wp2_with fail
  refine (ref03_Texts t5 _ _ [⟨#[97, 126, 125]⟩] _ HS6.out (one_text _ _) (by decide) (by decide)).mono ?_
  rintro e w7 ⟨rfl, hb7⟩
  rw [show sameS (strs [[97, 126, 125]]) [⟨#[97, 126, 125]⟩] = true from by decide +kernel]
  have HR7 := Lib.hid (HR6.out.keep (Keep.of_grew hb7 Non) (fun _ _ h => h))
  go_wp2_with fail
  refine (frame_Bad _ _ _ _ _ HR7.out).mono ?_
  rintro e w8 ⟨rfl, rfl⟩
  go_wp2
  go_ret
  refine ⟨rfl, ?_⟩
  have h1 : Below zW.heap.size zW w7 := HZ3.out.trans (HB4.out.trans (HB5.out.trans (((hb6.mono (Nat.le_trans hsz4 HF5.out.keep.size)).trans ((grew_alloc w6 _).mono (Nat.le_trans (Nat.le_trans hsz4 HF5.out.keep.size) hb6.size))).trans (hb7.mono (Nat.le_trans (Nat.le_trans (Nat.le_trans hsz4 HF5.out.keep.size) hb6.size) (grew_alloc w6 _).size)))))
  exact grew hb1 (grew hzb h1)
end Go.Proofs.Ytlmigmejfkflmaa
