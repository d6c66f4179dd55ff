/- The walks of FramePacks and FrameShared. -/
import Derived.Test.YtlmigmejfkflmaaFrameRef2
import Derived.Test.YtlmigmejfkflmaaFrameLaws
namespace Go.Proofs.Ytlmigmejfkflmaa
open Go.RowKit
set_option linter.unusedVariables false

set_option maxHeartbeats 1000000 in
theorem walk_FramePacks (s : ByteArray) (w : World) (hs : s.size ≤ maxLen) :
    Calls Try.prog 3 #[.string s] w fun e w' => e = .returned (.bool true) ∧ Below w.heap.size w w' := by
  have hs0 := Lib.hid hs
  unfold maxLen at hs
  by_cases h : s.size ≤ 3000
  · have hd : decide ((3000 : Int) < (s.size : Int)) = false := by simp; omega
    have two : ∃ (t : ByteArray) (n : Int), (∀ w, Calls Try.prog 11 #[.string s] w fun e w' => e = .returned (.tuple #[.string t, .int .i64 n]) ∧ Below w.heap.size w w')
        ∧ (∀ w, Calls Try.prog 12 #[.string s] w fun e w' => e = .returned (.tuple #[.string t, .int .i64 n]) ∧ Below w.heap.size w w') := by
      by_cases h2 : s.size ≤ 2000
      · exact ⟨_, _, fun w => frame_Pack_yes s w h2, fun w => ref03_Pack_yes s w h2⟩
      · exact ⟨_, _, fun w => (frame_Pack_no s w (by omega) hs0.out).mono fun e w' ⟨h1, h2⟩ => ⟨h1, h2 ▸ Below.refl _ _⟩, fun w => (ref03_Pack_no s w (by omega)).mono fun e w' ⟨h1, h2⟩ => ⟨h1, h2 ▸ Below.refl _ _⟩⟩
    obtain ⟨t, n, c1, c2⟩ := two
    have C1 := Lib.hid c1
    have C2 := Lib.hid c2
    clear c1 c2
    go_enter Try.func3, Try.ntmps3
    go_wp2_with fail
    refine (C1.out _).mono ?_
    rintro e w1 ⟨rfl, hb1⟩
    go_wp2_with fail
    refine (C2.out _).mono ?_
    rintro e w2 ⟨rfl, hb2⟩
    go_wp2_with fail
    refine (law03_live _).mono ?_
    rintro e w3 ⟨rfl, hb3⟩
    go_wp2
    go_ret
    exact ⟨rfl, grew hb1 (grew hb2 hb3)⟩
  · have hd : decide ((3000 : Int) < (s.size : Int)) = true := by simp; omega
    go_enter Try.func3, Try.ntmps3
    go_wp2_with fail
    refine (law03_live _).mono ?_
    rintro e w3 ⟨rfl, hb3⟩
    go_wp2
    go_ret
    exact ⟨rfl, hb3⟩

def raw (ts : List ByteArray) : List (List UInt8) := ts.map fun t => t.data.toList
theorem strs_raw (ts : List ByteArray) : strs (raw ts) = ts := by
  unfold strs raw
  rw [List.map_map, show ((fun t : List UInt8 => ByteArray.mk t.toArray) ∘ fun t : ByteArray => t.data.toList) = id from by funext t; simp, List.map_id]
theorem raw_len (ts : List ByteArray) : (raw ts).length = ts.length := by simp [raw]
theorem raw_le (ts : List ByteArray) (h : ∀ t ∈ ts, t.size ≤ 2000) : ∀ l ∈ raw ts, l.length ≤ 2000 := by
  intro l hl
  obtain ⟨t, ht, rfl⟩ := List.mem_map.1 hl
  rw [size_list]; exact h t ht
theorem raw_take (ts : List ByteArray) (k : Nat) (h : k < ts.length) : raw (ts.take (k + 1)) = raw (ts.take k) ++ [ts[k].data.toList] := by
  rw [List.take_succ_eq_append_getElem h]; unfold raw; rw [List.map_append]; rfl

/-- A new reader, and a stream that is fed into it. -/
theorem Fed.new {w wr : World} {t : Value} {st : Frame.R} {vr : Value} (h : Fed (w.alloc (.cells #[.slice none 0 0, .int .i64 0] 44)) w.heap.size (.slice none 0 0) wr t st vr) : Below w.heap.size w wr := by
  have hb := grew_alloc w (.cells #[.slice none 0 0, .int .i64 0] 44)
  refine hb.trans (h.fresh hb.size (fun k hk => ?_))
  rcases hk with rfl | hk
  · exact Nat.le_refl _
  · simp [At, Value.ownBlock] at hk

theorem body_of (s : ByteArray) : (frameS s).extract 1 (frameS s).size = tx (Frame.body s.data.toList) := by
  apply str_ext
  rw [Lib.extract_data, frameS_data, tx_data]
  have : (Frame.frame s.data.toList).length = (frameS s).size := (frameS_size s).symm
  rw [show (Frame.frame s.data.toList).drop 1 = Frame.body s.data.toList from rfl]
  rw [List.take_of_length_le]
  have h2 : (Frame.body s.data.toList).length + 1 = (Frame.frame s.data.toList).length := by simp [Frame.frame]
  omega
theorem body_len (t : List UInt8) (h : t.length ≤ 2000) : (Frame.body t).length ≤ 4100 := by
  have h1 := (Frame.stuff_len (Frame.sealed t)).2
  have h2 := Frame.sealed_len t
  simp only [Frame.body, List.length_append, List.length_cons, List.length_nil]
  omega
theorem bodies_len : ∀ l : List (List UInt8), (∀ t ∈ l, t.length ≤ 2000) → (l.flatMap Frame.body).length ≤ 4100 * l.length
  | [], _ => by simp
  | t :: l, h => by
    have h1 := body_len t (h t (List.mem_cons_self ..))
    have h2 := bodies_len l (fun x hx => h x (List.mem_cons_of_mem _ hx))
    rw [List.flatMap_cons, List.length_append, List.length_cons]
    omega
theorem tx_append (a b : List UInt8) : tx a ++ tx b = tx (a ++ b) := str_ext (by rw [str_app, tx_data, tx_data, tx_data])

set_option maxRecDepth 100000 in
set_option maxHeartbeats 2000000 in
theorem walk_FrameShared (a : Option Addr) (len cap : Nat) (ss : List ByteArray) (w : World) (hv : IsStrs w a len cap ss) :
    Calls Try.prog 9 #[.slice a len cap] w fun e w' => e = .returned (.bool true) ∧ Below w.heap.size w w' := by
  obtain ⟨ts, hsl, hm, hz⟩ := hv.slice
  generalize hV : Value.slice a len cap = V at *
  clear hV hv
  have HSL := Lib.hid hsl
  have HM := Lib.hid hm
  have HZ := Lib.hid hz
  clear hm hz
  by_cases hsh : shortB ts = true
  · obtain ⟨h40, h3000⟩ := of_decide_eq_true hsh
    have HSH := Lib.hid hsh
    have H3 := Lib.hid h3000
    clear h3000 hsh
    obtain ⟨a, cap, rfl, hcap, hrow⟩ := hsl
    have HROW := Lib.hid hrow
    clear hrow
    go_enter Try.func9, Try.ntmps9
    go_wp2_with fail
    refine (law03_short _ ts _ HSL.out HM.out HZ.out).mono ?_
    rintro e w1 ⟨rfl, rfl⟩
    rw [HSH.out]
    go_wp2
    go_loopw [3, 4] (fun s i wr => ∃ k : Nat, k ≤ ts.length ∧ i = .int .i64 k ∧ (∀ t ∈ ts.take k, t.size ≤ 2000) ∧ s = .string (tx (126 :: (raw (ts.take k)).flatMap Frame.body)) ∧ Below w.heap.size w wr) (fun _ i _ => ts.length - (intOf i).toNat)
    case atStart => exact ⟨0, by omega, rfl, by simp, rfl, Below.refl _ _⟩
    case round =>
      obtain ⟨k, hk, rfl, hall, rfl, hbel⟩ := hrel
      have HA := Lib.hid hall
      have HB := Lib.hid hbel
      clear hall hbel
      have hbl := bodies_len (raw (ts.take k)) (raw_le _ HA.out)
      rw [raw_len, List.length_take] at hbl
      have hxs : (tx (126 :: (raw (ts.take k)).flatMap Frame.body)).size ≤ 200000 := by rw [tx_size, List.length_cons]; omega
      clear hbl
      by_cases hlt : k < ts.length
      · have hdk : decide ((k : Int) < (ts.length : Int)) = true := by simp; omega
        have hdn : decide (k < ts.length) = true := by simpa using hlt
        have hia : (k : Int) < (ts.length : Int) := by omega
        rcases HROW.out with h | ⟨blk, off, rfl, hblk, hcells⟩
        · subst h; simp at hlt
        · have hcell : wr.cell? ⟨blk, off + k, none⟩ = some (.string ts[k]) := by
            rw [HB.out.cell (p := ⟨blk, off + k, none⟩) hblk]; exact hcells k hlt
          clear hcells
          have hts := HZ.out _ (List.getElem_mem hlt)
          have h3 := H3.out _ (List.getElem_mem hlt)
          by_cases h2 : ts[k].size ≤ 2000
          · have HT : Hid (∀ t ∈ ts.take (k + 1), t.size ≤ 2000) := Lib.hid (fun t ht => by
              rw [List.take_succ_eq_append_getElem hlt] at ht
              rcases List.mem_append.1 ht with h | h
              · exact HA.out t h
              · rw [List.mem_singleton.1 h]; exact h2)
            have HX : Hid (tx (126 :: (raw (ts.take k)).flatMap Frame.body) ++ (frameS ts[k]).extract 1 (frameS ts[k]).size = tx (126 :: (raw (ts.take (k + 1))).flatMap Frame.body)) := Lib.hid (by
              rw [body_of, tx_append, raw_take ts k hlt]; simp)
            obtain ⟨hf1, hf2⟩ := frameS_len ts[k]
            have hdf : decide (((frameS ts[k]).size : Int) < 2) = false := by simp; omega
            generalize tx (126 :: (raw (ts.take k)).flatMap Frame.body) = X at *
            clear hts
            go_wp2_with fail
            refine (frame_Pack_yes ts[k] _ h2).mono ?_
            rintro e w1 ⟨rfl, hb1⟩
            generalize frameS ts[k] = F at *
            go_wp2
            go_roundw
            case rel => exact ⟨k + 1, by omega, by go_num, HT.out, by rw [← HX.out], grew HB.out hb1⟩
            case measure => simp [intOf]; omega
          · go_wp2_with fail
            refine (frame_Pack_no ts[k] _ (by omega) hts).mono ?_
            rintro e w1 ⟨rfl, rfl⟩
            go_wp2_with fail
            refine (law03_live _).mono ?_
            rintro e w3 ⟨rfl, hb3⟩
            go_wp2
            go_ret
            exact ⟨rfl, grew HB.out hb3⟩
      · have hdn : decide (k < ts.length) = false := by simpa using hlt
        have e1 : ts.take k = ts := List.take_of_length_le (by omega)
        rw [e1] at HA hxs ⊢
        clear e1
        have HFD := Lib.hid (Frame.feed_shared (raw ts) (raw_le _ HA.out))
        have HXD := Lib.hid (tx_data (126 :: (raw ts).flatMap Frame.body))
        generalize hX : tx (126 :: (raw ts).flatMap Frame.body) = X at *
        clear hX
        go_wp2_with fail
        refine (frame_New _).mono ?_
        rintro e w3 ⟨rfl, rfl⟩
        have HR3 := Lib.hid (Rd.new wr)
        have HW3 : Hid (Below w.heap.size w (wr.alloc (.cells #[.slice none 0 0, .int .i64 0] 44))) := Lib.hid (grew HB.out (grew_alloc _ _))
        unfold ptr
        go_wp2_with fail
        refine (frame_Feed wr.heap.size _ [] 0 _ _ HR3.out (by simp) (by omega)).mono ?_
        rintro e w4 ⟨t4, v4, rfl, hf4⟩
        rw [HXD.out, HFD.out] at hf4
        have HF4 := Lib.hid hf4
        have HB4 := Lib.hid (grew HB.out hf4.new)
        have hS4 := hf4.slice
        simp only at hS4
        rw [strs_raw] at hS4
        have HS4 := Lib.hid hS4
        clear hf4 hS4
        go_wp2_with fail
        refine (ref03_Texts t4 _ ts ts _ HS4.out (HSL.out.below HB4.out) (by omega) HM.out).mono ?_
        rintro e w5 ⟨rfl, hb5⟩
        rw [show sameS ts ts = true from by simp [sameS]]
        have HR5 := Lib.hid (HF4.out.rd.keep (Keep.of_grew hb5 Non) (fun _ _ h => h))
        go_wp2_with fail
        refine (frame_Bad _ _ _ _ _ HR5.out).mono ?_
        rintro e w6 ⟨rfl, rfl⟩
        go_wp2_with fail
        refine (law03_live _).mono ?_
        rintro e w7 ⟨rfl, hb7⟩
        go_wp2
        go_ret
        exact ⟨rfl, grew HB4.out (grew hb5 hb7)⟩
  · have HSH : Hid (shortB ts = false) := Lib.hid (by simpa using hsh)
    clear hsh hsl
    go_enter Try.func9, Try.ntmps9
    go_wp2_with fail
    refine (law03_short _ ts _ HSL.out HM.out HZ.out).mono ?_
    rintro e w1 ⟨rfl, rfl⟩
    rw [HSH.out]
    go_wp2_with fail
    refine (law03_live _).mono ?_
    rintro e w3 ⟨rfl, hb3⟩
    go_wp2
    go_ret
    exact ⟨rfl, hb3⟩
end Go.Proofs.Ytlmigmejfkflmaa
