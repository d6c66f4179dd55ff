/- The walk of FrameTurned. -/
import Derived.Test.YtlmigmejfkflmaaFrameLaws2
import Derived.Test.YtlmigmejfkflmaaFrameCut
import Derived.Test.YtlmigmejfkflmaaInts0
import Derived.Test.YtlmigmejfkflmaaBits
namespace Go.Proofs.Ytlmigmejfkflmaa
open Go.RowKit
set_option linter.unusedVariables false

/-- Where the first k frames begin. -/
def offs (L : List (List UInt8)) (k : Nat) : List Int := (List.range k).map fun i => (_root_.Frame.pos L i : Int)
theorem offs_len (L : List (List UInt8)) (k : Nat) : (offs L k).length = k := by simp [offs]
theorem offs_succ (L : List (List UInt8)) (k : Nat) : offs L (k + 1) = offs L k ++ [(_root_.Frame.pos L k : Int)] := by simp [offs, List.range_succ]
theorem offs_at (L : List (List UInt8)) (k i : Nat) (h : i < (offs L k).length) : (offs L k)[i] = (_root_.Frame.pos L i : Int) := by simp [offs]

theorem raw_takes (ts : List ByteArray) (k : Nat) : raw (ts.take k) = (raw ts).take k := by unfold raw; rw [List.map_take]
theorem pos_raw (ts : List ByteArray) (k : Nat) : (tx ((raw (ts.take k)).flatMap Frame.frame)).size = _root_.Frame.pos (raw ts) k := by rw [tx_size, raw_takes]; rfl

theorem erase_strs (ts : List ByteArray) (i : Nat) : strs ((raw ts).eraseIdx i) = ts.eraseIdx i := by
  conv => rhs; rw [← strs_raw ts]
  unfold strs
  rw [List.eraseIdx_eq_take_drop_succ, List.eraseIdx_eq_take_drop_succ, List.map_append, List.map_take, List.map_drop]

theorem erase_take (ts : List ByteArray) (i k : Nat) (h : k < ts.length) : (ts.take (k + 1)).eraseIdx i = if k = i then (ts.take k).eraseIdx i else (ts.take k).eraseIdx i ++ [ts[k]] := by
  rw [List.take_succ_eq_append_getElem h]
  have hl : (ts.take k).length = k := by rw [List.length_take]; omega
  by_cases e : k = i
  · rw [if_pos e]
    subst e
    rw [List.eraseIdx_append_of_length_le (by omega), hl, Nat.sub_self, List.eraseIdx_of_length_le (l := ts.take k) (by omega)]
    simp
  · rw [if_neg e]
    by_cases g : i < k
    · rw [List.eraseIdx_append_of_lt_length (by omega)]
    · rw [List.eraseIdx_of_length_le (l := ts.take k) (by omega), List.eraseIdx_of_length_le (by simp; omega)]

theorem xor_u8 (c y : UInt8) : bits .xor .u8 (c.toNat : Int) (y.toNat : Int) = ((c ^^^ y).toNat : Int) := by
  rw [u8_xor_nat _ _ c.toNat_lt y.toNat_lt, UInt8.toNat_xor]
theorem xor_ne {c y : UInt8} (h : y ≠ 0) : c ^^^ y ≠ c := by
  intro e
  apply h
  have : c ^^^ (c ^^^ y) = c ^^^ c := by rw [e]
  rw [← UInt8.xor_assoc, UInt8.xor_self, UInt8.zero_xor] at this
  exact this

set_option maxRecDepth 100000 in
set_option maxHeartbeats 4000000 in
theorem walk_FrameTurned_main (v : Value) (ts : List ByteArray) (at_ : Int) (y : UInt8) (w : World) (hsl : SliceS w v ts) (hm : ts.length ≤ maxLen) (hz : ∀ t ∈ ts, t.size ≤ maxLen) (h40 : ts.length ≤ 40) (h3000 : ∀ t ∈ ts, t.size ≤ 3000) (hsh : shortB ts = true)
    (h0 : 0 ≤ at_) (hs2 : at_ ≤ 9223372036854775807) (hy : y ≠ 0) :
    Calls Try.prog 7 #[v, .int .i64 at_, .int .u8 (y.toNat : Int)] w fun e w' => e = .returned (.bool true) ∧ Below w.heap.size w w' := by
  have HSL := Lib.hid hsl
  have HM := Lib.hid hm
  have HZ := Lib.hid hz
  have H3 := Lib.hid h3000
  have HSH := Lib.hid hsh
  have HY := Lib.hid hy
  have hdy : ((y.toNat : Int) == 0) = false := byte_not (d := 0) hy
  clear hm hz h3000 hsh hy
  have hda : decide (at_ < 0) = false := by simp; omega
  obtain ⟨a, cap, rfl, hcap, hrow⟩ := hsl
  have HROW := Lib.hid hrow
  clear hrow
  go_enter Try.func7, Try.ntmps7
  go_wp2_with fail
  refine (law03_short _ ts _ HSL.out HM.out HZ.out).mono ?_
  rintro e w1 ⟨rfl, rfl⟩
  rw [HSH.out]
  go_wp2
  go_loopw [7, 8, 9] (fun f s i wr => ∃ k : Nat, k ≤ ts.length ∧ i = .int .i64 k ∧ (∀ t ∈ ts.take k, t.size ≤ 2000) ∧ s = .string (tx ((raw (ts.take k)).flatMap Frame.frame)) ∧ OwnI wr f (offs (raw ts) k) ∧ (∀ g, f.ownBlock = some g → w.heap.size ≤ g) ∧ Below w.heap.size w wr) (fun _ _ i _ => ts.length - (intOf i).toNat)
  case atStart => exact ⟨0, by omega, rfl, by simp, rfl, OwnI.nil _, fun g hg => by simp [Value.ownBlock] at hg, Below.refl _ _⟩
  case round =>
    obtain ⟨k, hk, rfl, hall, rfl, hown, hfar, hbel⟩ := hrel
    have HAL := Lib.hid hall
    have HB := Lib.hid hbel
    have HO := Lib.hid hown
    have HFAR := Lib.hid hfar
    clear hall hbel hown hfar
    have hbl := frames_len (raw (ts.take k)) (raw_le _ HAL.out)
    rw [raw_len, List.length_take] at hbl
    have hxs : (tx ((raw (ts.take k)).flatMap Frame.frame)).size ≤ 200000 := by rw [tx_size]; omega
    have HPOS := Lib.hid (pos_raw ts k)
    clear hbl
    by_cases hlt : k < ts.length
    · have hdk : decide ((k : Int) < (ts.length : Int)) = true := by simp; omega
      have hdn : decide (k < ts.length) = true := by simpa using hlt
      have hia : (k : Int) < (ts.length : Int) := by omega
      rcases HROW.out with h | ⟨blk, off, rfl, hblk, hcells⟩
      · subst h; simp at hlt
      · have hcell : wr.cell? ⟨blk, off + k, none⟩ = some (.string ts[k]) := by
          rw [HB.out.cell (p := ⟨blk, off + k, none⟩) hblk]; exact hcells k hlt
        clear hcells
        have hts := HZ.out _ (List.getElem_mem hlt)
        have h3 := H3.out _ (List.getElem_mem hlt)
        by_cases h2 : ts[k].size ≤ 2000
        · have HT : Hid (∀ t ∈ ts.take (k + 1), t.size ≤ 2000) := Lib.hid (fun t ht => by
            rw [List.take_succ_eq_append_getElem hlt] at ht
            rcases List.mem_append.1 ht with h | h
            · exact HAL.out t h
            · rw [List.mem_singleton.1 h]; exact h2)
          have HXX : Hid (tx ((raw (ts.take k)).flatMap Frame.frame) ++ frameS ts[k] = tx ((raw (ts.take (k + 1))).flatMap Frame.frame)) := Lib.hid (by
            rw [frameS_tx, tx_append, raw_take ts k hlt]; simp)
          obtain ⟨hf1, hf2⟩ := frameS_len ts[k]
          have HOS : Hid (offs (raw ts) (k + 1) = offs (raw ts) k ++ [((tx ((raw (ts.take k)).flatMap Frame.frame)).size : Int)]) := Lib.hid (by rw [HPOS.out]; exact offs_succ _ _)
          have HOL : Hid ((offs (raw ts) k).length + 1 ≤ 1000000000) := Lib.hid (by rw [offs_len]; omega)
          generalize tx ((raw (ts.take k)).flatMap Frame.frame) = X at *
          clear hts
          go_wp2_with fail
          refine (frame_Pack_yes ts[k] _ h2).mono ?_
          rintro e w1 ⟨rfl, hb1⟩
          have HO1 := Lib.hid (HO.out.below hb1)
          generalize frameS ts[k] = F at *
          go_wp2_with (at_builtin; refine wp_append_num rfl (.tmp 47) (.tmp 50) rfl _ (offs (raw ts) k) _ rfl rfl HO1.out HOL.out ?_; intro v2 w2 ho2 hk2 hn2)
          have HB2 : Hid (Below w.heap.size w w2) := Lib.hid ((grew HB.out hb1).trans (hk2.below (Nat.le_trans HB.out.size hb1.size) (fun i hi => HFAR.out i hi)))
          have HF2 : Hid (∀ g, v2.ownBlock = some g → w.heap.size ≤ g) := Lib.hid (fun g hg => by
            rcases hn2 g hg with h | h
            · exact HFAR.out g h
            · exact Nat.le_trans (Nat.le_trans HB.out.size hb1.size) h)
          have HO2 : Hid (OwnI w2 v2 (offs (raw ts) (k + 1))) := Lib.hid (by rw [HOS.out]; exact ho2)
          go_roundw
          case rel => exact ⟨k + 1, by omega, by go_num, HT.out, by rw [← HXX.out], HO2.out, HF2.out, HB2.out⟩
          case measure => simp [intOf]; omega
        · go_wp2_with fail
          refine (frame_Pack_no ts[k] _ (by omega) hts).mono ?_
          rintro e w1 ⟨rfl, rfl⟩
          go_wp2_with fail
          refine (law03_live _).mono ?_
          rintro e w3 ⟨rfl, hb3⟩
          go_wp2
          go_ret
          exact ⟨rfl, grew HB.out hb3⟩
    · have hdn : decide (k < ts.length) = false := by simpa using hlt
      have e1 : ts.take k = ts := List.take_of_length_le (by omega)
      rw [e1] at HAL hxs HPOS ⊢
      obtain rfl : k = ts.length := by omega
      clear e1
      go_wp2_with fail
      refine (frame_New _).mono ?_
      rintro e w3 ⟨rfl, rfl⟩
      have HR3 := Lib.hid (Rd.new wr)
      have HW3 : Hid (Below w.heap.size w (wr.alloc (.cells #[.slice none 0 0, .int .i64 0] 44))) := Lib.hid (grew HB.out (grew_alloc _ _))
      have HO3 := Lib.hid (HO.out.below (grew_alloc wr (.cells #[.slice none 0 0, .int .i64 0] 44)))
      have HLOW : Hid (∀ x, RdAt wr.heap.size (.slice none 0 0) x → wr.heap.size ≤ x) := Lib.hid (fun x hx => by
        rcases hx with rfl | hx
        · exact Nat.le_refl _
        · simp [At, Value.ownBlock] at hx)
      have hwr := HB.out.size
      have HOFF : Hid (∀ x, u7.ownBlock = some x → ¬ RdAt wr.heap.size (.slice none 0 0) x) := Lib.hid (fun x hx e => by
        have h1 := Owns.lt HO.out hx
        rcases e with e | e
        · omega
        · simp [At, Value.ownBlock] at e)
      generalize wr.heap.size = g0 at *
      generalize hw3 : (wr.alloc (.cells #[.slice none 0 0, .int .i64 0] 44)) = w3 at *
      clear hw3 HO
      unfold ptr
      have HXD := Lib.hid (tx_data ((raw ts).flatMap Frame.frame))
      generalize hX : tx ((raw ts).flatMap Frame.frame) = X at *
      clear hX
      by_cases hX0 : X.size = 0
      · have hem := mt_yes hX0
        clear hX0
        go_wp2_with fail
        refine (law03_live _).mono ?_
        rintro e w4 ⟨rfl, hb4⟩
        go_wp2
        go_ret
        exact ⟨rfl, grew HW3.out hb4⟩
      · have hem := mt_no (s := X) (by omega)
        obtain ⟨cap4, W, hrun, hcap4, hrow4, hW, hWs⟩ := bytes_made X w3
        have HW4 := Lib.hid hW
        have HROW4 := Lib.hid hrow4
        have HWS := Lib.hid hWs
        clear hW hrow4 hWs
        obtain ⟨q, hq, hql⟩ : ∃ q : Nat, at_ % (X.size : Int) = (q : Int) ∧ q < X.size := by
          have h1 := Int.emod_nonneg at_ (show (X.size : Int) ≠ 0 by omega)
          have h2 := Int.emod_lt_of_pos at_ (show (0 : Int) < X.size by omega)
          exact ⟨(at_ % (X.size : Int)).toNat, by omega, by omega⟩
        have hlq : q < X.data.toList.length := by rw [size_list]; exact hql
        obtain ⟨hc4, hf4⟩ := HROW4.out q hlq
        have HSET := Lib.hid (HROW4.out.set q (X.data.toList[q] ^^^ y) hlq)
        have hxor := xor_u8 X.data.toList[q] y
        have HCNE := Lib.hid (xor_ne (c := X.data.toList[q]) HY.out)
        have HTURN : Hid (∀ i d, i < (raw ts).length → _root_.Frame.pos (raw ts) i ≤ q → q < _root_.Frame.pos (raw ts) (i + 1) → X.data.toList[q] ≠ 126 → X.data.toList[q] ≠ 125 → d ≠ 126 → d ≠ 125 → d ≠ X.data.toList[q] →
            Frame.feed ⟨[], 0, []⟩ (X.data.toList.set q d) = ⟨[], 1, (raw ts).eraseIdx i⟩) := Lib.hid (fun i d hi p1 p2 g1 g2 g3 g4 g5 => by
          have key := Frame.feed_turned (raw ts) (raw_le _ HAL.out) i q d hi p1 p2 (by rw [← HXD.out]; exact hlq)
          simp only [← HXD.out] at key
          exact key g1 g2 g3 g4 g5)
        generalize hc : X.data.toList[q] = c at *
        have HC := Lib.hid hc
        clear hc
        generalize hdd : c ^^^ y = d at *
        clear hdd
        by_cases hc1 : c = 126
        · have hb1 : ((c.toNat : Int) == 126) = true := byte_is hc1
          clear hc1
          go_wp2_with fail
          refine (law03_live _).mono ?_
          rintro e w5 ⟨rfl, hb5⟩
          go_wp2
          go_ret
          exact ⟨rfl, grew HW3.out (grew HW4.out hb5)⟩
        · have hb1 : ((c.toNat : Int) == 126) = false := byte_not hc1
          by_cases hc2 : d = 126
          · have hb2 : ((d.toNat : Int) == 126) = true := byte_is hc2
            clear hc1 hc2
            go_wp2_with fail
            refine (law03_live _).mono ?_
            rintro e w5 ⟨rfl, hb5⟩
            go_wp2
            go_ret
            exact ⟨rfl, grew HW3.out (grew HW4.out hb5)⟩
          · have hb2 : ((d.toNat : Int) == 126) = false := byte_not hc2
            by_cases hc3 : c = 125
            · have hb3 : ((c.toNat : Int) == 125) = true := byte_is hc3
              clear hc1 hc2 hc3
              go_wp2_with fail
              refine (law03_live _).mono ?_
              rintro e w5 ⟨rfl, hb5⟩
              go_wp2
              go_ret
              exact ⟨rfl, grew HW3.out (grew HW4.out hb5)⟩
            · have hb3 : ((c.toNat : Int) == 125) = false := byte_not hc3
              by_cases hc4' : d = 125
              · have hb4 : ((d.toNat : Int) == 125) = true := byte_is hc4'
                clear hc1 hc2 hc3 hc4'
                go_wp2_with fail
                refine (law03_live _).mono ?_
                rintro e w5 ⟨rfl, hb5⟩
                go_wp2
                go_ret
                exact ⟨rfl, grew HW3.out (grew HW4.out hb5)⟩
              · have hb4 : ((d.toNat : Int) == 125) = false := byte_not hc4'
                obtain ⟨i0, hi0, hp1, hp2⟩ := Frame.pos_of (raw ts) ts.length q (by rw [raw_len]; exact Nat.le_refl _) (by rw [← HPOS.out]; exact hql)
                have HFD := Lib.hid (HTURN.out i0 d (by rw [raw_len]; exact hi0) hp1 hp2 hc1 hc3 hc2 hc4' HCNE.out)
                have HPIS := Lib.hid (fun j hj => Frame.pos_is (raw ts) i0 q (by rw [raw_len]; exact hi0) hp1 hp2 j hj)
                clear hc1 hc2 hc3 hc4' hp1 hp2 HTURN
                have hsl : (X.data.toList.set q d).length = X.size := by rw [List.length_set, size_list]
                have hcv := bytes_text _ _ cap4 _ HSET.out
                rw [hsl] at hcv
                have HSZ : Hid ((tx (X.data.toList.set q d)).size = X.size) := Lib.hid (by rw [tx_size]; exact hsl)
                have HTD := Lib.hid (tx_data (X.data.toList.set q d))
                rw [show (ByteArray.mk (X.data.toList.set q d).toArray) = tx (X.data.toList.set q d) from rfl] at hcv
                have HB5 : Hid (Below w3.heap.size w3 (W.setCell ⟨w3.heap.size, q, none⟩ (.int .u8 (d.toNat : Int)))) := Lib.hid (HW4.out.setCell (Nat.le_refl _) _)
                have HR5 := Lib.hid (HR3.out.keep (Keep.of_grew HB5.out Non) (fun _ _ h => h))
                have HO5 := Lib.hid (HO3.out.below HB5.out)
                clear hsl HSET
                go_wp2_with fail
                refine (frame_Feed g0 _ [] 0 _ _ HR5.out (by simp) (by rw [HSZ.out]; omega)).mono ?_
                rintro e w6 ⟨t6, v6, rfl, hf6⟩
                rw [HTD.out, HFD.out] at hf6
                have HF6 := Lib.hid hf6
                have hS6 := hf6.slice
                simp only at hS6
                rw [erase_strs] at hS6
                have HS6 := Lib.hid hS6
                have hsz3 : g0 ≤ w3.heap.size := Nat.le_of_lt HR3.out.hold.lt
                have HB6 : Hid (Below w.heap.size w w6) := Lib.hid ((grew HW3.out HB5.out).trans (hf6.keep.below (Nat.le_trans (Nat.le_trans hwr hsz3) HB5.out.size) (fun x hx => Nat.le_trans hwr (HLOW.out x hx))))
                have HO6 : Hid (OwnI w6 u7 (offs (raw ts) ts.length)) := Lib.hid (HO5.out.keep hf6.keep (fun x hx e => HOFF.out x hx e))
                clear hf6 hS6 hcv
                obtain ⟨fa, fcap, hfv, hfc, hfrow⟩ := HO6.out.slice
                subst hfv
                have hfl := offs_len (raw ts) ts.length
                rw [hfl]
                rw [hfl] at hfc
                rcases hfrow with hnil | ⟨fb, fo, rfl, hfb, hfcells⟩
                · rw [hnil] at hfl; simp at hfl; omega
                have HFC : Hid (∀ i, i < ts.length → w6.cell? ⟨fb, fo + i, none⟩ = some (.int .i64 (_root_.Frame.pos (raw ts) i : Int))) := Lib.hid (fun i hi => by rw [hfcells i (by rw [hfl]; exact hi), offs_at])
                have HFB := Lib.hid hfb
                clear hfcells hfl hfb
                go_wp2
                go_loopw [16, 17] (fun v i wr => ∃ j : Nat, j ≤ ts.length ∧ i = .int .i64 j ∧ OwnS wr v ((ts.take j).eraseIdx i0) ∧ (∀ g, v.ownBlock = some g → w6.heap.size ≤ g) ∧ Below w6.heap.size w6 wr) (fun _ i _ => ts.length - (intOf i).toNat)
                case atStart => exact ⟨0, by omega, rfl, by simpa using OwnS.nil _, fun g hg => by simp [Value.ownBlock] at hg, Below.refl _ _⟩
                case round =>
                  obtain ⟨j, hj, rfl, how, hfw, hbw⟩ := hrel
                  have HOW := Lib.hid how
                  have HFW := Lib.hid hfw
                  have HBW := Lib.hid hbw
                  clear how hfw hbw
                  by_cases hjl : j < ts.length
                  · have hdj : decide ((j : Int) < (ts.length : Int)) = true := by simp; omega
                    have hdjn : decide (j < ts.length) = true := by simpa using hjl
                    have hij : (j : Int) < (ts.length : Int) := by omega
                    have HER := Lib.hid (erase_take ts i0 j hjl)
                    have hcj : wr.cell? ⟨fb, fo + j, none⟩ = some (.int .i64 (_root_.Frame.pos (raw ts) j : Int)) := by rw [HBW.out.cell (p := ⟨fb, fo + j, none⟩) HFB.out]; exact HFC.out j hjl
                    have HOWL : Hid (((ts.take j).eraseIdx i0).length + 1 ≤ 1000000000) := Lib.hid (by
                      have := List.length_eraseIdx_le (ts.take j) i0
                      rw [List.length_take] at this; omega)
                    have hpi := HPIS.out j (by rw [raw_len]; exact hjl)
                    rw [raw_len] at hpi
                    rcases HROW.out with h | ⟨blk, off, rfl, hblk, hcells⟩
                    · subst h; simp at hjl
                    have hcell : wr.cell? ⟨blk, off + j, none⟩ = some (.string ts[j]) := by
                      rw [HBW.out.cell (p := ⟨blk, off + j, none⟩) (Nat.lt_of_lt_of_le hblk HB6.out.size), HB6.out.cell (p := ⟨blk, off + j, none⟩) hblk]; exact hcells j hjl
                    clear hcells
                    have hts := HZ.out _ (List.getElem_mem hjl)
                    by_cases hp : _root_.Frame.pos (raw ts) j ≤ q
                    · have hdp : decide ((_root_.Frame.pos (raw ts) j : Int) ≤ (q : Int)) = true := by simp; omega
                      have hdpn : decide (_root_.Frame.pos (raw ts) j ≤ q) = true := by simpa using hp
                      by_cases hlast : j + 1 = ts.length
                      · have hdl : (((j : Int) + 1) == (ts.length : Int)) = true := by rw [beq_iff_eq]; omega
                        have HNE : Hid (j = i0) := Lib.hid (hpi.1 ⟨hp, .inl hlast⟩)
                        clear hpi hlast hp
                        go_wp2
                        go_roundw
                        case rel => exact ⟨j + 1, by omega, by go_num, by rw [HER.out, if_pos HNE.out]; exact HOW.out, HFW.out, HBW.out⟩
                        case measure => simp [intOf]; omega
                      · have hdl : (((j : Int) + 1) == (ts.length : Int)) = false := by rw [beq_eq_false_iff_ne]; omega
                        have hcj1 : wr.cell? ⟨fb, fo + (j + 1), none⟩ = some (.int .i64 (_root_.Frame.pos (raw ts) (j + 1) : Int)) := by rw [HBW.out.cell (p := ⟨fb, fo + (j + 1), none⟩) HFB.out]; exact HFC.out (j + 1) (by omega)
                        have hij1 : (j : Int) + 1 < (ts.length : Int) := by omega
                        have hjl1 : j + 1 < ts.length := by omega
                        by_cases hp2 : q < _root_.Frame.pos (raw ts) (j + 1)
                        · have hdp2 : decide ((q : Int) < (_root_.Frame.pos (raw ts) (j + 1) : Int)) = true := by simp; omega
                          have hdpn2 : decide (q < _root_.Frame.pos (raw ts) (j + 1)) = true := by simpa using hp2
                          have HNE : Hid (j = i0) := Lib.hid (hpi.1 ⟨hp, .inr hp2⟩)
                          clear hpi hlast hp hp2
                          go_wp2
                          go_roundw
                          case rel => exact ⟨j + 1, by omega, by go_num, by rw [HER.out, if_pos HNE.out]; exact HOW.out, HFW.out, HBW.out⟩
                          case measure => simp [intOf]; omega
                        · have hdp2 : decide ((q : Int) < (_root_.Frame.pos (raw ts) (j + 1) : Int)) = false := by simp; omega
                          have hdpn2 : decide (q < _root_.Frame.pos (raw ts) (j + 1)) = false := by simpa using hp2
                          have HNE : Hid (¬ j = i0) := Lib.hid (fun e => by
                            rcases (hpi.2 e).2 with h | h
                            · exact hlast h
                            · exact hp2 h)
                          clear hpi hlast hp hp2
                          go_wp2_with (at_builtin; refine wp_append_text rfl (.tmp 140) (.tmp 145) rfl _ ((ts.take j).eraseIdx i0) ts[j] rfl rfl HOW.out HOWL.out ?_; intro v8 w8 ho8 hk8 hn8)
                          have HO8 : Hid (OwnS w8 v8 ((ts.take (j + 1)).eraseIdx i0)) := Lib.hid (by rw [HER.out, if_neg HNE.out]; exact ho8)
                          have HB8 : Hid (Below w6.heap.size w6 w8) := Lib.hid (HBW.out.trans (hk8.below HBW.out.size (fun i hi => HFW.out i hi)))
                          have HF8 : Hid (∀ g, v8.ownBlock = some g → w6.heap.size ≤ g) := Lib.hid (fun g hg => by
                            rcases hn8 g hg with h | h
                            · exact HFW.out g h
                            · exact Nat.le_trans HBW.out.size h)
                          go_roundw
                          case rel => exact ⟨j + 1, by omega, by go_num, HO8.out, HF8.out, HB8.out⟩
                          case measure => simp [intOf]; omega
                    · have hdp : decide ((_root_.Frame.pos (raw ts) j : Int) ≤ (q : Int)) = false := by simp; omega
                      have hdpn : decide (_root_.Frame.pos (raw ts) j ≤ q) = false := by simpa using hp
                      have HNE : Hid (¬ j = i0) := Lib.hid (fun e => hp (hpi.2 e).1)
                      clear hpi hp
                      go_wp2_with (at_builtin; refine wp_append_text rfl (.tmp 140) (.tmp 145) rfl _ ((ts.take j).eraseIdx i0) ts[j] rfl rfl HOW.out HOWL.out ?_; intro v8 w8 ho8 hk8 hn8)
                      have HO8 : Hid (OwnS w8 v8 ((ts.take (j + 1)).eraseIdx i0)) := Lib.hid (by rw [HER.out, if_neg HNE.out]; exact ho8)
                      have HB8 : Hid (Below w6.heap.size w6 w8) := Lib.hid (HBW.out.trans (hk8.below HBW.out.size (fun i hi => HFW.out i hi)))
                      have HF8 : Hid (∀ g, v8.ownBlock = some g → w6.heap.size ≤ g) := Lib.hid (fun g hg => by
                        rcases hn8 g hg with h | h
                        · exact HFW.out g h
                        · exact Nat.le_trans HBW.out.size h)
                      go_roundw
                      case rel => exact ⟨j + 1, by omega, by go_num, HO8.out, HF8.out, HB8.out⟩
                      case measure => simp [intOf]; omega
                  · have hdjn : decide (j < ts.length) = false := by simpa using hjl
                    have e1 : ts.take j = ts := List.take_of_length_le (by omega)
                    rw [e1] at HOW
                    clear e1
                    have hle := List.length_eraseIdx_le ts i0
                    have HR7 := Lib.hid (HF6.out.rd.keep (Keep.of_grew HBW.out Non) (fun _ _ h => h))
                    go_wp2_with fail
                    refine (ref03_Texts _ _ _ _ _ (HS6.out.below HBW.out) HOW.out.slice (by omega) (by unfold maxLen; omega)).mono ?_
                    rintro e w8 ⟨rfl, hb8⟩
                    rw [show sameS (ts.eraseIdx i0) (ts.eraseIdx i0) = true from by simp [sameS]]
                    have HR8 := Lib.hid (HR7.out.keep (Keep.of_grew hb8 Non) (fun _ _ h => h))
                    go_wp2_with fail
                    refine (frame_Bad _ _ _ _ _ HR8.out).mono ?_
                    rintro e w9 ⟨rfl, rfl⟩
                    go_wp2_with fail
                    refine (law03_live _).mono ?_
                    rintro e w10 ⟨rfl, hb10⟩
                    go_wp2
                    go_ret
                    exact ⟨rfl, grew HB6.out (grew HBW.out (grew hb8 hb10))⟩

theorem byte_of (n : Int) (h : (Lit.int .u8 n).wf = true) : ∃ y : UInt8, n = (y.toNat : Int) := by
  have hb : 0 ≤ n ∧ n ≤ 255 := bounds_u8 h
  exact ⟨UInt8.ofNat n.toNat, by rw [UInt8.toNat_ofNat']; omega⟩

set_option maxHeartbeats 1000000 in
theorem walk_FrameTurned (a : Option Addr) (len cap : Nat) (ss : List ByteArray) (at_ by_ : Int) (w : World) (hv : IsStrs w a len cap ss) (hat : (Lit.int .i64 at_).wf = true) (hby : (Lit.int .u8 by_).wf = true) :
    Calls Try.prog 7 #[.slice a len cap, .int .i64 at_, .int .u8 by_] w fun e w' => e = .returned (.bool true) ∧ Below w.heap.size w w' := by
  obtain ⟨hs1, hs2⟩ := bounds_i64 hat
  obtain ⟨y, rfl⟩ := byte_of by_ hby
  obtain ⟨ts, hsl, hm, hz⟩ := hv.slice
  generalize hV : Value.slice a len cap = V at *
  clear hV hv hat hby
  by_cases hsh : shortB ts = true
  · obtain ⟨h40, h3000⟩ := of_decide_eq_true hsh
    by_cases h1 : 0 ≤ at_
    · by_cases h2 : y = 0
      · have hd1 : decide (at_ < 0) = false := by simp; omega
        have hd2 : ((y.toNat : Int) == 0) = true := byte_is (d := 0) h2
        have HSH := Lib.hid hsh
        clear hsh h3000 h40 h2
        have C := Lib.hid (law03_short V ts w hsl hm hz)
        clear hsl hm hz
        go_enter Try.func7, Try.ntmps7
        go_wp2_with fail
        refine C.out.mono ?_
        rintro e w1 ⟨rfl, rfl⟩
        rw [HSH.out]
        go_wp2_with fail
        refine (law03_live _).mono ?_
        rintro e w3 ⟨rfl, hb3⟩
        go_wp2
        go_ret
        exact ⟨rfl, hb3⟩
      · exact walk_FrameTurned_main V ts at_ y w hsl hm hz h40 h3000 hsh h1 hs2 h2
    · have hd1 : decide (at_ < 0) = true := by simp; omega
      have HSH := Lib.hid hsh
      clear hsh h3000 h40
      have C := Lib.hid (law03_short V ts w hsl hm hz)
      clear hsl hm hz
      go_enter Try.func7, Try.ntmps7
      go_wp2_with fail
      refine C.out.mono ?_
      rintro e w1 ⟨rfl, rfl⟩
      rw [HSH.out]
      go_wp2_with fail
      refine (law03_live _).mono ?_
      rintro e w3 ⟨rfl, hb3⟩
      go_wp2
      go_ret
      exact ⟨rfl, hb3⟩
  · have HSH : Hid (shortB ts = false) := Lib.hid (by simpa using hsh)
    clear hsh
    have C := Lib.hid (law03_short V ts w hsl hm hz)
    clear hsl hm hz
    go_enter Try.func7, Try.ntmps7
    go_wp2_with fail
    refine C.out.mono ?_
    rintro e w1 ⟨rfl, rfl⟩
    rw [HSH.out]
    go_wp2_with fail
    refine (law03_live _).mono ?_
    rintro e w3 ⟨rfl, hb3⟩
    go_wp2
    go_ret
    exact ⟨rfl, hb3⟩
end Go.Proofs.Ytlmigmejfkflmaa
