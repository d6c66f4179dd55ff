/- The walk of FrameCut. -/
import Derived.Test.YtlmigmejfkflmaaFrameLaws2
import Derived.Laws.AppendOwnNone
namespace Go.Proofs.Ytlmigmejfkflmaa
open Go.RowKit
set_option linter.unusedVariables false

/-- 'l = append(l, t...)', t a row of the call's own. -/
theorem wp_append_texts {ops : Array Oper} {rest : List Oper} {o : Oper} {a : Act} {w : World} {Q : Exit → Act → World → Prop} (hgd : o.guard = none) (s x : Operand)
    (ho : o.op = .call { callee := .builtin .append, args := #[s, x], argTypes := #[27, 27] })
    (v u : Value) (l ns : List ByteArray) (hs : a.eval s = v) (hx : a.eval x = u)
    (hown : OwnS w v l) (hsrc : OwnS w u ns) (hlen : l.length + ns.length ≤ 1000000000)
    (h : ∀ v' w', OwnS w' v' (l ++ ns) → Keep (At v) w w' → Near w v v' → wpList Try.prog ops Q rest (a.put o.dst v') w') :
    wpList Try.prog ops Q (o :: rest) a w := by
  rcases hsrc.2 with ⟨rfl, h0⟩ | ⟨g, cap, cur, rfl, hb, hg, hn, hm, hc, ht⟩
  · have : ns = [] := List.eq_nil_of_length_eq_zero h0
    subst this
    obtain ⟨i0, hi, hz0, hz1, hz2⟩ := info_parts info_str
    refine wpList_append_own_none (P := Try.prog) hgd s x 27 ho 0 9 i0 1 Try.underlying27 hi v l.length _ hs hown hx ?_
    exact h v w (by simpa using hown) (Keep.refl _ _) (near_refl _ _)
  · refine wp_append_any hgd s x ho Try.underlying27 info_str rfl (by decide) (by decide) v l.length (l.map Value.string) hs hown ⟨g, 0, none⟩ ns.length cap (ns.map Value.string) hx (by simp) (World.ownsRow.cells hsrc (g := g) rfl) ?_ hlen ?_
    · intro u hu
      obtain ⟨c, _, rfl⟩ := List.mem_map.1 hu
      rfl
    · intro v' w' k1 k2 k3
      refine h v' w' ?_ k2 k3
      unfold OwnS
      rw [List.length_append, List.map_append]
      exact k1

/-- Fed once more, and what was told put behind what was told ahead. -/
theorem Fed.more {w0 : World} {g : Nat} {v0 : Value} {wr : World} {got : Value} {st : Frame.R} {vr : Value} (h : Fed w0 g v0 wr got st vr) {w1 : World} {t : Value} {st1 : Frame.R} {v1 : Value} (hf : Fed wr g vr w1 t st1 v1) :
    OwnS w1 got (strs st.told) ∧ ∀ w2 got2, OwnS w2 got2 (strs st.told ++ strs st1.told) → Keep (At got) w1 w2 → Near w1 got got2 → Fed w0 g v0 w2 got2 ⟨st1.piece, st1.bad, st.told ++ st1.told⟩ v1 := by
  refine ⟨h.own.keep hf.keep (fun k hk => (h.far k hk).2), fun w2 got2 ho hk hn => ?_⟩
  have hks := keepS h.keep h.near hf.keep hf.near
  have hoff : ∀ x, got.ownBlock = some x → ¬ RdAt g v1 x := fun x hx e => by
    rcases hf.near x e with k | k
    · exact (h.far x hx).2 k
    · have := Owns.lt h.own hx; omega
  refine ⟨hf.rd.keep hk (fun x hx e => hoff x e hx), by rw [strs_append]; exact ho, fun x hx => ?_, hks.1.trans hk (fun i hi e => by have := (h.far i e).1; omega), hks.2⟩
  rcases hn x hx with e | e
  · exact ⟨(h.far x e).1, hoff x e⟩
  · exact ⟨Nat.le_trans h.keep.size (Nat.le_trans hf.keep.size e), fun hr => by have := hf.rd.lt hr; omega⟩

theorem frames_len : ∀ l : List (List UInt8), (∀ t ∈ l, t.length ≤ 2000) → (l.flatMap Frame.frame).length ≤ 4101 * l.length
  | [], _ => by simp
  | t :: l, h => by
    have h1 := body_len t (h t (List.mem_cons_self ..))
    have h2 := frames_len l (fun x hx => h x (List.mem_cons_of_mem _ hx))
    rw [List.flatMap_cons, List.length_append, List.length_cons]
    simp only [Frame.frame, List.length_cons]
    omega

theorem feed_more (st : Frame.R) (l : List UInt8) : Frame.feed st l = ⟨(Frame.feed ⟨st.piece, st.bad, []⟩ l).piece, (Frame.feed ⟨st.piece, st.bad, []⟩ l).bad, st.told ++ (Frame.feed ⟨st.piece, st.bad, []⟩ l).told⟩ := Frame.feed_told l st.piece st.bad st.told

theorem frameS_tx (s : ByteArray) : frameS s = tx (Frame.frame s.data.toList) := rfl

def strLen : Value → Nat | .string s => s.size | _ => 0
theorem tx_take (l : List UInt8) (n : Nat) : (tx l).extract 0 n = tx (l.take n) := by
  apply str_ext
  rw [Lib.extract_data, tx_data, tx_data]
  simp
theorem tx_drop (l : List UInt8) (n : Nat) : (tx l).extract n (tx l).size = tx (l.drop n) := by
  apply str_ext
  rw [Lib.extract_data, tx_data, tx_data, tx_size, List.take_of_length_le]
  rw [List.length_drop]; omega
theorem tx_of {s : ByteArray} {l : List UInt8} (h : s.data.toList = l) : s = tx l := str_ext (by rw [tx_data]; exact h)

set_option maxRecDepth 100000 in
set_option maxHeartbeats 4000000 in
/-- The stream is fed, step by step: the third loop, and what follows it. -/
theorem walk_FrameCut_main (v : Value) (ts : List ByteArray) (ahead : ByteArray) (n : Nat) (w : World) (hsl : SliceS w v ts) (hm : ts.length ≤ maxLen) (hz : ∀ t ∈ ts, t.size ≤ maxLen) (h40 : ts.length ≤ 40) (h3000 : ∀ t ∈ ts, t.size ≤ 3000) (hsh : shortB ts = true)
    (ha : ahead.size ≤ 3000) (h1 : 1 ≤ n) (hs2 : n ≤ 9223372036854775807) :
    Calls Try.prog 6 #[v, .string ahead, .int .i64 (n : Int)] w fun e w' => e = .returned (.bool true) ∧ Below w.heap.size w w' := by
  have HSL := Lib.hid hsl
  have HM := Lib.hid hm
  have HZ := Lib.hid hz
  have H3 := Lib.hid h3000
  have HSH := Lib.hid hsh
  clear hm hz h3000 hsh
  have hda : decide ((3000 : Int) < (ahead.size : Int)) = false := by simp; omega
  have hds : decide ((n : Int) < 1) = false := by simp; omega
  obtain ⟨a, cap, rfl, hcap, hrow⟩ := hsl
  have HROW := Lib.hid hrow
  clear hrow
  go_enter Try.func6, Try.ntmps6
  go_wp2_with fail
  refine (law03_short _ ts _ HSL.out HM.out HZ.out).mono ?_
  rintro e w1 ⟨rfl, rfl⟩
  rw [HSH.out]
  go_wp2_with fail
  refine (frame_New _).mono ?_
  rintro e w3 ⟨rfl, rfl⟩
  have HR3 := Lib.hid (Rd.new w)
  have hz3 := grew_alloc w (.cells #[.slice none 0 0, .int .i64 0] 44)
  have HZ3 := Lib.hid hz3
  have HL3 : Hid (∀ x, RdAt w.heap.size (.slice none 0 0) x → w.heap.size ≤ x) := Lib.hid (fun x hx => by
    rcases hx with rfl | hx
    · exact Nat.le_refl _
    · simp [At, Value.ownBlock] at hx)
  clear hz3
  generalize (w.alloc (.cells #[.slice none 0 0, .int .i64 0] 44)) = w3 at *
  unfold ptr
  go_wp2
  go_loop [9] (fun i => ∃ k : Nat, k ≤ ahead.size ∧ i = .int .i64 k ∧ ∀ c ∈ ahead.data.toList.take k, c ≠ 126) (fun i => ahead.size - (intOf i).toNat)
  case atStart => exact ⟨0, by omega, rfl, by simp⟩
  case round =>
    obtain ⟨k, hk, rfl, hall⟩ := hrel
    have HA := Lib.hid hall
    clear hall
    by_cases hlt : k < ahead.size
    · have hdk : decide ((k : Int) < (ahead.size : Int)) = true := by simp; omega
      by_cases h126 : ahead[k] = 126
      · have hb1 : ((ahead[k].toNat : Int) == 126) = true := byte_is h126
        clear h126
        go_wp2_with fail
        refine (law03_live _).mono ?_
        rintro e w4 ⟨rfl, hb4⟩
        go_wp2
        go_ret
        exact ⟨rfl, grew HZ3.out hb4⟩
      · have hb1 : ((ahead[k].toNat : Int) == 126) = false := byte_not h126
        have HT : Hid (∀ c ∈ ahead.data.toList.take (k + 1), c ≠ 126) := Lib.hid (fun c hc => by
          rw [take_data ahead k hlt] at hc
          rcases List.mem_append.1 hc with h | h
          · exact HA.out c h
          · rw [List.mem_singleton.1 h]; exact h126)
        clear h126
        go_wp2
        go_round
        case rel => exact ⟨k + 1, by omega, by go_num, HT.out⟩
        case measure => simp [intOf]; omega
    · have hdk : decide ((k : Int) < (ahead.size : Int)) = false := by simp; omega
      have e1 : ahead.data.toList.take k = ahead.data.toList := List.take_of_length_le (by rw [size_list]; omega)
      rw [e1] at HA
      clear e1
      have HX : Hid ((ahead ++ (ByteArray.mk #[126])).data.toList = ahead.data.toList ++ [126]) := Lib.hid (by rw [str_app])
      have hxs : (ahead ++ (ByteArray.mk #[126])).size = ahead.size + 1 := by rw [size_app]; rfl
      have HXS := Lib.hid hxs
      clear hxs
      have HK0 : Hid (Holds (w3.alloc (.cells #[.string ⟨#[]⟩, .bool false, .int .i64 0] 33)) w3.heap.size [.string (tx []), .bool false, .int .i64 ((0 : Nat) : Int)] 33) := Lib.hid (Holds.new w3 _ _)
      have HR4 := Lib.hid (HR3.out.keep (Keep.alloc Non w3 (.cells #[.string ⟨#[]⟩, .bool false, .int .i64 0] 33)) (fun _ _ h => h))
      have HB4 := Lib.hid (grew HZ3.out (grew_alloc w3 (.cells #[.string ⟨#[]⟩, .bool false, .int .i64 0] 33)))
      go_wp2_with fail
      refine (ref03_Feed w3.heap.size [] false 0 _ _ HK0.out (by simp) (by simp) (by rw [HXS.out]; omega)).mono ?_
      rintro e w5 ⟨t5, lg5, rfl, hf5⟩
      rw [HX.out] at hf5
      have HB5 : Hid (Below w.heap.size w w5) := Lib.hid (HB4.out.trans (hf5.keep.below HB4.out.size (fun x hx => by have hx : x = w3.heap.size := hx; rw [hx]; exact HZ3.out.size)))
      have HR5 : Hid (Rd w5 w.heap.size (.slice none 0 0) [] 0) := Lib.hid (HR4.out.keep hf5.keep (fun x hx e => by
        have e : x = w3.heap.size := e
        have := HR3.out.lt hx
        omega))
      obtain ⟨a5, c5, rfl⟩ := hf5.own.form
      clear hf5 HK0 HR4 HB4
      by_cases htold : (strs (Frame.feed ⟨[], 0, []⟩ (ahead.data.toList ++ [126])).told).length = 0
      · rw [htold]
        have HTOLD : Hid ((Frame.feed ⟨[], 0, []⟩ (ahead.data.toList ++ [126])).told = []) := Lib.hid (List.eq_nil_of_length_eq_zero (by unfold strs at htold; rw [List.length_map] at htold; exact htold))
        clear htold
        go_wp2
        go_loopw [8, 11] (fun s i wr => ∃ k : Nat, k ≤ ts.length ∧ i = .int .i64 k ∧ (∀ t ∈ ts.take k, t.size ≤ 2000) ∧ s = .string (tx ((raw (ts.take k)).flatMap Frame.frame)) ∧ Below w5.heap.size w5 wr) (fun _ i _ => ts.length - (intOf i).toNat)
        case atStart => exact ⟨0, by omega, rfl, by simp, rfl, Below.refl _ _⟩
        case round =>
          obtain ⟨k, hk, rfl, hall, rfl, hbel⟩ := hrel
          have HAL := Lib.hid hall
          have HB := Lib.hid hbel
          clear hall hbel
          have hbl := frames_len (raw (ts.take k)) (raw_le _ HAL.out)
          rw [raw_len, List.length_take] at hbl
          have hxs : (tx ((raw (ts.take k)).flatMap Frame.frame)).size ≤ 200000 := by rw [tx_size]; omega
          clear hbl
          by_cases hlt : k < ts.length
          · have hdk : decide ((k : Int) < (ts.length : Int)) = true := by simp; omega
            have hdn : decide (k < ts.length) = true := by simpa using hlt
            have hia : (k : Int) < (ts.length : Int) := by omega
            rcases HROW.out with h | ⟨blk, off, rfl, hblk, hcells⟩
            · subst h; simp at hlt
            · have hcell : wr.cell? ⟨blk, off + k, none⟩ = some (.string ts[k]) := by
                rw [(grew HB5.out HB.out).cell (p := ⟨blk, off + k, none⟩) hblk]; exact hcells k hlt
              clear hcells
              have hts := HZ.out _ (List.getElem_mem hlt)
              have h3 := H3.out _ (List.getElem_mem hlt)
              by_cases h2 : ts[k].size ≤ 2000
              · have HT : Hid (∀ t ∈ ts.take (k + 1), t.size ≤ 2000) := Lib.hid (fun t ht => by
                  rw [List.take_succ_eq_append_getElem hlt] at ht
                  rcases List.mem_append.1 ht with h | h
                  · exact HAL.out t h
                  · rw [List.mem_singleton.1 h]; exact h2)
                have HXX : Hid (tx ((raw (ts.take k)).flatMap Frame.frame) ++ frameS ts[k] = tx ((raw (ts.take (k + 1))).flatMap Frame.frame)) := Lib.hid (by
                  rw [frameS_tx, tx_append, raw_take ts k hlt]; simp)
                obtain ⟨hf1, hf2⟩ := frameS_len ts[k]
                generalize tx ((raw (ts.take k)).flatMap Frame.frame) = X at *
                clear hts
                go_wp2_with fail
                refine (frame_Pack_yes ts[k] _ h2).mono ?_
                rintro e w1 ⟨rfl, hb1⟩
                generalize frameS ts[k] = F at *
                go_wp2
                go_roundw
                case rel => exact ⟨k + 1, by omega, by go_num, HT.out, by rw [← HXX.out], grew HB.out hb1⟩
                case measure => simp [intOf]; omega
              · go_wp2_with fail
                refine (frame_Pack_no ts[k] _ (by omega) hts).mono ?_
                rintro e w1 ⟨rfl, rfl⟩
                go_wp2_with fail
                refine (law03_live _).mono ?_
                rintro e w3 ⟨rfl, hb3⟩
                go_wp2
                go_ret
                exact ⟨rfl, grew HB5.out (grew HB.out hb3)⟩
          · have hdn : decide (k < ts.length) = false := by simpa using hlt
            have e1 : ts.take k = ts := List.take_of_length_le (by omega)
            rw [e1] at HAL hxs ⊢
            clear e1
            have HFA := Lib.hid (Frame.feed_ahead ahead.data.toList (raw ts) HA.out (by rw [size_list]; omega) HTOLD.out (raw_le _ HAL.out))
            have HALL : Hid ((ahead ++ tx ((raw ts).flatMap Frame.frame)).data.toList = ahead.data.toList ++ (raw ts).flatMap Frame.frame) := Lib.hid (by rw [str_app, tx_data])
            have HAZ : Hid ((ahead ++ tx ((raw ts).flatMap Frame.frame)).size ≤ 300000) := Lib.hid (by rw [size_app]; omega)
            generalize hS : ahead.data.toList ++ (raw ts).flatMap Frame.frame = S at *
            clear hS
            generalize hX : tx ((raw ts).flatMap Frame.frame) = X at *
            clear hX
            have HR6 := Lib.hid (HR5.out.keep (Keep.of_grew HB.out Non) (fun _ _ h => h))
            have HSL6 := Lib.hid (HSL.out.below (grew HB5.out HB.out))
            have HB6 := Lib.hid (grew HB5.out HB.out)
            have HLN : Hid (S.length ≤ 300000) := Lib.hid (by rw [← HALL.out, size_list]; exact HAZ.out)
            have HTX := Lib.hid (tx_of HALL.out)
            clear HB HB5 HR5
            generalize wr = w6 at *
            go_wp2
            rw [HTX.out]
            go_loopw [8, 14] (fun s got wr => ∃ (don rest : List UInt8) (vr : Value), S = don ++ rest ∧ s = .string (tx rest) ∧ Fed w6 w.heap.size (.slice none 0 0) wr got (Frame.feed ⟨[], 0, []⟩ don) vr) (fun s _ _ => strLen s)
            case atStart => exact ⟨[], S, .slice none 0 0, rfl, rfl, HR6.out, OwnS.nil _, fun k hk => by simp [Value.ownBlock] at hk, Keep.refl _ _, NearS.refl _ _⟩
            case round =>
              obtain ⟨don, rest, vr, hdr, rfl, hfed⟩ := hrel
              have HF := Lib.hid hfed
              have HDR := Lib.hid hdr
              clear hfed hdr
              have hrs : (tx rest).size = rest.length := tx_size rest
              have hlen : don.length + rest.length ≤ 300000 := by
                have := HLN.out
                rw [HDR.out, List.length_append] at this
                exact this
              have hbad := Frame.feed_bad don ⟨[], 0, []⟩
              have hpc := Frame.feed_piece don ⟨[], 0, []⟩ (by simp)
              have htl := feed_toldlen don ⟨[], 0, []⟩
              simp only [List.length_nil, Nat.zero_add] at hbad htl
              by_cases hre : rest = []
              · subst hre
                have hem := mt_yes (s := tx []) (by rw [tx_size]; rfl)
                rw [List.append_nil] at HDR
                have hfa := HFA.out
                rw [HDR.out] at hfa
                clear hrs hpc htl hbad
                generalize hst : Frame.feed ⟨[], 0, []⟩ don = st at *
                clear hst
                obtain ⟨g1, g2, g3⟩ := hfa
                have hT := HF.out.slice
                rw [g1, strs_raw] at hT
                have HT := Lib.hid hT
                have G3 := Lib.hid g3
                clear hT g1 g3
                have HB7 : Hid (Below w.heap.size w wr) := Lib.hid (HB6.out.trans (HF.out.keep.below HB6.out.size HL3.out))
                have hd1 : decide ((st.bad : Int) ≤ 1) = true := by simp; omega
                have hd0 : ahead.size = 0 → ((st.bad : Int) == 0) = true := fun h => by
                  have : ahead.data.toList = [] := List.eq_nil_of_length_eq_zero (by rw [size_list]; exact h)
                  rw [G3.out this]; rfl
                have HD0 := Lib.hid hd0
                clear hd0
                by_cases h0 : ts.length = 0
                · have hdt : decide ((0 : Int) < (ts.length : Int)) = false := decide_eq_false (by omega)
                  have hdn0 : decide (0 < ts.length) = false := decide_eq_false (by omega)
                  clear h0
                  by_cases hae : ahead.size = 0
                  · have hem2 := mt_yes hae
                    clear hae
                    go_wp2_with fail
                    refine (ref03_Texts _ _ ts ts _ HT.out (HSL.out.below HB7.out) (by omega) HM.out).mono ?_
                    rintro e w9 ⟨rfl, hb9⟩
                    rw [show sameS ts ts = true from by simp [sameS]]
                    go_wp2_with fail
                    refine (law03_live _).mono ?_
                    rintro e w10 ⟨rfl, hb10⟩
                    go_wp2
                    go_ret
                    exact ⟨rfl, grew HB7.out (grew hb9 hb10)⟩
                  · have hem2 := mt_no (s := ahead) (by omega)
                    clear hae
                    go_wp2_with fail
                    refine (ref03_Texts _ _ ts ts _ HT.out (HSL.out.below HB7.out) (by omega) HM.out).mono ?_
                    rintro e w9 ⟨rfl, hb9⟩
                    rw [show sameS ts ts = true from by simp [sameS]]
                    go_wp2_with fail
                    refine (law03_live _).mono ?_
                    rintro e w10 ⟨rfl, hb10⟩
                    go_wp2
                    go_ret
                    exact ⟨rfl, grew HB7.out (grew hb9 hb10)⟩
                · have hdt : decide ((0 : Int) < (ts.length : Int)) = true := decide_eq_true (by omega)
                  have hdn0 : decide (0 < ts.length) = true := decide_eq_true (by omega)
                  clear h0
                  by_cases hae : ahead.size = 0
                  · have hem2 := mt_yes hae
                    have hd0 := HD0.out hae
                    clear hae
                    go_wp2_with fail
                    refine (frame_Bad _ _ _ _ _ HF.out.rd).mono ?_
                    rintro e w8 ⟨rfl, rfl⟩
                    go_wp2_with fail
                    refine (ref03_Texts _ _ ts ts _ HT.out (HSL.out.below HB7.out) (by omega) HM.out).mono ?_
                    rintro e w9 ⟨rfl, hb9⟩
                    rw [show sameS ts ts = true from by simp [sameS]]
                    go_wp2_with fail
                    refine (law03_live _).mono ?_
                    rintro e w10 ⟨rfl, hb10⟩
                    go_wp2
                    go_ret
                    exact ⟨rfl, grew HB7.out (grew hb9 hb10)⟩
                  · have hem2 := mt_no (s := ahead) (by omega)
                    clear hae
                    go_wp2_with fail
                    refine (frame_Bad _ _ _ _ _ HF.out.rd).mono ?_
                    rintro e w8 ⟨rfl, rfl⟩
                    go_wp2_with fail
                    refine (ref03_Texts _ _ ts ts _ HT.out (HSL.out.below HB7.out) (by omega) HM.out).mono ?_
                    rintro e w9 ⟨rfl, hb9⟩
                    rw [show sameS ts ts = true from by simp [sameS]]
                    go_wp2_with fail
                    refine (law03_live _).mono ?_
                    rintro e w10 ⟨rfl, hb10⟩
                    go_wp2
                    go_ret
                    exact ⟨rfl, grew HB7.out (grew hb9 hb10)⟩
              · have hem := mt_no (s := tx rest) (by rw [tx_size]; exact List.length_pos_iff.2 hre)
                have hpos : 0 < rest.length := List.length_pos_iff.2 hre
                clear hre
                by_cases hst : n ≤ rest.length
                · have hmin : min (n : Int) (rest.length : Int) = n := Int.min_eq_left (by omega)
                  have hnn : n ≤ (tx rest).size := by omega
                  go_wp2_with fail
                  rw [tx_take]
                  have hpc2 : (Frame.feed ⟨[], 0, []⟩ don).piece.length ≤ 5000 := hpc
                  have htz : (tx (rest.take n)).size = n := by rw [tx_size, List.length_take]; omega
                  have HTZ := Lib.hid htz
                  clear htz
                  refine (frame_Feed w.heap.size vr _ _ (tx (rest.take n)) _ HF.out.rd hpc2 (by rw [HTZ.out]; omega)).mono ?_
                  rintro e w7 ⟨t7, v7, rfl, hf7⟩
                  rw [tx_data] at hf7
                  have HF7 := Lib.hid hf7
                  have htl7 := feed_toldlen (rest.take n) ⟨(Frame.feed ⟨[], 0, []⟩ don).piece, (Frame.feed ⟨[], 0, []⟩ don).bad, []⟩
                  rw [List.length_take] at htl7
                  simp only [List.length_nil, Nat.zero_add] at htl7
                  have HLL : Hid ((strs (Frame.feed ⟨[], 0, []⟩ don).told).length + (strs (Frame.feed ⟨(Frame.feed ⟨[], 0, []⟩ don).piece, (Frame.feed ⟨[], 0, []⟩ don).bad, []⟩ (rest.take n)).told).length ≤ 1000000000) := Lib.hid (by unfold strs; rw [List.length_map, List.length_map]; omega)
                  have HMORE := Lib.hid (HF.out.more hf7)
                  have HDIST : Hid (Frame.feed ⟨[], 0, []⟩ (don ++ rest.take n) = ⟨(Frame.feed ⟨(Frame.feed ⟨[], 0, []⟩ don).piece, (Frame.feed ⟨[], 0, []⟩ don).bad, []⟩ (rest.take n)).piece, (Frame.feed ⟨(Frame.feed ⟨[], 0, []⟩ don).piece, (Frame.feed ⟨[], 0, []⟩ don).bad, []⟩ (rest.take n)).bad, (Frame.feed ⟨[], 0, []⟩ don).told ++ (Frame.feed ⟨(Frame.feed ⟨[], 0, []⟩ don).piece, (Frame.feed ⟨[], 0, []⟩ don).bad, []⟩ (rest.take n)).told⟩) := Lib.hid (by rw [Frame.feed_append]; exact feed_more _ _)
                  have HSP : Hid (S = (don ++ rest.take n) ++ rest.drop n) := Lib.hid (by rw [HDR.out, List.append_assoc, List.take_append_drop])
                  have HDZ : Hid ((tx (rest.drop n)).size = rest.length - n) := Lib.hid (by rw [tx_size, List.length_drop])
                  have HDE : Hid ((tx rest).extract n rest.length = tx (rest.drop n)) := Lib.hid (by have := tx_drop rest n; rw [hrs] at this; exact this)
                  clear hf7 htl7 htl hbad hpc
                  generalize hst1 : Frame.feed ⟨(Frame.feed ⟨[], 0, []⟩ don).piece, (Frame.feed ⟨[], 0, []⟩ don).bad, []⟩ (rest.take n) = st1 at *
                  clear hst1
                  generalize hst0 : Frame.feed ⟨[], 0, []⟩ don = st0 at *
                  clear hst0
                  go_wp2_with (at_builtin; refine wp_append_texts rfl (.tmp 82) (.tmp 87) rfl _ t7 (strs st0.told) (strs st1.told) rfl rfl HMORE.out.1 HF7.out.own HLL.out ?_; intro v8 w8 ho8 hk8 hn8; have HF8 := Lib.hid (HMORE.out.2 w8 v8 ho8 hk8 hn8); clear ho8 hk8 hn8)
                  rw [HDE.out]
                  go_roundw
                  case rel => exact ⟨don ++ rest.take n, rest.drop n, v7, HSP.out, rfl, by rw [HDIST.out]; exact HF8.out⟩
                  case measure => simp only [strLen]; rw [HDZ.out, hrs]; omega
                · have hmin : min (n : Int) (rest.length : Int) = (rest.length : Int) := Int.min_eq_right (by omega)
                  have hnn : rest.length < n := by omega
                  go_wp2_with fail
                  rw [tx_take]
                  have hpc2 : (Frame.feed ⟨[], 0, []⟩ don).piece.length ≤ 5000 := hpc
                  have htz : (tx (rest.take rest.length)).size = rest.length := by rw [tx_size, List.length_take]; omega
                  have HTZ := Lib.hid htz
                  clear htz
                  refine (frame_Feed w.heap.size vr _ _ (tx (rest.take rest.length)) _ HF.out.rd hpc2 (by rw [HTZ.out]; omega)).mono ?_
                  rintro e w7 ⟨t7, v7, rfl, hf7⟩
                  rw [tx_data] at hf7
                  have HF7 := Lib.hid hf7
                  have htl7 := feed_toldlen (rest.take rest.length) ⟨(Frame.feed ⟨[], 0, []⟩ don).piece, (Frame.feed ⟨[], 0, []⟩ don).bad, []⟩
                  rw [List.length_take] at htl7
                  simp only [List.length_nil, Nat.zero_add] at htl7
                  have HLL : Hid ((strs (Frame.feed ⟨[], 0, []⟩ don).told).length + (strs (Frame.feed ⟨(Frame.feed ⟨[], 0, []⟩ don).piece, (Frame.feed ⟨[], 0, []⟩ don).bad, []⟩ (rest.take rest.length)).told).length ≤ 1000000000) := Lib.hid (by unfold strs; rw [List.length_map, List.length_map]; omega)
                  have HMORE := Lib.hid (HF.out.more hf7)
                  have HDIST : Hid (Frame.feed ⟨[], 0, []⟩ (don ++ rest.take rest.length) = ⟨(Frame.feed ⟨(Frame.feed ⟨[], 0, []⟩ don).piece, (Frame.feed ⟨[], 0, []⟩ don).bad, []⟩ (rest.take rest.length)).piece, (Frame.feed ⟨(Frame.feed ⟨[], 0, []⟩ don).piece, (Frame.feed ⟨[], 0, []⟩ don).bad, []⟩ (rest.take rest.length)).bad, (Frame.feed ⟨[], 0, []⟩ don).told ++ (Frame.feed ⟨(Frame.feed ⟨[], 0, []⟩ don).piece, (Frame.feed ⟨[], 0, []⟩ don).bad, []⟩ (rest.take rest.length)).told⟩) := Lib.hid (by rw [Frame.feed_append]; exact feed_more _ _)
                  have HSP : Hid (S = (don ++ rest.take rest.length) ++ rest.drop rest.length) := Lib.hid (by rw [HDR.out, List.append_assoc, List.take_append_drop])
                  have HDZ : Hid ((tx (rest.drop rest.length)).size = rest.length - rest.length) := Lib.hid (by rw [tx_size, List.length_drop])
                  have HDE : Hid (ByteArray.empty = tx (rest.drop rest.length)) := Lib.hid (by rw [List.drop_of_length_le (Nat.le_refl _)]; rfl)
                  clear hf7 htl7 htl hbad hpc
                  generalize hst1 : Frame.feed ⟨(Frame.feed ⟨[], 0, []⟩ don).piece, (Frame.feed ⟨[], 0, []⟩ don).bad, []⟩ (rest.take rest.length) = st1 at *
                  clear hst1
                  generalize hst0 : Frame.feed ⟨[], 0, []⟩ don = st0 at *
                  clear hst0
                  go_wp2_with (at_builtin; refine wp_append_texts rfl (.tmp 82) (.tmp 87) rfl _ t7 (strs st0.told) (strs st1.told) rfl rfl HMORE.out.1 HF7.out.own HLL.out ?_; intro v8 w8 ho8 hk8 hn8; have HF8 := Lib.hid (HMORE.out.2 w8 v8 ho8 hk8 hn8); clear ho8 hk8 hn8)
                  rw [HDE.out]
                  go_roundw
                  case rel => exact ⟨don ++ rest.take rest.length, rest.drop rest.length, v7, HSP.out, rfl, by rw [HDIST.out]; exact HF8.out⟩
                  case measure => simp only [strLen]; rw [HDZ.out, hrs]; omega
      · have hdt : decide ((0 : Int) < ((strs (Frame.feed ⟨[], 0, []⟩ (ahead.data.toList ++ [126])).told).length : Int)) = true := by simp only [decide_eq_true_eq]; omega
        have hdn : decide (0 < (strs (Frame.feed ⟨[], 0, []⟩ (ahead.data.toList ++ [126])).told).length) = true := by simp only [decide_eq_true_eq]; omega
        generalize (strs (Frame.feed ⟨[], 0, []⟩ (ahead.data.toList ++ [126])).told).length = N at *
        go_wp2_with fail
        refine (law03_live _).mono ?_
        rintro e w6 ⟨rfl, hb6⟩
        go_wp2
        go_ret
        exact ⟨rfl, grew HB5.out hb6⟩

set_option maxHeartbeats 1000000 in
theorem walk_FrameCut (a : Option Addr) (len cap : Nat) (ss : List ByteArray) (ahead : ByteArray) (step : Int) (w : World) (hv : IsStrs w a len cap ss) (ha : ahead.size ≤ maxLen) (hst : (Lit.int .i64 step).wf = true) :
    Calls Try.prog 6 #[.slice a len cap, .string ahead, .int .i64 step] w fun e w' => e = .returned (.bool true) ∧ Below w.heap.size w w' := by
  obtain ⟨hs1, hs2⟩ := bounds_i64 hst
  obtain ⟨ts, hsl, hm, hz⟩ := hv.slice
  generalize hV : Value.slice a len cap = V at *
  clear hV hv hst
  unfold maxLen at ha
  by_cases hsh : shortB ts = true
  · obtain ⟨h40, h3000⟩ := of_decide_eq_true hsh
    by_cases h1 : ahead.size ≤ 3000
    · by_cases h2 : 1 ≤ step
      · obtain ⟨n, rfl⟩ : ∃ n : Nat, step = n := ⟨step.toNat, by omega⟩
        exact walk_FrameCut_main V ts ahead n w hsl hm hz h40 h3000 hsh h1 (by omega) (by omega)
      · have hd1 : decide ((3000 : Int) < (ahead.size : Int)) = false := by simp; omega
        have hd2 : decide (step < 1) = true := by simp; omega
        have HSH := Lib.hid hsh
        have C := Lib.hid (law03_short V ts w hsl hm hz)
        clear hsh h3000 hsl hm hz h40
        go_enter Try.func6, Try.ntmps6
        go_wp2_with fail
        refine C.out.mono ?_
        rintro e w1 ⟨rfl, rfl⟩
        rw [HSH.out]
        go_wp2_with fail
        refine (law03_live _).mono ?_
        rintro e w3 ⟨rfl, hb3⟩
        go_wp2
        go_ret
        exact ⟨rfl, hb3⟩
    · have hd1 : decide ((3000 : Int) < (ahead.size : Int)) = true := by simp; omega
      have HSH := Lib.hid hsh
      have C := Lib.hid (law03_short V ts w hsl hm hz)
      clear hsh h3000 hsl hm hz h40
      go_enter Try.func6, Try.ntmps6
      go_wp2_with fail
      refine C.out.mono ?_
      rintro e w1 ⟨rfl, rfl⟩
      rw [HSH.out]
      go_wp2_with fail
      refine (law03_live _).mono ?_
      rintro e w3 ⟨rfl, hb3⟩
      go_wp2
      go_ret
      exact ⟨rfl, hb3⟩
  · have HSH : Hid (shortB ts = false) := Lib.hid (by simpa using hsh)
    have C := Lib.hid (law03_short V ts w hsl hm hz)
    clear hsh hsl hm hz
    go_enter Try.func6, Try.ntmps6
    go_wp2_with fail
    refine C.out.mono ?_
    rintro e w1 ⟨rfl, rfl⟩
    rw [HSH.out]
    go_wp2_with fail
    refine (law03_live _).mono ?_
    rintro e w3 ⟨rfl, hb3⟩
    go_wp2
    go_ret
    exact ⟨rfl, hb3⟩
end Go.Proofs.Ytlmigmejfkflmaa
