/- What the document's own reader of layer 3 comes to. -/
import Derived.Test.YtlmigmejfkflmaaFrameRef
namespace Go.Proofs.Ytlmigmejfkflmaa
open Go.RowKit
set_option linter.unusedVariables false

theorem mt_yes {s : ByteArray} (h : s.size = 0) : s.toList.isEmpty = true := by
  rw [ByteArray.toList_eq]
  have : s.data.toList = [] := List.eq_nil_of_length_eq_zero (by rw [size_list]; exact h)
  rw [this]; rfl
theorem mt_no {s : ByteArray} (h : 0 < s.size) : s.toList.isEmpty = false := by
  rw [ByteArray.toList_eq]
  cases hl : s.data.toList with
  | nil => have := size_list s; rw [hl] at this; simp at this; omega
  | cons _ _ => rfl

/-- A list of bytes as a text, behind a name. -/
def tx (l : List UInt8) : ByteArray := ⟨l.toArray⟩
theorem tx_data (l : List UInt8) : (tx l).data.toList = l := by simp [tx]
theorem tx_size (l : List UInt8) : (tx l).size = l.length := by rw [← size_list, tx_data]

structure FedK (w : World) (g : Nat) (wr : World) (t : Value) (st : Frame.R) (lg : Bool) : Prop where
  hold : Holds wr g [.string (tx st.piece), .bool lg, .int .i64 (st.bad : Int)] 33
  long : lg = true → 5000 ≤ st.piece.length
  own : OwnS wr t (strs st.told)
  far : ∀ k, t.ownBlock = some k → w.heap.size ≤ k
  keep : Keep (Just g) w wr

theorem FedK.cells {w : World} {g : Nat} {wr : World} {t : Value} {st : Frame.R} {lg : Bool} (h : FedK w g wr t st lg) :
    (wr.cell? ⟨g, 0, none⟩ = some (.string (tx st.piece)) ∧ wr.cell? ⟨g, 1, none⟩ = some (.bool lg) ∧ wr.cell? ⟨g, 2, none⟩ = some (.int .i64 (st.bad : Int)))
    ∧ wr.frozen? ⟨g, 0, none⟩ = false ∧ wr.frozen? ⟨g, 1, none⟩ = false ∧ wr.frozen? ⟨g, 2, none⟩ = false :=
  ⟨⟨h.hold.cell 0 (by simp), h.hold.cell 1 (by simp), h.hold.cell 2 (by simp)⟩, h.hold.frozen 0, h.hold.frozen 1, h.hold.frozen 2⟩

/-- A cell of the reader is written. -/
theorem FedK.set {w : World} {g : Nat} {wr : World} {t : Value} {st st' : Frame.R} {lg lg' : Bool} (h : FedK w g wr t st lg) (hg : g < w.heap.size) (j : Nat) (u : Value) (hj : j < 3)
    (e : [.string (tx st.piece), .bool lg, .int .i64 (st.bad : Int)].set j u = [.string (tx st'.piece), .bool lg', .int .i64 (st'.bad : Int)]) (ht : st'.told = st.told) (hl : lg' = true → 5000 ≤ st'.piece.length) :
    FedK w g (wr.setCell ⟨g, j, none⟩ u) t st' lg' := by
  have kk : Keep (Just g) wr (wr.setCell ⟨g, j, none⟩ u) := Keep.setCell _ _ _ _
  have ho : OwnS (wr.setCell ⟨g, j, none⟩ u) t (strs st.told) := h.own.keep kk (fun k hk e => by
    have h1 := h.far k hk
    have h2 : k = g := e
    omega)
  exact ⟨by rw [← e]; exact h.hold.set j u (by simpa using hj), hl, by rw [ht]; exact ho, h.far, h.keep.trans kk (fun _ _ h => h)⟩

theorem FedK.below {w : World} {g : Nat} {wr : World} {t : Value} {st : Frame.R} {lg : Bool} (h : FedK w g wr t st lg) {w1 : World} (hb : Below wr.heap.size wr w1) : FedK w g w1 t st lg :=
  ⟨h.hold.keep (Keep.of_grew hb Non) (fun h => h), h.long, h.own.below hb, h.far, h.keep.trans (Keep.of_grew hb Non) (fun _ _ h => h.elim)⟩

theorem FedK.drew {w : World} {g : Nat} {wr : World} {t : Value} {st : Frame.R} {lg : Bool} (h : FedK w g wr t st lg) : FedK w g wr.drew t st lg := h.below (grew_drew wr)

theorem FedK.telling {w : World} {g : Nat} {wr : World} {t : Value} {st : Frame.R} {lg : Bool} (h : FedK w g wr t st lg) (hg : g < w.heap.size) {w1 : World} {t1 : Value} (x : ByteArray) (ho : OwnS w1 t1 (strs st.told ++ [x]))
    (hk : Keep (At t) wr w1) (hn : Near wr t t1) : FedK w g w1 t1 ⟨st.piece, st.bad, st.told ++ [x.data.toList]⟩ lg := by
  refine ⟨h.hold.keep hk (fun e => by have := h.far g e; omega), h.long, ?_, fun k e => ?_, h.keep.trans hk (fun i hi e => ?_)⟩
  · rw [strs_append]
    have : strs [x.data.toList] = [x] := by simp [strs]
    rw [this]
    exact ho
  · rcases hn k e with e | e
    · exact h.far k e
    · exact Nat.le_trans h.keep.size e
  · have := h.far i e; omega

/-- What bare and Open say of a piece, together. -/
theorem piece_said (p : List UInt8) (hp : p.length ≤ 5000) : ∃ (t u : ByteArray) (is : Bool) (er : Int),
    (∀ w, Calls Try.prog 25 #[.string (tx p)] w fun e w' => e = .returned (.tuple #[.string t, .bool is]) ∧ Below w.heap.size w w')
    ∧ (∀ w, Calls Try.prog 26 #[.string t] w fun e w' => e = .returned (.tuple #[.string u, .int .i64 er]) ∧ Below w.heap.size w w')
    ∧ ((is = true ∧ er = 0 ∧ u.size ≤ 2000 ∧ Frame.opened p = some u.data.toList) ∨ (Frame.opened p = none ∧ (is = false ∨ (is = true ∧ er ≠ 0) ∨ (is = true ∧ er = 0 ∧ 2000 < u.size ∧ u.size ≤ 10000)))) := by
  have hb : ∀ w, Calls Try.prog 25 #[.string (tx p)] w fun e w' => e = .returned (bareV (Frame.run p)) ∧ Below w.heap.size w w' := fun w => by
    have := ref03_bare (tx p) w (by rw [tx_size]; omega)
    rw [tx_data] at this
    exact this
  have hlen := run_lens p (.plain, [])
  have er : Frame.runs (.plain, []) p = Frame.run p := rfl
  rw [er] at hlen
  simp only [List.length_nil, Nat.zero_add] at hlen
  have hz : (tx (Frame.run p).2).size = (Frame.run p).2.length := tx_size _
  by_cases h1 : (Frame.run p).1 = .plain
  · have hv : bareV (Frame.run p) = .tuple #[.string (tx (Frame.run p).2), .bool true] := by unfold bareV; rw [h1]; rfl
    rw [hv] at hb
    by_cases h3 : (Frame.run p).2.length < 3
    · exact ⟨_, _, _, _, hb, fun w => ref02_Open_short _ w (by rw [hz]; exact h3), .inr ⟨by unfold Frame.opened; rw [if_neg]; rintro ⟨_, h, _⟩; omega, .inr (.inl ⟨rfl, by decide⟩)⟩⟩
    · by_cases hs : Crc.sum (Frame.run p).2 = 0#24
      · have hext : (tx (Frame.run p).2).extract 0 ((tx (Frame.run p).2).size - 3) = tx ((Frame.run p).2.take ((Frame.run p).2.length - 3)) := by
          apply str_ext
          rw [Lib.extract_data, hz, tx_data, tx_data]
          simp
        have hts : (tx ((Frame.run p).2.take ((Frame.run p).2.length - 3))).size = (Frame.run p).2.length - 3 := by rw [tx_size]; simp
        have ho := fun w => ref02_Open_ok (tx (Frame.run p).2) w (by rw [hz]; omega) (by rw [hz]; omega) (by rw [tx_data]; exact hs)
        rw [hext] at ho
        refine ⟨_, _, _, _, hb, ho, ?_⟩
        by_cases h4 : (Frame.run p).2.length ≤ 2003
        · exact .inl ⟨rfl, rfl, by rw [hts]; omega, by rw [tx_data]; unfold Frame.opened; rw [if_pos ⟨h1, by omega, hs, h4⟩]⟩
        · exact .inr ⟨by unfold Frame.opened; rw [if_neg]; rintro ⟨_, _, _, h⟩; omega, .inr (.inr ⟨rfl, rfl, by rw [hts]; omega, by rw [hts]; omega⟩)⟩
      · exact ⟨_, _, _, _, hb, fun w => ref02_Open_bad _ w (by rw [hz]; omega) (by rw [hz]; omega) (by rw [tx_data]; exact hs), .inr ⟨by unfold Frame.opened; rw [if_neg]; rintro ⟨_, _, h, _⟩; exact hs h, .inr (.inl ⟨rfl, by decide⟩)⟩⟩
  · have hv : bareV (Frame.run p) = .tuple #[.string ⟨#[]⟩, .bool false] := by
      unfold bareV
      cases h : (Frame.run p).1 with
      | plain => exact absurd h h1
      | signed => rfl
      | spoilt => rfl
    rw [hv] at hb
    exact ⟨_, _, _, _, hb, fun w => ref02_Open_short _ w (by decide), .inr ⟨by unfold Frame.opened; rw [if_neg]; rintro ⟨h, _⟩; exact h1 h, .inl rfl⟩⟩

theorem tx_snoc (p : List UInt8) (s : ByteArray) (k : Nat) (h : k < s.size) : tx p ++ s.extract k (k + 1) = tx (p ++ [s[k]]) := by
  apply str_ext
  rw [str_app, tx_data, tx_data, Lib.extract_data]
  congr 1
  have hl : k < s.data.toList.length := by rw [size_list]; exact h
  rw [List.drop_eq_getElem_cons hl, show k + 1 - k = 1 by omega]
  simp only [List.take_succ_cons, List.take_zero]
  rw [data_at s k h]

set_option maxRecDepth 100000 in
set_option maxHeartbeats 4000000 in
theorem ref03_Feed (g : Nat) (p : List UInt8) (lg : Bool) (b : Nat) (s : ByteArray) (w : World) (h : Holds w g [.string (tx p), .bool lg, .int .i64 (b : Int)] 33) (hlg : lg = true → 5000 ≤ p.length)
    (hp : p.length ≤ 5000) (hb : b + s.size < 1000000000) :
    Calls Try.prog 17 #[ptr g, .string s] w fun e w' => ∃ t lg', e = .returned t ∧ FedK w g w' t (Frame.feed ⟨p, b, []⟩ s.data.toList) lg' := by
  have H := Lib.hid h
  have hg := h.lt
  have HLG := Lib.hid hlg
  clear h hlg
  unfold ptr
  go_enter Try.func17, Try.ntmps17
  go_wp2
  go_loopw [5, 6] (fun t i wr => ∃ (k : Nat) (lg : Bool), k ≤ s.size ∧ i = .int .i64 k ∧ FedK w g wr t (Frame.feed ⟨p, b, []⟩ (s.data.toList.take k)) lg) (fun _ i _ => s.size - (intOf i).toNat)
  case atStart => exact ⟨0, lg, by omega, rfl, H.out, HLG.out, OwnS.nil _, fun k hk => by simp [Value.ownBlock] at hk, Keep.refl _ _⟩
  case round =>
    clear H HLG lg
    obtain ⟨k, lg, hk, rfl, hfed⟩ := hrel
    have HF := Lib.hid hfed
    clear hfed
    have hbad := Frame.feed_bad (s.data.toList.take k) ⟨p, b, []⟩
    have hpc := Frame.feed_piece (s.data.toList.take k) ⟨p, b, []⟩ hp
    have htl := feed_toldlen (s.data.toList.take k) ⟨p, b, []⟩
    rw [List.length_take] at hbad htl
    simp only [List.length_nil] at hbad htl
    by_cases hlt : k < s.size
    · have hd : decide ((k : Int) < (s.size : Int)) = true := by simp; omega
      have HS := Lib.hid (feed_snoc ⟨p, b, []⟩ s k hlt)
      generalize hst : Frame.feed ⟨p, b, []⟩ (s.data.toList.take k) = st at *
      have HST := Lib.hid hst
      clear hst
      obtain ⟨q, bd, told⟩ := st
      simp only at hbad hpc htl
      have hb2 : bd < 1000000000 := by omega
      have htl2 : (strs told).length + 1 ≤ 1000000000 := by unfold strs; rw [List.length_map]; omega
      have HTL := Lib.hid htl2
      clear hbad htl htl2
      obtain ⟨⟨c0, c1, c2⟩, f0, f1, f2⟩ := HF.out.cells
      simp only at c0 c1 c2
      by_cases h1 : s[k] = 126
      · have hb1 : ((s[k].toNat : Int) != 126) = false := by have := byte_is h1; simpa [bne] using this
        have H1 := Lib.hid h1
        clear h1
        obtain ⟨t, u, is, er, hc1, hc2, hsaid⟩ := piece_said q hpc
        have C1 := Lib.hid hc1
        have C2 := Lib.hid hc2
        clear hc1 hc2
        by_cases h0 : q = []
        · subst h0
          obtain ⟨e1, _⟩ := feed1_none ⟨[], bd, told⟩ (.inl rfl)
          have HE1 := Lib.hid e1
          have hem := mt_yes (s := tx []) (by rw [tx_size]; rfl)
          clear e1 hsaid
          go_wp2_with fail
          refine (C1.out _).mono ?_
          rintro e w1 ⟨rfl, hb1⟩
          go_wp2_with fail
          refine (C2.out _).mono ?_
          rintro e w2 ⟨rfl, hb2⟩
          have HF2 := Lib.hid (HF.out.below (grew hb1 hb2))
          clear hb1 hb2 c0 c1 c2 f0 f1 f2
          obtain ⟨⟨c0, c1, c2⟩, f0, f1, f2⟩ := HF2.out.cells
          simp only at c0 c1 c2
          have HF3 := Lib.hid ((HF2.out.set hg 0 (.string ⟨#[]⟩) (by omega) (st' := ⟨[], bd, told⟩) (lg' := lg) rfl rfl HF2.out.long).set hg 1 (.bool false) (by omega) (st' := ⟨[], bd, told⟩) (lg' := false) rfl rfl (by simp))
          go_wp2
          go_roundw
          case rel => exact ⟨k + 1, false, by omega, by go_num, by rw [HS.out, H1.out, HE1.out]; exact HF3.out⟩
          case measure => simp [intOf]; omega
        · have hem := mt_no (s := tx q) (by rw [tx_size]; exact List.length_pos_iff.2 h0)
          rcases hsaid with ⟨rfl, rfl, hu, hop⟩ | ⟨hop, hsaid⟩
          · obtain ⟨e1, _⟩ := feed1_some ⟨q, bd, told⟩ _ h0 hop
            have hlgf : lg = false := by
              cases hl : lg with
              | false => rfl
              | true => rw [Frame.opened_long q (HF.out.long hl)] at hop; cases hop
            have HEB : Hid (endB q bd = bd) := Lib.hid (by unfold endB; rw [if_neg h0, hop]; simp)
            have HE1 := Lib.hid e1
            have hdu : decide ((u.size : Int) ≤ 2000) = true := by simp; omega
            subst hlgf
            clear e1 hop h0 hu
            go_wp2_with fail
            refine (C1.out _).mono ?_
            rintro e w1 ⟨rfl, hb1⟩
            go_wp2_with fail
            refine (C2.out _).mono ?_
            rintro e w2 ⟨rfl, hb2⟩
            have HF2 := Lib.hid (HF.out.below (grew hb1 hb2))
            clear hb1 hb2 c0 c1 c2 f0 f1 f2
            obtain ⟨⟨c0, c1, c2⟩, f0, f1, f2⟩ := HF2.out.cells
            simp only at c0 c1 c2
            go_wp2_with (at_builtin; refine wp_append_text rfl (.tmp 87) (.tmp 89) rfl _ (strs told) u rfl rfl HF2.out.own HTL.out ?_; intro t3 w3 ho3 hk3 hn3; have HF3 := Lib.hid (HF2.out.telling hg u ho3 hk3 hn3); clear ho3 hk3 hn3 c0 c1 c2 f0 f1 f2; obtain ⟨⟨c0, c1, c2⟩, f0, f1, f2⟩ := HF3.out.cells; simp only at c0 c1 c2)
            have HF4 := Lib.hid ((HF3.out.set hg 0 (.string ⟨#[]⟩) (by omega) (st' := ⟨[], bd, told ++ [u.data.toList]⟩) (lg' := false) rfl rfl (by simp)).set hg 1 (.bool false) (by omega) (st' := ⟨[], bd, told ++ [u.data.toList]⟩) (lg' := false) rfl rfl (by simp))
            go_roundw
            case rel => exact ⟨k + 1, false, by omega, by go_num, by rw [HS.out, H1.out, HE1.out]; simp only [HEB.out]; exact HF4.out⟩
            case measure => simp [intOf]; omega
          · obtain ⟨e1, _⟩ := feed1_none ⟨q, bd, told⟩ (.inr hop)
            have HEB : Hid (endB q bd = bd + 1) := Lib.hid (by unfold endB; rw [if_neg h0, if_pos hop])
            have HE1 := Lib.hid e1
            clear e1 hop h0
            have hall : Hid (∀ w2, FedK w g w2 u5 ⟨q, bd, told⟩ lg → FedK w g (((w2.setCell ⟨g, 2, none⟩ (.int .i64 ((bd : Int) + 1))).setCell ⟨g, 0, none⟩ (.string ⟨#[]⟩)).setCell ⟨g, 1, none⟩ (.bool false)) u5 (Frame.feed ⟨p, b, []⟩ (s.data.toList.take (k + 1))) false) := Lib.hid (fun w2 HF2 => by
              rw [HS.out, H1.out, HE1.out]
              simp only [HEB.out]
              have kk := HF2.set hg 2 (.int .i64 ((bd : Int) + 1)) (by omega) (st' := ⟨q, bd + 1, told⟩) (lg' := lg) rfl rfl HF2.long
              have k1 : Keep (Just g) _ _ := Keep.setCell (w2.setCell ⟨g, 2, none⟩ (.int .i64 ((bd : Int) + 1))) g 0 (.string ⟨#[]⟩)
              have k2 : Keep (Just g) _ _ := Keep.setCell ((w2.setCell ⟨g, 2, none⟩ (.int .i64 ((bd : Int) + 1))).setCell ⟨g, 0, none⟩ (.string ⟨#[]⟩)) g 1 (.bool false)
              have hne : ∀ x, u5.ownBlock = some x → ¬ Just g x := fun x hx e => by have h1 := kk.far x hx; have h2 : x = g := e; omega
              exact ⟨(kk.hold.set 0 (.string ⟨#[]⟩) (by simp)).set 1 (.bool false) (by simp), by simp, (kk.own.keep k1 hne).keep k2 hne, kk.far, (kk.keep.trans k1 (fun _ _ h => h)).trans k2 (fun _ _ h => h)⟩)
            rcases hsaid with rfl | ⟨rfl, hne⟩ | ⟨rfl, rfl, hu, hu2⟩
            · go_wp2_with fail
              refine (C1.out _).mono ?_
              rintro e w1 ⟨rfl, hb1⟩
              go_wp2_with fail
              refine (C2.out _).mono ?_
              rintro e w2 ⟨rfl, hb2⟩
              have HF2 := Lib.hid (HF.out.below (grew hb1 hb2))
              clear hb1 hb2 c0 c1 c2 f0 f1 f2
              obtain ⟨⟨c0, c1, c2⟩, f0, f1, f2⟩ := HF2.out.cells
              simp only at c0 c1 c2
              go_wp2
              go_roundw
              case rel => exact ⟨k + 1, false, by omega, by go_num, hall.out _ HF2.out⟩
              case measure => simp [intOf]; omega
            · have hne2 : (er == 0) = false := by simpa using hne
              clear hne
              go_wp2_with fail
              refine (C1.out _).mono ?_
              rintro e w1 ⟨rfl, hb1⟩
              go_wp2_with fail
              refine (C2.out _).mono ?_
              rintro e w2 ⟨rfl, hb2⟩
              have HF2 := Lib.hid (HF.out.below (grew hb1 hb2))
              clear hb1 hb2 c0 c1 c2 f0 f1 f2
              obtain ⟨⟨c0, c1, c2⟩, f0, f1, f2⟩ := HF2.out.cells
              simp only at c0 c1 c2
              go_wp2
              go_roundw
              case rel => exact ⟨k + 1, false, by omega, by go_num, hall.out _ HF2.out⟩
              case measure => simp [intOf]; omega
            · have hdu : decide ((u.size : Int) ≤ 2000) = false := by simp; omega
              go_wp2_with fail
              refine (C1.out _).mono ?_
              rintro e w1 ⟨rfl, hb1⟩
              go_wp2_with fail
              refine (C2.out _).mono ?_
              rintro e w2 ⟨rfl, hb2⟩
              have HF2 := Lib.hid (HF.out.below (grew hb1 hb2))
              clear hb1 hb2 c0 c1 c2 f0 f1 f2
              obtain ⟨⟨c0, c1, c2⟩, f0, f1, f2⟩ := HF2.out.cells
              simp only at c0 c1 c2
              go_wp2
              go_roundw
              case rel => exact ⟨k + 1, false, by omega, by go_num, hall.out _ HF2.out⟩
              case measure => simp [intOf]; omega
      · have hb1 : ((s[k].toNat : Int) != 126) = true := by have := byte_not h1; simpa [bne] using this
        have HE := Lib.hid (feed1_keep ⟨q, bd, told⟩ s[k] h1)
        clear h1
        have hqs : (tx q).size = q.length := tx_size q
        by_cases h5 : q.length < 5000
        · have hd5 : decide (((tx q).size : Int) < 5000) = true := by rw [hqs]; simp; omega
          have HX := Lib.hid (tx_snoc q s k hlt)
          have hqs5 : (tx q).size < 5000 := by omega
          have HKP : Hid (keepP q s[k] = q ++ [s[k]]) := Lib.hid (if_pos h5)
          clear hqs h5 c1 c2 f1 f2
          generalize hT : tx q = T at *
          have HT := Lib.hid hT
          clear hT
          go_wp2
          have HF1 : Hid (FedK w g (wr.setCell ⟨g, 0, none⟩ (.string (T ++ s.extract k (k + 1)))) u5 (Frame.feed ⟨p, b, []⟩ (s.data.toList.take (k + 1))) lg) := Lib.hid (by
            rw [HS.out, HE.out, HX.out]
            simp only [HKP.out]
            exact HF.out.set hg 0 _ (by omega) rfl rfl (fun h => by have := HF.out.long h; simp only at this ⊢; rw [List.length_append]; omega))
          go_region
          all_goals go_wp2
          all_goals refine ⟨⟨k + 1, lg, by omega, by go_num, ?_⟩, by simp [intOf]; omega⟩
          all_goals (repeat refine FedK.drew ?_)
          all_goals exact HF1.out
        · have hd5 : decide (((tx q).size : Int) < 5000) = false := by rw [hqs]; simp; omega
          have HKP : Hid (keepP q s[k] = q) := Lib.hid (if_neg h5)
          have HF1 := Lib.hid (HF.out.set hg 1 (.bool true) (by omega) (st' := ⟨q, bd, told⟩) (lg' := true) rfl rfl (fun _ => by simp only; omega))
          clear hqs h5 c2 f0 f2
          go_wp2
          go_roundw
          case rel => exact ⟨k + 1, true, by omega, by go_num, by rw [HS.out, HE.out]; simp only [HKP.out]; exact HF1.out⟩
          case measure => simp [intOf]; omega
    · have hd : decide ((k : Int) < (s.size : Int)) = false := by simp; omega
      have e1 : s.data.toList.take k = s.data.toList := List.take_of_length_le (by rw [size_list]; omega)
      rw [e1] at HF
      clear e1 hbad hpc htl
      go_wp2
      go_ret
      exact ⟨_, lg, rfl, HF.out⟩
end Go.Proofs.Ytlmigmejfkflmaa
