/- What a frame.Reader's calls come to. -/
import Derived.Test.YtlmigmejfkflmaaFrameOpen
import Derived.Test.YtlmigmejfkflmaaStrs
namespace Go.Proofs.Ytlmigmejfkflmaa
open Go.RowKit
set_option linter.unusedVariables false

/-- A reader in the block g: its piece p lies in the row of v. -/
structure Rd (w : World) (g : Nat) (v : Value) (p : List UInt8) (b : Nat) : Prop where
  hold : Holds w g [v, .int .i64 (b : Int)] 44
  own : OwnB w v p
  apart : ¬ At v g
def RdAt (g : Nat) (v : Value) : Nat → Prop := fun k => k = g ∨ At v k

theorem Rd.keep {S : Nat → Prop} {w w' : World} {g : Nat} {v : Value} {p : List UInt8} {b : Nat} (h : Rd w g v p b) (hk : Keep S w w') (hn : ∀ k, RdAt g v k → ¬ S k) : Rd w' g v p b :=
  ⟨h.hold.keep hk (hn g (.inl rfl)), Owns.keep h.own hk (fun k hk => hn k (.inr hk)), h.apart⟩
theorem Rd.lt {w : World} {g : Nat} {v : Value} {p : List UInt8} {b : Nat} (h : Rd w g v p b) {k : Nat} (hk : RdAt g v k) : k < w.heap.size := by
  rcases hk with rfl | hk
  · exact h.hold.lt
  · exact Owns.lt h.own hk

theorem frame_New (w : World) : Calls Try.prog 14 #[] w fun e w' => e = .returned (ptr w.heap.size) ∧ w.alloc (.cells #[.slice none 0 0, .int .i64 0] 44) = w' := by
  go_enter Try.func14, Try.ntmps14
  go_wp2
  go_ret
  exact ⟨rfl, rfl⟩

theorem Rd.new (w : World) : Rd (w.alloc (.cells #[.slice none 0 0, .int .i64 0] 44)) w.heap.size (.slice none 0 0) [] 0 :=
  ⟨Holds.new w [.slice none 0 0, .int .i64 0] _, OwnB.nil _, fun h => by simp [At, Value.ownBlock] at h⟩

theorem frame_Bad (g : Nat) (v : Value) (p : List UInt8) (b : Nat) (w : World) (h : Rd w g v p b) :
    Calls Try.prog 18 #[ptr g] w fun e w' => e = .returned (.int .i64 (b : Int)) ∧ w = w' := by
  have c1 := h.hold.cell 1 (by simp)
  simp only [List.getElem_cons_succ, List.getElem_cons_zero] at c1
  clear h
  unfold ptr
  go_enter Try.func18, Try.ntmps18
  go_wp2
  go_ret
  exact ⟨rfl, rfl⟩

/-- What a reader's call leaves: another state, in its own blocks or new ones. -/
def RdTo (w : World) (g : Nat) (v : Value) (p : List UInt8) (b : Nat) (w' : World) : Prop := ∃ v', Rd w' g v' p b ∧ Keep (RdAt g v) w w' ∧ NearS w (RdAt g v) (RdAt g v')

def keepP (p : List UInt8) (c : UInt8) : List UInt8 := if p.length < 5000 then p ++ [c] else p

set_option maxRecDepth 100000 in
set_option maxHeartbeats 400000 in
theorem frame_keep (g : Nat) (v : Value) (p : List UInt8) (b : Nat) (c : UInt8) (w : World) (h : Rd w g v p b) (hp : p.length ≤ 5000) :
    Calls Try.prog 23 #[ptr g, .int .u8 (c.toNat : Int)] w fun e w' => e = .returned (.tuple #[]) ∧ RdTo w g v (keepP p c) b w' := by
  have H := Lib.hid h
  have c0 := h.hold.cell 0 (by simp)
  have f0 := h.hold.frozen 0
  simp only [List.getElem_cons_zero] at c0
  have hform : ∃ a cap, v = .slice a p.length cap := by
    rcases h.own.2 with ⟨rfl, h0⟩ | ⟨x, cap, cur, rfl, _⟩
    · exact ⟨none, 0, by rw [h0]⟩
    · exact ⟨_, cap, rfl⟩
  clear h
  obtain ⟨a, cap, rfl⟩ := hform
  unfold ptr
  by_cases hlt : p.length < 5000
  · have hd : decide ((p.length : Int) < 5000) = true := by simp; omega
    have HP : Hid (keepP p c = p ++ [c]) := Lib.hid (if_pos hlt)
    go_enter Try.func23, Try.ntmps23
    go_wp2_with (at_builtin; refine wp_append_bytes rfl (.tmp 14) (.tmp 16) rfl (.slice a p.length cap) _ [c] _ rfl rfl rfl H.out.own (by simp only [List.length_cons, List.length_nil]; omega) ?_; intro v1 w1 ho1 hk1 hn1; have HH := Lib.hid (H.out.hold.keep hk1 H.out.apart); have c1 := HH.out.cell 0 (by simp); have f1 := HH.out.frozen 0; simp only [List.getElem_cons_zero] at c1; have HO1 := Lib.hid ho1; have HK1 := Lib.hid hk1; have HN1 := Lib.hid hn1; obtain ⟨a1, m1, cap1, rfl⟩ := ho1.form; clear ho1 hk1 hn1)
    go_end0
    refine ⟨rfl, ?_⟩
    rw [HP.out]
    have hap : ¬ At (.slice a1 m1 cap1) g := fun k => by
      rcases HN1.out g k with k | k
      · exact H.out.apart k
      · have := H.out.hold.lt; omega
    have kk : Keep (Just g) w1 (w1.setCell ⟨g, 0, none⟩ (.slice a1 m1 cap1)) := Keep.setCell _ _ _ _
    refine ⟨.slice a1 m1 cap1, ⟨HH.out.set 0 _ (by simp), Owns.keep HO1.out kk (fun k hk e => hap (by rw [show k = g from e] at hk; exact hk)), hap⟩, ?_, fun k hk => ?_⟩
    · exact (HK1.out.more (fun _ _ h => .inr h)).trans kk (fun i _ e => .inl e)
    · rcases hk with rfl | hk
      · exact .inl (.inl rfl)
      · rcases HN1.out k hk with h | h
        · exact .inl (.inr h)
        · exact .inr h
  · have hd : decide ((p.length : Int) < 5000) = false := by simp; omega
    have HP : Hid (keepP p c = p) := Lib.hid (if_neg hlt)
    go_enter Try.func23, Try.ntmps23
    go_wp2
    go_end0
    refine ⟨rfl, ?_⟩
    rw [HP.out]
    exact ⟨_, H.out, Keep.refl _ _, NearS.refl _ _⟩

/-- A piece is done with: the reader begins a new one, in the same row. -/
theorem Rd.emptied {w : World} {g : Nat} {a : Option Addr} {n cap : Nat} {p : List UInt8} {b : Nat} (h : Rd w g (.slice a n cap) p b) : Rd (w.setCell ⟨g, 0, none⟩ (.slice a 0 cap)) g (.slice a 0 cap) [] b
    ∧ OwnB (w.setCell ⟨g, 0, none⟩ (.slice a 0 cap)) (.slice a n cap) p := by
  have kk : Keep (Just g) w (w.setCell ⟨g, 0, none⟩ (.slice a 0 cap)) := Keep.setCell _ _ _ _
  have ho : OwnB (w.setCell ⟨g, 0, none⟩ (.slice a 0 cap)) (.slice a n cap) p := Owns.keep h.own kk (fun k hk e => h.apart (by rw [show k = g from e] at hk; exact hk))
  refine ⟨⟨h.hold.set 0 _ (by simp), ?_, ?_⟩, ho⟩
  · rcases ho.2 with ⟨h1, h0⟩ | ⟨x, c, cur, h1, hb, hg, hn, hm, hc, ht⟩
    · injection h1 with h1 h2 h3
      subst h1 h3
      exact OwnB.nil _
    · injection h1 with h1 h2 h3
      subst h1 h3
      exact ⟨rfl, .inr ⟨x, _, cur, rfl, Nat.zero_le _, hg, Nat.zero_le _, hm, hc, by simp [byteCells]⟩⟩
  · intro k
    apply h.apart
    cases a with
    | none => simp [At, Value.ownBlock] at k
    | some x => simpa [At, Value.ownBlock] using k

def endV (p : List UInt8) : Value := openV (if p = [] then none else Frame.opened p)
def endB (p : List UInt8) (b : Nat) : Nat := if p = [] then b else if Frame.opened p = none then b + 1 else b

set_option maxHeartbeats 1000000 in
theorem frame_end (g : Nat) (v : Value) (p : List UInt8) (b : Nat) (w : World) (h : Rd w g v p b) (hp : p.length ≤ 5000) (hb : b < 1000000000) :
    Calls Try.prog 24 #[ptr g] w fun e w' => e = .returned (endV p) ∧ RdTo w g v [] (endB p b) w' := by
  have H := Lib.hid h
  have c0 := h.hold.cell 0 (by simp)
  have f0 := h.hold.frozen 0
  simp only [List.getElem_cons_zero] at c0
  have hform : ∃ a cap, v = .slice a p.length cap ∧ p.length ≤ cap := by
    obtain ⟨a, cap, h1, h2, _⟩ := h.own.slice
    exact ⟨a, cap, h1, h2⟩
  clear h
  obtain ⟨a, cap, rfl, hcap⟩ := hform
  obtain ⟨hr1, ho1⟩ := H.out.emptied
  have HR1 := Lib.hid hr1
  have HO1 := Lib.hid ho1
  have HN1 : Hid (NearS w (RdAt g (.slice a p.length cap)) (RdAt g (.slice a 0 cap))) := Lib.hid (fun k hk => by
    rcases hk with rfl | hk
    · exact .inl (.inl rfl)
    · refine .inl (.inr ?_)
      cases a with
      | none => simp [At, Value.ownBlock] at hk
      | some x => simpa [At, Value.ownBlock] using hk)
  have HK1 : Hid (Keep (RdAt g (.slice a p.length cap)) w (w.setCell ⟨g, 0, none⟩ (.slice a 0 cap))) := Lib.hid ((Keep.setCell w g 0 _).more (fun i _ e => .inl e))
  clear hr1 ho1
  unfold ptr
  by_cases h0 : p = []
  · subst h0
    go_enter Try.func24, Try.ntmps24
    go_wp2
    go_ret2
    exact ⟨rfl, _, HR1.out, HK1.out, HN1.out⟩
  · have HE : Hid (endV p = openV (Frame.opened p)) := Lib.hid (by unfold endV; rw [if_neg h0])
    have hne : p.length ≠ 0 := fun h => h0 (List.eq_nil_of_length_eq_zero h)
    have hd : ((p.length : Int) == 0) = false := by rw [beq_eq_false_iff_ne]; omega
    have hd2 : (p.length == 0) = false := by rw [beq_eq_false_iff_ne]; exact hne
    have HSL := Lib.hid HO1.out.slice
    cases hop : Frame.opened p with
    | some t =>
      have HEB : Hid (endB p b = b) := Lib.hid (by unfold endB; rw [if_neg h0, hop]; simp)
      have HV : Hid (openV (some t) = .tuple #[.string ⟨t.toArray⟩, .bool true]) := Lib.hid rfl
      have HOP := Lib.hid hop
      clear h0 hop hne
      go_enter Try.func24, Try.ntmps24
      go_wp2_with fail
      refine (frame_open _ p _ HSL.out (by omega)).mono ?_
      rintro e w1 ⟨rfl, hb1⟩
      rw [HOP.out, HV.out]
      have HB1 := Lib.hid hb1
      clear hb1
      go_wp2
      go_ret2
      refine ⟨by rw [HE.out, HOP.out]; rfl, ?_⟩
      rw [HEB.out]
      have kk : Keep Non _ w1 := Keep.of_grew HB1.out Non
      exact ⟨_, HR1.out.keep kk (fun _ _ h => h), HK1.out.trans kk (fun _ _ h => h.elim), HN1.out⟩
    | none =>
      have HEB : Hid (endB p b = b + 1) := Lib.hid (by unfold endB; rw [if_neg h0, hop]; simp)
      have HV : Hid (openV none = .tuple #[.string ⟨#[]⟩, .bool false]) := Lib.hid rfl
      have HOP := Lib.hid hop
      clear h0 hop hne
      go_enter Try.func24, Try.ntmps24
      go_wp2_with fail
      refine (frame_open _ p _ HSL.out (by omega)).mono ?_
      rintro e w1 ⟨rfl, hb1⟩
      rw [HOP.out, HV.out]
      have kk : Keep Non _ w1 := Keep.of_grew hb1 Non
      have HR2 := Lib.hid (HR1.out.keep kk (fun _ _ h => h))
      have HK2 := Lib.hid (HK1.out.trans kk (fun _ _ h => h.elim))
      have c1 := HR2.out.hold.cell 1 (by simp)
      have f1 := HR2.out.hold.frozen 1
      simp only [List.getElem_cons_succ, List.getElem_cons_zero] at c1
      clear hb1 kk
      go_wp2
      go_ret2
      refine ⟨by rw [HE.out, HOP.out]; rfl, ?_⟩
      rw [HEB.out]
      have k3 : Keep (Just g) w1 (w1.setCell ⟨g, 1, none⟩ (.int .i64 ((b : Int) + 1))) := Keep.setCell _ _ _ _
      refine ⟨_, ⟨?_, Owns.keep HR2.out.own k3 (fun k hk e => HR2.out.apart (by rw [show k = g from e] at hk; exact hk)), HR2.out.apart⟩, HK2.out.trans k3 (fun i _ e => .inl e), HN1.out⟩
      exact HR2.out.hold.set 1 (.int .i64 ((b : Int) + 1)) (by simp)

def strs (l : List (List UInt8)) : List ByteArray := l.map fun t => ⟨t.toArray⟩
theorem strs_append (a b : List (List UInt8)) : strs (a ++ b) = strs a ++ strs b := by simp [strs]

/-- Where Feed stands: the reader, and the texts that were told, apart. -/
structure Fed (w : World) (g : Nat) (v : Value) (wr : World) (t : Value) (st : Frame.R) (vr : Value) : Prop where
  rd : Rd wr g vr st.piece st.bad
  own : OwnS wr t (strs st.told)
  far : ∀ k, t.ownBlock = some k → w.heap.size ≤ k ∧ ¬ RdAt g vr k
  keep : Keep (RdAt g v) w wr
  near : NearS w (RdAt g v) (RdAt g vr)

/-- The reader alone has changed. -/
theorem Fed.turned {w : World} {g : Nat} {v : Value} {wr : World} {t : Value} {st : Frame.R} {vr : Value} (h : Fed w g v wr t st vr) {w1 : World} {p : List UInt8} {b : Nat} (hr : RdTo wr g vr p b w1) :
    ∃ v1, Fed w g v w1 t ⟨p, b, st.told⟩ v1 := by
  obtain ⟨v1, h1, h2, h3⟩ := hr
  have hk := keepS h.keep h.near h2 h3
  refine ⟨v1, h1, h.own.keep h2 (fun k hk => (h.far k hk).2), fun k hk => ⟨(h.far k hk).1, fun hn => ?_⟩, hk.1, hk.2⟩
  rcases h3 k hn with e | e
  · exact (h.far k hk).2 e
  · have := Owns.lt h.own hk; omega

/-- A text more is told. -/
theorem Fed.telling {w : World} {g : Nat} {v : Value} {wr : World} {t : Value} {st : Frame.R} {vr : Value} (h : Fed w g v wr t st vr) {w1 : World} {t1 : Value} (x : List UInt8) (ho : OwnS w1 t1 (strs st.told ++ [⟨x.toArray⟩]))
    (hk : Keep (At t) wr w1) (hn : Near wr t t1) : Fed w g v w1 t1 ⟨st.piece, st.bad, st.told ++ [x]⟩ vr := by
  refine ⟨h.rd.keep hk (fun k hk e => (h.far k e).2 hk), by rw [strs_append]; exact ho, fun k e => ?_, h.keep.trans hk (fun i hi e => ?_), h.near⟩
  · rcases hn k e with e | e
    · exact h.far k e
    · exact ⟨Nat.le_trans h.keep.size e, fun hr => by have := h.rd.lt hr; omega⟩
  · have := (h.far i e).1; omega

theorem feed_snoc (st : Frame.R) (s : ByteArray) (k : Nat) (h : k < s.size) : Frame.feed st (s.data.toList.take (k + 1)) = Frame.feed1 (Frame.feed st (s.data.toList.take k)) s[k] := by
  rw [take_data s k h, Frame.feed_append]
  rfl

theorem feed1_keep (st : Frame.R) (c : UInt8) (h : c ≠ 126) : Frame.feed1 st c = ⟨keepP st.piece c, st.bad, st.told⟩ := by
  unfold Frame.feed1 keepP
  rw [if_neg h]
  split <;> rfl
theorem feed1_none (st : Frame.R) (h : st.piece = [] ∨ Frame.opened st.piece = none) : Frame.feed1 st 126 = ⟨[], endB st.piece st.bad, st.told⟩ ∧ endV st.piece = .tuple #[.string ⟨#[]⟩, .bool false] := by
  rw [Frame.feed1_mark]
  unfold Frame.fin endB endV
  obtain ⟨p, b, t⟩ := st
  by_cases h0 : p = []
  · subst h0; exact ⟨rfl, rfl⟩
  · rcases h with h | h
    · exact absurd h h0
    · simp only at h
      simp only [h0, h, if_false, if_true]
      exact ⟨trivial, rfl⟩
theorem feed1_some (st : Frame.R) (t : List UInt8) (h0 : st.piece ≠ []) (h : Frame.opened st.piece = some t) : Frame.feed1 st 126 = ⟨[], endB st.piece st.bad, st.told ++ [t]⟩ ∧ endV st.piece = .tuple #[.string ⟨t.toArray⟩, .bool true] := by
  rw [Frame.feed1_mark]
  unfold Frame.fin endB endV
  simp only [h0, h, if_false]
  exact ⟨by simp, rfl⟩

theorem feed_toldlen : ∀ (l : List UInt8) (s : Frame.R), (Frame.feed s l).told.length ≤ s.told.length + l.length
  | [], s => by simp [Frame.feed]
  | c :: l, s => by
    have h1 := Frame.feed1_toldlen s c
    have h2 := feed_toldlen l (Frame.feed1 s c)
    rw [Frame.feed_cons, List.length_cons]
    omega

set_option maxHeartbeats 2000000 in
theorem frame_Feed (g : Nat) (v : Value) (p : List UInt8) (b : Nat) (s : ByteArray) (w : World) (h : Rd w g v p b) (hp : p.length ≤ 5000) (hb : b + s.size < 1000000000) :
    Calls Try.prog 16 #[ptr g, .string s] w fun e w' => ∃ t vr, e = .returned t ∧ Fed w g v w' t (Frame.feed ⟨p, b, []⟩ s.data.toList) vr := by
  have H := Lib.hid h
  clear h
  have HSZ := Lib.hid (size_list s)
  unfold ptr
  go_enter Try.func16, Try.ntmps16
  go_wp2
  go_loopw [5, 13] (fun t i wr => ∃ (k : Nat) (vr : Value), k ≤ s.size ∧ i = .int .i64 k ∧ Fed w g v wr t (Frame.feed ⟨p, b, []⟩ (s.data.toList.take k)) vr) (fun _ i _ => s.size - (intOf i).toNat)
  case atStart => exact ⟨0, v, by omega, rfl, H.out, OwnS.nil _, fun k hk => by simp [Value.ownBlock] at hk, Keep.refl _ _, NearS.refl _ _⟩
  case round =>
    obtain ⟨k, vr, hk, rfl, hfed⟩ := hrel
    have HF := Lib.hid hfed
    clear hfed
    have hbad := Frame.feed_bad (s.data.toList.take k) ⟨p, b, []⟩
    have hpc := Frame.feed_piece (s.data.toList.take k) ⟨p, b, []⟩ hp
    have htl := feed_toldlen (s.data.toList.take k) ⟨p, b, []⟩
    rw [List.length_take] at hbad htl
    simp only [List.length_nil] at hbad htl
    by_cases hlt : k < s.size
    · have hd : decide ((k : Int) < (s.size : Int)) = true := by simp; omega
      have HS := Lib.hid (feed_snoc ⟨p, b, []⟩ s k hlt)
      generalize hst : Frame.feed ⟨p, b, []⟩ (s.data.toList.take k) = st at *
      have HST := Lib.hid hst
      clear hst
      have hb2 : st.bad < 1000000000 := by omega
      have htl2 : (strs st.told).length + 1 ≤ 1000000000 := by unfold strs; rw [List.length_map]; omega
      have HTL := Lib.hid htl2
      clear hbad htl htl2
      by_cases h1 : s[k] = 126
      · have hb1 : ((s[k].toNat : Int) != 126) = false := by have := byte_is h1; simpa [bne] using this
        have H1 := Lib.hid h1
        clear h1
        by_cases hn : st.piece = [] ∨ Frame.opened st.piece = none
        · obtain ⟨e1, e2⟩ := feed1_none st hn
          have HE1 := Lib.hid e1
          have HE2 := Lib.hid e2
          clear e1 e2 hn
          go_wp2_with fail
          refine (frame_end g vr st.piece st.bad wr HF.out.rd hpc hb2).mono ?_
          rintro e w1 ⟨rfl, hr1⟩
          rw [HE2.out]
          obtain ⟨v1, hf1⟩ := HF.out.turned hr1
          have HF1 := Lib.hid hf1
          clear hr1 hf1
          go_wp2
          go_roundw
          case rel => exact ⟨k + 1, v1, by omega, by go_num, by rw [HS.out, H1.out, HE1.out]; exact HF1.out⟩
          case measure => simp [intOf]; omega
        · have hn0 : st.piece ≠ [] := fun h => hn (.inl h)
          cases hop : Frame.opened st.piece with
          | none => exact absurd (.inr hop) hn
          | some x =>
            obtain ⟨e1, e2⟩ := feed1_some st x hn0 hop
            have HE1 := Lib.hid e1
            have HE2 := Lib.hid e2
            clear e1 e2 hn hn0 hop
            go_wp2_with fail
            refine (frame_end g vr st.piece st.bad wr HF.out.rd hpc hb2).mono ?_
            rintro e w1 ⟨rfl, hr1⟩
            rw [HE2.out]
            obtain ⟨v1, hf1⟩ := HF.out.turned hr1
            have HF1 := Lib.hid hf1
            clear hr1 hf1
            go_wp2_with (at_builtin; refine wp_append_text rfl (.tmp 31) (.tmp 33) rfl _ (strs st.told) ⟨x.toArray⟩ rfl rfl HF1.out.own HTL.out ?_; intro t2 w2 ho2 hk2 hn2)
            have HF2 := Lib.hid (HF1.out.telling x ho2 hk2 hn2)
            clear ho2 hk2 hn2
            go_roundw
            case rel => exact ⟨k + 1, v1, by omega, by go_num, by rw [HS.out, H1.out, HE1.out]; exact HF2.out⟩
            case measure => simp [intOf]; omega
      · have hb1 : ((s[k].toNat : Int) != 126) = true := by have := byte_not h1; simpa [bne] using this
        have HE := Lib.hid (feed1_keep st s[k] h1)
        clear h1
        go_wp2_with fail
        refine (frame_keep g vr st.piece st.bad s[k] wr HF.out.rd hpc).mono ?_
        rintro e w1 ⟨rfl, hr1⟩
        obtain ⟨v1, hf1⟩ := HF.out.turned hr1
        have HF1 := Lib.hid hf1
        clear hr1 hf1
        go_wp2
        go_roundw
        case rel => exact ⟨k + 1, v1, by omega, by go_num, by rw [HS.out, HE.out]; exact HF1.out⟩
        case measure => simp [intOf]; omega
    · have hd : decide ((k : Int) < (s.size : Int)) = false := by simp; omega
      have e1 : s.data.toList.take k = s.data.toList := List.take_of_length_le (by rw [size_list]; omega)
      rw [e1] at HF
      clear e1 hbad hpc htl
      go_wp2
      go_ret
      exact ⟨_, vr, rfl, HF.out⟩
end Go.Proofs.Ytlmigmejfkflmaa
