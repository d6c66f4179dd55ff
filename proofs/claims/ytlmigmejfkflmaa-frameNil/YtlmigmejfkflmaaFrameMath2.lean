/- Plain mathematics of frames: a byte that is turned, and neither was nor is a mark or a sign, spoils one frame alone. -/
import Derived.Test.YtlmigmejfkflmaaFrameMath
namespace Crc

theorem zip_self : ∀ l : List Bool, List.zipWith xor l l = List.replicate l.length false
  | [] => rfl
  | b :: l => by rw [List.zipWith_cons_cons, zip_self l, Bool.xor_self]; rfl

theorem eq_of_xor {x y : BitVec 24} (h : x ^^^ y = 0#24) : x = y := by
  have := congrArg (fun v => v ^^^ y) h
  simpa [BitVec.xor_assoc] using this

theorem more_inj {x y : BitVec 24} {l : List UInt8} (h : more x l = more y l) : x = y := by
  unfold more at h
  have e := bitsOn_xor x y (bitsOf l) (bitsOf l) rfl
  rw [zip_self, bitsOn_zeros, h, BitVec.xor_self] at e
  exact eq_of_xor (iter_eq_zero e)

theorem byte_inj {x : BitVec 24} {a b : UInt8} (h : bitsOn x (byteBits a) = bitsOn x (byteBits b)) : a = b := by
  rw [bitsOn_pack _ _ (by rw [byteBits_len]; omega), bitsOn_pack _ _ (by rw [byteBits_len]; omega), byteBits_len, byteBits_len] at h
  have e : iter 8 ((x ^^^ packTop (byteBits a)) ^^^ (x ^^^ packTop (byteBits b))) = 0#24 := by rw [iter_xor, h, BitVec.xor_self]
  have e2 := eq_of_xor (iter_eq_zero e)
  have e3 : packTop (byteBits a) = packTop (byteBits b) := by
    have := congrArg (fun v => x ^^^ v) e2
    simpa [← BitVec.xor_assoc] using this
  have ha := pack_byte a []
  have hb := pack_byte b []
  rw [List.append_nil] at ha hb
  rw [e3, hb] at ha
  have hz : (packTop []).toNat = 0 := rfl
  rw [hz] at ha
  exact UInt8.toNat_inj.1 (by omega)

/-- One byte that is another one makes another sum. -/
theorem sum_other (l1 l2 : List UInt8) (a b : UInt8) (h : a ≠ b) : sum (l1 ++ b :: l2) ≠ sum (l1 ++ a :: l2) := by
  intro e
  unfold sum at e
  rw [more_append, more_append, more_cons, more_cons] at e
  exact h (byte_inj (more_inj e)).symm
end Crc

namespace Frame

def Turned (l l' : List UInt8) : Prop := ∃ l1 a b l2, l = l1 ++ a :: l2 ∧ l' = l1 ++ b :: l2 ∧ a ≠ b

theorem Turned.cons {l l' : List UInt8} (c : UInt8) (h : Turned l l') : Turned (c :: l) (c :: l') := by
  obtain ⟨l1, a, b, l2, rfl, rfl, hne⟩ := h
  exact ⟨c :: l1, a, b, l2, rfl, rfl, hne⟩

theorem Turned.head {a b : UInt8} (l : List UInt8) (h : a ≠ b) : Turned (a :: l) (b :: l) := ⟨[], a, b, l, rfl, rfl, h⟩

theorem Turned.sum {l l' : List UInt8} (h : Turned l l') : Crc.sum l' ≠ Crc.sum l := by
  obtain ⟨l1, a, b, l2, rfl, rfl, hne⟩ := h
  exact Crc.sum_other l1 l2 a b hne

theorem stuff1_at (c : UInt8) (k : Nat) (hk : k < (stuff1 c).length) (hs : (stuff1 c)[k] ≠ 125) :
    (c = 126 ∧ k = 1 ∧ stuff1 c = [125, 94]) ∨ (c = 125 ∧ k = 1 ∧ stuff1 c = [125, 93]) ∨ (c ≠ 126 ∧ c ≠ 125 ∧ k = 0 ∧ stuff1 c = [c]) := by
  by_cases h : c = 126
  · subst h
    have e : stuff1 126 = [125, 94] := rfl
    refine .inl ⟨rfl, ?_, e⟩
    match k, hk, hs with
    | 0, _, hs => exact absurd rfl hs
    | 1, _, _ => rfl
    | k + 2, hk, _ => simp [e] at hk; omega
  · by_cases g : c = 125
    · subst g
      have e : stuff1 125 = [125, 93] := rfl
      refine .inr (.inl ⟨rfl, ?_, e⟩)
      match k, hk, hs with
      | 0, _, hs => exact absurd rfl hs
      | 1, _, _ => rfl
      | k + 2, hk, _ => simp [e] at hk; omega
    · have e : stuff1 c = [c] := by simp [stuff1, h, g]
      refine .inr (.inr ⟨h, g, ?_, e⟩)
      rw [e] at hk
      simpa using hk

theorem stuff_turned : ∀ (l t : List UInt8) (k : Nat) (d : UInt8) (hk : k < (stuff l).length), (stuff l)[k] ≠ 125 → d ≠ 125 → d ≠ (stuff l)[k] →
    (runs (.plain, t) ((stuff l).set k d)).1 ≠ .plain ∨ ∃ l', Turned l l' ∧ runs (.plain, t) ((stuff l).set k d) = (.plain, t ++ l')
  | [], t, k, d, hk, _, _, _ => by simp [stuff] at hk
  | c :: l, t, k, d, hk, hs, hd, hne => by
    have e : stuff (c :: l) = stuff1 c ++ stuff l := stuff_cons c l
    by_cases h1 : k < (stuff1 c).length
    · have hat : (stuff (c :: l))[k] = (stuff1 c)[k] := by simp only [e]; exact List.getElem_append_left h1
      rw [hat] at hs hne
      have eset : (stuff (c :: l)).set k d = (stuff1 c).set k d ++ stuff l := by rw [e, List.set_append, if_pos h1]
      rw [eset, runs_append]
      rcases stuff1_at c k h1 hs with ⟨rfl, rfl, e1⟩ | ⟨rfl, rfl, e1⟩ | ⟨h2, h3, rfl, e1⟩
      · have hne' : d ≠ 94 := by simpa [e1] using hne
        rw [e1]
        show (runs (step (step (.plain, t) 125) d) (stuff l)).1 ≠ .plain ∨ ∃ l', Turned (126 :: l) l' ∧ runs (step (step (.plain, t) 125) d) (stuff l) = (.plain, t ++ l')
        rw [step_sign]
        by_cases h93 : d = 93
        · subst h93
          refine .inr ⟨125 :: l, Turned.head l (by decide), ?_⟩
          rw [step_own, runs_stuff]
          simp
        · rw [step_bad t d hne' h93, runs_spoilt]
          exact .inl (by simp)
      · have hne' : d ≠ 93 := by simpa [e1] using hne
        rw [e1]
        show (runs (step (step (.plain, t) 125) d) (stuff l)).1 ≠ .plain ∨ ∃ l', Turned (125 :: l) l' ∧ runs (step (step (.plain, t) 125) d) (stuff l) = (.plain, t ++ l')
        rw [step_sign]
        by_cases h94 : d = 94
        · subst h94
          refine .inr ⟨126 :: l, Turned.head l (by decide), ?_⟩
          rw [step_mark, runs_stuff]
          simp
        · rw [step_bad t d h94 hne', runs_spoilt]
          exact .inl (by simp)
      · have hne' : d ≠ c := by simpa [e1] using hne
        rw [e1]
        show (runs (step (.plain, t) d) (stuff l)).1 ≠ .plain ∨ ∃ l', Turned (c :: l) l' ∧ runs (step (.plain, t) d) (stuff l) = (.plain, t ++ l')
        refine .inr ⟨d :: l, Turned.head l (fun h => hne' h.symm), ?_⟩
        rw [step_other t d hd, runs_stuff]
        simp
    · have hk' : k - (stuff1 c).length < (stuff l).length := by
        rw [e, List.length_append] at hk; omega
      have hat : (stuff (c :: l))[k] = (stuff l)[k - (stuff1 c).length] := by simp only [e]; exact List.getElem_append_right (by omega)
      rw [hat] at hs hne
      have eset : (stuff (c :: l)).set k d = stuff1 c ++ (stuff l).set (k - (stuff1 c).length) d := by rw [e, List.set_append, if_neg h1]
      rw [eset, runs_append, runs_stuff1]
      rcases stuff_turned l (t ++ [c]) _ d hk' hs hd hne with h | ⟨l', h, h2⟩
      · exact .inl h
      · exact .inr ⟨c :: l', h.cons c, by rw [h2]; simp⟩

theorem opened_turned (t : List UInt8) (k : Nat) (d : UInt8) (hk : k < (stuff (sealed t)).length) (hs : (stuff (sealed t))[k] ≠ 125) (hd : d ≠ 125) (hne : d ≠ (stuff (sealed t))[k]) :
    opened ((stuff (sealed t)).set k d) = none := by
  unfold opened
  rw [if_neg]
  rintro ⟨h1, _, h3, _⟩
  rcases stuff_turned (sealed t) [] k d hk hs hd hne with h | ⟨l', h, h2⟩
  · exact h h1
  · have e : run ((stuff (sealed t)).set k d) = (.plain, l') := by simpa [run] using h2
    rw [e] at h3
    have := h.sum
    rw [sealed_sum] at this
    exact this h3

theorem frame_len (t : List UInt8) : (frame t).length = (stuff (sealed t)).length + 2 := by simp [frame, body]

/-- One frame with a byte turned is bad. -/
theorem feed_one_turned (t : List UInt8) (b : Nat) (ts : List (List UInt8)) (ht : t.length ≤ 2000) (j : Nat) (d : UInt8) (hj : j < (frame t).length)
    (h1 : (frame t)[j] ≠ 126) (h2 : (frame t)[j] ≠ 125) (h3 : d ≠ 126) (h4 : d ≠ 125) (h5 : d ≠ (frame t)[j]) : feed ⟨[], b, ts⟩ ((frame t).set j d) = ⟨[], b + 1, ts⟩ := by
  match j, hj, h1, h2, h5 with
  | 0, _, h1, _, _ => exact absurd rfl h1
  | j + 1, hj, h1, h2, h5 =>
    have e : frame t = 126 :: (stuff (sealed t) ++ [126]) := rfl
    have hl := frame_len t
    have hj2 : j < (stuff (sealed t)).length := by
      apply Classical.byContradiction
      intro hn
      have : j = (stuff (sealed t)).length := by omega
      subst this
      apply h1
      simp [e]
    have hat : (frame t)[j + 1] = (stuff (sealed t))[j] := by simp only [e, List.getElem_cons_succ]; exact List.getElem_append_left hj2
    rw [hat] at h2 h5
    have eset : (frame t).set (j + 1) d = 126 :: ((stuff (sealed t)).set j d ++ [126]) := by rw [e, List.set_cons_succ, List.set_append, if_pos hj2]
    have hsl := stuff_len (sealed t)
    have hss := sealed_len t
    have hmark : ∀ c ∈ (stuff (sealed t)).set j d, c ≠ 126 := fun c hc => by
      rcases List.mem_or_eq_of_mem_set hc with h | h
      · exact stuff_mark _ c h
      · rw [h]; exact h3
    have hop := opened_turned t j d hj2 h2 h4 h5
    have hlen : ((stuff (sealed t)).set j d).length ≤ 5000 := by rw [List.length_set]; omega
    have hne : (stuff (sealed t)).set j d ≠ [] := fun h => by
      have := congrArg List.length h
      rw [List.length_set] at this
      simp only [List.length_nil] at this
      omega
    rw [eset, feed_cons, feed1_mark, fin_empty]
    generalize (stuff (sealed t)).set j d = q at *
    rw [feed_append, feed_plain q [] b ts hmark (by simpa using hlen), List.nil_append, feed_cons, feed1_mark]
    unfold fin
    simp only [hne, if_false, hop]
    rfl

/-- Where the frame i begins. -/
def pos (l : List (List UInt8)) (i : Nat) : Nat := ((l.take i).flatMap frame).length

theorem pos_zero (l : List (List UInt8)) : pos l 0 = 0 := by simp [pos]
theorem pos_succ (l : List (List UInt8)) (i : Nat) (h : i < l.length) : pos l (i + 1) = pos l i + (frame l[i]).length := by
  unfold pos
  rw [List.take_succ_eq_append_getElem h, List.flatMap_append, List.length_append]
  simp
theorem pos_mono (l : List (List UInt8)) : ∀ (i j : Nat), i ≤ j → j ≤ l.length → pos l i ≤ pos l j
  | i, 0, h, _ => by rw [show i = 0 by omega]; exact Nat.le_refl _
  | i, j + 1, h, hj => by
    by_cases e : i = j + 1
    · rw [e]; exact Nat.le_refl _
    · have := pos_mono l i j (by omega) (by omega)
      rw [pos_succ l j (by omega)]
      omega
theorem pos_all (l : List (List UInt8)) : pos l l.length = (l.flatMap frame).length := by unfold pos; rw [List.take_of_length_le (Nat.le_refl _)]

/-- The frame that a byte of the stream is of. -/
theorem pos_of (l : List (List UInt8)) : ∀ (n k : Nat), n ≤ l.length → k < pos l n → ∃ i, i < n ∧ pos l i ≤ k ∧ k < pos l (i + 1)
  | 0, k, _, h => by rw [pos_zero] at h; omega
  | n + 1, k, hn, h => by
    by_cases g : k < pos l n
    · obtain ⟨i, hi, h1, h2⟩ := pos_of l n k (by omega) g
      exact ⟨i, by omega, h1, h2⟩
    · exact ⟨n, by omega, by omega, h⟩

theorem pos_is (l : List (List UInt8)) (i k : Nat) (hi : i < l.length) (h1 : pos l i ≤ k) (h2 : k < pos l (i + 1)) (j : Nat) (hj : j < l.length) :
    (pos l j ≤ k ∧ (j + 1 = l.length ∨ k < pos l (j + 1))) ↔ j = i := by
  constructor
  · rintro ⟨h3, h4⟩
    apply Classical.byContradiction
    intro hne
    rcases Nat.lt_or_gt_of_ne hne with h | h
    · rcases h4 with h4 | h4
      · omega
      · have := pos_mono l (j + 1) i (by omega) (by omega); omega
    · have := pos_mono l (i + 1) j (by omega) (by omega); omega
  · rintro rfl
    exact ⟨h1, .inr h2⟩

theorem feed_turned (l : List (List UInt8)) (hl : ∀ t ∈ l, t.length ≤ 2000) (i k : Nat) (d : UInt8) (hi : i < l.length) (h1 : pos l i ≤ k) (h2 : k < pos l (i + 1)) (hk : k < (l.flatMap frame).length)
    (g1 : (l.flatMap frame)[k] ≠ 126) (g2 : (l.flatMap frame)[k] ≠ 125) (g3 : d ≠ 126) (g4 : d ≠ 125) (g5 : d ≠ (l.flatMap frame)[k]) :
    feed ⟨[], 0, []⟩ ((l.flatMap frame).set k d) = ⟨[], 1, l.eraseIdx i⟩ := by
  have e : l.flatMap frame = (l.take i).flatMap frame ++ (frame l[i] ++ (l.drop (i + 1)).flatMap frame) := by
    have h := List.take_append_drop i l
    rw [List.drop_eq_getElem_cons hi] at h
    have h3 := congrArg (fun x => List.flatMap frame x) h
    simp only [List.flatMap_append, List.flatMap_cons] at h3
    exact h3.symm
  have hlen : ((l.take i).flatMap frame).length = pos l i := rfl
  rw [pos_succ l i hi] at h2
  have hj : k - pos l i < (frame l[i]).length := by omega
  have hat : (l.flatMap frame)[k] = (frame l[i])[k - pos l i] := by
    simp only [e]
    rw [List.getElem_append_right (by rw [hlen]; exact h1), List.getElem_append_left (by rw [hlen]; exact hj)]
    simp only [hlen]
  rw [hat] at g1 g2 g5
  have eset : (l.flatMap frame).set k d = (l.take i).flatMap frame ++ ((frame l[i]).set (k - pos l i) d ++ (l.drop (i + 1)).flatMap frame) := by
    rw [e, List.set_append, if_neg (by rw [hlen]; omega), hlen, List.set_append, if_pos hj]
  rw [eset, feed_append, feed_frames _ [] 0 (fun t ht => hl t (List.mem_of_mem_take ht)), feed_append, List.nil_append,
    feed_one_turned l[i] 0 _ (hl _ (List.getElem_mem hi)) _ d hj g1 g2 g3 g4 g5, feed_frames _ _ _ (fun t ht => hl t (List.mem_of_mem_drop ht)), List.eraseIdx_eq_take_drop_succ]

/-- A frame begins and ends with the mark, and has none between. -/
theorem frame_between (t : List UInt8) (i : Nat) (h0 : 1 ≤ i) (h1 : i + 1 < (frame t).length) : (frame t)[i] ≠ 126 := by
  match i, h0, h1 with
  | i + 1, _, h1 =>
    have hl := frame_len t
    have hi : i < (stuff (sealed t)).length := by omega
    have e : frame t = 126 :: (stuff (sealed t) ++ [126]) := rfl
    have hat : (frame t)[i + 1] = (stuff (sealed t))[i] := by simp only [e, List.getElem_cons_succ]; exact List.getElem_append_left hi
    rw [hat]
    exact stuff_mark _ _ (List.getElem_mem hi)
end Frame
