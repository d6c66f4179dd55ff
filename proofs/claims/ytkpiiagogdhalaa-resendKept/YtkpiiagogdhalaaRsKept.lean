/- What is kept is told as it was, till it is dropped. -/
import Derived.Test.YtkpiiagogdhalaaRsLive2
import Derived.Test.YtkpiiagogdhalaaMesgRef3
import Derived.Test.YtkpiiagogdhalaaRsZero
namespace Go.Proofs.Ytkpiiagogdhalaa
open Go.RowKit Go.Maps
set_option linter.unusedVariables false

theorem kept_get0 (n : Nat) (k : Int × Int) : Resend.get (Resend.new n 3) k = (Mesg.none, false) := rfl
theorem kept_keep {m : Mesg.Msg} (h : Mesg.may m = true) : Resend.keep (Resend.new m.know.length 3) m = (0, ⟨m.know.length, 3, [m]⟩) := by
  unfold Resend.keep
  rw [if_pos ⟨h, rfl⟩]
  rfl
theorem kept_get {m : Mesg.Msg} : Resend.get ⟨m.know.length, 3, [m]⟩ (m.site, m.seq) = (m, true) := by
  simp [Resend.get, Resend.find, Resend.key]
theorem kept_drop0 {m : Mesg.Msg} (h : Mesg.may m = true) : Resend.drop ⟨m.know.length, 3, [m]⟩ (List.replicate m.know.length 0) = (0, 0, ⟨m.know.length, 3, [m]⟩) := by
  have hb := Resend.may_bounds h
  have hmay : Vecs.may (List.replicate m.know.length (0 : Int)) = true := Vecs.may_iff.2 ⟨by simpa using hb.1, by simpa using hb.2.1, fun z hz => by rw [(List.mem_replicate.1 hz).2]; exact ⟨by omega, by omega⟩⟩
  unfold Resend.drop
  rw [if_pos ⟨hmay, by simp⟩]
  have hc : Vecs.covers (List.replicate m.know.length 0) m.site m.seq = false := by
    unfold Vecs.covers
    have hl : m.site.toNat < m.know.length := by omega
    have : (List.replicate m.know.length (0 : Int)).getD m.site.toNat 0 = 0 := by simp [hl]
    rw [this]
    have : decide (m.seq ≤ 0) = false := decide_eq_false (by omega)
    rw [this]
    simp
  have e : Resend.left (List.replicate m.know.length 0) [m] = [m] := by simp [Resend.left, hc]
  simp only [e]
  simp
theorem kept_drop {m : Mesg.Msg} (h : Mesg.may m = true) : Resend.drop ⟨m.know.length, 3, [m]⟩ ((List.replicate m.know.length 0).set m.site.toNat m.seq) = (1, 0, ⟨m.know.length, 3, []⟩) := by
  have hb := Resend.may_bounds h
  have hl : m.site.toNat < m.know.length := by omega
  have hmay : Vecs.may ((List.replicate m.know.length (0 : Int)).set m.site.toNat m.seq) = true := Vecs.may_iff.2 ⟨by simpa using hb.1, by simpa using hb.2.1, fun z hz => by
    rcases List.mem_or_eq_of_mem_set hz with hz | rfl
    · rw [(List.mem_replicate.1 hz).2]; exact ⟨by omega, by omega⟩
    · exact ⟨by omega, by omega⟩⟩
  unfold Resend.drop
  rw [if_pos ⟨hmay, by simp⟩]
  have hc : Vecs.covers ((List.replicate m.know.length 0).set m.site.toNat m.seq) m.site m.seq = true := by
    unfold Vecs.covers
    have : ((List.replicate m.know.length (0 : Int)).set m.site.toNat m.seq).getD m.site.toNat 0 = m.seq := by simp [List.getD, hl]
    rw [this, hmay]
    have h1 : decide (0 ≤ m.site) = true := decide_eq_true hb.2.2.1.1
    have h2 : decide (m.site < (((List.replicate m.know.length (0 : Int)).set m.site.toNat m.seq).length : Int)) = true := decide_eq_true (by simp; exact hb.2.2.1.2)
    have h3 : decide (1 ≤ m.seq) = true := decide_eq_true hb.2.2.2.1.1
    rw [h1, h2, h3]
    simp
  have e : Resend.left ((List.replicate m.know.length 0).set m.site.toNat m.seq) [m] = [] := by simp [Resend.left, hc]
  simp only [e]
  rfl
theorem kept_get2 (n : Nat) (k : Int × Int) : Resend.get ⟨n, 3, []⟩ k = (Mesg.none, false) := rfl

theorem ref04_Check_no (m : Mesg.Msg) (v : Value) (w : World) (hv : SliceI w v m.know) (hm : m.know.length ≤ maxLen) (h : Mesg.may m = false) :
    Calls Try.prog 26 #[msgV m v] w fun e w' => e = .returned (.int .i64 1) ∧ Below w.heap.size w w' := by
  by_cases hl : m.know.length ≤ 16
  · have := ref04_Check m v w hv (by omega)
    rw [checkN_bad h] at this
    exact this
  · exact ref04_Check_long m v w hv hm (by omega)

theorem SLive.aside {w0 wr w2 : World} {p : Nat} {s : Resend.St} {O : Nat → Prop} {g : Nat} (h : SLive w0 p s O wr) (hk : Keep (Just g) wr w2) (hg : O g) (hge : w0.heap.size ≤ g) : SLive w0 p s O w2 := by
  obtain ⟨F, h1, h2, h3, h4⟩ := h
  refine ⟨F, h1.keep hk (fun b hb e => ?_), h2, h3.trans (hk.below h3.size (fun i e => by have e : i = g := e; omega)), fun b hb => ⟨(h4 b hb).1, Nat.lt_of_lt_of_le (h4 b hb).2 hk.size⟩⟩
  have e : b = g := e
  subst e
  exact (h4 b hg).1 hb

set_option maxRecDepth 100000 in
set_option maxHeartbeats 8000000 in
theorem walk_ResendKept (m : Mesg.Msg) (u : Value) (w : World) (h : SliceI w u m.know ∧ m.know.length ≤ maxLen) :
    Calls Try.prog 12 #[msgV m u] w fun e w' => e = .returned (.bool true) ∧ Below w.heap.size w w' := by
  obtain ⟨hu, hm⟩ := h
  have HREF : Hid (∀ W, Below w.heap.size w W → m.know.length ≤ 1000000000 → Calls Try.prog 26 #[msgV m u] W fun e w' => e = .returned (.int .i64 (checkN m)) ∧ Below W.heap.size W w') := Lib.hid (fun W hb hl => ref04_Check m u W (hu.below hb) hl)
  have HU := Lib.hid hu
  have hmm : m.know.length ≤ 9223372036854775807 := by unfold maxLen at hm; omega
  have HML := Lib.hid hm
  obtain ⟨ua, uc, rfl⟩ := hu.shape
  have HBX := Lib.hid (Holds.new w (msgL m (.slice ua m.know.length uc)) 40)
  have HB1 := Lib.hid (grew_alloc w (.cells (msgL m (.slice ua m.know.length uc)).toArray 40))
  clear hu hm
  by_cases hmay : Mesg.may m = true
  · have hbd := Resend.may_bounds hmay
    have HE := Lib.hid (checkN_yes hmay)
    have HMAY := Lib.hid hmay
    have hkn : m.know.length ≤ 16 := hbd.2.1
    have HI : Hid (I64 m.site ∧ I64 m.seq) := Lib.hid ⟨by unfold I64; omega, by unfold I64; omega⟩
    have HBD := Lib.hid hbd
    clear hmay hbd
    unfold msgV
    go_enter Try.func12, Try.ntmps12
    go_wp2_with fail
    unfold msgL at HB1 HBX
    generalize (w.alloc (.cells _ 40)) = W1 at *
    refine (HREF.out W1 HB1.out (by omega)).mono ?_
    rintro e w2 ⟨rfl, hb2⟩
    rw [HE.out]
    have HBX := Lib.hid (HBX.out.keep (Keep.of_grew hb2 Non) (fun h => h))
    have HB2 := Lib.hid (grew HB1.out hb2)
    clear hb2
    obtain ⟨⟨l0, l1, l2⟩, l3, l4, l5, l6, l7, l8, l9⟩ := msg_cells (m := m) (v := .slice ua m.know.length uc) HBX.out
    go_wp2_with fail
    refine (slive_New m.know.length 3 w w2 HB2.out ⟨HBD.out.1, hkn⟩ (by decide) (fun b => b = w.heap.size) (fun b hb => by rw [hb]; exact HBX.out.lt)).mono ?_
    rintro e w3 ⟨p, rfl, hl, hb3⟩
    clear l0 l1 l2 l3 l4 l5 l6 l7 l8 l9
    have HBX := Lib.hid (HBX.out.keep (Keep.of_grew hb3 Non) (fun h => h))
    have H := Lib.hid hl
    clear hl hb3
    obtain ⟨⟨l0, l1, l2⟩, l3, l4, l5, l6, l7, l8, l9⟩ := msg_cells (m := m) (v := .slice ua m.know.length uc) HBX.out
    go_wp2_with fail
    clear l0 l1 l2 l3 l4 l5 l6 l7 l8 l9
    have hb4 := grew_alloc w3 (.cells #[.int .i64 m.site, .int .i64 m.seq] 72)
    have HKY := Lib.hid (Holds.new w3 [.int .i64 m.site, .int .i64 m.seq] 72)
    have HBX := Lib.hid (HBX.out.keep (Keep.of_grew hb4 Non) (fun h => h))
    have H := Lib.hid (H.out.grew (O' := fun b => b = w.heap.size ∨ b = w3.heap.size) hb4 (fun b hb => hb.imp id (fun e => by rw [e]; exact ⟨Nat.le_refl _, HKY.out.lt⟩)))
    clear hb4
    generalize (w3.alloc (.cells _ 72)) = W4 at *
    refine (slive_Get H.out m.site m.seq HI.out.1 HI.out.2).mono ?_
    rintro e w5 ⟨v1, rfl, hs, hl, hb⟩
    rw [kept_get0] at hs ⊢
    have HBX := Lib.hid (HBX.out.keep (Keep.of_grew hb Non) (fun h => h))
    have HKY := Lib.hid (HKY.out.keep (Keep.of_grew hb Non) (fun h => h))
    have H := Lib.hid hl
    obtain ⟨v1a, v1c, rfl⟩ := hs.shape
    clear hs hl hb
    simp only [msgV, Mesg.none, Mesg.noOp, Mesg.zero]
    have hb := grew_alloc w5 (.cells #[.int .i64 0, .int .i64 0, .slice v1a 0 v1c, .int .i64 0, .int .i64 0, .int .i64 0, .int .i64 0, .int .i64 0, .int .i64 0, .int .i64 0] 40)
    have hx6 := HBX.out.keep (Keep.of_grew hb Non) (fun h => h)
    obtain ⟨⟨l0, l1, l2⟩, l3, l4, l5, l6, l7, l8, l9⟩ := msg_cells (m := m) (v := .slice ua m.know.length uc) hx6
    clear hx6 hb
    go_wp2_with fail
    clear l0 l1 l2 l3 l4 l5 l6 l7 l8 l9
    have hb := grew_alloc w5 (.cells #[.int .i64 0, .int .i64 0, .slice v1a 0 v1c, .int .i64 0, .int .i64 0, .int .i64 0, .int .i64 0, .int .i64 0, .int .i64 0, .int .i64 0] 40)
    have HBX := Lib.hid (HBX.out.keep (Keep.of_grew hb Non) (fun h => h))
    have HKY := Lib.hid (HKY.out.keep (Keep.of_grew hb Non) (fun h => h))
    have H := Lib.hid (H.out.grew (O' := fun b => b = w.heap.size ∨ b = w3.heap.size) hb (fun b hb => .inl (.inl hb)))
    clear hb
    generalize (w5.alloc (.cells _ 40)) = W6 at *
    refine (slive_Keep H.out m (.slice ua m.know.length uc) (HU.out.below H.out.below) (by omega)).mono ?_
    rintro e w7 ⟨rfl, hl, hk⟩
    rw [kept_keep HMAY.out] at hl ⊢
    have HBX := Lib.hid (HBX.out.keep hk (fun h => h (by simp)))
    have HKY := Lib.hid (HKY.out.keep hk (fun h => h (by simp)))
    have H := Lib.hid hl
    clear hl hk
    have k0 := HKY.out.cell 0 (by simp)
    have k1 := HKY.out.cell 1 (by simp)
    simp only [List.getElem_cons_succ, List.getElem_cons_zero] at k0 k1
    go_wp2_with fail
    clear k0 k1
    refine (slive_Get H.out m.site m.seq HI.out.1 HI.out.2).mono ?_
    rintro e w8 ⟨v2, rfl, hs, hl, hb⟩
    rw [kept_get] at hs ⊢
    have HBX := Lib.hid (HBX.out.keep (Keep.of_grew hb Non) (fun h => h))
    have HKY := Lib.hid (HKY.out.keep (Keep.of_grew hb Non) (fun h => h))
    have H := Lib.hid hl
    have HSv2 := Lib.hid hs
    obtain ⟨v2a, v2c, rfl⟩ := hs.shape
    clear hs hl hb
    simp only [msgV]
    have hb := grew_alloc w8 (.cells (msgL m (.slice v2a m.know.length v2c)).toArray 40)
    have hx := HKY.out.keep (Keep.of_grew hb Non) (fun h => h)
    have k0 := hx.cell 0 (by simp)
    have k1 := hx.cell 1 (by simp)
    simp only [List.getElem_cons_succ, List.getElem_cons_zero] at k0 k1
    simp only [msgL] at k0 k1
    clear hx hb
    go_wp2_with fail
    clear k0 k1
    have hb := grew_alloc w8 (.cells (msgL m (.slice v2a m.know.length v2c)).toArray 40)
    have HXv2 := Lib.hid (Holds.new w8 (msgL m (.slice v2a m.know.length v2c)) 40)
    have HBX := Lib.hid (HBX.out.keep (Keep.of_grew hb Non) (fun h => h))
    have HKY := Lib.hid (HKY.out.keep (Keep.of_grew hb Non) (fun h => h))
    have HSv2 := Lib.hid (HSv2.out.below hb)
    have H := Lib.hid (H.out.grew (O' := fun b => b = w.heap.size ∨ b = w3.heap.size ∨ (Value.slice v2a m.know.length v2c).ownBlock = some b ∨ b = w8.heap.size) hb (fun b hb => by
      rcases hb with hb | hb | hb | hb
      · exact .inl (by simp [hb])
      · exact .inl (by simp [hb])
      · exact .inl (by simp [hb])
      · exact .inr ⟨by omega, by rw [hb]; exact HXv2.out.lt⟩))
    simp only [msgL] at hb H HBX HKY HSv2 HXv2
    clear hb
    generalize (w8.alloc (.cells _ 40)) = W9 at *
    refine (slive_Get H.out m.site m.seq HI.out.1 HI.out.2).mono ?_
    rintro e w10 ⟨v3, rfl, hs, hl, hb⟩
    rw [kept_get] at hs ⊢
    have HBX := Lib.hid (HBX.out.keep (Keep.of_grew hb Non) (fun h => h))
    have HKY := Lib.hid (HKY.out.keep (Keep.of_grew hb Non) (fun h => h))
    have HSv2 := Lib.hid (HSv2.out.below hb)
    have HXv2 := Lib.hid (HXv2.out.keep (Keep.of_grew hb Non) (fun h => h))
    have H := Lib.hid hl
    have HSv3 := Lib.hid hs
    obtain ⟨v3a, v3c, rfl⟩ := hs.shape
    clear hs hl hb
    simp only [msgV]
    have hb := grew_alloc w10 (.cells (msgL m (.slice v3a m.know.length v3c)).toArray 40)
    have hx := HBX.out.keep (Keep.of_grew hb Non) (fun h => h)
    have l2 := (msg_cells (m := m) (v := .slice ua m.know.length uc) hx).1.2.2
    simp only [msgL] at l2
    clear hx hb
    go_wp2_with fail
    clear l2
    have hb := grew_alloc w10 (.cells (msgL m (.slice v3a m.know.length v3c)).toArray 40)
    have HXv3 := Lib.hid (Holds.new w10 (msgL m (.slice v3a m.know.length v3c)) 40)
    have HBX := Lib.hid (HBX.out.keep (Keep.of_grew hb Non) (fun h => h))
    have HKY := Lib.hid (HKY.out.keep (Keep.of_grew hb Non) (fun h => h))
    have HSv2 := Lib.hid (HSv2.out.below hb)
    have HXv2 := Lib.hid (HXv2.out.keep (Keep.of_grew hb Non) (fun h => h))
    have HSv3 := Lib.hid (HSv3.out.below hb)
    have H := Lib.hid (H.out.grew (O' := fun b => b = w.heap.size ∨ b = w3.heap.size ∨ (Value.slice v2a m.know.length v2c).ownBlock = some b ∨ b = w8.heap.size ∨ (Value.slice v3a m.know.length v3c).ownBlock = some b ∨ b = w10.heap.size) hb (fun b hb => by
      rcases hb with hb | hb | hb | hb | hb | hb
      · exact .inl (by simp [hb])
      · exact .inl (by simp [hb])
      · exact .inl (by simp [hb])
      · exact .inl (by simp [hb])
      · exact .inl (by simp [hb])
      · exact .inr ⟨by omega, by rw [hb]; exact HXv3.out.lt⟩))
    simp only [msgL] at hb H HBX HKY HSv2 HXv2 HSv3 HXv3
    clear hb
    generalize (w10.alloc (.cells _ 40)) = W11 at *
    have HLT8 : Hid (∀ b, (b = w.heap.size ∨ b = w3.heap.size ∨ (Value.slice v2a m.know.length v2c).ownBlock = some b ∨ b = w8.heap.size ∨ (Value.slice v3a m.know.length v3c).ownBlock = some b ∨ b = w10.heap.size) → b < W11.heap.size) := Lib.hid (fun b hb => by obtain ⟨F, _, _, _, h4⟩ := H.out; exact (h4 b hb).2)
    refine (ref06_Zero_own m.know.length W11 (by omega)).mono ?_
    rintro e w12 ⟨r, rfl, hr, hb⟩
    obtain ⟨gv, gc, hf⟩ := hr.fresh (by simpa using HBD.out.1) hb
    obtain rfl := hf.val
    have HBX := Lib.hid (HBX.out.keep (Keep.of_grew hb Non) (fun h => h))
    have HKY := Lib.hid (HKY.out.keep (Keep.of_grew hb Non) (fun h => h))
    have HSv2 := Lib.hid (HSv2.out.below hb)
    have HXv2 := Lib.hid (HXv2.out.keep (Keep.of_grew hb Non) (fun h => h))
    have HSv3 := Lib.hid (HSv3.out.below hb)
    have HXv3 := Lib.hid (HXv3.out.keep (Keep.of_grew hb Non) (fun h => h))
    have HVO := Lib.hid hf.own
    have HGN := Lib.hid hf.new
    have hglt := HVO.out.lt rfl
    have hgn := hf.new
    have H := Lib.hid (H.out.grew (O' := fun b => b = w.heap.size ∨ b = w3.heap.size ∨ (Value.slice v2a m.know.length v2c).ownBlock = some b ∨ b = w8.heap.size ∨ (Value.slice v3a m.know.length v3c).ownBlock = some b ∨ b = w10.heap.size ∨ b = gv) hb (fun b hb => by
      rcases hb with hb | hb | hb | hb | hb | hb | hb
      · exact .inl (by simp [hb])
      · exact .inl (by simp [hb])
      · exact .inl (by simp [hb])
      · exact .inl (by simp [hb])
      · exact .inl (by simp [hb])
      · exact .inl (by simp [hb])
      · exact .inr ⟨by omega, by rw [hb]; exact hglt⟩))
    clear hr hb hf hglt hgn
    simp only [List.length_replicate] at HVO H ⊢
    go_wp2_with fail
    refine (slive_Drop H.out (.slice (some ⟨gv, 0, none⟩) m.know.length gc) (List.replicate m.know.length 0) HVO.out.slice (by simp; omega)).mono ?_
    rintro e w13 ⟨rfl, hl, hk⟩
    rw [kept_drop0 HMAY.out] at hl ⊢
    have HBX := Lib.hid (HBX.out.keep hk (fun h => h (by simp)))
    have HKY := Lib.hid (HKY.out.keep hk (fun h => h (by simp)))
    have HSv2 := Lib.hid (HSv2.out.keep hk (fun g hg h => h (by simp [hg])))
    have HXv2 := Lib.hid (HXv2.out.keep hk (fun h => h (by simp)))
    have HSv3 := Lib.hid (HSv3.out.keep hk (fun g hg h => h (by simp [hg])))
    have HXv3 := Lib.hid (HXv3.out.keep hk (fun h => h (by simp)))
    have HVO := Lib.hid (HVO.out.keep hk (fun g hg h => h (by simp [(Option.some.inj hg).symm])))
    have H := Lib.hid hl
    clear hl hk
    obtain ⟨⟨l0, l1, l2⟩, l3, l4, l5, l6, l7, l8, l9⟩ := msg_cells (m := m) (v := .slice ua m.know.length uc) HBX.out
    have hs0 : (0 : Int) ≤ m.site := HBD.out.2.2.1.1
    have hs1 : m.site < (m.know.length : Int) := HBD.out.2.2.1.2
    have hfr : Fresh w w13 (.slice (some ⟨gv, 0, none⟩) m.know.length gc) (List.replicate m.know.length 0) gv gc := ⟨by simp, HVO.out, Nat.le_trans (Nat.le_of_lt (HLT8.out w.heap.size (by simp))) HGN.out, H.out.below⟩
    have HFR := Lib.hid hfr
    have vc := hfr.cell m.site.toNat (by simp; omega)
    have vf := hfr.frozen m.site.toNat
    simp only [List.getElem_replicate] at vc
    clear hfr
    go_wp2_with fail
    have hst := HFR.out.stored m.site.toNat m.seq
    have hk14 := Keep.setCell w13 gv m.site.toNat (.int .i64 m.seq)
    have HBX := Lib.hid (HBX.out.keep hk14 (fun e => by have e : w.heap.size = gv := e; have := HLT8.out w.heap.size (by simp); have := HGN.out; omega))
    have HKY := Lib.hid (HKY.out.keep hk14 (fun e => by have e : w3.heap.size = gv := e; have := HLT8.out w3.heap.size (by simp); have := HGN.out; omega))
    have HSv2 := Lib.hid (HSv2.out.keep hk14 (fun g hg e => by have e : g = gv := e; have := HLT8.out g (by simp [hg]); have := HGN.out; omega))
    have HXv2 := Lib.hid (HXv2.out.keep hk14 (fun e => by have e : w8.heap.size = gv := e; have := HLT8.out w8.heap.size (by simp); have := HGN.out; omega))
    have HSv3 := Lib.hid (HSv3.out.keep hk14 (fun g hg e => by have e : g = gv := e; have := HLT8.out g (by simp [hg]); have := HGN.out; omega))
    have HXv3 := Lib.hid (HXv3.out.keep hk14 (fun e => by have e : w10.heap.size = gv := e; have := HLT8.out w10.heap.size (by simp); have := HGN.out; omega))
    have HV2 := Lib.hid hst.1
    have H := Lib.hid (H.out.aside hk14 (by simp) (Nat.le_trans (Nat.le_of_lt (HLT8.out w.heap.size (by simp))) HGN.out))
    clear l0 l1 l2 l3 l4 l5 l6 l7 l8 l9
    clear hst hk14 vc vf
    generalize w13.setCell ⟨gv, m.site.toNat, none⟩ (.int .i64 m.seq) = W14 at *
    refine (slive_Drop H.out (.slice (some ⟨gv, 0, none⟩) m.know.length gc) ((List.replicate m.know.length 0).set m.site.toNat m.seq) HV2.out (by simp; omega)).mono ?_
    rintro e w15 ⟨rfl, hl, hk⟩
    rw [kept_drop HMAY.out] at hl ⊢
    have HBX := Lib.hid (HBX.out.keep hk (fun h => h (by simp)))
    have HKY := Lib.hid (HKY.out.keep hk (fun h => h (by simp)))
    have HSv2 := Lib.hid (HSv2.out.keep hk (fun g hg h => h (by simp [hg])))
    have HXv2 := Lib.hid (HXv2.out.keep hk (fun h => h (by simp)))
    have HSv3 := Lib.hid (HSv3.out.keep hk (fun g hg h => h (by simp [hg])))
    have HXv3 := Lib.hid (HXv3.out.keep hk (fun h => h (by simp)))
    have H := Lib.hid hl
    clear hl hk
    have k0 := HKY.out.cell 0 (by simp)
    have k1 := HKY.out.cell 1 (by simp)
    simp only [List.getElem_cons_succ, List.getElem_cons_zero] at k0 k1
    go_wp2_with fail
    clear k0 k1
    refine (slive_Get H.out m.site m.seq HI.out.1 HI.out.2).mono ?_
    rintro e w16 ⟨v4, rfl, hs, hl, hb⟩
    rw [kept_get2] at hs ⊢
    have HBX := Lib.hid (HBX.out.keep (Keep.of_grew hb Non) (fun h => h))
    have HKY := Lib.hid (HKY.out.keep (Keep.of_grew hb Non) (fun h => h))
    have HSv2 := Lib.hid (HSv2.out.below hb)
    have HXv2 := Lib.hid (HXv2.out.keep (Keep.of_grew hb Non) (fun h => h))
    have HSv3 := Lib.hid (HSv3.out.below hb)
    have HXv3 := Lib.hid (HXv3.out.keep (Keep.of_grew hb Non) (fun h => h))
    have H := Lib.hid hl
    obtain ⟨v4a, v4c, rfl⟩ := hs.shape
    clear hs hl hb
    simp only [msgV, Mesg.none, Mesg.noOp, Mesg.zero]
    have hb := grew_alloc w16 (.cells #[.int .i64 0, .int .i64 0, .slice v4a 0 v4c, .int .i64 0, .int .i64 0, .int .i64 0, .int .i64 0, .int .i64 0, .int .i64 0, .int .i64 0] 40)
    have hx := HBX.out.keep (Keep.of_grew hb Non) (fun h => h)
    obtain ⟨⟨l0, l1, l2⟩, l3, l4, l5, l6, l7, l8, l9⟩ := msg_cells (m := m) (v := .slice ua m.know.length uc) hx
    have hy := HXv2.out.keep (Keep.of_grew hb Non) (fun h => h)
    obtain ⟨⟨n0, n1, n2⟩, n3, n4, n5, n6, n7, n8, n9⟩ := msg_cells (m := m) (v := .slice v2a m.know.length v2c) hy
    clear hx hy hb
    go_wp2_with fail
    clear l0 l1 l2 l3 l4 l5 l6 l7 l8 l9 n0 n1 n2 n3 n4 n5 n6 n7 n8 n9
    have hb := grew_alloc w16 (.cells #[.int .i64 0, .int .i64 0, .slice v4a 0 v4c, .int .i64 0, .int .i64 0, .int .i64 0, .int .i64 0, .int .i64 0, .int .i64 0, .int .i64 0] 40)
    have HBX := Lib.hid (HBX.out.keep (Keep.of_grew hb Non) (fun h => h))
    have HKY := Lib.hid (HKY.out.keep (Keep.of_grew hb Non) (fun h => h))
    have HSv2 := Lib.hid (HSv2.out.below hb)
    have HXv2 := Lib.hid (HXv2.out.keep (Keep.of_grew hb Non) (fun h => h))
    have HSv3 := Lib.hid (HSv3.out.below hb)
    have HXv3 := Lib.hid (HXv3.out.keep (Keep.of_grew hb Non) (fun h => h))
    have H := Lib.hid (H.out.grew (O' := fun b => b = w.heap.size ∨ b = w3.heap.size ∨ (Value.slice v2a m.know.length v2c).ownBlock = some b ∨ b = w8.heap.size ∨ (Value.slice v3a m.know.length v3c).ownBlock = some b ∨ b = w10.heap.size ∨ b = gv) hb (fun b hb => .inl (.inl hb)))
    clear hb
    generalize (w16.alloc (.cells _ 40)) = W17 at *
    refine (ref04_Same m m (.slice v2a m.know.length v2c) (.slice ua m.know.length uc) _ HSv2.out (HU.out.below H.out.below) (by omega) (by omega)).mono ?_
    rintro e w18 ⟨rfl, hb⟩
    rw [show decide (m = m) = true from by simp]
    have HBX := Lib.hid (HBX.out.keep (Keep.of_grew hb Non) (fun h => h))
    have HKY := Lib.hid (HKY.out.keep (Keep.of_grew hb Non) (fun h => h))
    have HSv2 := Lib.hid (HSv2.out.below hb)
    have HXv2 := Lib.hid (HXv2.out.keep (Keep.of_grew hb Non) (fun h => h))
    have HSv3 := Lib.hid (HSv3.out.below hb)
    have HXv3 := Lib.hid (HXv3.out.keep (Keep.of_grew hb Non) (fun h => h))
    have H := Lib.hid (H.out.grew (O' := Non) hb (fun b hb => hb.elim))
    clear hb
    obtain ⟨⟨l0, l1, l2⟩, l3, l4, l5, l6, l7, l8, l9⟩ := msg_cells (m := m) (v := .slice ua m.know.length uc) HBX.out
    obtain ⟨⟨n0, n1, n2⟩, n3, n4, n5, n6, n7, n8, n9⟩ := msg_cells (m := m) (v := .slice v3a m.know.length v3c) HXv3.out
    go_wp2_with fail
    refine (ref04_Same m m (.slice v3a m.know.length v3c) (.slice ua m.know.length uc) _ HSv3.out (HU.out.below H.out.below) (by omega) (by omega)).mono ?_
    rintro e w19 ⟨rfl, hb⟩
    rw [show decide (m = m) = true from by simp]
    have H := Lib.hid (H.out.grew (O' := Non) hb (fun b hb => hb.elim))
    clear hb
    clear l0 l1 l2 l3 l4 l5 l6 l7 l8 l9 n0 n1 n2 n3 n4 n5 n6 n7 n8 n9
    go_wp2_with fail
    refine (law08_live w19).mono ?_
    rintro e w20 ⟨rfl, hb⟩
    go_wp2
    go_ret
    exact ⟨rfl, grew H.out.below hb⟩
  · have HNO := Lib.hid (fun W (hb : Below w.heap.size w W) => ref04_Check_no m _ W (HU.out.below hb) HML.out (Bool.eq_false_iff.2 hmay))
    clear hmay
    unfold msgV
    go_enter Try.func12, Try.ntmps12
    go_wp2_with fail
    unfold msgL at HB1 HBX
    generalize (w.alloc (.cells _ 40)) = W1 at *
    refine (HNO.out W1 HB1.out).mono ?_
    rintro e w2 ⟨rfl, hb2⟩
    have HB2 := Lib.hid (grew HB1.out hb2)
    clear hb2
    go_wp2_with fail
    refine (law08_live w2).mono ?_
    rintro e w3 ⟨rfl, hb3⟩
    go_wp2
    go_ret
    exact ⟨rfl, grew HB2.out hb3⟩
end Go.Proofs.Ytkpiiagogdhalaa
