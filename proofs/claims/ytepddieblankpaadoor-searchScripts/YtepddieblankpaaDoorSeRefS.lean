/- The reference's search: where it lies; New, Query, fits, last. -/
import Derived.Test.YtepddieblankpaaDoorSeSign
import Derived.Test.YtepddieblankpaaDoorSeRefB
import Derived.WalkSmall
namespace Srch
/-- Where the reference stands. -/
def plR (o : Option Nat) : Int := match o with | none => -1 | some x => (x : Nat)
end Srch
namespace Go.Proofs.YtepddieblankpaaDoor
open Go.RowKit
attribute [local go_sem] Oper.semAt_some
set_option linter.unusedVariables false

/-- The reference's search lies at p, its rows as they are. -/
structure RSv (B : Nat) (w : World) (p : Nat) (VL VQ : Value) (ts : List ByteArray) (q : List Int) (pl : Int) : Prop where
  box : Holds w p [VL, VQ, .int .i64 pl] 38
  lines : OwnS w VL ts
  qs : OwnI w VQ q
  low : B ≤ p
  fl : ∀ g, VL.ownBlock = some g → B ≤ g ∧ g ≠ p
  fq : ∀ g, VQ.ownBlock = some g → B ≤ g ∧ g ≠ p ∧ VL.ownBlock ≠ some g
  ok : ∀ r ∈ q, ∃ n : Nat, r = n ∧ Ut.Ok n
  len : q.length ≤ 200
  few : ts.length ≤ 40
  short : ∀ t ∈ ts, t.size ≤ 300
  base : B ≤ w.heap.size
def RS (B : Nat) (w : World) (p : Nat) (ts : List ByteArray) (q : List Int) (o : Option Nat) : Prop := ∃ VL VQ, RSv B w p VL VQ ts q (Srch.plR o) ∧ ∀ x, o = some x → x < ts.length ∧ Srch.fits (Ut.text q) (ts.getD x ByteArray.empty) = true
section
variable {B : Nat} {w wr w' : World} {p : Nat} {VL VQ : Value} {ts : List ByteArray} {q : List Int} {o : Option Nat} {pl : Int}
theorem RSv.keep {S : Nat → Prop} (h : RSv B w p VL VQ ts q pl) (hk : Keep S w w') (hs : ∀ i, B ≤ i → ¬ S i) : RSv B w' p VL VQ ts q pl :=
  ⟨h.box.keep hk (hs _ h.low), h.lines.keep hk (fun g hg => hs g (h.fl g hg).1), h.qs.keep hk (fun g hg => hs g (h.fq g hg).1), h.low, h.fl, h.fq, h.ok, h.len, h.few, h.short, Nat.le_trans h.base hk.size⟩
theorem RSv.below (h : RSv B w p VL VQ ts q pl) (hb : Below w.heap.size w w') : RSv B w' p VL VQ ts q pl := h.keep (Keep.of_grew hb Non) (fun _ _ h => h)
theorem RS.keep {S : Nat → Prop} (h : RS B w p ts q o) (hk : Keep S w w') (hs : ∀ i, B ≤ i → ¬ S i) : RS B w' p ts q o := by
  obtain ⟨VL, VQ, h, ha⟩ := h
  exact ⟨VL, VQ, h.keep hk hs, ha⟩
theorem RS.below (h : RS B w p ts q o) (hb : Below w.heap.size w w') : RS B w' p ts q o := h.keep (Keep.of_grew hb Non) (fun _ _ h => h)
theorem RSv.cells (h : RSv B w p VL VQ ts q pl) : w.cell? ⟨p, 0, none⟩ = some VL ∧ w.cell? ⟨p, 1, none⟩ = some VQ ∧ w.cell? ⟨p, 2, none⟩ = some (.int .i64 pl) ∧ w.frozen? ⟨p, 0, none⟩ = false ∧ w.frozen? ⟨p, 1, none⟩ = false ∧ w.frozen? ⟨p, 2, none⟩ = false :=
  ⟨h.box.cell 0 (by simp), h.box.cell 1 (by simp), h.box.cell 2 (by simp), h.box.frozen 0, h.box.frozen 1, h.box.frozen 2⟩
/-- Its place put. -/
theorem RSv.place (h : RSv B w p VL VQ ts q pl) (n : Int) : RSv B (w.setCell ⟨p, 2, none⟩ (.int .i64 n)) p VL VQ ts q n :=
  ⟨h.box.set 2 _ (by simp), h.lines.keep (Keep.setCell w p 2 _) (fun g hg e => (h.fl g hg).2 e), h.qs.keep (Keep.setCell w p 2 _) (fun g hg e => (h.fq g hg).2.1 e), h.low, h.fl, h.fq, h.ok, h.len, h.few, h.short, by simpa [World.setCell] using h.base⟩

set_option maxRecDepth 100000 in
set_option maxHeartbeats 1000000 in
theorem ref19_Query (h : RSv B w p VL VQ ts q pl) : Calls Tryd.prog 28 #[.pointer (some ⟨p, 0, none⟩)] w fun e w' => e = .returned (.string (Ut.text q)) ∧ Below w.heap.size w w' := by
  have HQ := Lib.hid h.qs.slice
  obtain ⟨_, c1, _, _, _, _⟩ := h.cells
  have hpl := h.box.lt
  have HOK := Lib.hid h.ok
  have hlen := h.len
  obtain ⟨a, cap, rfl⟩ := h.qs.slice.shape
  clear h
  go_enter Tryd.func28, Tryd.ntmps28
  go_wp2
  go_loopw [3, 4] (fun s i wr => ∃ k : Nat, k ≤ q.length ∧ i = .int .i64 k ∧ s = .string (Ut.text (q.take k)) ∧ Below w.heap.size w wr) (fun _ i _ => q.length - (intOf i).toNat)
  case atStart => exact ⟨0, by omega, rfl, rfl, Below.refl _ _⟩
  case round =>
    obtain ⟨k, hk, rfl, rfl, hB⟩ := hrel
    have HB := Lib.hid hB
    have d1 : wr.cell? ⟨p, 1, none⟩ = some (.slice a q.length cap) := by rw [hB.cell (p := ⟨p, 1, none⟩) hpl]; exact c1
    clear hB
    by_cases hlt : k < q.length
    · have e1 : decide ((k : Int) < (q.length : Int)) = true := decide_eq_true (by omega)
      have e2 : decide (k < q.length) = true := decide_eq_true hlt
      have hia : (k : Int) < (q.length : Int) := by omega
      obtain ⟨b, off, rfl, hb, hc⟩ : ∃ b off, a = some ⟨b, off, none⟩ ∧ b < w.heap.size ∧ w.cell? ⟨b, off + k, none⟩ = some (.int .i64 q[k]) := by
        obtain ⟨a', cap', e, _, hr⟩ := HQ.out
        injection e with e1 _ e3
        subst e1 e3
        rcases hr with e | ⟨b, off, e, hb, hc⟩
        · subst e; simp at hlt
        · exact ⟨b, off, e, hb, hc k hlt⟩
      have ck : wr.cell? ⟨b, off + k, none⟩ = some (.int .i64 q[k]) := by rw [HB.out.cell (p := ⟨b, off + k, none⟩) hb]; exact hc
      obtain ⟨m, hm, hok⟩ := HOK.out q[k] (List.getElem_mem hlt)
      have HT : Hid (Ut.text (q.take (k + 1)) = Ut.text (q.take k) ++ Utf8.encode (m : Int)) := Lib.hid (by rw [List.take_succ_eq_append_getElem hlt, Ut.text_snoc, hm])
      rw [hm] at ck
      have hs1 := (Ut.text_size (q.take k) (fun r hr => HOK.out r (List.mem_of_mem_take hr))).2
      have hs2 : (q.take k).length ≤ 200 := by rw [List.length_take]; omega
      have HEN : Hid ((Utf8.encode (m : Int)).size ≤ 4) := Lib.hid (by
        have := (Ut.enc_len hok).2
        unfold Ut.enc at this
        simpa using this)
      generalize Ut.text (q.take k) = u at *
      have HSG : Hid (∀ W, Calls Tryd.prog 57 #[.int .i64 (m : Int)] W fun e w' => e = .returned (.string (Utf8.encode m)) ∧ Below W.heap.size W w') := Lib.hid (fun W => ref12_Sign m hok W)
      generalize Utf8.encode (m : Int) = x at HT HEN HSG
      clear hm hc hok
      go_wp2_with fail
      refine (HSG.out _).mono ?_
      rintro e w2 ⟨rfl, hb2⟩
      have HB2 := Lib.hid (grew HB.out hb2)
      have hx := HEN.out
      clear hb2
      go_wp2
      go_roundw
      case rel => exact ⟨k + 1, by omega, by go_num, by rw [HT.out], HB2.out⟩
      case measure => simp [intOf]; omega
    · have e1 : decide ((k : Int) < (q.length : Int)) = false := decide_eq_false (by omega)
      have e2 : decide (k < q.length) = false := decide_eq_false hlt
      have HT : Hid (Ut.text (q.take k) = Ut.text q) := Lib.hid (by rw [List.take_of_length_le (by omega)])
      generalize Ut.text (q.take k) = u at *
      go_wp2
      go_ret
      exact ⟨by rw [← HT.out]; rfl, HB.out⟩

/-- Where a line lies. -/
theorem RSv.line (h : RSv B w p VL VQ ts q pl) {i : Nat} (hi : i < ts.length) : ∃ g cap, VL = .slice (some ⟨g, 0, none⟩) ts.length cap ∧ g < w.heap.size ∧ w.cell? ⟨g, i, none⟩ = some (.string (ts.getD i ByteArray.empty)) := by
  have ho := h.lines
  rcases ho.2 with ⟨_, h0⟩ | ⟨g, cap, cur, rfl, hb, hg, hn, hm, hc, ht⟩
  · omega
  · refine ⟨g, cap, rfl, (Array.getElem?_eq_some_iff.1 hg).1, ?_⟩
    have := World.ownsRow.cells ho (g := g) rfl i (.string (ts.getD i ByteArray.empty)) (by simp [List.getD, List.getElem?_eq_getElem hi])
    rw [show (⟨g, 0, Option.none⟩ : Addr).add i = ⟨g, i, Option.none⟩ from by unfold Addr.add; split <;> simp_all] at this
    exact this

set_option maxRecDepth 100000 in
set_option maxHeartbeats 2000000 in
theorem ref19_fits (h : RSv B w p VL VQ ts q pl) {i : Nat} (hi : i < ts.length) : Calls Tryd.prog 56 #[.pointer (some ⟨p, 0, none⟩), .int .i64 (i : Int)] w fun e w' => e = .returned (.bool (Srch.fits (Ut.text q) (ts.getD i ByteArray.empty))) ∧ Below w.heap.size w w' := by
  have HQY := Lib.hid (ref19_Query h)
  obtain ⟨c0, _, _, _, _, _⟩ := h.cells
  have hpl := h.box.lt
  have hqs := (Ut.text_size q h.ok).2
  have hql := h.len
  have hss : (ts.getD i ByteArray.empty).size ≤ 300 := by
    simp only [List.getD, List.getElem?_eq_getElem hi, Option.getD_some]
    exact h.short _ (List.getElem_mem hi)
  obtain ⟨g, cap, rfl, gl, cg⟩ := h.line hi
  have hd1 : decide (i < ts.length) = true := decide_eq_true hi
  have hd2 : (i : Int) < (ts.length : Int) := by omega
  clear h
  generalize ts.getD i ByteArray.empty = s at *
  generalize Ut.text q = t at *
  go_enter Tryd.func56, Tryd.ntmps56
  go_wp2_with fail
  refine HQY.out.mono ?_
  rintro e w1 ⟨rfl, hb⟩
  have d0 : w1.cell? ⟨p, 0, none⟩ = some (.slice (some ⟨g, 0, none⟩) ts.length cap) := by rw [hb.cell (p := ⟨p, 0, none⟩) hpl]; exact c0
  have dg : w1.cell? ⟨g, i, none⟩ = some (.string s) := by rw [hb.cell (p := ⟨g, i, none⟩) gl]; exact cg
  have HB := Lib.hid hb
  clear hb c0 cg HQY
  go_wp2
  go_loopw [6] (fun j wr => ∃ k : Nat, j = .int .i64 k ∧ k ≤ s.size + 1 ∧ Hid (∀ j, j < k → j ≤ s.size → Lib.occAt s.data.toList t.data.toList j = false) ∧ w1 = wr) (fun i _ => s.size + 1 - (intOf i).toNat)
  case atStart => exact ⟨0, rfl, by omega, Lib.hid (fun j hj => by omega), rfl⟩
  case round =>
    obtain ⟨k, rfl, hk, HP, rfl⟩ := hrel
    have hw : wrap64 ((k : Int) + (t.size : Int)) = (k : Int) + (t.size : Int) := IntWalk.wrap64_in _ ⟨by omega, by omega⟩
    by_cases hlt : k + t.size ≤ s.size
    · have hd : decide ((k : Int) + (t.size : Int) ≤ (s.size : Int)) = true := decide_eq_true (by omega)
      have HO := Lib.hid (@Srch.occ_cut t s k hlt)
      have h1 : (k : Int) ≤ (k : Int) + (t.size : Int) := by omega
      have h2 : (k : Int) + (t.size : Int) ≤ (s.size : Int) := by omega
      have hx : ((k : Int) + (t.size : Int)).toNat = k + t.size := by omega
      by_cases hc : s.extract k (k + t.size) = t
      · have e1 : ((s.extract k (k + t.size)).toList == t.toList) = true := str_same hc
        have HR : Hid (Srch.fits t s = true) := Lib.hid (Srch.fits_yes (by omega) (HO.out.2 hc))
        clear hc
        go_wp2
        go_ret
        exact ⟨by rw [HR.out]; rfl, HB.out⟩
      · have e1 : ((s.extract k (k + t.size)).toList == t.toList) = false := str_other hc
        have HP2 : Hid (∀ j, j < k + 1 → j ≤ s.size → Lib.occAt s.data.toList t.data.toList j = false) := Lib.hid (fun j hj hjs => by
          rcases Nat.lt_or_ge j k with g | g
          · exact HP.out j g hjs
          · obtain rfl : j = k := by omega
            cases e : Lib.occAt s.data.toList t.data.toList j with
            | false => rfl
            | true => exact absurd (HO.out.1 e) hc)
        clear hc
        go_wp2
        go_roundw
        case rel => exact ⟨k + 1, by go_num, by omega, HP2, trivial⟩
        case measure => simp [intOf]; omega
    · have hd : decide ((k : Int) + (t.size : Int) ≤ (s.size : Int)) = false := decide_eq_false (by omega)
      have HR : Hid (Srch.fits t s = false) := Lib.hid (Srch.fits_no (fun j hj => by
        rcases Nat.lt_or_ge j k with g | g
        · exact HP.out j g hj
        · exact Srch.occ_far (by omega) hj))
      go_wp2
      go_ret
      exact ⟨by rw [HR.out]; rfl, HB.out⟩

set_option maxRecDepth 100000 in
set_option maxHeartbeats 2000000 in
theorem ref19_last (h : RSv B w p VL VQ ts q pl) {k0 : Nat} (hi : k0 ≤ ts.length) {z0 : Int} (hz0 : z0 = (k0 : Int) - 1) : Calls Tryd.prog 51 #[.pointer (some ⟨p, 0, none⟩), .int .i64 z0] w fun e w' => e = .returned (.int .i64 (Srch.plR (Srch.lastFit ts (Ut.text q) k0))) ∧ Below w.heap.size w w' := by
  have H := Lib.hid h
  have hfew := h.few
  have HZ0 := Lib.hid hz0
  clear h hz0
  go_enter Tryd.func51, Tryd.ntmps51
  go_wp2
  go_loopw [1] (fun j wr => ∃ (k : Nat) (z : Int), j = .int .i64 z ∧ z = (k : Int) - 1 ∧ k ≤ k0 ∧ Hid (Srch.lastFit ts (Ut.text q) k0 = Srch.lastFit ts (Ut.text q) k) ∧ Below w.heap.size w wr) (fun i _ => (intOf i + 1).toNat)
  case atStart => exact ⟨k0, z0, rfl, HZ0.out, Nat.le_refl _, Lib.hid rfl, Below.refl _ _⟩
  case round =>
    obtain ⟨k, z, rfl, hz, hk, HL, hB⟩ := hrel
    have HB := Lib.hid hB
    have HR := Lib.hid (H.out.below hB)
    clear hB
    cases k with
    | zero =>
      obtain rfl : z = -1 := by omega
      clear hz
      go_wp2
      go_ret
      exact ⟨by rw [HL.out]; rfl, HB.out⟩
    | succ k =>
      obtain rfl : z = (k : Int) := by omega
      clear hz
      have d1 : decide ((0 : Int) ≤ (k : Int)) = true := decide_eq_true (by omega)
      have HN := Lib.hid (Srch.lastFit_succ ts (Ut.text q) k)
      have HFI := Lib.hid (ref19_fits HR.out (i := k) (by omega))
      have hw : wrap64 ((k : Int) - 1) = (k : Int) - 1 := IntWalk.wrap64_in _ ⟨by omega, by omega⟩
      go_wp2_with fail
      refine HFI.out.mono ?_
      rintro e w2 ⟨rfl, hb2⟩
      have HB2 := Lib.hid (grew HB.out hb2)
      clear hb2 HFI
      cases hf : Srch.fits (Ut.text q) (ts.getD k ByteArray.empty) with
      | true =>
        have HE : Hid (Srch.plR (Srch.lastFit ts (Ut.text q) k0) = (k : Int)) := Lib.hid (by rw [HL.out, HN.out, hf, if_pos rfl]; rfl)
        clear hf
        go_wp2
        go_ret
        exact ⟨by rw [HE.out]; rfl, HB2.out⟩
      | false =>
        have HE : Hid (Srch.lastFit ts (Ut.text q) k0 = Srch.lastFit ts (Ut.text q) k) := Lib.hid (by rw [HL.out, HN.out, hf, if_neg (by simp)])
        clear hf
        go_wp2
        go_roundw
        case rel => exact ⟨k, (k : Int) - 1, by first | rfl | go_num, rfl, by omega, HE, HB2.out⟩
        case measure => simp [intOf]
end
end Go.Proofs.YtepddieblankpaaDoor
