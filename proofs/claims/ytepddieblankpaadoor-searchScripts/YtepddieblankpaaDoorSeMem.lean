/- A search, plainly; where it lies; the walk over the lines that fit. -/
import Derived.Test.YtepddieblankpaaDoorShLay
import Derived.Test.YtepddieblankpaaDoorHeldY
import Derived.RangeFuncNested
import Derived.RangeFuncBound
import Derived.RangeFuncCalls
import Derived.RangeFuncLeaves
import Derived.Shelf.Abstract
import Derived.Shelf.RegionOpen
import Derived.WalkKit
import Derived.OwnWalkIn
import Derived.TacticsInMore
import Derived.LoopNIn
import Derived.LoopIn
import Derived.BigQuiet
import Derived.Deep.QuietTactic
namespace Srch
/-- Whether a text stands in a line. -/
def fits (q t : ByteArray) : Bool := Go.Lib.contains t.data.toList q.data.toList
/-- Those places of a row that fit. -/
def places (ts : List ByteArray) (q : ByteArray) (T : List Nat) : List Nat := T.filter (fun i => fits q (ts.getD i ByteArray.empty))
theorem places_take {ts : List ByteArray} {q : ByteArray} {T : List Nat} {j : Nat} (h : j < T.length) : places ts q (T.take (j + 1)) = places ts q (T.take j) ++ (if fits q (ts.getD T[j] ByteArray.empty) then [T[j]] else []) := by
  unfold places
  rw [List.take_succ_eq_append_getElem h, List.filter_append]
  congr 1
  unfold List.filter
  cases e : fits q (ts.getD T[j] ByteArray.empty) <;> simp only [List.filter, if_true, Bool.false_eq_true, if_false]
theorem places_pre {ts : List ByteArray} {q : ByteArray} {T : List Nat} (j : Nat) : places ts q (T.take j) <+: places ts q T := by
  unfold places
  conv => rhs; rw [← List.take_append_drop j T]
  rw [List.filter_append]
  exact List.prefix_append _ _
theorem places_len (ts : List ByteArray) (q : ByteArray) (T : List Nat) : (places ts q T).length ≤ T.length := List.length_filter_le _ _
end Srch
namespace Go.Proofs.YtepddieblankpaaDoor
open Go.RowKit Go.Shelf
attribute [local go_sem] Oper.semAt_some
set_option linter.unusedVariables false

/-- A search lies at p: its lines' slice, its query, its place, whether it is found. -/
structure IsS (w : World) (p : Nat) (v : Value) (q : ByteArray) (pl : Int) (fd : Bool) : Prop where
  c0 : w.cell? ⟨p, 0, none⟩ = some v
  c1 : w.cell? ⟨p, 1, none⟩ = some (.string q)
  c2 : w.cell? ⟨p, 2, none⟩ = some (.int .i64 pl)
  c3 : w.cell? ⟨p, 3, none⟩ = some (.bool fd)
  fz : w.frozen? ⟨p, 0, none⟩ = false ∧ w.frozen? ⟨p, 1, none⟩ = false ∧ w.frozen? ⟨p, 2, none⟩ = false ∧ w.frozen? ⟨p, 3, none⟩ = false
theorem IsS.lt {w : World} {p : Nat} {v : Value} {q : ByteArray} {pl : Int} {fd : Bool} (h : IsS w p v q pl fd) : p < w.heap.size := block_lt_of_cell h.c0
theorem IsS.keep {S : Nat → Prop} {w w' : World} {p : Nat} {v : Value} {q : ByteArray} {pl : Int} {fd : Bool} (h : IsS w p v q pl fd) (hk : Keep S w w') (hn : ¬ S p) : IsS w' p v q pl fd :=
  ⟨by rw [hk.cell h.lt hn]; exact h.c0, by rw [hk.cell h.lt hn]; exact h.c1, by rw [hk.cell h.lt hn]; exact h.c2, by rw [hk.cell h.lt hn]; exact h.c3, by rw [hk.frozen h.lt hn]; exact h.fz.1, by rw [hk.frozen h.lt hn]; exact h.fz.2.1, by rw [hk.frozen h.lt hn]; exact h.fz.2.2.1, by rw [hk.frozen h.lt hn]; exact h.fz.2.2.2⟩
theorem IsS.below {w w' : World} {p : Nat} {v : Value} {q : ByteArray} {pl : Int} {fd : Bool} (h : IsS w p v q pl fd) (hb : Below w.heap.size w w') : IsS w' p v q pl fd := h.keep (Keep.of_grew hb Non) (fun h => h)

/-- The row of places that the walk goes through, from one on step by step, to the first or the last one. -/
structure Trail (n : Nat) (frm step : Int) (T : List Nat) : Prop where
  step1 : step = 1 ∨ step = -1
  at' : ∀ j (h : j < T.length), (T[j] : Int) = frm + j * step ∧ T[j] < n
  past : frm + T.length * step < 0 ∨ (n : Int) ≤ frm + T.length * step
  len : T.length ≤ n
  lo : -1 ≤ frm
  hi : frm ≤ n

theorem listed_yes {X : Bool} {p : Prop} (h : X = false) (e : X = true) : p := by
  rw [e] at h; cases h
theorem grew2' {n : Nat} {a b c : World} (h : Below n a b) (k : Below n b c) : Below n a c := h.trans k

set_option maxRecDepth 100000 in
set_option maxHeartbeats 4000000 in
theorem fit1_in (n : Nat) (hn : 1 ≤ n) (l p Bs Bf Bt : Nat) (W0 W : World) (v : Value) (ts : List ByteArray) (q : ByteArray) (pl frm step : Int) (fd : Bool) (T : List Nat) (hS : IsS W0 p v q pl fd) (hv : SliceS W0 v ts) (hts : ts.length ≤ 1000000000) (htz : ∀ t ∈ ts, t.size < 4294967281) (hM : MaxLen W0) (hT : Trail ts.length frm step T)
    (hs : W0.cell? ⟨Bs, 0, none⟩ = some (.pointer (some ⟨p, 0, none⟩))) (hf : W0.cell? ⟨Bf, 0, none⟩ = some (.int .i64 frm)) (ht : W0.cell? ⟨Bt, 0, none⟩ = some (.int .i64 step))
    (hB : Below W0.heap.size W0 W) (J Jx : List Nat → World → Prop) (hJ : AbidesFrom W.heap.size J)
    (hY : ∀ pre x W1, J pre W1 → pre.length < ts.length → YieldAt Fence.wide (n - 1) Tryd.prog l #[.int .i64 (x : Nat)] W1 fun e W' => (e = .returned (.bool true) ∧ J (pre ++ [x]) W' ∧ Below W0.heap.size W1 W') ∨ (e = .returned (.bool false) ∧ Jx (pre ++ [x]) W'))
    (h0 : J [] W) : CallsIn Fence.wide n Tryd.prog 62 #[.func (.yield l) #[] #[], .pointer (some ⟨Bf, 0, none⟩), .pointer (some ⟨Bs, 0, none⟩), .pointer (some ⟨Bt, 0, none⟩)] W fun e W' => (∃ v, e = .returned v) ∧ ((∃ ys, ys = Srch.places ts q T ∧ J ys W') ∨ (∃ pre, pre <+: Srch.places ts q T ∧ Jx pre W')) := by
  obtain ⟨a, cap, rfl⟩ : ∃ a cap, v = .slice a ts.length cap := by obtain ⟨a, cap, e, _⟩ := hv; exact ⟨a, cap, e⟩
  have HH : Hid (∀ wr, Below W0.heap.size W0 wr → (wr.cell? ⟨Bs, 0, none⟩ = some (.pointer (some ⟨p, 0, none⟩)) ∧ wr.cell? ⟨Bf, 0, none⟩ = some (.int .i64 frm) ∧ wr.cell? ⟨Bt, 0, none⟩ = some (.int .i64 step) ∧ wr.cell? ⟨p, 0, none⟩ = some (.slice a ts.length cap) ∧ wr.cell? ⟨p, 1, none⟩ = some (.string q)) ∧ MaxLen wr ∧ SliceS wr (.slice a ts.length cap) ts) := Lib.hid (fun wr hb =>
    ⟨⟨by rw [hb.cell (p := ⟨Bs, 0, none⟩) (block_lt_of_cell hs)]; exact hs, by rw [hb.cell (p := ⟨Bf, 0, none⟩) (block_lt_of_cell hf)]; exact hf, by rw [hb.cell (p := ⟨Bt, 0, none⟩) (block_lt_of_cell ht)]; exact ht, (hS.below hb).c0, (hS.below hb).c1⟩, hM.below hb, hv.below hb⟩)
  have h1 := (HH.out W hB).1
  obtain ⟨x1, x2, x3, x4, x5⟩ := h1
  have HT := Lib.hid hT
  have hlen := hT.len
  have hst := hT.step1
  have hlo := hT.lo
  have hhi := hT.hi
  clear hS hv hs hf ht hM hT
  refine callsIn_of_wp Tryd.func62 rfl trivial ?_ rfl
  simp only [Tryd.ntmps62, List.size_toArray, List.length_cons, List.length_nil, Nat.reduceAdd, Nat.reduceSub, Array.replicate_succ, Array.replicate_zero, List.push_toArray, List.append_toArray, List.nil_append, List.cons_append]
  gi_wp2
  gi_loopw [5] (fun i wr => ∃ j : Nat, j ≤ T.length ∧ i = .int .i64 (frm + j * step) ∧ J (Srch.places ts q (T.take j)) wr ∧ Below W0.heap.size W0 wr) (fun i wr => (if step = 1 then (ts.length - intOf i).toNat else (intOf i + 1).toNat))
  case atStart => exact ⟨0, Nat.zero_le _, by simp, by simpa [Srch.places] using h0, hB⟩
  case round =>
    obtain ⟨j, hj, rfl, hJs, hnx⟩ := hrel
    obtain ⟨⟨y1, y2, y3, y4, y5⟩, hM, hv⟩ := HH.out wr hnx
    by_cases hlt : j < T.length
    · obtain ⟨hm, hmn⟩ := HT.out.at' j hlt
      have HPT := Lib.hid (Srch.places_take (ts := ts) (q := q) hlt)
      have HPR := Lib.hid (Srch.places_pre (ts := ts) (q := q) (T := T) (j + 1))
      have HLN : Hid ((Srch.places ts q (T.take j)).length < ts.length) := Lib.hid (by have := Srch.places_len ts q (T.take j); rw [List.length_take] at this; omega)
      generalize T[j] = m at *
      have HJ1 : Hid ((m : Int) + step = frm + ((j + 1 : Nat) : Int) * step) := Lib.hid (by rw [hm, Int.natCast_add, Int.add_mul]; simp; omega)
      rw [← hm]
      have hcap : ts.length ≤ cap ∧ ∃ b off, a = some ⟨b, off, none⟩ ∧ ∀ i (h : i < ts.length), wr.cell? ⟨b, off + i, none⟩ = some (.string ts[i]) := by
        obtain ⟨a', cap', e, h1, h2⟩ := hv
        injection e with e1 _ e3
        subst e1 e3
        refine ⟨h1, ?_⟩
        rcases h2 with rfl | ⟨b, off, ha, _, hc⟩
        · simp at hmn
        · exact ⟨b, off, ha, hc⟩
      obtain ⟨hcp, b, off, rfl, hcell⟩ := hcap
      have y6 := hcell m hmn
      have htm : ts.getD m ByteArray.empty = ts[m] := by simp [List.getD, List.getElem?_eq_getElem hmn]
      rw [htm] at HPT
      have htl : ts[m].size < 4294967281 := htz _ (List.getElem_mem hmn)
      have HM := Lib.hid hM
      generalize ts[m] = t at *
      have d1 : decide (0 ≤ (m : Int)) = true := decide_eq_true (by omega)
      have d2 : decide ((m : Int) < (ts.length : Int)) = true := decide_eq_true (by omega)
      have d3 : decide (m < ts.length) = true := decide_eq_true hmn
      have hia : (m : Int) < (ts.length : Int) := by omega
      have HWS : Hid (wrap64 ((m : Int) + step) = (m : Int) + step) := Lib.hid (IntWalk.wrap64_in _ ⟨by omega, by omega⟩)
      have hms : (if step = 1 then (ts.length - ((m : Int) + step)).toNat else ((m : Int) + step + 1).toNat) < (if step = 1 then (ts.length - (m : Int)).toNat else ((m : Int) + 1).toNat) := by
        rcases hst with h | h <;> subst h <;> simp <;> omega
      have HMS := Lib.hid hms
      clear hcell htm hm hv hM hms htz hst
      by_cases hft : Srch.fits q t = true
      · have HF : Hid (Lib.contains t.data.toList q.data.toList = true) := Lib.hid hft
        rw [if_pos hft] at HPT
        obtain ⟨fn, tmps, assign, body, hy, hR⟩ := hY _ m wr.drew (hJ _ wr wr.drew none hJs (show wr.grownBy wr.drew none from ⟨rfl, rfl, rfl, Nat.le_refl _, fun _ _ _ => rfl⟩) (fun r e => by cases e)) HLN.out
        gi_wp2
        refine wpIn_region_any (by kernel_rfl) ?_
        try (change wpAnyIn _ _ _ _ _ _ _ _ _ (World.drew _))
        have HS : Hid (wr.drew.cell? ⟨Bs, 0, none⟩ = some (.pointer (some ⟨p, 0, none⟩)) ∧ wr.drew.cell? ⟨p, 0, none⟩ = some (.slice (some ⟨b, off, none⟩) ts.length cap) ∧ wr.drew.cell? ⟨p, 1, none⟩ = some (.string q) ∧ wr.drew.cell? ⟨b, off + m, none⟩ = some (.string t)) := Lib.hid ⟨y1, y4, y5, y6⟩
        have HM2 : Hid (MaxLen wr.drew) := Lib.hid HM.out
        have HB2 : Hid (Below W0.heap.size W0 wr.drew) := Lib.hid hnx.drew
        generalize wr.drew = W6 at *
        refine wpAnyY.any (y := 15) (S := fun w8 => w8.cell? ⟨Bs, 0, none⟩ = some (.pointer (some ⟨p, 0, none⟩)) ∧ w8.cell? ⟨p, 0, none⟩ = some (.slice (some ⟨b, off, none⟩) ts.length cap) ∧ w8.cell? ⟨p, 1, none⟩ = some (.string q) ∧ w8.cell? ⟨b, off + m, none⟩ = some (.string t)) ?_
        refine wpAnyY_take (i := 0) (v := (.pointer (some ⟨p, 0, none⟩))) (fun _ => trivial) rfl (by kernel_rfl) (by kernel_rfl) (by kernel_rfl) (by kernel_rfl) (by kernel_rfl) (by kernel_rfl) (by kernel_rfl) (fun _ _ _ h => h) HS.out (.inl ⟨by rfl, fun w8 h8 => (by obtain ⟨s1, s2, s3, s4⟩ := h8; go_simp)⟩) ?_
        refine wpAnyY_take (i := 1) (v := (.pointer (some ⟨p, 0, none⟩))) (fun _ => trivial) rfl (by kernel_rfl) (by kernel_rfl) (by kernel_rfl) (by kernel_rfl) (by kernel_rfl) (by kernel_rfl) (by kernel_rfl) (fun _ _ _ h => h) HS.out (.inl ⟨by rfl, fun w8 h8 => (by obtain ⟨s1, s2, s3, s4⟩ := h8; go_simp)⟩) ?_
        refine wpAnyY_take (i := 2) (v := (.pointer (some ⟨p, 0, none⟩))) (fun _ => trivial) rfl (by kernel_rfl) (by kernel_rfl) (by kernel_rfl) (by kernel_rfl) (by kernel_rfl) (by kernel_rfl) (by kernel_rfl) (fun _ _ _ h => h) HS.out (.inl ⟨by rfl, fun w8 h8 => (by obtain ⟨s1, s2, s3, s4⟩ := h8; go_simp)⟩) ?_
        refine wpAnyY_take (i := 3) (v := (.slice (some ⟨b, off, none⟩) ts.length cap)) (fun _ => trivial) rfl (by kernel_rfl) (by kernel_rfl) (by kernel_rfl) (by kernel_rfl) (by kernel_rfl) (by kernel_rfl) (by kernel_rfl) (fun _ _ _ h => h) HS.out (.inl ⟨by rfl, fun w8 h8 => (by obtain ⟨s1, s2, s3, s4⟩ := h8; go_simp)⟩) ?_
        refine wpAnyY_take (i := 4) (v := (.int .i64 (m : Nat))) (fun _ => trivial) rfl (by kernel_rfl) (by kernel_rfl) (by kernel_rfl) (by kernel_rfl) (by kernel_rfl) (by kernel_rfl) (by kernel_rfl) (fun _ _ _ h => h) HS.out (.inl ⟨by rfl, fun w8 h8 => (by obtain ⟨s1, s2, s3, s4⟩ := h8; go_simp)⟩) ?_
        refine wpAnyY_take (i := 5) (v := (.pointer (some ⟨b, off + m, none⟩))) (fun _ => trivial) rfl (by kernel_rfl) (by kernel_rfl) (by kernel_rfl) (by kernel_rfl) (by kernel_rfl) (by kernel_rfl) (by kernel_rfl) (fun _ _ _ h => h) HS.out (.inl ⟨by rfl, fun w8 h8 => (by obtain ⟨s1, s2, s3, s4⟩ := h8; go_simp)⟩) ?_
        refine wpAnyY_take (i := 6) (v := (.string t)) (fun _ => trivial) rfl (by kernel_rfl) (by kernel_rfl) (by kernel_rfl) (by kernel_rfl) (by kernel_rfl) (by kernel_rfl) (by kernel_rfl) (fun _ _ _ h => h) HS.out (.inl ⟨by rfl, fun w8 h8 => (by obtain ⟨s1, s2, s3, s4⟩ := h8; go_simp)⟩) ?_
        refine wpAnyY_take (i := 7) (v := (.pointer (some ⟨p, 0, none⟩))) (fun _ => trivial) rfl (by kernel_rfl) (by kernel_rfl) (by kernel_rfl) (by kernel_rfl) (by kernel_rfl) (by kernel_rfl) (by kernel_rfl) (fun _ _ _ h => h) HS.out (.inl ⟨by rfl, fun w8 h8 => (by obtain ⟨s1, s2, s3, s4⟩ := h8; go_simp)⟩) ?_
        refine wpAnyY_take (i := 8) (v := (.pointer (some ⟨p, 0, none⟩))) (fun _ => trivial) rfl (by kernel_rfl) (by kernel_rfl) (by kernel_rfl) (by kernel_rfl) (by kernel_rfl) (by kernel_rfl) (by kernel_rfl) (fun _ _ _ h => h) HS.out (.inl ⟨by rfl, fun w8 h8 => (by obtain ⟨s1, s2, s3, s4⟩ := h8; go_simp)⟩) ?_
        refine wpAnyY_take (i := 9) (v := (.pointer (some ⟨p, 1, none⟩))) (fun _ => trivial) rfl (by kernel_rfl) (by kernel_rfl) (by kernel_rfl) (by kernel_rfl) (by kernel_rfl) (by kernel_rfl) (by kernel_rfl) (fun _ _ _ h => h) HS.out (.inl ⟨by rfl, fun w8 h8 => (by obtain ⟨s1, s2, s3, s4⟩ := h8; go_simp)⟩) ?_
        refine wpAnyY_take (i := 10) (v := (.string q)) (fun _ => trivial) rfl (by kernel_rfl) (by kernel_rfl) (by kernel_rfl) (by kernel_rfl) (by kernel_rfl) (by kernel_rfl) (by kernel_rfl) (fun _ _ _ h => h) HS.out (.inl ⟨by rfl, fun w8 h8 => (by obtain ⟨s1, s2, s3, s4⟩ := h8; go_simp)⟩) ?_
        refine wpAnyY_one (i := 11) (by kernel_rfl) rfl (fun K hK => ?_)
        go_simp
        refine ⟨trivial, (callsIn_wide.2 (strings_Contains t q W6 htl HM2.out)).mono ?_⟩
        rintro e w7 ⟨rfl, h7⟩
        rw [h7, HF.out]
        clear h7
        refine hK _ _ (fun _ => HS.out) ?_
        clear hK K
        refine wpAnyY_take (i := 12) (v := (.bool true)) (fun _ => trivial) rfl (by kernel_rfl) (by kernel_rfl) (by kernel_rfl) (by kernel_rfl) (by kernel_rfl) (by kernel_rfl) (by kernel_rfl) (fun _ _ _ h => h) HS.out (.inl ⟨by rfl, fun w8 h8 => (by obtain ⟨s1, s2, s3, s4⟩ := h8; go_simp)⟩) ?_
        refine wpAnyY_take (i := 13) (v := (.func (.yield l) #[] #[])) (fun _ => trivial) rfl (by kernel_rfl) (by kernel_rfl) (by kernel_rfl) (by kernel_rfl) (by kernel_rfl) (by kernel_rfl) (by kernel_rfl) (fun _ _ _ h => h) HS.out (.inl ⟨by rfl, fun w8 h8 => (by obtain ⟨s1, s2, s3, s4⟩ := h8; go_simp)⟩) ?_
        refine wpAnyY_take (i := 14) (v := (.int .i64 (m : Nat))) (fun _ => trivial) rfl (by kernel_rfl) (by kernel_rfl) (by kernel_rfl) (by kernel_rfl) (by kernel_rfl) (by kernel_rfl) (by kernel_rfl) (fun _ _ _ h => h) HS.out (.inl ⟨by rfl, fun w8 h8 => (by obtain ⟨s1, s2, s3, s4⟩ := h8; go_simp)⟩) ?_
        refine wpAnyY_one (i := 15) (by kernel_rfl) rfl (fun K hK => ?_)
        go_simp
        refine hR.mono ?_
        rintro e W3 (⟨rfl, hJ3, hk3⟩ | ⟨rfl, hJx3⟩)
        · refine hK _ _ (fun h => listed_yes h (by kernel_rfl)) ?_
          clear hK K
          refine wpAnyY_one (i := 16) (by kernel_rfl) rfl (fun K hK => ?_)
          go_simp
          refine hK _ _ (fun h => listed_yes h (by kernel_rfl)) ?_
          clear hK K
          refine wpAnyY_one (i := 17) (by kernel_rfl) rfl (fun K hK => ?_)
          go_simp
          refine hK _ _ (fun h => listed_yes h (by kernel_rfl)) ?_
          clear hK K
          refine wpAnyY_done (by kernel_rfl) ?_ _
          have y7 := (HH.out W3 (grew2' HB2.out hk3)).1.2.2.1
          gi_wp2
          go_roundw
          case rel => exact ⟨j + 1, by omega, by rw [HWS.out, HJ1.out], by rw [HPT.out]; exact hJ3, grew2' HB2.out hk3⟩
          case measure => simp only [intOf]; rw [HWS.out]; exact HMS.out
        · refine hK _ _ (fun h => listed_yes h (by kernel_rfl)) ?_
          clear hK K
          refine wpAnyY_one (i := 16) (by kernel_rfl) rfl (fun K hK => ?_)
          go_simp
          refine hK _ _ (fun h => listed_yes h (by kernel_rfl)) ?_
          clear hK K
          refine wpAnyY_one (i := 17) (by kernel_rfl) rfl (fun K hK => ?_)
          go_simp
          refine hK _ _ (fun h => listed_yes h (by kernel_rfl)) ?_
          clear hK K
          refine wpAnyY_done (by kernel_rfl) ?_ _
          gi_wp2
          refine bodyPost_ret (results_none rfl _ _ _) rfl ?_
          exact ⟨⟨_, rfl⟩, .inr ⟨_, by have := HPR.out; rw [HPT.out] at this; exact this, hJx3⟩⟩
      · have HF : Hid (Lib.contains t.data.toList q.data.toList = false) := Lib.hid (by simpa [Srch.fits] using hft)
        rw [if_neg hft, List.append_nil] at HPT
        have HJD : Hid (∀ k, J (Srch.places ts q (T.take j)) (wr.drewN k)) := Lib.hid (fun k => hJ _ wr (wr.drewN k) none hJs (show wr.grownBy (wr.drewN k) none from ⟨rfl, rfl, rfl, Nat.le_refl _, fun _ _ _ => rfl⟩) (fun r e => by cases e))
        gi_wp2
        refine wpIn_wide.2 ?_
        have HC : Hid (∀ W8, MaxLen W8 → Calls Tryd.prog 63 #[.string t, .string q] W8 fun e w' => e = .returned (.bool false) ∧ w' = W8) := Lib.hid (fun W8 h8 => (strings_Contains t q W8 htl h8).mono (by rintro e w' ⟨rfl, h⟩; exact ⟨by rw [HF.out], h⟩))
        have hMM : ∀ n : Nat, MaxLen (wr.drewN n) := fun n => HM.out.below (grew_drewN _ _)
        go_quiet ((go_at_call 63; exact (HC.out _ (hMM _)).mono (by rintro e w9 ⟨rfl, rfl⟩; exact ⟨rfl, _, rfl⟩)))
        gi_wp2
        go_roundw
        case rel => exact ⟨j + 1, by omega, by rw [HWS.out, HJ1.out], by rw [HPT.out]; exact HJD.out _, hnx.trans (below_drewN (Below.refl _ _) _)⟩
        case measure => simp only [intOf]; rw [HWS.out]; exact HMS.out
    · obtain rfl : j = T.length := by omega
      have hpast := HT.out.past
      rw [List.take_length] at hJs
      have HP : Hid (frm + (T.length : Int) * step < 0 ∨ (ts.length : Int) ≤ frm + (T.length : Int) * step) := Lib.hid hpast
      generalize frm + (T.length : Int) * step = x at *
      by_cases hx : 0 ≤ x
      · have d1 : decide (0 ≤ x) = true := decide_eq_true hx
        have d2 : decide (x < (ts.length : Int)) = false := decide_eq_false (by omega)
        clear hpast hx
        gi_wp2
        go_end0
        exact ⟨⟨_, rfl⟩, .inl ⟨_, rfl, hJs⟩⟩
      · have d1 : decide (0 ≤ x) = false := decide_eq_false hx
        clear hpast hx
        gi_wp2
        go_end0
        exact ⟨⟨_, rfl⟩, .inl ⟨_, rfl, hJs⟩⟩
end Go.Proofs.YtepddieblankpaaDoor
