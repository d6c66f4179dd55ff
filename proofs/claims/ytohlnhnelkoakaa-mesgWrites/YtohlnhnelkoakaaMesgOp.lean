/- What mesg's source answers of an op, and at its end. -/
import Derived.Test.YtohlnhnelkoakaaMesgSrc
namespace Go.Proofs.Ytohlnhnelkoakaa
open Go.RowKit
set_option linter.unusedVariables false

theorem num_len_le {l t : List UInt8} {n : Int} (h : Mesg.num l = .ok n t) : t.length ≤ l.length := by
  obtain ⟨k, _, _, _, hl⟩ := Mesg.num_ok h
  have := congrArg List.length hl
  rw [List.length_append] at this
  omega
theorem rid_len_le {l t : List UInt8} {x : Mesg.Id} (h : Mesg.rid l = .ok x t) : t.length ≤ l.length := by
  unfold Mesg.rid at h
  cases h1 : Mesg.num l with
  | error n => rw [h1] at h; cases h
  | ok a l1 =>
    rw [h1] at h
    change (Mesg.num l1).on _ = _ at h
    cases h2 : Mesg.num l1 with
    | error n => rw [h2] at h; cases h
    | ok b l2 =>
      rw [h2] at h
      have h3 := num_len_le h1
      have h4 := num_len_le h2
      change Mesg.Got.ok _ l2 = _ at h
      injection h with _ h
      subst h
      omega

theorem opw_start {w w1 : World} {g : Nat} {l1 : List UInt8} (hg : g < w.heap.size) (hk : Keep (Just g) (w.alloc (.cells #[.int .i64 0, .int .i64 0, .int .i64 0, .int .i64 0, .int .i64 0, .int .i64 0, .int .i64 0] 26)) w1) (hs : Src w1 g l1) (k : Int) :
    OpW w g w1.heap.size ⟨k, 0, ⟨0, 0⟩, ⟨0, 0⟩, 0⟩ (w1.alloc (.cells #[.int .i64 k, .int .i64 0, .int .i64 0, .int .i64 0, .int .i64 0, .int .i64 0, .int .i64 0] 26)) l1 := by
  have hz : w.heap.size < w1.heap.size := by
    have h1 := hk.size
    rw [show (w.alloc (.cells #[.int .i64 0, .int .i64 0, .int .i64 0, .int .i64 0, .int .i64 0, .int .i64 0, .int .i64 0] 26)).heap.size = w.heap.size + 1 from Array.size_push _] at h1
    omega
  refine ⟨hs.keep (Keep.alloc Non _ _) (fun h => h), ?_, Holds.new w1 (opL ⟨k, 0, ⟨0, 0⟩, ⟨0, 0⟩, 0⟩) _, ((Keep.alloc _ _ _).trans hk (fun _ _ h => h)).trans (Keep.alloc Non _ _) (fun _ _ h => h.elim), hg, hz⟩
  exact ((Holds.new w (opL Mesg.noOp) 26).keep hk (fun e => by have e : w.heap.size = g := e; omega)).keep (Keep.alloc Non _ _) (fun h => h)

/-- An op is put into a block. -/
def setOp (W : World) (r : Nat) (o : Mesg.Op) : World :=
  ((((((W.setCell ⟨r, 0, none⟩ (.int .i64 o.kind)).setCell ⟨r, 1, none⟩ (.int .i64 o.epoch)).setCell ⟨r, 2, none⟩ (.int .i64 o.id.time)).setCell ⟨r, 3, none⟩ (.int .i64 o.id.site)).setCell ⟨r, 4, none⟩ (.int .i64 o.ref.time)).setCell ⟨r, 5, none⟩ (.int .i64 o.ref.site)).setCell ⟨r, 6, none⟩ (.int .i64 o.rune)

theorem setOp_holds {W : World} {r : Nat} {x : Mesg.Op} {t : TypeId} (h : Holds W r (opL x) t) (o : Mesg.Op) : Holds (setOp W r o) r (opL o) t :=
  ((((((h.set 0 _ (by simp [opL])).set 1 _ (by simp [opL])).set 2 _ (by simp [opL])).set 3 _ (by simp [opL])).set 4 _ (by simp [opL])).set 5 _ (by simp [opL])).set 6 _ (by simp [opL])
theorem setOp_keep (W : World) (r : Nat) (o : Mesg.Op) : Keep (Just r) W (setOp W r o) :=
  ((((((Keep.setCell _ _ _ _).trans (Keep.setCell _ _ _ _) (fun _ _ h => h)).trans (Keep.setCell _ _ _ _) (fun _ _ h => h)).trans (Keep.setCell _ _ _ _) (fun _ _ h => h)).trans (Keep.setCell _ _ _ _) (fun _ _ h => h)).trans (Keep.setCell _ _ _ _) (fun _ _ h => h)).trans (Keep.setCell _ _ _ _) (fun _ _ h => h)

set_option maxRecDepth 100000 in
set_option maxHeartbeats 1000000 in
theorem op_A (g : Nat) (l : List UInt8) (n : Nat) (w : World) (h : Src w g l) (hl : l.length ≤ 1000000) (h1 : Mesg.num l = .error n) :
    Calls Try.prog 37 #[.pointer (some ⟨g, 0, none⟩)] w (Gets w g (.error n) isOp) := by
  have hg := h.lt
  have C1 := Lib.hid (src_number g l _ (h.keep (Keep.alloc Non w (.cells #[.int .i64 0, .int .i64 0, .int .i64 0, .int .i64 0, .int .i64 0, .int .i64 0, .int .i64 0] 26)) (fun h => h)) hl)
  rw [h1] at C1
  clear h
  clear h1
  go_enter Try.func37, Try.ntmps37
  go_wp2_with fail
  refine C1.out.mono ?_
  rintro e w1 hg1
  obtain ⟨hk1, rfl⟩ := bad_num hg1
  clear hg1
  go_wp2
  exact ⟨rfl, (Keep.alloc _ _ _).trans hk1 (fun _ _ h => h), rfl⟩

set_option maxRecDepth 100000 in
set_option maxHeartbeats 1000000 in
theorem op_B (g : Nat) (l l1 : List UInt8) (k : Int) (w : World) (h : Src w g l) (hl : l.length ≤ 1000000) (h1 : Mesg.num l = .ok k l1) (hk : k < 1) :
    Calls Try.prog 37 #[.pointer (some ⟨g, 0, none⟩)] w (Gets w g (.error 2) isOp) := by
  have hg := h.lt
  have C1 := Lib.hid (src_number g l _ (h.keep (Keep.alloc Non w (.cells #[.int .i64 0, .int .i64 0, .int .i64 0, .int .i64 0, .int .i64 0, .int .i64 0, .int .i64 0] 26)) (fun h => h)) hl)
  rw [h1] at C1
  clear h
  have hd : decide (k < 1) = true := by simpa using hk
  clear h1
  go_enter Try.func37, Try.ntmps37
  go_wp2_with fail
  refine C1.out.mono ?_
  rintro e w1 hg1
  obtain ⟨hk1, rfl, hs1⟩ := ok_num hg1
  clear hg1
  have HW1 := Lib.hid (opw_start hg hk1 hs1 k)
  have hlt1 := HW1.out.far
  clear hk1 hs1
  go_wp2
  exact ⟨rfl, HW1.out.keep, rfl⟩

set_option maxRecDepth 100000 in
set_option maxHeartbeats 1000000 in
theorem op_B2 (g : Nat) (l l1 : List UInt8) (k : Int) (w : World) (h : Src w g l) (hl : l.length ≤ 1000000) (h1 : Mesg.num l = .ok k l1) (hk : 1 ≤ k) (hk8 : 8 < k) :
    Calls Try.prog 37 #[.pointer (some ⟨g, 0, none⟩)] w (Gets w g (.error 2) isOp) := by
  have hg := h.lt
  have C1 := Lib.hid (src_number g l _ (h.keep (Keep.alloc Non w (.cells #[.int .i64 0, .int .i64 0, .int .i64 0, .int .i64 0, .int .i64 0, .int .i64 0, .int .i64 0] 26)) (fun h => h)) hl)
  rw [h1] at C1
  clear h
  have hd : decide (k < 1) = false := by simp; omega
  have hd8 : decide (8 < k) = true := by simpa using hk8
  clear h1
  go_enter Try.func37, Try.ntmps37
  go_wp2_with fail
  refine C1.out.mono ?_
  rintro e w1 hg1
  obtain ⟨hk1, rfl, hs1⟩ := ok_num hg1
  clear hg1
  have HW1 := Lib.hid (opw_start hg hk1 hs1 k)
  have hlt1 := HW1.out.far
  clear hk1 hs1
  go_wp2
  exact ⟨rfl, HW1.out.keep, rfl⟩

set_option maxRecDepth 100000 in
set_option maxHeartbeats 1000000 in
theorem op_C (g : Nat) (l l1 : List UInt8) (k : Int) (n : Nat) (w : World) (h : Src w g l) (hl : l.length ≤ 1000000) (h1 : Mesg.num l = .ok k l1) (hk : 1 ≤ k) (hk8 : k ≤ 8) (h2 : Mesg.num l1 = .error n) :
    Calls Try.prog 37 #[.pointer (some ⟨g, 0, none⟩)] w (Gets w g (.error n) isOp) := by
  have hg := h.lt
  have C1 := Lib.hid (src_number g l _ (h.keep (Keep.alloc Non w (.cells #[.int .i64 0, .int .i64 0, .int .i64 0, .int .i64 0, .int .i64 0, .int .i64 0, .int .i64 0] 26)) (fun h => h)) hl)
  rw [h1] at C1
  clear h
  have hl1 : l1.length ≤ 1000000 := by have := num_len_le h1; omega
  have hd : decide (k < 1) = false := by simp; omega
  have hd8 : decide (8 < k) = false := by simp; omega
  have H2 := Lib.hid h2
  clear h1 h2
  go_enter Try.func37, Try.ntmps37
  go_wp2_with fail
  refine C1.out.mono ?_
  rintro e w1 hg1
  obtain ⟨hk1, rfl, hs1⟩ := ok_num hg1
  clear hg1
  have HW1 := Lib.hid (opw_start hg hk1 hs1 k)
  have hlt1 := HW1.out.far
  clear hk1 hs1
  have C2 := Lib.hid (src_number g l1 _ HW1.out.src hl1)
  rw [H2.out] at C2
  go_wp2_with fail
  refine C2.out.mono ?_
  rintro e w2 hg2
  obtain ⟨hkx, rfl⟩ := bad_num hg2
  clear hg2
  go_wp2
  exact ⟨rfl, HW1.out.keep.trans hkx (fun _ _ h => h), rfl⟩

set_option maxRecDepth 100000 in
set_option maxHeartbeats 1000000 in
theorem op_1I (g : Nat) (l l1 l2 : List UInt8) (k ep : Int) (n : Nat) (w : World) (h : Src w g l) (hl : l.length ≤ 1000000) (h1 : Mesg.num l = .ok k l1) (hk : 1 ≤ k) (hk8 : k ≤ 8) (h2 : Mesg.num l1 = .ok ep l2) (hkk : k = 1) (h3 : Mesg.rid l2 = .error n) :
    Calls Try.prog 37 #[.pointer (some ⟨g, 0, none⟩)] w (Gets w g (.error n) isOp) := by
  have hg := h.lt
  have C1 := Lib.hid (src_number g l _ (h.keep (Keep.alloc Non w (.cells #[.int .i64 0, .int .i64 0, .int .i64 0, .int .i64 0, .int .i64 0, .int .i64 0, .int .i64 0] 26)) (fun h => h)) hl)
  rw [h1] at C1
  clear h
  have hl1 : l1.length ≤ 1000000 := by have := num_len_le h1; omega
  have hd : decide (k < 1) = false := by simp; omega
  have hd8 : decide (8 < k) = false := by simp; omega
  have H2 := Lib.hid h2
  have hl2 : l2.length ≤ 1000000 := by have := num_len_le h2; omega
  have HI : Hid (decide (k = 1 ∨ k = 6) = true) := Lib.hid (by simp; omega)
  have HF : Hid (decide (k ≠ 6) = true) := Lib.hid (by simp; omega)
  have HU : Hid (decide (k = 1) = true) := Lib.hid (by simp; omega)
  have H3 := Lib.hid h3
  clear h1 h2 h3
  clear hkk
  go_enter Try.func37, Try.ntmps37
  go_wp2_with fail
  refine C1.out.mono ?_
  rintro e w1 hg1
  obtain ⟨hk1, rfl, hs1⟩ := ok_num hg1
  clear hg1
  have HW1 := Lib.hid (opw_start hg hk1 hs1 k)
  have hlt1 := HW1.out.far
  clear hk1 hs1
  have C2 := Lib.hid (src_number g l1 _ HW1.out.src hl1)
  rw [H2.out] at C2
  go_wp2_with fail
  refine C2.out.mono ?_
  rintro e w2 hg2
  obtain ⟨hkx, rfl, hsx⟩ := ok_num hg2
  clear hg2
  have HW2 := Lib.hid (HW1.out.gets hkx hsx)
  clear hkx hsx
  obtain ⟨c0, c1, c2, c3, c4, c5, c6⟩ := op_cells HW2.out.loc
  have q1 := HW2.out.loc.frozen 1
  have q2 := HW2.out.loc.frozen 2
  have q3 := HW2.out.loc.frozen 3
  have q4 := HW2.out.loc.frozen 4
  have q5 := HW2.out.loc.frozen 5
  have q6 := HW2.out.loc.frozen 6
  simp only at c0 c1 c2 c3 c4 c5 c6
  have HW3 := Lib.hid (HW2.out.set 1 (.int .i64 ep) (by omega) (o' := ⟨k, ep, ⟨0, 0⟩, ⟨0, 0⟩, 0⟩) rfl)
  obtain ⟨d0, _, _, _, _, _, _⟩ := op_cells HW3.out.loc
  simp only at d0
  go_wp2_with fail
  refine (mesg_hasId _ _).mono ?_
  rintro e wx ⟨rfl, rfl⟩
  rw [HI.out]
  clear d0
  clear c0 c1 c2 c3 c4 c5 c6 q1 q2 q3 q4 q5 q6
  have C3 := Lib.hid (src_id g l2 _ HW3.out.src hl2)
  rw [H3.out] at C3
  go_wp2_with fail
  refine C3.out.mono ?_
  rintro e w3 hg3
  obtain ⟨hkx, rfl⟩ := bad_num hg3
  clear hg3
  go_wp2
  exact ⟨rfl, HW3.out.keep.trans hkx (fun _ _ h => h), rfl⟩

set_option maxRecDepth 100000 in
set_option maxHeartbeats 1000000 in
theorem op_1R (g : Nat) (l l1 l2 l3 : List UInt8) (k ep : Int) (x : Mesg.Id) (n : Nat) (w : World) (h : Src w g l) (hl : l.length ≤ 1000000) (h1 : Mesg.num l = .ok k l1) (hk : 1 ≤ k) (hk8 : k ≤ 8) (h2 : Mesg.num l1 = .ok ep l2) (hkk : k = 1) (h3 : Mesg.rid l2 = .ok x l3) (h4 : Mesg.rid l3 = .error n) :
    Calls Try.prog 37 #[.pointer (some ⟨g, 0, none⟩)] w (Gets w g (.error n) isOp) := by
  have hg := h.lt
  have C1 := Lib.hid (src_number g l _ (h.keep (Keep.alloc Non w (.cells #[.int .i64 0, .int .i64 0, .int .i64 0, .int .i64 0, .int .i64 0, .int .i64 0, .int .i64 0] 26)) (fun h => h)) hl)
  rw [h1] at C1
  clear h
  have hl1 : l1.length ≤ 1000000 := by have := num_len_le h1; omega
  have hd : decide (k < 1) = false := by simp; omega
  have hd8 : decide (8 < k) = false := by simp; omega
  have H2 := Lib.hid h2
  have hl2 : l2.length ≤ 1000000 := by have := num_len_le h2; omega
  have HI : Hid (decide (k = 1 ∨ k = 6) = true) := Lib.hid (by simp; omega)
  have HF : Hid (decide (k ≠ 6) = true) := Lib.hid (by simp; omega)
  have HU : Hid (decide (k = 1) = true) := Lib.hid (by simp; omega)
  have H3 := Lib.hid h3
  have H4 := Lib.hid h4
  have hl3 : l3.length ≤ 1000000 := by have := rid_len_le h3; omega
  clear h1 h2 h3 h4
  clear hkk
  go_enter Try.func37, Try.ntmps37
  go_wp2_with fail
  refine C1.out.mono ?_
  rintro e w1 hg1
  obtain ⟨hk1, rfl, hs1⟩ := ok_num hg1
  clear hg1
  have HW1 := Lib.hid (opw_start hg hk1 hs1 k)
  have hlt1 := HW1.out.far
  clear hk1 hs1
  have C2 := Lib.hid (src_number g l1 _ HW1.out.src hl1)
  rw [H2.out] at C2
  go_wp2_with fail
  refine C2.out.mono ?_
  rintro e w2 hg2
  obtain ⟨hkx, rfl, hsx⟩ := ok_num hg2
  clear hg2
  have HW2 := Lib.hid (HW1.out.gets hkx hsx)
  clear hkx hsx
  obtain ⟨c0, c1, c2, c3, c4, c5, c6⟩ := op_cells HW2.out.loc
  have q1 := HW2.out.loc.frozen 1
  have q2 := HW2.out.loc.frozen 2
  have q3 := HW2.out.loc.frozen 3
  have q4 := HW2.out.loc.frozen 4
  have q5 := HW2.out.loc.frozen 5
  have q6 := HW2.out.loc.frozen 6
  simp only at c0 c1 c2 c3 c4 c5 c6
  have HW3 := Lib.hid (HW2.out.set 1 (.int .i64 ep) (by omega) (o' := ⟨k, ep, ⟨0, 0⟩, ⟨0, 0⟩, 0⟩) rfl)
  obtain ⟨d0, _, _, _, _, _, _⟩ := op_cells HW3.out.loc
  simp only at d0
  go_wp2_with fail
  refine (mesg_hasId _ _).mono ?_
  rintro e wx ⟨rfl, rfl⟩
  rw [HI.out]
  clear d0
  clear c0 c1 c2 c3 c4 c5 c6 q1 q2 q3 q4 q5 q6
  have C3 := Lib.hid (src_id g l2 _ HW3.out.src hl2)
  rw [H3.out] at C3
  go_wp2_with fail
  refine C3.out.mono ?_
  rintro e w3 hg3
  obtain ⟨hkx, rfl, hsx⟩ := id_of hg3
  clear hg3
  have HW4 := Lib.hid (HW3.out.gets hkx hsx)
  clear hkx hsx
  obtain ⟨c0, c1, c2, c3, c4, c5, c6⟩ := op_cells HW4.out.loc
  have q1 := HW4.out.loc.frozen 1
  have q2 := HW4.out.loc.frozen 2
  have q3 := HW4.out.loc.frozen 3
  have q4 := HW4.out.loc.frozen 4
  have q5 := HW4.out.loc.frozen 5
  have q6 := HW4.out.loc.frozen 6
  simp only at c0 c1 c2 c3 c4 c5 c6
  have HW5 := Lib.hid ((HW4.out.set 2 (.int .i64 x.time) (by omega) (o' := ⟨k, ep, ⟨x.time, 0⟩, ⟨0, 0⟩, 0⟩) rfl).set 3 (.int .i64 x.site) (by omega) (o' := ⟨k, ep, x, ⟨0, 0⟩, 0⟩) rfl)
  obtain ⟨d0, _, _, _, _, _, _⟩ := op_cells HW5.out.loc
  simp only at d0
  go_wp2_with fail
  refine (mesg_hasRef _ _).mono ?_
  rintro e wx ⟨rfl, rfl⟩
  rw [HF.out]
  clear d0
  clear c0 c1 c2 c3 c4 c5 c6 q1 q2 q3 q4 q5 q6
  have C4 := Lib.hid (src_id g l3 _ HW5.out.src hl3)
  rw [H4.out] at C4
  go_wp2_with fail
  refine C4.out.mono ?_
  rintro e w4 hg4
  obtain ⟨hkx, rfl⟩ := bad_num hg4
  clear hg4
  go_wp2
  exact ⟨rfl, HW5.out.keep.trans hkx (fun _ _ h => h), rfl⟩

set_option maxRecDepth 100000 in
set_option maxHeartbeats 1000000 in
theorem op_1U (g : Nat) (l l1 l2 l3 l4 : List UInt8) (k ep : Int) (x y : Mesg.Id) (n : Nat) (w : World) (h : Src w g l) (hl : l.length ≤ 1000000) (h1 : Mesg.num l = .ok k l1) (hk : 1 ≤ k) (hk8 : k ≤ 8) (h2 : Mesg.num l1 = .ok ep l2) (hkk : k = 1) (h3 : Mesg.rid l2 = .ok x l3) (h4 : Mesg.rid l3 = .ok y l4) (h5 : Mesg.num l4 = .error n) :
    Calls Try.prog 37 #[.pointer (some ⟨g, 0, none⟩)] w (Gets w g (.error n) isOp) := by
  have hg := h.lt
  have C1 := Lib.hid (src_number g l _ (h.keep (Keep.alloc Non w (.cells #[.int .i64 0, .int .i64 0, .int .i64 0, .int .i64 0, .int .i64 0, .int .i64 0, .int .i64 0] 26)) (fun h => h)) hl)
  rw [h1] at C1
  clear h
  have hl1 : l1.length ≤ 1000000 := by have := num_len_le h1; omega
  have hd : decide (k < 1) = false := by simp; omega
  have hd8 : decide (8 < k) = false := by simp; omega
  have H2 := Lib.hid h2
  have hl2 : l2.length ≤ 1000000 := by have := num_len_le h2; omega
  have HI : Hid (decide (k = 1 ∨ k = 6) = true) := Lib.hid (by simp; omega)
  have HF : Hid (decide (k ≠ 6) = true) := Lib.hid (by simp; omega)
  have HU : Hid (decide (k = 1) = true) := Lib.hid (by simp; omega)
  have H3 := Lib.hid h3
  have H4 := Lib.hid h4
  have H5 := Lib.hid h5
  have hl3 : l3.length ≤ 1000000 := by have := rid_len_le h3; omega
  have hl4 : l4.length ≤ 1000000 := by have := rid_len_le h4; omega
  clear h1 h2 h3 h4 h5
  clear hkk
  go_enter Try.func37, Try.ntmps37
  go_wp2_with fail
  refine C1.out.mono ?_
  rintro e w1 hg1
  obtain ⟨hk1, rfl, hs1⟩ := ok_num hg1
  clear hg1
  have HW1 := Lib.hid (opw_start hg hk1 hs1 k)
  have hlt1 := HW1.out.far
  clear hk1 hs1
  have C2 := Lib.hid (src_number g l1 _ HW1.out.src hl1)
  rw [H2.out] at C2
  go_wp2_with fail
  refine C2.out.mono ?_
  rintro e w2 hg2
  obtain ⟨hkx, rfl, hsx⟩ := ok_num hg2
  clear hg2
  have HW2 := Lib.hid (HW1.out.gets hkx hsx)
  clear hkx hsx
  obtain ⟨c0, c1, c2, c3, c4, c5, c6⟩ := op_cells HW2.out.loc
  have q1 := HW2.out.loc.frozen 1
  have q2 := HW2.out.loc.frozen 2
  have q3 := HW2.out.loc.frozen 3
  have q4 := HW2.out.loc.frozen 4
  have q5 := HW2.out.loc.frozen 5
  have q6 := HW2.out.loc.frozen 6
  simp only at c0 c1 c2 c3 c4 c5 c6
  have HW3 := Lib.hid (HW2.out.set 1 (.int .i64 ep) (by omega) (o' := ⟨k, ep, ⟨0, 0⟩, ⟨0, 0⟩, 0⟩) rfl)
  obtain ⟨d0, _, _, _, _, _, _⟩ := op_cells HW3.out.loc
  simp only at d0
  go_wp2_with fail
  refine (mesg_hasId _ _).mono ?_
  rintro e wx ⟨rfl, rfl⟩
  rw [HI.out]
  clear d0
  clear c0 c1 c2 c3 c4 c5 c6 q1 q2 q3 q4 q5 q6
  have C3 := Lib.hid (src_id g l2 _ HW3.out.src hl2)
  rw [H3.out] at C3
  go_wp2_with fail
  refine C3.out.mono ?_
  rintro e w3 hg3
  obtain ⟨hkx, rfl, hsx⟩ := id_of hg3
  clear hg3
  have HW4 := Lib.hid (HW3.out.gets hkx hsx)
  clear hkx hsx
  obtain ⟨c0, c1, c2, c3, c4, c5, c6⟩ := op_cells HW4.out.loc
  have q1 := HW4.out.loc.frozen 1
  have q2 := HW4.out.loc.frozen 2
  have q3 := HW4.out.loc.frozen 3
  have q4 := HW4.out.loc.frozen 4
  have q5 := HW4.out.loc.frozen 5
  have q6 := HW4.out.loc.frozen 6
  simp only at c0 c1 c2 c3 c4 c5 c6
  have HW5 := Lib.hid ((HW4.out.set 2 (.int .i64 x.time) (by omega) (o' := ⟨k, ep, ⟨x.time, 0⟩, ⟨0, 0⟩, 0⟩) rfl).set 3 (.int .i64 x.site) (by omega) (o' := ⟨k, ep, x, ⟨0, 0⟩, 0⟩) rfl)
  obtain ⟨d0, _, _, _, _, _, _⟩ := op_cells HW5.out.loc
  simp only at d0
  go_wp2_with fail
  refine (mesg_hasRef _ _).mono ?_
  rintro e wx ⟨rfl, rfl⟩
  rw [HF.out]
  clear d0
  clear c0 c1 c2 c3 c4 c5 c6 q1 q2 q3 q4 q5 q6
  have C4 := Lib.hid (src_id g l3 _ HW5.out.src hl3)
  rw [H4.out] at C4
  go_wp2_with fail
  refine C4.out.mono ?_
  rintro e w4 hg4
  obtain ⟨hkx, rfl, hsx⟩ := id_of hg4
  clear hg4
  have HW6 := Lib.hid (HW5.out.gets hkx hsx)
  clear hkx hsx
  obtain ⟨c0, c1, c2, c3, c4, c5, c6⟩ := op_cells HW6.out.loc
  have q1 := HW6.out.loc.frozen 1
  have q2 := HW6.out.loc.frozen 2
  have q3 := HW6.out.loc.frozen 3
  have q4 := HW6.out.loc.frozen 4
  have q5 := HW6.out.loc.frozen 5
  have q6 := HW6.out.loc.frozen 6
  simp only at c0 c1 c2 c3 c4 c5 c6
  have HW7 := Lib.hid ((HW6.out.set 4 (.int .i64 y.time) (by omega) (o' := ⟨k, ep, x, ⟨y.time, 0⟩, 0⟩) rfl).set 5 (.int .i64 y.site) (by omega) (o' := ⟨k, ep, x, y, 0⟩) rfl)
  obtain ⟨d0, _, _, _, _, _, _⟩ := op_cells HW7.out.loc
  simp only at d0
  go_wp2_with fail
  refine (mesg_hasRune _ _).mono ?_
  rintro e wx ⟨rfl, rfl⟩
  rw [HU.out]
  clear d0
  clear c0 c1 c2 c3 c4 c5 c6 q1 q2 q3 q4 q5 q6
  have C5 := Lib.hid (src_number g l4 _ HW7.out.src hl4)
  rw [H5.out] at C5
  go_wp2_with fail
  refine C5.out.mono ?_
  rintro e w5 hg5
  obtain ⟨hkx, rfl⟩ := bad_num hg5
  clear hg5
  go_wp2
  exact ⟨rfl, HW7.out.keep.trans hkx (fun _ _ h => h), rfl⟩

set_option maxRecDepth 100000 in
set_option maxHeartbeats 1000000 in
theorem op_1 (g : Nat) (l l1 l2 l3 l4 l5 : List UInt8) (k ep u : Int) (x y : Mesg.Id) (w : World) (h : Src w g l) (hl : l.length ≤ 1000000) (h1 : Mesg.num l = .ok k l1) (hk : 1 ≤ k) (hk8 : k ≤ 8) (h2 : Mesg.num l1 = .ok ep l2) (hkk : k = 1) (h3 : Mesg.rid l2 = .ok x l3) (h4 : Mesg.rid l3 = .ok y l4) (h5 : Mesg.num l4 = .ok u l5) :
    Calls Try.prog 37 #[.pointer (some ⟨g, 0, none⟩)] w (Gets w g (.ok ⟨k, ep, x, y, u⟩ l5) isOp) := by
  have hg := h.lt
  have C1 := Lib.hid (src_number g l _ (h.keep (Keep.alloc Non w (.cells #[.int .i64 0, .int .i64 0, .int .i64 0, .int .i64 0, .int .i64 0, .int .i64 0, .int .i64 0] 26)) (fun h => h)) hl)
  rw [h1] at C1
  clear h
  have hl1 : l1.length ≤ 1000000 := by have := num_len_le h1; omega
  have hd : decide (k < 1) = false := by simp; omega
  have hd8 : decide (8 < k) = false := by simp; omega
  have H2 := Lib.hid h2
  have hl2 : l2.length ≤ 1000000 := by have := num_len_le h2; omega
  have HI : Hid (decide (k = 1 ∨ k = 6) = true) := Lib.hid (by simp; omega)
  have HF : Hid (decide (k ≠ 6) = true) := Lib.hid (by simp; omega)
  have HU : Hid (decide (k = 1) = true) := Lib.hid (by simp; omega)
  have H3 := Lib.hid h3
  have H4 := Lib.hid h4
  have H5 := Lib.hid h5
  have hl3 : l3.length ≤ 1000000 := by have := rid_len_le h3; omega
  have hl4 : l4.length ≤ 1000000 := by have := rid_len_le h4; omega
  clear h1 h2 h3 h4 h5
  clear hkk
  go_enter Try.func37, Try.ntmps37
  go_wp2_with fail
  refine C1.out.mono ?_
  rintro e w1 hg1
  obtain ⟨hk1, rfl, hs1⟩ := ok_num hg1
  clear hg1
  have HW1 := Lib.hid (opw_start hg hk1 hs1 k)
  have hlt1 := HW1.out.far
  clear hk1 hs1
  have C2 := Lib.hid (src_number g l1 _ HW1.out.src hl1)
  rw [H2.out] at C2
  go_wp2_with fail
  refine C2.out.mono ?_
  rintro e w2 hg2
  obtain ⟨hkx, rfl, hsx⟩ := ok_num hg2
  clear hg2
  have HW2 := Lib.hid (HW1.out.gets hkx hsx)
  clear hkx hsx
  obtain ⟨c0, c1, c2, c3, c4, c5, c6⟩ := op_cells HW2.out.loc
  have q1 := HW2.out.loc.frozen 1
  have q2 := HW2.out.loc.frozen 2
  have q3 := HW2.out.loc.frozen 3
  have q4 := HW2.out.loc.frozen 4
  have q5 := HW2.out.loc.frozen 5
  have q6 := HW2.out.loc.frozen 6
  simp only at c0 c1 c2 c3 c4 c5 c6
  have HW3 := Lib.hid (HW2.out.set 1 (.int .i64 ep) (by omega) (o' := ⟨k, ep, ⟨0, 0⟩, ⟨0, 0⟩, 0⟩) rfl)
  obtain ⟨d0, _, _, _, _, _, _⟩ := op_cells HW3.out.loc
  simp only at d0
  go_wp2_with fail
  refine (mesg_hasId _ _).mono ?_
  rintro e wx ⟨rfl, rfl⟩
  rw [HI.out]
  clear d0
  clear c0 c1 c2 c3 c4 c5 c6 q1 q2 q3 q4 q5 q6
  have C3 := Lib.hid (src_id g l2 _ HW3.out.src hl2)
  rw [H3.out] at C3
  go_wp2_with fail
  refine C3.out.mono ?_
  rintro e w3 hg3
  obtain ⟨hkx, rfl, hsx⟩ := id_of hg3
  clear hg3
  have HW4 := Lib.hid (HW3.out.gets hkx hsx)
  clear hkx hsx
  obtain ⟨c0, c1, c2, c3, c4, c5, c6⟩ := op_cells HW4.out.loc
  have q1 := HW4.out.loc.frozen 1
  have q2 := HW4.out.loc.frozen 2
  have q3 := HW4.out.loc.frozen 3
  have q4 := HW4.out.loc.frozen 4
  have q5 := HW4.out.loc.frozen 5
  have q6 := HW4.out.loc.frozen 6
  simp only at c0 c1 c2 c3 c4 c5 c6
  have HW5 := Lib.hid ((HW4.out.set 2 (.int .i64 x.time) (by omega) (o' := ⟨k, ep, ⟨x.time, 0⟩, ⟨0, 0⟩, 0⟩) rfl).set 3 (.int .i64 x.site) (by omega) (o' := ⟨k, ep, x, ⟨0, 0⟩, 0⟩) rfl)
  obtain ⟨d0, _, _, _, _, _, _⟩ := op_cells HW5.out.loc
  simp only at d0
  go_wp2_with fail
  refine (mesg_hasRef _ _).mono ?_
  rintro e wx ⟨rfl, rfl⟩
  rw [HF.out]
  clear d0
  clear c0 c1 c2 c3 c4 c5 c6 q1 q2 q3 q4 q5 q6
  have C4 := Lib.hid (src_id g l3 _ HW5.out.src hl3)
  rw [H4.out] at C4
  go_wp2_with fail
  refine C4.out.mono ?_
  rintro e w4 hg4
  obtain ⟨hkx, rfl, hsx⟩ := id_of hg4
  clear hg4
  have HW6 := Lib.hid (HW5.out.gets hkx hsx)
  clear hkx hsx
  obtain ⟨c0, c1, c2, c3, c4, c5, c6⟩ := op_cells HW6.out.loc
  have q1 := HW6.out.loc.frozen 1
  have q2 := HW6.out.loc.frozen 2
  have q3 := HW6.out.loc.frozen 3
  have q4 := HW6.out.loc.frozen 4
  have q5 := HW6.out.loc.frozen 5
  have q6 := HW6.out.loc.frozen 6
  simp only at c0 c1 c2 c3 c4 c5 c6
  have HW7 := Lib.hid ((HW6.out.set 4 (.int .i64 y.time) (by omega) (o' := ⟨k, ep, x, ⟨y.time, 0⟩, 0⟩) rfl).set 5 (.int .i64 y.site) (by omega) (o' := ⟨k, ep, x, y, 0⟩) rfl)
  obtain ⟨d0, _, _, _, _, _, _⟩ := op_cells HW7.out.loc
  simp only at d0
  go_wp2_with fail
  refine (mesg_hasRune _ _).mono ?_
  rintro e wx ⟨rfl, rfl⟩
  rw [HU.out]
  clear d0
  clear c0 c1 c2 c3 c4 c5 c6 q1 q2 q3 q4 q5 q6
  have C5 := Lib.hid (src_number g l4 _ HW7.out.src hl4)
  rw [H5.out] at C5
  go_wp2_with fail
  refine C5.out.mono ?_
  rintro e w5 hg5
  obtain ⟨hkx, rfl, hsx⟩ := ok_num hg5
  clear hg5
  have HW8 := Lib.hid (HW7.out.gets hkx hsx)
  clear hkx hsx
  obtain ⟨c0, c1, c2, c3, c4, c5, c6⟩ := op_cells HW8.out.loc
  have q1 := HW8.out.loc.frozen 1
  have q2 := HW8.out.loc.frozen 2
  have q3 := HW8.out.loc.frozen 3
  have q4 := HW8.out.loc.frozen 4
  have q5 := HW8.out.loc.frozen 5
  have q6 := HW8.out.loc.frozen 6
  simp only at c0 c1 c2 c3 c4 c5 c6
  have HW9 := Lib.hid (HW8.out.set 6 (.int .i64 u) (by omega) (o' := ⟨k, ep, x, y, u⟩) rfl)
  obtain ⟨d0, d1, d2, d3, d4, d5, d6⟩ := op_cells HW9.out.loc
  obtain ⟨r0, r1, r2, r3, r4, r5, r6⟩ := op_cells HW9.out.res
  have p0 := HW9.out.res.frozen 0
  have p1 := HW9.out.res.frozen 1
  have p2 := HW9.out.res.frozen 2
  have p3 := HW9.out.res.frozen 3
  have p4 := HW9.out.res.frozen 4
  have p5 := HW9.out.res.frozen 5
  have p6 := HW9.out.res.frozen 6
  simp only at d0 d1 d2 d3 d4 d5 d6
  have HD := Lib.hid (setOp_holds HW9.out.res ⟨k, ep, x, y, u⟩)
  have HK := Lib.hid (HW9.out.done (setOp_keep _ _ ⟨k, ep, x, y, u⟩) HW9.out.src)
  obtain ⟨s0, s1, s2, s3, s4, s5, s6⟩ := op_cells HD.out
  unfold setOp at HD HK s0 s1 s2 s3 s4 s5 s6
  simp only at s0 s1 s2 s3 s4 s5 s6
  go_wp2
  refine bodyPost_ret (v := .agg (opL ⟨k, ep, x, y, u⟩).toArray) (by simp [results, Try.results37, go_sem, s0, s1, s2, s3, s4, s5, s6, opL]) rfl ?_
  exact ⟨HK.out.1, ⟨_, rfl, rfl⟩, HK.out.2⟩

set_option maxRecDepth 100000 in
set_option maxHeartbeats 1000000 in
theorem op_6I (g : Nat) (l l1 l2 : List UInt8) (k ep : Int) (n : Nat) (w : World) (h : Src w g l) (hl : l.length ≤ 1000000) (h1 : Mesg.num l = .ok k l1) (hk : 1 ≤ k) (hk8 : k ≤ 8) (h2 : Mesg.num l1 = .ok ep l2) (hkk : k = 6) (h3 : Mesg.rid l2 = .error n) :
    Calls Try.prog 37 #[.pointer (some ⟨g, 0, none⟩)] w (Gets w g (.error n) isOp) := by
  have hg := h.lt
  have C1 := Lib.hid (src_number g l _ (h.keep (Keep.alloc Non w (.cells #[.int .i64 0, .int .i64 0, .int .i64 0, .int .i64 0, .int .i64 0, .int .i64 0, .int .i64 0] 26)) (fun h => h)) hl)
  rw [h1] at C1
  clear h
  have hl1 : l1.length ≤ 1000000 := by have := num_len_le h1; omega
  have hd : decide (k < 1) = false := by simp; omega
  have hd8 : decide (8 < k) = false := by simp; omega
  have H2 := Lib.hid h2
  have hl2 : l2.length ≤ 1000000 := by have := num_len_le h2; omega
  have HI : Hid (decide (k = 1 ∨ k = 6) = true) := Lib.hid (by simp; omega)
  have HF : Hid (decide (k ≠ 6) = false) := Lib.hid (by simp; omega)
  have HU : Hid (decide (k = 1) = false) := Lib.hid (by simp; omega)
  have H3 := Lib.hid h3
  clear h1 h2 h3
  clear hkk
  go_enter Try.func37, Try.ntmps37
  go_wp2_with fail
  refine C1.out.mono ?_
  rintro e w1 hg1
  obtain ⟨hk1, rfl, hs1⟩ := ok_num hg1
  clear hg1
  have HW1 := Lib.hid (opw_start hg hk1 hs1 k)
  have hlt1 := HW1.out.far
  clear hk1 hs1
  have C2 := Lib.hid (src_number g l1 _ HW1.out.src hl1)
  rw [H2.out] at C2
  go_wp2_with fail
  refine C2.out.mono ?_
  rintro e w2 hg2
  obtain ⟨hkx, rfl, hsx⟩ := ok_num hg2
  clear hg2
  have HW2 := Lib.hid (HW1.out.gets hkx hsx)
  clear hkx hsx
  obtain ⟨c0, c1, c2, c3, c4, c5, c6⟩ := op_cells HW2.out.loc
  have q1 := HW2.out.loc.frozen 1
  have q2 := HW2.out.loc.frozen 2
  have q3 := HW2.out.loc.frozen 3
  have q4 := HW2.out.loc.frozen 4
  have q5 := HW2.out.loc.frozen 5
  have q6 := HW2.out.loc.frozen 6
  simp only at c0 c1 c2 c3 c4 c5 c6
  have HW3 := Lib.hid (HW2.out.set 1 (.int .i64 ep) (by omega) (o' := ⟨k, ep, ⟨0, 0⟩, ⟨0, 0⟩, 0⟩) rfl)
  obtain ⟨d0, _, _, _, _, _, _⟩ := op_cells HW3.out.loc
  simp only at d0
  go_wp2_with fail
  refine (mesg_hasId _ _).mono ?_
  rintro e wx ⟨rfl, rfl⟩
  rw [HI.out]
  clear d0
  clear c0 c1 c2 c3 c4 c5 c6 q1 q2 q3 q4 q5 q6
  have C3 := Lib.hid (src_id g l2 _ HW3.out.src hl2)
  rw [H3.out] at C3
  go_wp2_with fail
  refine C3.out.mono ?_
  rintro e w3 hg3
  obtain ⟨hkx, rfl⟩ := bad_num hg3
  clear hg3
  go_wp2
  exact ⟨rfl, HW3.out.keep.trans hkx (fun _ _ h => h), rfl⟩

set_option maxRecDepth 100000 in
set_option maxHeartbeats 1000000 in
theorem op_6 (g : Nat) (l l1 l2 l3 : List UInt8) (k ep : Int) (x : Mesg.Id) (w : World) (h : Src w g l) (hl : l.length ≤ 1000000) (h1 : Mesg.num l = .ok k l1) (hk : 1 ≤ k) (hk8 : k ≤ 8) (h2 : Mesg.num l1 = .ok ep l2) (hkk : k = 6) (h3 : Mesg.rid l2 = .ok x l3) :
    Calls Try.prog 37 #[.pointer (some ⟨g, 0, none⟩)] w (Gets w g (.ok ⟨k, ep, x, Mesg.zero, 0⟩ l3) isOp) := by
  have hg := h.lt
  have C1 := Lib.hid (src_number g l _ (h.keep (Keep.alloc Non w (.cells #[.int .i64 0, .int .i64 0, .int .i64 0, .int .i64 0, .int .i64 0, .int .i64 0, .int .i64 0] 26)) (fun h => h)) hl)
  rw [h1] at C1
  clear h
  have hl1 : l1.length ≤ 1000000 := by have := num_len_le h1; omega
  have hd : decide (k < 1) = false := by simp; omega
  have hd8 : decide (8 < k) = false := by simp; omega
  have H2 := Lib.hid h2
  have hl2 : l2.length ≤ 1000000 := by have := num_len_le h2; omega
  have HI : Hid (decide (k = 1 ∨ k = 6) = true) := Lib.hid (by simp; omega)
  have HF : Hid (decide (k ≠ 6) = false) := Lib.hid (by simp; omega)
  have HU : Hid (decide (k = 1) = false) := Lib.hid (by simp; omega)
  have H3 := Lib.hid h3
  have hl3 : l3.length ≤ 1000000 := by have := rid_len_le h3; omega
  clear h1 h2 h3
  clear hkk
  go_enter Try.func37, Try.ntmps37
  go_wp2_with fail
  refine C1.out.mono ?_
  rintro e w1 hg1
  obtain ⟨hk1, rfl, hs1⟩ := ok_num hg1
  clear hg1
  have HW1 := Lib.hid (opw_start hg hk1 hs1 k)
  have hlt1 := HW1.out.far
  clear hk1 hs1
  have C2 := Lib.hid (src_number g l1 _ HW1.out.src hl1)
  rw [H2.out] at C2
  go_wp2_with fail
  refine C2.out.mono ?_
  rintro e w2 hg2
  obtain ⟨hkx, rfl, hsx⟩ := ok_num hg2
  clear hg2
  have HW2 := Lib.hid (HW1.out.gets hkx hsx)
  clear hkx hsx
  obtain ⟨c0, c1, c2, c3, c4, c5, c6⟩ := op_cells HW2.out.loc
  have q1 := HW2.out.loc.frozen 1
  have q2 := HW2.out.loc.frozen 2
  have q3 := HW2.out.loc.frozen 3
  have q4 := HW2.out.loc.frozen 4
  have q5 := HW2.out.loc.frozen 5
  have q6 := HW2.out.loc.frozen 6
  simp only at c0 c1 c2 c3 c4 c5 c6
  have HW3 := Lib.hid (HW2.out.set 1 (.int .i64 ep) (by omega) (o' := ⟨k, ep, ⟨0, 0⟩, ⟨0, 0⟩, 0⟩) rfl)
  obtain ⟨d0, _, _, _, _, _, _⟩ := op_cells HW3.out.loc
  simp only at d0
  go_wp2_with fail
  refine (mesg_hasId _ _).mono ?_
  rintro e wx ⟨rfl, rfl⟩
  rw [HI.out]
  clear d0
  clear c0 c1 c2 c3 c4 c5 c6 q1 q2 q3 q4 q5 q6
  have C3 := Lib.hid (src_id g l2 _ HW3.out.src hl2)
  rw [H3.out] at C3
  go_wp2_with fail
  refine C3.out.mono ?_
  rintro e w3 hg3
  obtain ⟨hkx, rfl, hsx⟩ := id_of hg3
  clear hg3
  have HW4 := Lib.hid (HW3.out.gets hkx hsx)
  clear hkx hsx
  obtain ⟨c0, c1, c2, c3, c4, c5, c6⟩ := op_cells HW4.out.loc
  have q1 := HW4.out.loc.frozen 1
  have q2 := HW4.out.loc.frozen 2
  have q3 := HW4.out.loc.frozen 3
  have q4 := HW4.out.loc.frozen 4
  have q5 := HW4.out.loc.frozen 5
  have q6 := HW4.out.loc.frozen 6
  simp only at c0 c1 c2 c3 c4 c5 c6
  have HW5 := Lib.hid ((HW4.out.set 2 (.int .i64 x.time) (by omega) (o' := ⟨k, ep, ⟨x.time, 0⟩, ⟨0, 0⟩, 0⟩) rfl).set 3 (.int .i64 x.site) (by omega) (o' := ⟨k, ep, x, ⟨0, 0⟩, 0⟩) rfl)
  obtain ⟨d0, _, _, _, _, _, _⟩ := op_cells HW5.out.loc
  simp only at d0
  go_wp2_with fail
  refine (mesg_hasRef _ _).mono ?_
  rintro e wx ⟨rfl, rfl⟩
  rw [HF.out]
  clear d0
  clear c0 c1 c2 c3 c4 c5 c6 q1 q2 q3 q4 q5 q6
  obtain ⟨d0, _, _, _, _, _, _⟩ := op_cells HW5.out.loc
  simp only at d0
  go_wp2_with fail
  refine (mesg_hasRune _ _).mono ?_
  rintro e wx ⟨rfl, rfl⟩
  rw [HU.out]
  clear d0
  obtain ⟨d0, d1, d2, d3, d4, d5, d6⟩ := op_cells HW5.out.loc
  obtain ⟨r0, r1, r2, r3, r4, r5, r6⟩ := op_cells HW5.out.res
  have p0 := HW5.out.res.frozen 0
  have p1 := HW5.out.res.frozen 1
  have p2 := HW5.out.res.frozen 2
  have p3 := HW5.out.res.frozen 3
  have p4 := HW5.out.res.frozen 4
  have p5 := HW5.out.res.frozen 5
  have p6 := HW5.out.res.frozen 6
  simp only at d0 d1 d2 d3 d4 d5 d6
  have HD := Lib.hid (setOp_holds HW5.out.res ⟨k, ep, x, ⟨0, 0⟩, 0⟩)
  have HK := Lib.hid (HW5.out.done (setOp_keep _ _ ⟨k, ep, x, ⟨0, 0⟩, 0⟩) HW5.out.src)
  obtain ⟨s0, s1, s2, s3, s4, s5, s6⟩ := op_cells HD.out
  unfold setOp at HD HK s0 s1 s2 s3 s4 s5 s6
  simp only at s0 s1 s2 s3 s4 s5 s6
  go_wp2
  refine bodyPost_ret (v := .agg (opL ⟨k, ep, x, ⟨0, 0⟩, 0⟩).toArray) (by simp [results, Try.results37, go_sem, s0, s1, s2, s3, s4, s5, s6, opL]) rfl ?_
  exact ⟨HK.out.1, ⟨_, rfl, rfl⟩, HK.out.2⟩

set_option maxRecDepth 100000 in
set_option maxHeartbeats 1000000 in
theorem op_0R (g : Nat) (l l1 l2 : List UInt8) (k ep : Int) (n : Nat) (w : World) (h : Src w g l) (hl : l.length ≤ 1000000) (h1 : Mesg.num l = .ok k l1) (hk : 1 ≤ k) (hk8 : k ≤ 8) (h2 : Mesg.num l1 = .ok ep l2) (hkk : k ≠ 1) (hkk6 : k ≠ 6) (h4 : Mesg.rid l2 = .error n) :
    Calls Try.prog 37 #[.pointer (some ⟨g, 0, none⟩)] w (Gets w g (.error n) isOp) := by
  have hg := h.lt
  have C1 := Lib.hid (src_number g l _ (h.keep (Keep.alloc Non w (.cells #[.int .i64 0, .int .i64 0, .int .i64 0, .int .i64 0, .int .i64 0, .int .i64 0, .int .i64 0] 26)) (fun h => h)) hl)
  rw [h1] at C1
  clear h
  have hl1 : l1.length ≤ 1000000 := by have := num_len_le h1; omega
  have hd : decide (k < 1) = false := by simp; omega
  have hd8 : decide (8 < k) = false := by simp; omega
  have H2 := Lib.hid h2
  have hl2 : l2.length ≤ 1000000 := by have := num_len_le h2; omega
  have HI : Hid (decide (k = 1 ∨ k = 6) = false) := Lib.hid (by simp; omega)
  have HF : Hid (decide (k ≠ 6) = true) := Lib.hid (by simp; omega)
  have HU : Hid (decide (k = 1) = false) := Lib.hid (by simp; omega)
  have H4 := Lib.hid h4
  clear h1 h2 h4
  clear hkk hkk6
  go_enter Try.func37, Try.ntmps37
  go_wp2_with fail
  refine C1.out.mono ?_
  rintro e w1 hg1
  obtain ⟨hk1, rfl, hs1⟩ := ok_num hg1
  clear hg1
  have HW1 := Lib.hid (opw_start hg hk1 hs1 k)
  have hlt1 := HW1.out.far
  clear hk1 hs1
  have C2 := Lib.hid (src_number g l1 _ HW1.out.src hl1)
  rw [H2.out] at C2
  go_wp2_with fail
  refine C2.out.mono ?_
  rintro e w2 hg2
  obtain ⟨hkx, rfl, hsx⟩ := ok_num hg2
  clear hg2
  have HW2 := Lib.hid (HW1.out.gets hkx hsx)
  clear hkx hsx
  obtain ⟨c0, c1, c2, c3, c4, c5, c6⟩ := op_cells HW2.out.loc
  have q1 := HW2.out.loc.frozen 1
  have q2 := HW2.out.loc.frozen 2
  have q3 := HW2.out.loc.frozen 3
  have q4 := HW2.out.loc.frozen 4
  have q5 := HW2.out.loc.frozen 5
  have q6 := HW2.out.loc.frozen 6
  simp only at c0 c1 c2 c3 c4 c5 c6
  have HW3 := Lib.hid (HW2.out.set 1 (.int .i64 ep) (by omega) (o' := ⟨k, ep, ⟨0, 0⟩, ⟨0, 0⟩, 0⟩) rfl)
  obtain ⟨d0, _, _, _, _, _, _⟩ := op_cells HW3.out.loc
  simp only at d0
  go_wp2_with fail
  refine (mesg_hasId _ _).mono ?_
  rintro e wx ⟨rfl, rfl⟩
  rw [HI.out]
  clear d0
  clear c0 c1 c2 c3 c4 c5 c6 q1 q2 q3 q4 q5 q6
  obtain ⟨d0, _, _, _, _, _, _⟩ := op_cells HW3.out.loc
  simp only at d0
  go_wp2_with fail
  refine (mesg_hasRef _ _).mono ?_
  rintro e wx ⟨rfl, rfl⟩
  rw [HF.out]
  clear d0
  have C4 := Lib.hid (src_id g l2 _ HW3.out.src hl2)
  rw [H4.out] at C4
  go_wp2_with fail
  refine C4.out.mono ?_
  rintro e w4 hg4
  obtain ⟨hkx, rfl⟩ := bad_num hg4
  clear hg4
  go_wp2
  exact ⟨rfl, HW3.out.keep.trans hkx (fun _ _ h => h), rfl⟩

set_option maxRecDepth 100000 in
set_option maxHeartbeats 1000000 in
theorem op_0 (g : Nat) (l l1 l2 l4 : List UInt8) (k ep : Int) (y : Mesg.Id) (w : World) (h : Src w g l) (hl : l.length ≤ 1000000) (h1 : Mesg.num l = .ok k l1) (hk : 1 ≤ k) (hk8 : k ≤ 8) (h2 : Mesg.num l1 = .ok ep l2) (hkk : k ≠ 1) (hkk6 : k ≠ 6) (h4 : Mesg.rid l2 = .ok y l4) :
    Calls Try.prog 37 #[.pointer (some ⟨g, 0, none⟩)] w (Gets w g (.ok ⟨k, ep, Mesg.zero, y, 0⟩ l4) isOp) := by
  have hg := h.lt
  have C1 := Lib.hid (src_number g l _ (h.keep (Keep.alloc Non w (.cells #[.int .i64 0, .int .i64 0, .int .i64 0, .int .i64 0, .int .i64 0, .int .i64 0, .int .i64 0] 26)) (fun h => h)) hl)
  rw [h1] at C1
  clear h
  have hl1 : l1.length ≤ 1000000 := by have := num_len_le h1; omega
  have hd : decide (k < 1) = false := by simp; omega
  have hd8 : decide (8 < k) = false := by simp; omega
  have H2 := Lib.hid h2
  have hl2 : l2.length ≤ 1000000 := by have := num_len_le h2; omega
  have HI : Hid (decide (k = 1 ∨ k = 6) = false) := Lib.hid (by simp; omega)
  have HF : Hid (decide (k ≠ 6) = true) := Lib.hid (by simp; omega)
  have HU : Hid (decide (k = 1) = false) := Lib.hid (by simp; omega)
  have H4 := Lib.hid h4
  have hl4 : l4.length ≤ 1000000 := by have := rid_len_le h4; omega
  clear h1 h2 h4
  clear hkk hkk6
  go_enter Try.func37, Try.ntmps37
  go_wp2_with fail
  refine C1.out.mono ?_
  rintro e w1 hg1
  obtain ⟨hk1, rfl, hs1⟩ := ok_num hg1
  clear hg1
  have HW1 := Lib.hid (opw_start hg hk1 hs1 k)
  have hlt1 := HW1.out.far
  clear hk1 hs1
  have C2 := Lib.hid (src_number g l1 _ HW1.out.src hl1)
  rw [H2.out] at C2
  go_wp2_with fail
  refine C2.out.mono ?_
  rintro e w2 hg2
  obtain ⟨hkx, rfl, hsx⟩ := ok_num hg2
  clear hg2
  have HW2 := Lib.hid (HW1.out.gets hkx hsx)
  clear hkx hsx
  obtain ⟨c0, c1, c2, c3, c4, c5, c6⟩ := op_cells HW2.out.loc
  have q1 := HW2.out.loc.frozen 1
  have q2 := HW2.out.loc.frozen 2
  have q3 := HW2.out.loc.frozen 3
  have q4 := HW2.out.loc.frozen 4
  have q5 := HW2.out.loc.frozen 5
  have q6 := HW2.out.loc.frozen 6
  simp only at c0 c1 c2 c3 c4 c5 c6
  have HW3 := Lib.hid (HW2.out.set 1 (.int .i64 ep) (by omega) (o' := ⟨k, ep, ⟨0, 0⟩, ⟨0, 0⟩, 0⟩) rfl)
  obtain ⟨d0, _, _, _, _, _, _⟩ := op_cells HW3.out.loc
  simp only at d0
  go_wp2_with fail
  refine (mesg_hasId _ _).mono ?_
  rintro e wx ⟨rfl, rfl⟩
  rw [HI.out]
  clear d0
  clear c0 c1 c2 c3 c4 c5 c6 q1 q2 q3 q4 q5 q6
  obtain ⟨d0, _, _, _, _, _, _⟩ := op_cells HW3.out.loc
  simp only at d0
  go_wp2_with fail
  refine (mesg_hasRef _ _).mono ?_
  rintro e wx ⟨rfl, rfl⟩
  rw [HF.out]
  clear d0
  have C4 := Lib.hid (src_id g l2 _ HW3.out.src hl2)
  rw [H4.out] at C4
  go_wp2_with fail
  refine C4.out.mono ?_
  rintro e w4 hg4
  obtain ⟨hkx, rfl, hsx⟩ := id_of hg4
  clear hg4
  have HW6 := Lib.hid (HW3.out.gets hkx hsx)
  clear hkx hsx
  obtain ⟨c0, c1, c2, c3, c4, c5, c6⟩ := op_cells HW6.out.loc
  have q1 := HW6.out.loc.frozen 1
  have q2 := HW6.out.loc.frozen 2
  have q3 := HW6.out.loc.frozen 3
  have q4 := HW6.out.loc.frozen 4
  have q5 := HW6.out.loc.frozen 5
  have q6 := HW6.out.loc.frozen 6
  simp only at c0 c1 c2 c3 c4 c5 c6
  have HW7 := Lib.hid ((HW6.out.set 4 (.int .i64 y.time) (by omega) (o' := ⟨k, ep, ⟨0, 0⟩, ⟨y.time, 0⟩, 0⟩) rfl).set 5 (.int .i64 y.site) (by omega) (o' := ⟨k, ep, ⟨0, 0⟩, y, 0⟩) rfl)
  obtain ⟨d0, _, _, _, _, _, _⟩ := op_cells HW7.out.loc
  simp only at d0
  go_wp2_with fail
  refine (mesg_hasRune _ _).mono ?_
  rintro e wx ⟨rfl, rfl⟩
  rw [HU.out]
  clear d0
  clear c0 c1 c2 c3 c4 c5 c6 q1 q2 q3 q4 q5 q6
  obtain ⟨d0, d1, d2, d3, d4, d5, d6⟩ := op_cells HW7.out.loc
  obtain ⟨r0, r1, r2, r3, r4, r5, r6⟩ := op_cells HW7.out.res
  have p0 := HW7.out.res.frozen 0
  have p1 := HW7.out.res.frozen 1
  have p2 := HW7.out.res.frozen 2
  have p3 := HW7.out.res.frozen 3
  have p4 := HW7.out.res.frozen 4
  have p5 := HW7.out.res.frozen 5
  have p6 := HW7.out.res.frozen 6
  simp only at d0 d1 d2 d3 d4 d5 d6
  have HD := Lib.hid (setOp_holds HW7.out.res ⟨k, ep, ⟨0, 0⟩, y, 0⟩)
  have HK := Lib.hid (HW7.out.done (setOp_keep _ _ ⟨k, ep, ⟨0, 0⟩, y, 0⟩) HW7.out.src)
  obtain ⟨s0, s1, s2, s3, s4, s5, s6⟩ := op_cells HD.out
  unfold setOp at HD HK s0 s1 s2 s3 s4 s5 s6
  simp only at s0 s1 s2 s3 s4 s5 s6
  go_wp2
  refine bodyPost_ret (v := .agg (opL ⟨k, ep, ⟨0, 0⟩, y, 0⟩).toArray) (by simp [results, Try.results37, go_sem, s0, s1, s2, s3, s4, s5, s6, opL]) rfl ?_
  exact ⟨HK.out.1, ⟨_, rfl, rfl⟩, HK.out.2⟩

theorem src_op (g : Nat) (l : List UInt8) (w : World) (h : Src w g l) (hl : l.length ≤ 1000000) :
    Calls Try.prog 37 #[.pointer (some ⟨g, 0, none⟩)] w (Gets w g (Mesg.rop l) isOp) := by
  cases h1 : Mesg.num l with
  | error n =>
    have e : Mesg.rop l = .error n := by simp [Mesg.rop, Mesg.Got.on, h1]
    rw [e]; exact op_A g l n w h hl h1
  | ok k l1 =>
    by_cases hk : k < 1
    · have e : Mesg.rop l = .error 2 := by simp [Mesg.rop, Mesg.Got.on, h1, hk]
      rw [e]; exact op_B g l l1 k w h hl h1 hk
    by_cases hk8 : 8 < k
    · have e : Mesg.rop l = .error 2 := by simp [Mesg.rop, Mesg.Got.on, h1, hk8]
      rw [e]; exact op_B2 g l l1 k w h hl h1 (by omega) hk8
    have hn : ¬ (k < 1 ∨ 8 < k) := by omega
    cases h2 : Mesg.num l1 with
    | error n =>
      have e : Mesg.rop l = .error n := by simp [Mesg.rop, Mesg.Got.on, h1, h2, hn]
      rw [e]; exact op_C g l l1 k n w h hl h1 (by omega) (by omega) h2
    | ok ep l2 =>
      by_cases k1 : k = 1
      · cases h3 : Mesg.rid l2 with
        | error n =>
          have e : Mesg.rop l = .error n := by simp [Mesg.rop, Mesg.Got.on, h1, h2, k1, h3, Mesg.idIf]
          rw [e]; exact op_1I g l l1 l2 k ep n w h hl h1 (by omega) (by omega) h2 k1 h3
        | ok x l3 =>
          cases h4 : Mesg.rid l3 with
          | error n =>
            have e : Mesg.rop l = .error n := by simp [Mesg.rop, Mesg.Got.on, h1, h2, k1, h3, h4, Mesg.idIf]
            rw [e]; exact op_1R g l l1 l2 l3 k ep x n w h hl h1 (by omega) (by omega) h2 k1 h3 h4
          | ok y l4 =>
            cases h5 : Mesg.num l4 with
            | error n =>
              have e : Mesg.rop l = .error n := by simp [Mesg.rop, Mesg.Got.on, h1, h2, k1, h3, h4, h5, Mesg.idIf, Mesg.numIf]
              rw [e]; exact op_1U g l l1 l2 l3 l4 k ep x y n w h hl h1 (by omega) (by omega) h2 k1 h3 h4 h5
            | ok u l5 =>
              have e : Mesg.rop l = .ok ⟨k, ep, x, y, u⟩ l5 := by simp [Mesg.rop, Mesg.Got.on, h1, h2, k1, h3, h4, h5, Mesg.idIf, Mesg.numIf]
              rw [e]; exact op_1 g l l1 l2 l3 l4 l5 k ep u x y w h hl h1 (by omega) (by omega) h2 k1 h3 h4 h5
      · by_cases k6 : k = 6
        · cases h3 : Mesg.rid l2 with
          | error n =>
            have e : Mesg.rop l = .error n := by simp [Mesg.rop, Mesg.Got.on, h1, h2, k6, h3, Mesg.idIf]
            rw [e]; exact op_6I g l l1 l2 k ep n w h hl h1 (by omega) (by omega) h2 k6 h3
          | ok x l3 =>
            have e : Mesg.rop l = .ok ⟨k, ep, x, Mesg.zero, 0⟩ l3 := by simp [Mesg.rop, Mesg.Got.on, h1, h2, k6, h3, Mesg.idIf, Mesg.numIf]
            rw [e]; exact op_6 g l l1 l2 l3 k ep x w h hl h1 (by omega) (by omega) h2 k6 h3
        · cases h4 : Mesg.rid l2 with
          | error n =>
            have e : Mesg.rop l = .error n := by simp [Mesg.rop, Mesg.Got.on, h1, h2, hn, k1, k6, h4, Mesg.idIf]
            rw [e]; exact op_0R g l l1 l2 k ep n w h hl h1 (by omega) (by omega) h2 k1 k6 h4
          | ok y l4 =>
            have e : Mesg.rop l = .ok ⟨k, ep, Mesg.zero, y, 0⟩ l4 := by simp [Mesg.rop, Mesg.Got.on, h1, h2, hn, k1, k6, h4, Mesg.idIf, Mesg.numIf]
            rw [e]; exact op_0 g l l1 l2 l4 k ep y w h hl h1 (by omega) (by omega) h2 k1 k6 h4

theorem src_end (g : Nat) (l : List UInt8) (w : World) (h : Src w g l) (hz : l = []) :
    Calls Try.prog 38 #[.pointer (some ⟨g, 0, none⟩)] w fun e w' => e = .returned (.tuple #[]) ∧ w = w' := by
  subst hz
  obtain ⟨c0, f0⟩ := h.cells
  have hem := str_empty (s := str []) (by rw [str_size]; rfl)
  clear h
  go_enter Try.func38, Try.ntmps38
  go_wp2
  go_end0
  exact ⟨rfl, rfl⟩

theorem src_end_no (g : Nat) (l : List UInt8) (w : World) (h : Src w g l) (hz : l ≠ []) :
    Calls Try.prog 38 #[.pointer (some ⟨g, 0, none⟩)] w fun e w' => e = .panicked [{ v := .iface 31 (.int .i64 2), recovered := false }] ∧ w = w' := by
  obtain ⟨c0, f0⟩ := h.cells
  have hem := str_full (s := str l) (by rw [str_size]; exact List.length_pos_iff.2 hz)
  clear h hz
  go_enter Try.func38, Try.ntmps38
  go_wp2
  exact ⟨rfl, rfl, rfl⟩
end Go.Proofs.Ytohlnhnelkoakaa
