/- A Browse: where it lies; its calls. -/
import Derived.Test.YtepddieblankpaaDoorSeNew
namespace Go.Proofs.YtepddieblankpaaDoor
open Go.RowKit Go.Shelf
attribute [local go_sem] Oper.semAt_some
set_option linter.unusedVariables false

theorem browse_nil (w : World) : Calls Tryd.prog 30 #[.pointer none] w (fun e w' => e = .returned (.bool false) ∧ w = w') ∧ Calls Tryd.prog 31 #[.pointer none] w (fun e w' => e = .returned (.bool false) ∧ Below w.heap.size w w') ∧
    Calls Tryd.prog 32 #[.pointer none] w (fun e w' => e = .returned (.string ⟨#[]⟩) ∧ w = w') ∧ ∀ s, Calls Tryd.prog 29 #[.pointer none, .string s] w (fun e w' => (∃ u, e = .returned u) ∧ w = w') := by
  refine ⟨?_, ?_, ?_, fun s => ?_⟩
  · go_enter Tryd.func30, Tryd.ntmps30
    go_wp2
    go_ret
    exact ⟨rfl, rfl⟩
  · go_enter Tryd.func31, Tryd.ntmps31
    go_wp2_with fail
    go_quiet (fail)
    go_wp2
    go_ret
    exact ⟨rfl, grew_drewN _ _⟩
  · go_enter Tryd.func32, Tryd.ntmps32
    go_wp2
    go_ret
    exact ⟨rfl, rfl⟩
  · go_enter Tryd.func29, Tryd.ntmps29
    go_wp2
    go_end0
    exact ⟨⟨_, rfl⟩, rfl⟩

/-- A Browse lies at p: its lines' slice (of its own, in the block g), its own line, where it stands. -/
structure Bro (w : World) (p : Nat) (a : Option Addr) (cap : Nat) (ts : List ByteArray) (own : ByteArray) (at' : Nat) : Prop where
  box : w.cell? ⟨p, 0, none⟩ = some (.slice a ts.length cap)
  rows : ts = [] ∨ ∃ g, a = some ⟨g, 0, none⟩ ∧ g ≠ p ∧ g < w.heap.size ∧ ∀ i (h : i < ts.length), w.cell? ⟨g, i, none⟩ = some (.string ts[i]) ∧ w.frozen? ⟨g, i, none⟩ = false
  own' : w.cell? ⟨p, 1, none⟩ = some (.string own) ∧ w.frozen? ⟨p, 1, none⟩ = false
  here : w.cell? ⟨p, 2, none⟩ = some (.int .i64 at') ∧ w.frozen? ⟨p, 2, none⟩ = false
  le : at' ≤ ts.length
  few : ts.length ≤ 1000000000
/-- The blocks of a Browse. -/
def BroB (p : Nat) (a : Option Addr) : Nat → Prop := fun k => k = p ∨ ∃ x, a = some x ∧ k = x.block
theorem Bro.lt {w : World} {p : Nat} {a : Option Addr} {cap : Nat} {ts : List ByteArray} {own : ByteArray} {at' : Nat} (h : Bro w p a cap ts own at') : p < w.heap.size := block_lt_of_cell h.box
theorem Bro.keep {S : Nat → Prop} {w w' : World} {p : Nat} {a : Option Addr} {cap : Nat} {ts : List ByteArray} {own : ByteArray} {at' : Nat} (h : Bro w p a cap ts own at') (hk : Keep S w w') (hn : ∀ k, BroB p a k → ¬ S k) : Bro w' p a cap ts own at' := by
  have hp := hn p (.inl rfl)
  refine ⟨by rw [hk.cell h.lt hp]; exact h.box, ?_, ⟨by rw [hk.cell h.lt hp]; exact h.own'.1, by rw [hk.frozen h.lt hp]; exact h.own'.2⟩, ⟨by rw [hk.cell h.lt hp]; exact h.here.1, by rw [hk.frozen h.lt hp]; exact h.here.2⟩, h.le, h.few⟩
  rcases h.rows with e | ⟨g, ha, hg, hl, hc⟩
  · exact .inl e
  · have hgn := hn g (.inr ⟨_, ha, rfl⟩)
    exact .inr ⟨g, ha, hg, Nat.lt_of_lt_of_le hl hk.size, fun i hi => ⟨by rw [hk.cell hl hgn]; exact (hc i hi).1, by rw [hk.frozen hl hgn]; exact (hc i hi).2⟩⟩
theorem Bro.below {w w' : World} {p : Nat} {a : Option Addr} {cap : Nat} {ts : List ByteArray} {own : ByteArray} {at' : Nat} (h : Bro w p a cap ts own at') (hb : Below w.heap.size w w') : Bro w' p a cap ts own at' := h.keep (Keep.of_grew hb Non) (fun _ _ h => h)
/-- The line where one stands. -/
def lineOf (ts : List ByteArray) (own : ByteArray) (k : Nat) : ByteArray := ts.getD k own

set_option maxHeartbeats 1000000 in
theorem browse_here {w : World} {p : Nat} {a : Option Addr} {cap : Nat} {ts : List ByteArray} {own : ByteArray} {k : Nat} (h : Bro w p a cap ts own k) :
    Calls Tryd.prog 58 #[.pointer (some ⟨p, 0, none⟩)] w fun e w' => (∃ n, w' = w.drewN n) ∧ ∃ b o : Nat, e = .returned (.pointer (some ⟨b, o, none⟩)) ∧ w.cell? ⟨b, o, none⟩ = some (.string (lineOf ts own k)) ∧ w.frozen? ⟨b, o, none⟩ = false ∧ BroB p a b ∧
      ((k = ts.length ∧ b = p ∧ o = 1) ∨ (k < ts.length ∧ a = some ⟨b, 0, none⟩ ∧ o = k)) := by
  have H := Lib.hid h
  have c0 := h.box
  have c2 := h.here.1
  have hle := h.le
  have hfew := h.few
  clear h
  by_cases hk : k = ts.length
  · have d1 : ((k : Int) == (ts.length : Int)) = true := by rw [beq_iff_eq]; omega
    have d2 : decide ((k : Int) = (ts.length : Int)) = true := decide_eq_true (by omega)
    have HK := Lib.hid hk
    clear hk
    go_enter Tryd.func58, Tryd.ntmps58
    go_wp2_with fail
    go_quiet (fail)
    go_wp2
    go_ret
    refine ⟨⟨_, rfl⟩, p, 1, rfl, ?_, H.out.own'.2, .inl rfl, .inl ⟨HK.out, rfl, rfl⟩⟩
    rw [show lineOf ts own k = own from by unfold lineOf; rw [HK.out]; simp [List.getD]]
    exact H.out.own'.1
  · have d1 : ((k : Int) == (ts.length : Int)) = false := by rw [beq_eq_false_iff_ne]; omega
    have d2 : decide ((k : Int) = (ts.length : Int)) = false := decide_eq_false (by omega)
    have hlt : k < ts.length := by omega
    have d3 : decide (k < ts.length) = true := decide_eq_true hlt
    have hia : (k : Int) < (ts.length : Int) := by omega
    rcases H.out.rows with e | ⟨g, rfl, hg, hl, hc⟩
    · subst e; simp at hlt
    have HC := Lib.hid (hc k hlt)
    have HL := Lib.hid hlt
    clear hc hk
    go_enter Tryd.func58, Tryd.ntmps58
    go_wp2_with fail
    go_quiet (fail)
    go_wp2_with fail
    go_quiet (fail)
    go_wp2
    go_ret
    refine ⟨by first | exact ⟨_, rfl⟩ | exact ⟨_, World.drewN_drewN _ _ _⟩ | exact ⟨_, World.drewN_drewN⟩, g, k, rfl, ?_, HC.out.2, .inr ⟨_, rfl, rfl⟩, .inr ⟨HL.out, rfl, rfl⟩⟩
    rw [show lineOf ts own k = ts[k]'HL.out from by unfold lineOf; simp [List.getD, List.getElem?_eq_getElem HL.out]]
    exact HC.out.1

theorem browse_Line {w : World} {p : Nat} {a : Option Addr} {cap : Nat} {ts : List ByteArray} {own : ByteArray} {k : Nat} (h : Bro w p a cap ts own k) :
    Calls Tryd.prog 32 #[.pointer (some ⟨p, 0, none⟩)] w fun e w' => e = .returned (.string (lineOf ts own k)) ∧ ∃ n, w' = w.drewN n := by
  have HH := Lib.hid (browse_here h)
  clear h
  go_enter Tryd.func32, Tryd.ntmps32
  go_wp2_with fail
  refine HH.out.mono ?_
  rintro e w1 ⟨hq, b, o, rfl, hc, hf, _, _⟩
  have HQ := Lib.hid hq
  have hb : Below w.heap.size w w1 := by obtain ⟨n, rfl⟩ := hq; exact grew_drewN _ _
  clear hq
  have hc1 : w1.cell? ⟨b, o, none⟩ = some (.string (lineOf ts own k)) := by rw [hb.cell (block_lt_of_cell hc)]; exact hc
  have HB := Lib.hid hb
  clear hb hc hf
  obtain ⟨t, ht⟩ : ∃ t, lineOf ts own k = t := ⟨_, rfl⟩
  rw [ht] at hc1
  have HT := Lib.hid ht
  clear ht
  go_wp2
  go_ret
  exact ⟨by rw [HT.out]; rfl, HQ.out⟩

/-- What an Edit makes of the lines. -/
def setTs (ts : List ByteArray) (k : Nat) (s : ByteArray) : List ByteArray := ts.set k s
def setOwn (ts : List ByteArray) (own : ByteArray) (k : Nat) (s : ByteArray) : ByteArray := if k = ts.length then s else own
def downTo (n k : Nat) : Nat := if k < n then k + 1 else k
def canDown (n k : Nat) : Bool := decide (k < n)
theorem setTs_get (ts : List ByteArray) (k : Nat) (s : ByteArray) (i : Nat) (h : i < (setTs ts k s).length) (h' : i < ts.length) : (setTs ts k s)[i] = if k = i then s else ts[i] := List.getElem_set _
theorem setTs_len (ts : List ByteArray) (k : Nat) (s : ByteArray) : (setTs ts k s).length = ts.length := by simp [setTs]
theorem lines_set (ts : List ByteArray) (own : ByteArray) {k : Nat} (h : k ≤ ts.length) (s : ByteArray) : setTs ts k s ++ [setOwn ts own k s] = (ts ++ [own]).set k s := by
  unfold setTs setOwn
  by_cases e : k = ts.length
  · rw [if_pos e, List.set_eq_of_length_le (by omega), List.set_append_right _ _ (by omega), e]
    simp
  · rw [if_neg e, List.set_append_left _ _ (by omega)]
theorem line_at (ts : List ByteArray) (own : ByteArray) {k : Nat} (h : k ≤ ts.length) : (ts ++ [own])[k]? = some (lineOf ts own k) := by
  unfold lineOf
  by_cases e : k < ts.length
  · rw [List.getElem?_append_left e]; simp [List.getD, List.getElem?_eq_getElem e]
  · obtain rfl : k = ts.length := by omega
    simp [List.getD]

theorem browse_Edit {w : World} {p : Nat} {a : Option Addr} {cap : Nat} {ts : List ByteArray} {own : ByteArray} {k : Nat} (h : Bro w p a cap ts own k) (s : ByteArray) :
    Calls Tryd.prog 29 #[.pointer (some ⟨p, 0, none⟩), .string s] w fun e w' => (∃ u, e = .returned u) ∧ Bro w' p a cap (setTs ts k s) (setOwn ts own k s) k ∧ Keep (BroB p a) w w' := by
  have HH := Lib.hid (browse_here h)
  have H := Lib.hid h
  clear h
  go_enter Tryd.func29, Tryd.ntmps29
  go_wp2_with fail
  refine HH.out.mono ?_
  rintro e w1 ⟨hq, b, o, rfl, hc, hf, hB, hw⟩
  have hb : Below w.heap.size w w1 := by obtain ⟨n, rfl⟩ := hq; exact grew_drewN _ _
  clear hq
  have hc1 : w1.cell? ⟨b, o, none⟩ = some (.string (lineOf ts own k)) := by rw [hb.cell (block_lt_of_cell hc)]; exact hc
  have hf1 : w1.frozen? ⟨b, o, none⟩ = false := by rw [hb.frozen (block_lt_of_cell hc)]; exact hf
  have H1 := Lib.hid (H.out.below hb)
  have HB := Lib.hid hB
  have HW := Lib.hid hw
  have HBE := Lib.hid hb
  clear hb hc hf hB hw
  generalize lineOf ts own k = t at *
  go_wp2
  go_end0
  have hk : Keep (BroB p a) w (w1.setCell ⟨b, o, none⟩ (.string s)) := (Keep.of_grew HBE.out (BroB p a)).trans (Keep.setCell w1 b o _) (fun i _ e => by have e' : i = b := e; rw [e']; exact HB.out)
  refine ⟨⟨_, rfl⟩, ?_, hk⟩
  have hle := H1.out.le
  rcases HW.out with ⟨rfl, rfl, rfl⟩ | ⟨hlt, ha, rfl⟩
  · refine ⟨?_, ?_, ⟨by rw [show setOwn ts own ts.length s = s from if_pos rfl]; exact World.cell?_setCell_same _ _ _ hc1, by rw [World.frozen?_setCell]; exact hf1⟩, ⟨by rw [World.cell?_setCell_other _ _ _ _ (by simp)]; exact H1.out.here.1, by rw [World.frozen?_setCell]; exact H1.out.here.2⟩, by rw [setTs_len]; exact H1.out.le, by rw [setTs_len]; exact H1.out.few⟩
    · rw [World.cell?_setCell_other _ _ _ _ (by simp), setTs_len]; exact H1.out.box
    · rw [show setTs ts ts.length s = ts from List.set_eq_of_length_le (by omega)]
      rcases H1.out.rows with e | ⟨g, ha, hg, hl, hcc⟩
      · exact .inl e
      · exact .inr ⟨g, ha, hg, by simpa [World.setCell] using hl, fun i hi => ⟨by rw [World.cell?_setCell_other _ _ _ _ (by first | (simp; done) | (simp; omega))]; exact (hcc i hi).1, by rw [World.frozen?_setCell]; exact (hcc i hi).2⟩⟩
  · rcases H1.out.rows with e | ⟨g, ha', hg, hl, hcc⟩
    · subst e; simp at hlt
    · rw [ha] at ha'
      cases ha'
      refine ⟨?_, .inr ⟨b, ha, hg, by simpa [World.setCell] using hl, fun i hi => ?_⟩, ⟨?_, by rw [World.frozen?_setCell]; exact H1.out.own'.2⟩, ⟨by rw [World.cell?_setCell_other _ _ _ _ (by first | (simp; done) | (simp; omega))]; exact H1.out.here.1, by rw [World.frozen?_setCell]; exact H1.out.here.2⟩, by rw [setTs_len]; exact H1.out.le, by rw [setTs_len]; exact H1.out.few⟩
      · rw [World.cell?_setCell_other _ _ _ _ (by first | (simp; done) | (simp; omega)), setTs_len]; exact H1.out.box
      · have hi' : i < ts.length := by rw [setTs_len] at hi; exact hi
        refine ⟨?_, by rw [World.frozen?_setCell]; exact (hcc i hi').2⟩
        rw [setTs_get ts o s i hi hi']
        by_cases e : o = i
        · subst e; rw [if_pos rfl]; exact World.cell?_setCell_same _ _ _ hc1
        · rw [if_neg e, World.cell?_setCell_other _ _ _ _ (by first | (simp; done) | (simp; omega))]; exact (hcc i hi').1
      · rw [World.cell?_setCell_other _ _ _ _ (by first | (simp; done) | (simp; omega)), show setOwn ts own o s = own from if_neg (by omega)]; exact H1.out.own'.1

theorem Bro.move {w : World} {p : Nat} {a : Option Addr} {cap : Nat} {ts : List ByteArray} {own : ByteArray} {k : Nat} (h : Bro w p a cap ts own k) {j : Nat} (hj : j ≤ ts.length) : Bro (w.setCell ⟨p, 2, none⟩ (.int .i64 (j : Nat))) p a cap ts own j := by
  refine ⟨by rw [World.cell?_setCell_other _ _ _ _ (by simp)]; exact h.box, ?_, ⟨by rw [World.cell?_setCell_other _ _ _ _ (by simp)]; exact h.own'.1, by rw [World.frozen?_setCell]; exact h.own'.2⟩, ⟨World.cell?_setCell_same _ _ _ h.here.1, by rw [World.frozen?_setCell]; exact h.here.2⟩, hj, h.few⟩
  rcases h.rows with e | ⟨g, ha, hg, hl, hc⟩
  · exact .inl e
  · exact .inr ⟨g, ha, hg, by simpa [World.setCell] using hl, fun i hi => ⟨by rw [World.cell?_setCell_other _ _ _ _ (by first | (simp; done) | (simp; omega))]; exact (hc i hi).1, by rw [World.frozen?_setCell]; exact (hc i hi).2⟩⟩

theorem browse_Up {w : World} {p : Nat} {a : Option Addr} {cap : Nat} {ts : List ByteArray} {own : ByteArray} {k : Nat} (h : Bro w p a cap ts own k) :
    Calls Tryd.prog 30 #[.pointer (some ⟨p, 0, none⟩)] w fun e w' => e = .returned (.bool (decide (0 < k))) ∧ Bro w' p a cap ts own (k - 1) ∧ Keep (Just p) w w' := by
  have H := Lib.hid h
  have c2 := h.here.1
  have f2 := h.here.2
  have hle := h.le
  have hfew := h.few
  clear h
  by_cases hk : k = 0
  · subst hk
    go_enter Tryd.func30, Tryd.ntmps30
    go_wp2
    go_ret
    exact ⟨rfl, H.out, Keep.refl _ _⟩
  · obtain ⟨j, rfl⟩ : ∃ j, k = j + 1 := ⟨k - 1, by omega⟩
    have d1 : (((j + 1 : Nat) : Int) == 0) = false := by rw [beq_eq_false_iff_ne]; omega
    have d2 : decide (((j + 1 : Nat) : Int) = 0) = false := decide_eq_false (by omega)
    have hw : wrap64 (((j + 1 : Nat) : Int) - 1) = (j : Int) := by rw [IntWalk.wrap64_in _ ⟨by omega, by omega⟩]; omega
    have HM := Lib.hid (H.out.move (j := j) (by omega))
    have HD : Hid (decide (0 < j + 1) = true) := Lib.hid (decide_eq_true (by omega))
    generalize ((j + 1 : Nat) : Int) = z at *
    clear hk
    go_enter Tryd.func30, Tryd.ntmps30
    go_wp2
    go_ret
    exact ⟨by rw [HD.out]; rfl, HM.out, Keep.setCell _ _ _ _⟩

theorem browse_Down {w : World} {p : Nat} {a : Option Addr} {cap : Nat} {ts : List ByteArray} {own : ByteArray} {k : Nat} (h : Bro w p a cap ts own k) :
    Calls Tryd.prog 31 #[.pointer (some ⟨p, 0, none⟩)] w fun e w' => e = .returned (.bool (canDown ts.length k)) ∧ Bro w' p a cap ts own (downTo ts.length k) ∧ Keep (Just p) w w' := by
  have H := Lib.hid h
  have c0 := h.box
  have c2 := h.here.1
  have f2 := h.here.2
  have hle := h.le
  have hfew := h.few
  clear h
  by_cases hk : k = ts.length
  · have d1 : ((k : Int) == (ts.length : Int)) = true := by rw [beq_iff_eq]; omega
    have d2 : decide ((k : Int) = (ts.length : Int)) = true := decide_eq_true (by omega)
    have HD : Hid (canDown ts.length k = false ∧ downTo ts.length k = k) := Lib.hid ⟨decide_eq_false (by omega), if_neg (by omega)⟩
    clear hk
    go_enter Tryd.func31, Tryd.ntmps31
    go_wp2_with fail
    go_quiet (fail)
    go_wp2
    go_ret
    rw [HD.out.1, HD.out.2]
    exact ⟨rfl, H.out.below (grew_drewN _ _), Keep.of_grew (grew_drewN _ _) _⟩
  · have d1 : ((k : Int) == (ts.length : Int)) = false := by rw [beq_eq_false_iff_ne]; omega
    have d2 : decide ((k : Int) = (ts.length : Int)) = false := decide_eq_false (by omega)
    have hw : wrap64 ((k : Int) + 1) = (k : Int) + 1 := IntWalk.wrap64_in _ ⟨by omega, by omega⟩
    have hz : ((k + 1 : Nat) : Int) = (k : Int) + 1 := by omega
    have HD : Hid (canDown ts.length k = true ∧ downTo ts.length k = k + 1) := Lib.hid ⟨decide_eq_true (by omega), if_pos (by omega)⟩
    have HM : Hid (∀ n, Bro ((w.drewN n).setCell ⟨p, 2, none⟩ (.int .i64 ((k : Int) + 1))) p a cap ts own (k + 1)) := Lib.hid (fun n => by rw [← hz]; exact (H.out.below (grew_drewN w n)).move (by omega))
    have HKK : Hid (∀ n, Keep (Just p) w ((w.drewN n).setCell ⟨p, 2, none⟩ (.int .i64 ((k : Int) + 1)))) := Lib.hid (fun n => (Keep.of_grew (grew_drewN w n) _).trans (Keep.setCell _ _ _ _) (fun _ _ h => h))
    clear hk hz
    go_enter Tryd.func31, Tryd.ntmps31
    go_wp2_with fail
    go_quiet (fail)
    go_wp2
    go_ret
    rw [HD.out.1, HD.out.2]
    exact ⟨rfl, by first | exact HM.out _ | exact (HM.out _).below (grew_drewN _ _) | (have := HM.out nq; simpa using this), by first | exact HKK.out _ | (have := HKK.out nq; simpa using this)⟩

theorem clone_own (v : Value) (ts : List ByteArray) (w : World) (hv : SliceS w v ts) (hn : ts.length ≤ 1000000000) :
    Calls Tryd.prog 45 #[v] w fun e w' => ∃ a cap, e = .returned (.slice a ts.length cap) ∧ (ts = [] ∨ ∃ g, a = some ⟨g, 0, none⟩ ∧ g < w'.heap.size ∧ ∀ i (h : i < ts.length), w'.cell? ⟨g, i, none⟩ = some (.string ts[i]) ∧ w'.frozen? ⟨g, i, none⟩ = false) ∧ (∀ x, a = some x → w.heap.size ≤ x.block ∧ x.block < w'.heap.size) ∧ Below w.heap.size w w' := by
  have key : ∀ {w' : World} {v' : Value}, w'.ownsRow w.heap.size 9 1 v' ts.length (ts.map Value.string) → Below w.heap.size w w' → ∃ a cap, Ending.returned v' = .returned (.slice a ts.length cap) ∧ (ts = [] ∨ ∃ g, a = some ⟨g, 0, none⟩ ∧ g < w'.heap.size ∧ ∀ i (h : i < ts.length), w'.cell? ⟨g, i, none⟩ = some (.string ts[i]) ∧ w'.frozen? ⟨g, i, none⟩ = false) ∧ (∀ x, a = some x → w.heap.size ≤ x.block ∧ x.block < w'.heap.size) ∧ Below w.heap.size w w' := by
    intro w' v' h hb
    have hh := h
    rcases h.2 with ⟨rfl, h0⟩ | ⟨g, cap, cur, rfl, hbb, hg, hn, hm, hc, ht⟩
    · have : ts = [] := List.eq_nil_of_length_eq_zero h0
      subst this
      exact ⟨none, 0, rfl, .inl rfl, fun x hx => (by cases hx), hb⟩
    · refine ⟨_, cap, rfl, .inr ⟨g, rfl, (Array.getElem?_eq_some_iff.1 hg).1, fun i hi => ⟨?_, ?_⟩⟩, fun x hx => by cases hx; exact ⟨hbb, (Array.getElem?_eq_some_iff.1 hg).1⟩, hb⟩
      · have := World.ownsRow.cells hh (g := g) rfl i (.string ts[i]) (by simp [List.getElem?_eq_getElem hi])
        rw [show (⟨g, 0, Option.none⟩ : Addr).add i = ⟨g, i, Option.none⟩ from by unfold Addr.add; split <;> simp_all] at this
        exact this
      · unfold World.frozen?; rw [hg]; simp
  obtain ⟨a, cap, rfl, hcap, hrow⟩ := hv
  cases a with
  | none =>
    have : ts = [] := by
      rcases hrow with h | ⟨b, off, h, _⟩
      · exact h
      · cases h
    subst this
    exact (Any.slices_Clone_string_nil shClone 0 cap w).mono (by
      rintro e w' ⟨rfl, rfl⟩
      exact ⟨none, 0, rfl, .inl rfl, fun x hx => (by cases hx), Below.refl _ _⟩)
  | some ad =>
    by_cases h0 : ts = []
    · subst h0
      exact (Any.slices_Clone_string_zero shClone ad cap w).mono (by
        rintro e w' ⟨v', rfl, ho, _, hb⟩
        exact key ho hb)
    · rcases hrow with h | ⟨b, off, ha, hlt, hc⟩
      · exact absurd h h0
      · cases ha
        exact (Any.slices_Clone_string shClone b off ts.length cap ts w (Nat.le_refl _) (by omega) (fun j hj => by rw [hc j hj]; simp [List.getD, List.getElem?_eq_getElem hj])).mono (by
          rintro e w' ⟨v', rfl, ho, _, hb⟩
          rw [List.take_length] at ho
          exact key ho hb)

theorem browse_Start (v : Value) (ts : List ByteArray) (own : ByteArray) (w : World) (hv : SliceS w v ts) (hn : ts.length ≤ 1000000000) :
    Calls Tryd.prog 34 #[v, .string own] w fun e w' => ∃ (p : Nat) (a : Option Addr) (cap : Nat), e = .returned (.pointer (some ⟨p, 0, none⟩)) ∧ Bro w' p a cap ts own ts.length ∧ (∀ k, BroB p a k → w.heap.size ≤ k ∧ k < w'.heap.size) ∧ Below w.heap.size w w' := by
  have HC := Lib.hid (clone_own v ts w hv hn)
  obtain ⟨a, cap, rfl⟩ : ∃ a cap, v = .slice a ts.length cap := by obtain ⟨a, cap, e, _⟩ := hv; exact ⟨a, cap, e⟩
  have HN := Lib.hid hn
  clear hv hn
  go_enter Tryd.func34, Tryd.ntmps34
  go_wp2_with fail
  refine HC.out.mono ?_
  rintro e w1 ⟨a', cap', rfl, h1, h2, hb⟩
  have H1 := Lib.hid (And.intro h1 (And.intro h2 hb))
  clear h1 h2 hb
  go_wp2
  go_ret
  have hb1 := H1.out.2.2
  have hsz := hb1.size
  have HH : Holds (w1.alloc (.cells #[.slice a' ts.length cap', .string own, .int .i64 (ts.length : Nat)] 75)) w1.heap.size [.slice a' ts.length cap', .string own, .int .i64 (ts.length : Nat)] 75 := Holds.new w1 _ _
  refine ⟨w1.heap.size, a', cap', rfl, ⟨HH.cell 0 (by simp), ?_, ⟨HH.cell 1 (by simp), HH.frozen 1⟩, ⟨HH.cell 2 (by simp), HH.frozen 2⟩, Nat.le_refl _, HN.out⟩, ?_, hb1.alloc hsz _⟩
  · rcases H1.out.1 with e | ⟨g, ha, hg, hc⟩
    · exact .inl e
    · exact .inr ⟨g, ha, by omega, by simp; omega, fun i hi => ⟨by rw [(grew_alloc w1 _).cell (p := ⟨g, i, none⟩) hg]; exact (hc i hi).1, by rw [(grew_alloc w1 _).frozen (p := ⟨g, i, none⟩) hg]; exact (hc i hi).2⟩⟩
  · rintro k (rfl | ⟨x, hx, rfl⟩)
    · exact ⟨hsz, by simp⟩
    · have := H1.out.2.1 x hx; exact ⟨this.1, by simp; omega⟩
end Go.Proofs.YtepddieblankpaaDoor
