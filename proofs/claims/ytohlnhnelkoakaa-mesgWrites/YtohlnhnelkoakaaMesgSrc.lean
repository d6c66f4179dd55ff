/- What mesg's source answers: numbers, lists, Ids, ops; or it panics with an error. -/
import Derived.Test.YtohlnhnelkoakaaMesgEnc
import Derived.Test.YtohlnhnelkoakaaMesgMath3
namespace Go.Proofs.Ytohlnhnelkoakaa
open Go.RowKit
set_option linter.unusedVariables false

/-- The source in the block g has these bytes left. -/
def Src (w : World) (g : Nat) (l : List UInt8) : Prop := Holds w g [.string (str l)] 58

/-- A panic with an error's number. -/
def panics (e : Nat) : Ending := .panicked [{ v := .iface 31 (.int .i64 (e : Int)), recovered := false }]

/-- What a call of a source comes to. -/
def Gets {α : Type} (w : World) (g : Nat) (r : Mesg.Got α) (V : α → World → Value → Prop) (e : Ending) (w' : World) : Prop :=
  Keep (Just g) w w' ∧ match r with
    | .ok a l => (∃ v, e = .returned v ∧ V a w' v) ∧ Src w' g l
    | .error n => e = panics n

theorem Src.cells {w : World} {g : Nat} {l : List UInt8} (h : Src w g l) : w.cell? ⟨g, 0, none⟩ = some (.string (str l)) ∧ w.frozen? ⟨g, 0, none⟩ = false := ⟨h.cell 0 (by simp), h.frozen 0⟩

def isInt (n : Int) (_ : World) (v : Value) : Prop := v = .int .i64 n
def isList (B : Nat) (zs : List Int) (w : World) (v : Value) : Prop := SliceI w v zs ∧ ∀ g, v.ownBlock = some g → B ≤ g
def isId (x : Mesg.Id) (_ : World) (v : Value) : Prop := v = idV x
def isOp (o : Mesg.Op) (_ : World) (v : Value) : Prop := v = .agg (opL o).toArray

set_option maxHeartbeats 400000 in
theorem src_number (g : Nat) (l : List UInt8) (w : World) (h : Src w g l) (hl : l.length ≤ 1000000) :
    Calls Try.prog 35 #[.pointer (some ⟨g, 0, none⟩)] w (Gets w g (Mesg.num l) isInt) := by
  have H := Lib.hid h
  obtain ⟨c0, f0⟩ := h.cells
  clear h
  have hs : (str l).size ≤ 1000000000 := by rw [str_size]; omega
  cases hr : Mesg.num l with
  | ok n t =>
    obtain ⟨k, rfl, hk, ht, hlt⟩ := Mesg.num_ok hr
    have HT : Hid (takeV (Pack.take (str l).data.toList) = .tuple #[.int .i64 (k : Int), .string (str t), .int .i64 0]) := Lib.hid (by rw [str_data, ht]; rfl)
    clear hr ht hlt
    go_enter Try.func35, Try.ntmps35
    go_wp2_with fail
    refine (pack_Take (str l) w hs).mono ?_
    rintro e w1 ⟨rfl, hb1⟩
    rw [HT.out]
    have HS1 : Hid (Src w1 g l) := Lib.hid (H.out.keep (Keep.of_grew hb1 Non) (fun h => h))
    obtain ⟨c1, f1⟩ := HS1.out.cells
    go_wp2
    go_ret
    refine ⟨(Keep.of_grew hb1 (Just g)).trans (Keep.setCell _ _ _ _) (fun _ _ h => h), ⟨_, rfl, rfl⟩, ?_⟩
    exact HS1.out.set 0 _ (by simp)
  | error n =>
    obtain ⟨ht, hn⟩ := Mesg.num_error hr
    have HT : Hid (takeV (Pack.take (str l).data.toList) = .tuple #[.int .i64 0, .string ⟨#[]⟩, .int .i64 (n : Int)]) := Lib.hid (by rw [str_data, ht]; rfl)
    have hne : ((n : Int) != 0) = true := by rcases hn with rfl | rfl <;> rfl
    clear hr ht hn
    go_enter Try.func35, Try.ntmps35
    go_wp2_with fail
    refine (pack_Take (str l) w hs).mono ?_
    rintro e w1 ⟨rfl, hb1⟩
    rw [HT.out]
    go_wp2
    exact ⟨rfl, Keep.of_grew hb1 _, rfl⟩

theorem apart_of {w : World} {g b o : Nat} {n : Int} {s : ByteArray} {t : TypeId} (h : Holds w g [.string s] t) (hc : w.cell? ⟨b, o, none⟩ = some (.int .i64 n)) : b ≠ g := by
  intro e
  subst e
  rw [cell_of_row w b o _ _ _ h] at hc
  match o, hc with
  | 0, hc => simp at hc
  | o + 1, hc => simp at hc

/-- A list of ints is apart from a source, and stays while that is read on. -/
theorem SliceI.src {w w' : World} {g : Nat} {l : List UInt8} {v : Value} {zs : List Int} (h : SliceI w v zs) (hs : Src w g l) (hk : Keep (Just g) w w') : SliceI w' v zs := by
  obtain ⟨a, cap, hv, hc, h⟩ := h
  refine ⟨a, cap, hv, hc, ?_⟩
  by_cases hz : zs = []
  · exact .inl hz
  rcases h with h | ⟨b, off, ha, hlt, hcell⟩
  · exact .inl h
  · have hb : b ≠ g := apart_of hs (hcell 0 (List.length_pos_iff.2 hz))
    exact .inr ⟨b, off, ha, Nat.lt_of_lt_of_le hlt hk.size, fun i hi => by rw [hk.cell hlt hb]; exact hcell i hi⟩

set_option maxHeartbeats 400000 in
theorem src_list (g : Nat) (l : List UInt8) (w : World) (h : Src w g l) (hl : l.length ≤ 1000000) :
    Calls Try.prog 36 #[.pointer (some ⟨g, 0, none⟩)] w (Gets w g (Mesg.list l) (isList w.heap.size)) := by
  have H := Lib.hid h
  obtain ⟨c0, f0⟩ := h.cells
  clear h
  have hs : (str l).size ≤ 1000000000 := by rw [str_size]; omega
  have C := Lib.hid (pack_EachF (str l) w hs)
  rw [str_data] at C
  cases hr : Mesg.list l with
  | ok zs t =>
    obtain ⟨he, hz⟩ := Mesg.list_ok hr
    rw [he] at C
    have HZ := Lib.hid hz
    clear hr he hz
    go_enter Try.func36, Try.ntmps36
    go_wp2_with fail
    refine C.out.mono ?_
    rintro e w1 ⟨⟨v, rfl, hsl, hfr⟩, hb1⟩
    have HS1 : Hid (Src w1 g l) := Lib.hid (H.out.keep (Keep.of_grew hb1 Non) (fun h => h))
    obtain ⟨c1, f1⟩ := HS1.out.cells
    have HSL : Hid (SliceI w1 v zs) := Lib.hid (by rw [HZ.out]; exact hsl)
    have HB1 := Lib.hid hb1
    have HFR := Lib.hid hfr
    clear hsl hb1 hfr
    have hlt := HS1.out.lt
    go_wp2
    go_ret
    refine ⟨(Keep.of_grew HB1.out (Just g)).trans (Keep.setCell _ _ _ _) (fun _ _ h => h), ⟨_, rfl, ?_⟩, ?_⟩
    · exact ⟨HSL.out.src HS1.out (Keep.setCell _ _ _ _), HFR.out⟩
    · exact HS1.out.set 0 _ (by simp)
  | error n =>
    obtain ⟨he, hn⟩ := Mesg.list_error hr
    have HN := Lib.hid he
    have hne : ((n : Int) != 0) = true := by simp; omega
    clear hr hn he
    go_enter Try.func36, Try.ntmps36
    go_wp2_with fail
    refine C.out.mono ?_
    rintro e w1 ⟨⟨v, rfl, hsl, hfr⟩, hb1⟩
    rw [HN.out]
    clear hsl hfr
    go_wp2
    exact ⟨rfl, Keep.of_grew hb1 _, rfl⟩

theorem ok_num {n : Int} {l : List UInt8} {w w' : World} {g : Nat} {e : Ending} (h : Gets w g (.ok n l) isInt e w') : Keep (Just g) w w' ∧ e = .returned (.int .i64 n) ∧ Src w' g l := by
  obtain ⟨h1, ⟨v, h2, h3⟩, h4⟩ := h
  exact ⟨h1, by rw [h2, h3], h4⟩
theorem bad_num {α : Type} {V : α → World → Value → Prop} {n : Nat} {w w' : World} {g : Nat} {e : Ending} (h : Gets w g (.error n) V e w') : Keep (Just g) w w' ∧ e = .panicked [{ v := .iface 31 (.int .i64 (n : Int)), recovered := false }] := h

set_option maxHeartbeats 400000 in
theorem src_id (g : Nat) (l : List UInt8) (w : World) (h : Src w g l) (hl : l.length ≤ 1000000) :
    Calls Try.prog 53 #[.pointer (some ⟨g, 0, none⟩)] w (Gets w g (Mesg.rid l) isId) := by
  have H : Hid (Src (w.alloc (.cells #[.int .i64 0, .int .i64 0] 24)) g l) := Lib.hid (h.keep (Keep.alloc Non _ _) (fun h => h))
  have hg := h.lt
  clear h
  cases h1 : Mesg.num l with
  | error n =>
    have HR : Hid (Mesg.rid l = .error n) := Lib.hid (by unfold Mesg.rid; rw [h1]; rfl)
    have C1 := Lib.hid (src_number g l _ H.out hl)
    rw [h1] at C1
    rw [HR.out]
    clear h1
    go_enter Try.func53, Try.ntmps53
    go_wp2_with fail
    refine C1.out.mono ?_
    rintro e w1 hg1
    obtain ⟨hk1, rfl⟩ := bad_num hg1
    clear hg1
    go_wp2
    exact ⟨rfl, (Keep.alloc _ _ _).trans hk1 (fun _ _ h => h), rfl⟩
  | ok t l1 =>
    obtain ⟨k1, rfl, hk1', ht1, hl1⟩ := Mesg.num_ok h1
    have hl1' : l1.length ≤ 1000000 := by have := congrArg List.length hl1; rw [List.length_append] at this; omega
    have C1 := Lib.hid (src_number g l _ H.out hl)
    rw [h1] at C1
    cases h2 : Mesg.num l1 with
    | error n =>
      have HR : Hid (Mesg.rid l = .error n) := Lib.hid (by unfold Mesg.rid; rw [h1]; show (Mesg.num l1).on _ = _; rw [h2]; rfl)
      rw [HR.out]
      have H2 := Lib.hid h2
      clear h1 h2 hl1 ht1
      go_enter Try.func53, Try.ntmps53
      go_wp2_with fail
      refine C1.out.mono ?_
      rintro e w1 hg1
      obtain ⟨hk1, rfl, hs1⟩ := ok_num hg1
      clear hg1
      have C2 := Lib.hid (src_number g l1 w1 hs1 hl1')
      rw [H2.out] at C2
      go_wp2_with fail
      refine C2.out.mono ?_
      rintro e w2 hg2
      obtain ⟨hk2, rfl⟩ := bad_num hg2
      clear hg2
      go_wp2
      exact ⟨rfl, ((Keep.alloc _ _ _).trans hk1 (fun _ _ h => h)).trans hk2 (fun _ _ h => h), rfl⟩
    | ok s l2 =>
      have HR : Hid (Mesg.rid l = .ok ⟨(k1 : Int), s⟩ l2) := Lib.hid (by unfold Mesg.rid; rw [h1]; show (Mesg.num l1).on _ = _; rw [h2]; rfl)
      rw [HR.out]
      have H2 := Lib.hid h2
      clear h1 h2 hl1 ht1
      go_enter Try.func53, Try.ntmps53
      go_wp2_with fail
      refine C1.out.mono ?_
      rintro e w1 hg1
      obtain ⟨hk1, rfl, hs1⟩ := ok_num hg1
      clear hg1
      have C2 := Lib.hid (src_number g l1 w1 hs1 hl1')
      rw [H2.out] at C2
      go_wp2_with fail
      refine C2.out.mono ?_
      rintro e w2 hg2
      obtain ⟨hk2, rfl, hs2⟩ := ok_num hg2
      clear hg2
      have hne : w.heap.size ≠ g := by omega
      have HR2 : Hid (Holds w2 w.heap.size [.int .i64 0, .int .i64 0] 24) := Lib.hid (((Holds.new w [.int .i64 0, .int .i64 0] 24).keep hk1 hne).keep hk2 hne)
      have e0 := HR2.out.cell 0 (by simp)
      have e1 := HR2.out.cell 1 (by simp)
      have f0 := HR2.out.frozen 0
      have f1 := HR2.out.frozen 1
      simp only [List.getElem_cons_succ, List.getElem_cons_zero] at e0 e1
      have HR3 : Hid (Holds ((w2.setCell ⟨w.heap.size, 0, none⟩ (.int .i64 (k1 : Int))).setCell ⟨w.heap.size, 1, none⟩ (.int .i64 s)) w.heap.size [.int .i64 (k1 : Int), .int .i64 s] 24) := Lib.hid ((HR2.out.set 0 _ (by simp)).set 1 _ (by simp))
      have r0 := HR3.out.cell 0 (by simp)
      have r1 := HR3.out.cell 1 (by simp)
      simp only [List.getElem_cons_succ, List.getElem_cons_zero] at r0 r1
      go_wp2
      refine bodyPost_ret (v := .agg #[.int .i64 (k1 : Int), .int .i64 s]) (by simp [results, Try.results53, go_sem, r0, r1]) rfl ?_
      have q1 : Keep (Just g) w w2 := ((Keep.alloc _ _ _).trans hk1 (fun _ _ h => h)).trans hk2 (fun _ _ h => h)
      have q2 : Keep (Just w.heap.size) w2 ((w2.setCell ⟨w.heap.size, 0, none⟩ (.int .i64 (k1 : Int))).setCell ⟨w.heap.size, 1, none⟩ (.int .i64 s)) := (Keep.setCell _ _ _ _).trans (Keep.setCell _ _ _ _) (fun _ _ h => h)
      refine ⟨q1.trans q2 (fun i hi h => by have h : i = w.heap.size := h; omega), ⟨_, rfl, rfl⟩, hs2.keep q2 (fun h => hne h.symm)⟩

/-- Where op stands: the source, the result's block, the op that is put together. -/
structure OpW (w : World) (g g3 : Nat) (o : Mesg.Op) (wr : World) (l : List UInt8) : Prop where
  src : Src wr g l
  res : Holds wr w.heap.size (opL Mesg.noOp) 26
  loc : Holds wr g3 (opL o) 26
  keep : Keep (Just g) w wr
  low : g < w.heap.size
  far : w.heap.size < g3

theorem OpW.gets {w : World} {g g3 : Nat} {o : Mesg.Op} {wr w1 : World} {l l' : List UInt8} (h : OpW w g g3 o wr l) (hk : Keep (Just g) wr w1) (hs : Src w1 g l') : OpW w g g3 o w1 l' := by
  have h1 := h.low
  have h2 := h.far
  exact ⟨hs, h.res.keep hk (fun e => by have e : w.heap.size = g := e; omega), h.loc.keep hk (fun e => by have e : g3 = g := e; omega), h.keep.trans hk (fun _ _ h => h), h1, h2⟩
theorem OpW.set {w : World} {g g3 : Nat} {o o' : Mesg.Op} {wr : World} {l : List UInt8} (h : OpW w g g3 o wr l) (j : Nat) (u : Value) (hj : j < 7) (e : (opL o).set j u = opL o') : OpW w g g3 o' (wr.setCell ⟨g3, j, none⟩ u) l := by
  have h1 := h.low
  have h2 := h.far
  have kk : Keep (Just g3) wr (wr.setCell ⟨g3, j, none⟩ u) := Keep.setCell _ _ _ _
  exact ⟨h.src.keep kk (fun e => by have e : g = g3 := e; omega), h.res.keep kk (fun e => by have e : w.heap.size = g3 := e; omega), by rw [← e]; exact h.loc.set j u hj, h.keep.trans kk (fun i hi e => by have e : i = g3 := e; omega), h1, h2⟩
theorem OpW.done {w : World} {g g3 : Nat} {o : Mesg.Op} {wr : World} {l : List UInt8} (h : OpW w g g3 o wr l) {w1 : World} (hk : Keep (Just w.heap.size) wr w1) (hl : Src wr g l) : Keep (Just g) w w1 ∧ Src w1 g l := by
  have h1 := h.low
  exact ⟨h.keep.trans hk (fun i hi e => by have e : i = w.heap.size := e; omega), hl.keep hk (fun e => by have e : g = w.heap.size := e; omega)⟩
theorem id_of {x : Mesg.Id} {l : List UInt8} {w w' : World} {g : Nat} {e : Ending} (h : Gets w g (.ok x l) isId e w') : Keep (Just g) w w' ∧ e = .returned (.agg #[.int .i64 x.time, .int .i64 x.site]) ∧ Src w' g l := by
  obtain ⟨h1, ⟨v, h2, h3⟩, h4⟩ := h
  exact ⟨h1, by rw [h2, h3]; rfl, h4⟩
end Go.Proofs.Ytohlnhnelkoakaa
