/- An element dropped and put back; lists of elements held against one another. -/
import Derived.Test.YtohmhbjiapflpaaWvThings
import Derived.Test.YtohmhbjiapflpaaWvWNil
import Derived.Test.YtohmhbjiapflpaaIdEq
import Derived.Deep.Cut
import Derived.Deep.CutRange
import Derived.Deep.CutBlock
import Derived.Deep.QuietTactic
import Derived.BigQuiet
namespace Go.Proofs.Ytohmhbjiapflpaa
open Go.RowKit Go.Maps
set_option linter.unusedVariables false

/-- Each rune may stand in a line. -/
def Weave.Runes (L : List Wel) : Prop := ∀ e ∈ L, Mesg.rune e.rune = true
theorem Weave.runes_insert {L : List Wel} (h : Weave.Runes L) (x ref : Int × Int) (r : Int) : Weave.Runes (Weave.insert L x ref r).2 := by
  unfold Weave.insert
  split
  · exact h
  · rename_i h0
    split
    · exact h
    · split
      · exact h
      · split
        · exact h
        · intro e he
          rcases List.mem_append.1 he with he | he
          · exact h e he
          · rw [List.mem_singleton.1 he]
            cases hr : Mesg.rune r with
            | true => rfl
            | false => exact absurd (.inr hr) h0
theorem Weave.runes_drop {L : List Wel} (h : Weave.Runes L) (x : Int × Int) : Weave.Runes (Weave.drop L x).2 := by
  unfold Weave.drop
  split
  · exact h
  · split
    · exact h
    · exact fun e he => h e (Weave.mem_less.1 he).1
/-- What a drop says of one that has kids, or is not there. -/
theorem Weave.drop_no {L : List Wel} {x : Int × Int} (h : Weave.has L x = false ∨ Weave.kids L x ≠ []) : (Weave.drop L x).1 ≠ 0 ∧ (Weave.drop L x).2 = L := by
  unfold Weave.drop
  by_cases h1 : Weave.has L x = false
  · rw [if_pos h1]; exact ⟨by simp, rfl⟩
  · rw [if_neg h1, if_pos (h.resolve_left h1)]; exact ⟨by simp, rfl⟩
theorem Weave.drop_yes {L : List Wel} (h : Weave.Ok L) (hr : Weave.Runes L) {e : Wel} (he : e ∈ L) (hk : Weave.kids L e.id = []) :
    Weave.drop L e.id = (0, Weave.less L e.id) ∧ Weave.has (Weave.less L e.id) e.id = false ∧ Weave.insert (Weave.less L e.id) e.id e.ref e.rune = (0, Weave.less L e.id ++ [e]) := by
  have hno : Weave.has (Weave.less L e.id) e.id = false := by
    cases hh : Weave.has (Weave.less L e.id) e.id with
    | false => rfl
    | true =>
      obtain ⟨d, hd, q⟩ := Weave.has_iff.1 hh
      exact absurd q (Weave.mem_less.1 hd).2
  refine ⟨?_, hno, ?_⟩
  · unfold Weave.drop
    rw [if_neg (by rw [Weave.has_iff.2 ⟨e, he, rfl⟩]; decide), if_neg (by simpa using hk)]
  · have hlt := Weave.less_short he
    have hf := h.few
    have hmb : Weave.mayBe e.id e.ref = true := by
      unfold Weave.mayBe
      rw [h.may e he, Bool.true_and]
      rcases h.ref e he with q | ⟨q1, q2, _⟩
      · rw [q]; rfl
      · rw [q1, decide_eq_true q2]; simp
    unfold Weave.insert
    rw [if_neg (by rw [hmb, hr e he]; simp), if_neg (by rw [hno]; decide), if_neg ?_, if_neg (by omega)]
    rintro ⟨h1, h2⟩
    rcases h.ref e he with q | ⟨q1, q2, c, hc, q3⟩
    · exact h1 q
    · have hne : c.id ≠ e.id := fun q => by rw [← q3, q] at q2; omega
      rw [Weave.has_iff.2 ⟨c, Weave.mem_less.2 ⟨hc, hne⟩, q3⟩] at h2
      cases h2
theorem Weave.elements_back {L : List Wel} (h : Weave.Ok L) {e : Wel} (he : e ∈ L) (hk : Weave.kids L e.id = []) : Weave.elements (Weave.less L e.id ++ [e]) = Weave.elements L :=
  (Weave.elements_same h (Weave.less_put h he hk) (Weave.less_put_mem h he)).symm
/-- The element at the place of an Id. -/
theorem Weave.place_el {L : List Wel} (h : Weave.Ok L) {x : Int × Int} (hx : Weave.has L x = true) : ∃ hi : Weave.place L x < (Weave.elements L).length, ((Weave.elements L)[Weave.place L x]).id = x ∧ (Weave.elements L)[Weave.place L x] ∈ L := by
  obtain ⟨d, hd, rfl⟩ := Weave.has_iff.1 hx
  obtain ⟨P, S, hps⟩ := Weave.elements_at h hd
  have hpl := Weave.place_at h hps
  have hl : Weave.place L d.id < (Weave.elements L).length := by rw [hpl, hps]; simp
  have e : (Weave.elements L)[Weave.place L d.id] = d := by
    have h1 : (Weave.elements L)[Weave.place L d.id]? = some d := by rw [hpl, hps]; simp
    rw [List.getElem?_eq_getElem hl] at h1
    exact Option.some.inj h1
  exact ⟨hl, by rw [e], by rw [e]; exact hd⟩

set_option maxRecDepth 100000 in
set_option maxHeartbeats 1000000 in
theorem ref11_One_same (e : Wel) (w : World) : Calls Try.prog 58 #[e.val, e.val] w fun r w' => r = .returned (.bool true) ∧ Below w.heap.size w w' := by
  obtain ⟨⟨x1, x2⟩, ⟨r1, r2⟩, rn⟩ := e
  have HB := Lib.hid (grew (grew_alloc w (.cells #[.int .i64 x1, .int .i64 x2, .int .i64 r1, .int .i64 r2, .int .i64 rn, .slice none 0 0] 49)) (grew_alloc _ (.cells #[.int .i64 x1, .int .i64 x2, .int .i64 r1, .int .i64 r2, .int .i64 rn, .slice none 0 0] 49)))
  have h1 : ∀ W, (binOp .neq 24 (.agg #[.int .i64 x1, .int .i64 x2]) (.agg #[.int .i64 x1, .int .i64 x2])).run Try.prog W = .ok (.bool false) W := fun W => by rw [neq_id, decide_eq_true rfl]; rfl
  have h2 : ∀ W, (binOp .neq 24 (.agg #[.int .i64 r1, .int .i64 r2]) (.agg #[.int .i64 r1, .int .i64 r2])).run Try.prog W = .ok (.bool false) W := fun W => by rw [neq_id, decide_eq_true rfl]; rfl
  have h3 : (rn != rn) = false := by simp
  have hgi := guard_id
  unfold Wel.val
  simp only
  go_enter Try.func58, Try.ntmps58
  go_wp2
  go_rounds 1
  go_ret
  exact ⟨rfl, HB.out⟩

set_option maxRecDepth 100000 in
set_option maxHeartbeats 2000000 in
theorem ref11_Same_same (u v : Value) (es : List Wel) (w : World) (hu : SliceG 6 Wel.cells w u es) (hv : SliceG 6 Wel.cells w v es) (hm : es.length ≤ 1000000) :
    Calls Try.prog 21 #[u, v] w fun r w' => r = .returned (.bool true) ∧ Below w.heap.size w w' := by
  have HU := Lib.hid hu
  have HV := Lib.hid hv
  obtain ⟨ua, uc, rfl⟩ := hu.shape
  obtain ⟨va, vc, rfl⟩ := hv.shape
  have hd : ((es.length : Int) != (es.length : Int)) = false := by simp
  clear hu hv
  go_enter Try.func21, Try.ntmps21
  go_wp2
  go_loopw [5] (fun i wr => ∃ k : Nat, k ≤ es.length ∧ i = .int .i64 k ∧ Below w.heap.size w wr) (fun i _ => es.length - (intOf i).toNat)
  case atStart => exact ⟨0, by omega, rfl, Below.refl _ _⟩
  case round =>
    obtain ⟨k, hk, rfl, hB⟩ := hrel
    have HB := Lib.hid hB
    clear hB
    by_cases hlt : k < es.length
    · have e1 : decide ((k : Int) < (es.length : Int)) = true := decide_eq_true (by omega)
      have e2 : decide (k < es.length) = true := decide_eq_true hlt
      have hka : (k : Int) < (es.length : Int) := by omega
      obtain ⟨b1, o1, rfl, hb1, hc1⟩ := (HU.out.below HB.out).at hlt
      obtain ⟨b2, o2, rfl, hb2, hc2⟩ := (HV.out.below HB.out).at hlt
      have HONE := Lib.hid (fun W => ref11_One_same es[k] W)
      generalize es[k] = d at hc1 hc2 HONE
      obtain ⟨⟨x1, x2⟩, ⟨r1, r2⟩, rn⟩ := d
      have hne : Nonempty (Later wr) := ⟨⟨wr, Below.refl _ _⟩⟩
      have f0 : ∀ p : Later wr, p.at'.cell? ⟨b1, o1 + k * 6, none⟩ = some (.int .i64 x1) := fun p => p.cell hb1 (hc1 0 _ rfl)
      have f1 : ∀ p : Later wr, p.at'.cell? ⟨b1, o1 + k * 6 + 1, none⟩ = some (.int .i64 x2) := fun p => p.cell hb1 (hc1 1 _ rfl)
      have f2 : ∀ p : Later wr, p.at'.cell? ⟨b1, o1 + k * 6 + 2, none⟩ = some (.int .i64 r1) := fun p => p.cell hb1 (hc1 2 _ rfl)
      have f3 : ∀ p : Later wr, p.at'.cell? ⟨b1, o1 + k * 6 + 3, none⟩ = some (.int .i64 r2) := fun p => p.cell hb1 (hc1 3 _ rfl)
      have f4 : ∀ p : Later wr, p.at'.cell? ⟨b1, o1 + k * 6 + 4, none⟩ = some (.int .i64 rn) := fun p => p.cell hb1 (hc1 4 _ rfl)
      have f5 : ∀ p : Later wr, p.at'.cell? ⟨b1, o1 + k * 6 + 5, none⟩ = some (.slice none 0 0) := fun p => p.cell hb1 (hc1 5 _ rfl)
      have g0 : ∀ p : Later wr, p.at'.cell? ⟨b2, o2 + k * 6, none⟩ = some (.int .i64 x1) := fun p => p.cell hb2 (hc2 0 _ rfl)
      have g1 : ∀ p : Later wr, p.at'.cell? ⟨b2, o2 + k * 6 + 1, none⟩ = some (.int .i64 x2) := fun p => p.cell hb2 (hc2 1 _ rfl)
      have g2 : ∀ p : Later wr, p.at'.cell? ⟨b2, o2 + k * 6 + 2, none⟩ = some (.int .i64 r1) := fun p => p.cell hb2 (hc2 2 _ rfl)
      have g3 : ∀ p : Later wr, p.at'.cell? ⟨b2, o2 + k * 6 + 3, none⟩ = some (.int .i64 r2) := fun p => p.cell hb2 (hc2 3 _ rfl)
      have g4 : ∀ p : Later wr, p.at'.cell? ⟨b2, o2 + k * 6 + 4, none⟩ = some (.int .i64 rn) := fun p => p.cell hb2 (hc2 4 _ rfl)
      have g5 : ∀ p : Later wr, p.at'.cell? ⟨b2, o2 + k * 6 + 5, none⟩ = some (.slice none 0 0) := fun p => p.cell hb2 (hc2 5 _ rfl)
      unfold Wel.val at HONE
      simp only at HONE
      have HL := Lib.hid (fun P : Later wr => Calls.later (HONE.out P.at'))
      clear hc1 hc2 HONE
      go_wp2_with fail
      refine wp_region_later (by kernel_rfl) (by kernel_rfl) ?_
      repeat (go_big_quiet_step ((go_at_call 58; exact HL.out _)))
      refine wpQuiet_nil ?_
      intro _ hw'
      obtain ⟨⟨w8, hb8⟩, hw8⟩ := hw'
      subst hw8
      have HB8 := Lib.hid (grew HB.out hb8)
      clear hb8
      go_wp2
      go_roundw
      case rel => exact ⟨k + 1, by omega, by go_num, HB8.out⟩
      case measure => simp [intOf]; omega
    · have e1 : decide ((k : Int) < (es.length : Int)) = false := decide_eq_false (by omega)
      have e2 : decide (k < es.length) = false := decide_eq_false hlt
      go_wp2
      go_ret
      exact ⟨rfl, HB.out⟩
end Go.Proofs.Ytohmhbjiapflpaa
