/- A store in memory; what New and Len of resend come to. -/
import Derived.Test.YtjklfjgdmklimaaMsgCopy
import Derived.Test.YtjklfjgdmklimaaRsMath
namespace Go.Proofs.Ytjklfjgdmklimaa
open Go.RowKit Go.Maps
set_option linter.unusedVariables false

theorem ask_row : 64 < Try.prog.types.size := of_decide_eq_true (by kernel_rfl)
theorem ask_keyed : Keyed Try.prog 64 := Keyed.of_law (deep_law_laid laidOut0 (m := 2) (by omega) ask_row (by kernel_rfl) (by rw [Try.underlying64]))
theorem ask_key : PairKey 64 := pair_key Try.underlying64 (by kernel_rfl) (by kernel_rfl) ask_keyed (by kernel_rfl) (by kernel_rfl)
theorem ask_map : Try.prog.underlying 85 = some (.map 64 40) := Try.underlying85

/-- A store at p, all of whose blocks are in F. -/
structure StoreW (w : World) (F : Nat → Prop) (p : Nat) (s : Resend.St) (mp : Nat) (S : Nat → Prop) (es : List Ent) : Prop where
  ok : Resend.Ok s
  box : Holds w p [.int .i64 (s.sites : Int), .int .i64 (s.room : Int), .map (some mp)] 87
  map : MsgMap w 64 mp S es
  is : es.map Ent.m = s.l
  off : ∀ b, S b → b ≠ p ∧ b ≠ mp
  pm : p ≠ mp
  inp : F p
  inm : F mp
  ins : ∀ b, S b → F b
  lt : ∀ b, F b → b < w.heap.size
def IsStore (w : World) (F : Nat → Prop) (p : Nat) (s : Resend.St) : Prop := ∃ mp S es, StoreW w F p s mp S es

theorem StoreW.keep {w w' : World} {F F' : Nat → Prop} {p : Nat} {s : Resend.St} {mp : Nat} {S : Nat → Prop} {es : List Ent} (h : StoreW w F p s mp S es) (hk : Keep F' w w') (hn : ∀ b, F b → ¬ F' b) : StoreW w' F p s mp S es :=
  ⟨h.ok, h.box.keep hk (hn p h.inp), h.map.keep hk (hn mp h.inm) (fun b hb => hn b (h.ins b hb)), h.is, h.off, h.pm, h.inp, h.inm, h.ins, fun b hb => Nat.lt_of_lt_of_le (h.lt b hb) hk.size⟩
theorem StoreW.below {w w' : World} {F : Nat → Prop} {p : Nat} {s : Resend.St} {mp : Nat} {S : Nat → Prop} {es : List Ent} (h : StoreW w F p s mp S es) (hb : Below w.heap.size w w') : StoreW w' F p s mp S es := h.keep (Keep.of_grew hb Non) (fun _ _ h => h)
theorem IsStore.keep {w w' : World} {F F' : Nat → Prop} {p : Nat} {s : Resend.St} (h : IsStore w F p s) (hk : Keep F' w w') (hn : ∀ b, F b → ¬ F' b) : IsStore w' F p s := by
  obtain ⟨mp, S, es, h⟩ := h
  exact ⟨mp, S, es, h.keep hk hn⟩
theorem IsStore.below {w w' : World} {F : Nat → Prop} {p : Nat} {s : Resend.St} (h : IsStore w F p s) (hb : Below w.heap.size w w') : IsStore w' F p s := h.keep (Keep.of_grew hb Non) (fun _ _ h => h)

/-- What is left of a store behind a step. -/
def SStep (w : World) (F : Nat → Prop) (p : Nat) (s' : Resend.St) (w' : World) : Prop := ∃ F', IsStore w' F' p s' ∧ Keep F w w' ∧ NearS w F F'
theorem SStep.grew {w w' : World} {F : Nat → Prop} {p : Nat} {s : Resend.St} (h : IsStore w F p s) (hb : Below w.heap.size w w') : SStep w F p s w' := ⟨F, h.below hb, Keep.of_grew hb F, NearS.refl _ _⟩

theorem resend_New_yes (n r : Nat) (w : World) (hn : 1 ≤ n ∧ n ≤ 16) (hr : 1 ≤ r ∧ r ≤ 100000) :
    Calls Try.prog 25 #[.int .i64 (n : Int), .int .i64 (r : Int)] w fun e w' => ∃ p F, e = .returned (.tuple #[.pointer (some ⟨p, 0, none⟩), .int .i64 0]) ∧ IsStore w' F p (Resend.new n r) ∧ (∀ b, F b → w.heap.size ≤ b) ∧ Below w.heap.size w w' := by
  have d1 : decide ((n : Int) < 1) = false := decide_eq_false (by omega)
  have d2 : decide ((16 : Int) < (n : Int)) = false := decide_eq_false (by omega)
  have d3 : decide ((r : Int) < 1) = false := decide_eq_false (by omega)
  have d4 : decide ((100000 : Int) < (r : Int)) = false := decide_eq_false (by omega)
  have HN := Lib.hid (And.intro hn hr)
  have hmm := @run_makeMap Try.prog
  clear hn hr
  go_enter Try.func25, Try.ntmps25
  go_wp2
  go_ret2
  have z1 : (w.alloc (.map #[] 0)).heap.size = w.heap.size + 1 := Array.size_push _
  refine ⟨w.heap.size + 1, fun b => b = w.heap.size ∨ b = w.heap.size + 1, rfl, ⟨w.heap.size, Non, [], ⟨Resend.Ok.new HN.out.1 HN.out.2, ?_, (MsgMap.nil w _ Non).below (grew_alloc _ _), rfl, fun b h => h.elim, by omega, .inr rfl, .inl rfl, fun b h => h.elim, fun b hb => ?_⟩⟩, fun b hb => by omega, grew (grew_alloc _ _) (grew_alloc _ _)⟩
  · have := Holds.new (w.alloc (.map #[] 0)) [.int .i64 (n : Int), .int .i64 (r : Int), .map (some w.heap.size)] 87
    rw [z1] at this
    exact this
  · have : ((w.alloc (.map #[] 0)).alloc (.cells #[.int .i64 (n : Int), .int .i64 (r : Int), .map (some w.heap.size)] 87)).heap.size = w.heap.size + 1 + 1 := by rw [← z1]; exact Array.size_push _
    rw [this]
    omega

def newOk (n r : Int) : Bool := decide (1 ≤ n) && decide (n ≤ 16) && decide (1 ≤ r) && decide (r ≤ 100000)
theorem resend_New_no (n r : Int) (w : World) (h : newOk n r = false) :
    Calls Try.prog 25 #[.int .i64 n, .int .i64 r] w fun e w' => e = .returned (.tuple #[.pointer none, .int .i64 1]) ∧ w = w' := by
  have HN : Hid (¬ (¬ n < 1 ∧ ¬ 16 < n ∧ ¬ r < 1 ∧ ¬ 100000 < r)) := Lib.hid (fun ⟨a, b, c, d⟩ => by simp [newOk] at h; omega)
  clear h
  have hn := HN.out
  clear HN
  by_cases h1 : n < 1
  · have d1 : decide (n < 1) = true := decide_eq_true h1
    clear hn h1
    go_enter Try.func25, Try.ntmps25
    go_wp2
    go_ret2
    exact ⟨rfl, rfl⟩
  · have d1 : decide (n < 1) = false := decide_eq_false h1
    by_cases h2 : 16 < n
    · have d2 : decide (16 < n) = true := decide_eq_true h2
      clear hn h1 h2
      go_enter Try.func25, Try.ntmps25
      go_wp2
      go_ret2
      exact ⟨rfl, rfl⟩
    · have d2 : decide (16 < n) = false := decide_eq_false h2
      by_cases h3 : r < 1
      · have d3 : decide (r < 1) = true := decide_eq_true h3
        clear hn h1 h2 h3
        go_enter Try.func25, Try.ntmps25
        go_wp2
        go_ret2
        exact ⟨rfl, rfl⟩
      · have d3 : decide (r < 1) = false := decide_eq_false h3
        have d4 : decide (100000 < r) = true := decide_eq_true (Classical.byContradiction fun h4 => hn ⟨h1, h2, h3, h4⟩)
        clear hn h1 h2 h3
        go_enter Try.func25, Try.ntmps25
        go_wp2
        go_ret2
        exact ⟨rfl, rfl⟩

theorem resend_Len {w : World} {F : Nat → Prop} {p : Nat} {s : Resend.St} (h : IsStore w F p s) :
    Calls Try.prog 46 #[.pointer (some ⟨p, 0, none⟩)] w fun e w' => e = .returned (.int .i64 (s.l.length : Int)) ∧ w = w' := by
  obtain ⟨mp, S, es, h⟩ := h
  have c2 := h.box.cell 2 (by simp)
  simp only [List.getElem_cons_succ, List.getElem_cons_zero] at c2
  have hlen := h.map.len ask_map
  have HL : Hid (es.length = s.l.length) := Lib.hid (by rw [← h.is]; simp)
  clear h
  go_enter Try.func46, Try.ntmps46
  go_wp2
  go_ret
  exact ⟨by rw [HL.out]; rfl, rfl⟩
theorem resend_Len_nil (w : World) :
    Calls Try.prog 46 #[.pointer none] w fun e w' => e = .returned (.int .i64 0) ∧ w = w' := by
  go_enter Try.func46, Try.ntmps46
  go_wp2
  go_ret
  exact ⟨rfl, rfl⟩
end Go.Proofs.Ytjklfjgdmklimaa
