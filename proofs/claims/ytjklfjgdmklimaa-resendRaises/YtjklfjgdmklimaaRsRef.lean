/- The reference's store in memory; what its New, Get come to. -/
import Derived.Test.YtjklfjgdmklimaaRsGet
import Derived.Test.YtjklfjgdmklimaaMesgCopy
import Derived.Test.YtjklfjgdmklimaaStepApp
namespace Go.Proofs.Ytjklfjgdmklimaa
open Go.RowKit Go.Maps
set_option linter.unusedVariables false

/-- The cells of messages, one behind the other. -/
def msgCells (xs : List (Mesg.Msg × Value)) : List Value := xs.flatMap fun q => msgL q.1 q.2
theorem msgL_len (m : Mesg.Msg) (v : Value) : (msgL m v).length = 10 := rfl
theorem msgCells_append (a b : List (Mesg.Msg × Value)) : msgCells (a ++ b) = msgCells a ++ msgCells b := by simp [msgCells]
theorem msgCells_len : ∀ l : List (Mesg.Msg × Value), (msgCells l).length = l.length * 10
  | [] => rfl
  | p :: l => by
    have := msgCells_len l
    simp [msgCells, msgL_len] at this ⊢
    omega
theorem msgCells_get {l : List (Mesg.Msg × Value)} {k j : Nat} (hk : k < l.length) (hj : j < 10) : (msgCells l)[k * 10 + j]? = (msgL l[k].1 l[k].2)[j]? := by
  induction l generalizing k with
  | nil => simp at hk
  | cons p l ih =>
    cases k with
    | zero =>
      have : j < (msgL p.1 p.2).length := by rw [msgL_len]; exact hj
      simp only [msgCells, List.flatMap_cons, Nat.zero_mul, Nat.zero_add, List.getElem_cons_zero]
      rw [List.getElem?_append_left this]
    | succ k =>
      have := ih (k := k) (by simpa using hk)
      have e1 : (k + 1) * 10 + j = 10 + (k * 10 + j) := by omega
      simp only [msgCells, List.flatMap_cons, List.getElem_cons_succ] at this ⊢
      rw [e1, List.getElem?_append_right (by rw [msgL_len]; omega), msgL_len, Nat.add_sub_cancel_left, this]
theorem msgL_one (m : Mesg.Msg) {v : Value} (hv : v.oneCell' = true) : ∀ u ∈ msgL m v, u.oneCell' = true := by
  intro u hu
  simp only [msgL, List.mem_cons, List.not_mem_nil, or_false] at hu
  rcases hu with rfl | rfl | rfl | rfl | rfl | rfl | rfl | rfl | rfl | rfl <;> first | exact hv | rfl

theorem info_msg : (Try.prog.info? 40).map (fun i => (i.zero, i.size, i.bytes)) = some (some (msgV Mesg.none (.slice none 0 0)), 10, 96) := by kernel_rfl

/-- A slice of messages of one's own. -/
def OwnM (w : World) (V : Value) (xs : List (Mesg.Msg × Value)) : Prop := Owns w 40 10 V xs.length (msgCells xs)
theorem OwnM.nil (w : World) : OwnM w (.slice none 0 0) [] := Owns.nil _ _ _
theorem OwnM.below {w w' : World} {V : Value} {l : List (Mesg.Msg × Value)} (h : OwnM w V l) (hb : Below w.heap.size w w') : OwnM w' V l := Owns.keep h (Keep.of_grew hb Non) (fun _ _ h => h)
theorem OwnM.form {w : World} {V : Value} {l : List (Mesg.Msg × Value)} (h : OwnM w V l) : ∃ a cap, V = .slice a l.length cap := by
  rcases h.2 with ⟨e, h0⟩ | ⟨g, cap, cur, e, _⟩
  · exact ⟨none, 0, by rw [e, h0]⟩
  · exact ⟨_, cap, e⟩
/-- The k-th message's cells. -/
theorem OwnM.at {w : World} {a : Option Addr} {cap : Nat} {l : List (Mesg.Msg × Value)} (h : OwnM w (.slice a l.length cap) l) {k : Nat} (hk : k < l.length) : ∃ b, a = some ⟨b, 0, none⟩ ∧ b < w.heap.size ∧ ∀ j u, (msgL l[k].1 l[k].2)[j]? = some u → w.cell? ⟨b, k * 10 + j, none⟩ = some u := by
  rcases h.2 with ⟨e, h0⟩ | ⟨g, cap', cur, e, _⟩
  · omega
  · injection e with e1 _ e3
    subst e1 e3
    refine ⟨g, rfl, Owns.lt h rfl, fun j u hu => ?_⟩
    have hj : j < 10 := by
      have := (List.getElem?_eq_some_iff.1 hu).1
      rw [msgL_len] at this; exact this
    rw [World.ownsRow.cellAt h (k * 10 + j) (by omega), msgCells_get hk hj, hu]

theorem SliceI.block_lt {w : World} {v : Value} {zs : List Int} (h : SliceI w v zs) (h1 : 1 ≤ zs.length) {g : Nat} (hg : v.ownBlock = some g) : g < w.heap.size := by
  obtain ⟨a, cap, rfl, _, h⟩ := h
  rcases h with h | ⟨b, off, rfl, hlt, _⟩
  · rw [h] at h1; simp at h1
  · have : b = g := Option.some.inj hg
    omega

end Go.Proofs.Ytjklfjgdmklimaa