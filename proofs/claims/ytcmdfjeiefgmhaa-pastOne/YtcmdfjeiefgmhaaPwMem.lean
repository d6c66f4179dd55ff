/- Where everybody's caret is: in memory. -/
import Derived.Test.YtcmdfjeiefgmhaaThings
import Derived.Test.YtcmdfjeiefgmhaaPwMath
import Derived.Test.YtcmdfjeiefgmhaaMesgCheck3
import Derived.Test.YtcmdfjeiefgmhaaArrays
namespace Go.Proofs.Ytcmdfjeiefgmhaa
open Go.RowKit Carets
set_option linter.unusedVariables false

def carL (c : Car) : List Value := [.int .i64 c.seq, .int .i64 c.epoch, .int .i64 c.ref.1, .int .i64 c.ref.2]
theorem carL_len (c : Car) : (carL c).length = 4 := rfl
def carsL : List Car → List Value
  | [] => []
  | c :: l => carL c ++ carsL l
theorem carsL_app : ∀ (a b : List Car), carsL (a ++ b) = carsL a ++ carsL b
  | [], _ => rfl
  | c :: a, b => by simp [carsL, carsL_app a b]
theorem carsL_len : ∀ (l : List Car), (carsL l).length = l.length * 4
  | [] => rfl
  | c :: l => by simp [carsL, carsL_len l, carL]; omega
theorem carsL_at : ∀ (l : List Car) (i : Nat) (h : i < l.length) (j : Nat) (u : Value), (carL l[i])[j]? = some u → (carsL l)[i * 4 + j]? = some u
  | c :: l, 0, h, j, u, hu => by
    have hj : j < (carL c).length := (List.getElem?_eq_some_iff.1 hu).1
    rw [carsL, Nat.zero_mul, Nat.zero_add, List.getElem?_append_left hj]
    exact hu
  | c :: l, i + 1, h, j, u, hu => by
    have := carsL_at l i (by simpa using h) j u hu
    rw [carsL, show (i + 1) * 4 + j = (carL c).length + (i * 4 + j) from by rw [carL_len]; omega, List.getElem?_append_right (Nat.le_add_right _ _), Nat.add_sub_cancel_left]
    exact this
theorem carsL_cut : ∀ (l : List Car) (i : Nat) (h : i < l.length), ((carsL l).drop (i * 4)).take 4 = carL l[i]
  | c :: l, 0, h => by
    rw [carsL, Nat.zero_mul, List.drop_zero, List.take_left' (carL_len c)]
    rfl
  | c :: l, i + 1, h => by
    have := carsL_cut l i (by simpa using h)
    rw [carsL, show (i + 1) * 4 = 4 + i * 4 from by omega, ← List.drop_drop, List.drop_left' (carL_len c)]
    exact this
/-- Four cells put in the place of four. -/
theorem carsL_set (l : List Car) (i : Nat) (h : i < l.length) (c : Car) (pre : List Value) :
    ((((pre ++ carsL l).set (pre.length + i * 4) (.int .i64 c.seq)).set (pre.length + i * 4 + 1) (.int .i64 c.epoch)).set (pre.length + i * 4 + 2) (.int .i64 c.ref.1)).set (pre.length + i * 4 + 3) (.int .i64 c.ref.2) = pre ++ carsL (l.set i c) := by
  have e : l = l.take i ++ l[i] :: l.drop (i + 1) := by
    conv => lhs; rw [← List.take_append_drop i l]
    rw [List.drop_eq_getElem_cons h]
  have hl : (l.take i).length = i := by rw [List.length_take]; omega
  have e2 : l.set i c = l.take i ++ c :: l.drop (i + 1) := List.set_eq_take_append_cons_drop.trans (by rw [if_pos h])
  rw [e2, carsL_app]
  conv => lhs; rw [e, carsL_app]
  have hp : (pre ++ carsL (l.take i)).length = pre.length + i * 4 := by rw [List.length_append, carsL_len, hl]
  rw [← List.append_assoc, ← List.append_assoc]
  generalize pre ++ carsL (l.take i) = A at hp ⊢
  rw [carsL, carsL]
  simp only [carL, List.cons_append, List.nil_append]
  rw [← hp]
  generalize carsL (l.drop (i + 1)) = B
  have s0 : ∀ (x y : Value) (R : List Value), (A ++ x :: R).set A.length y = A ++ y :: R := fun x y R => by simp
  have s1 : ∀ (a x y : Value) (R : List Value), (A ++ a :: x :: R).set (A.length + 1) y = A ++ a :: y :: R := fun a x y R => by simp
  have s2 : ∀ (a b x y : Value) (R : List Value), (A ++ a :: b :: x :: R).set (A.length + 2) y = A ++ a :: b :: y :: R := fun a b x y R => by simp
  have s3 : ∀ (a b d x y : Value) (R : List Value), (A ++ a :: b :: d :: x :: R).set (A.length + 3) y = A ++ a :: b :: d :: y :: R := fun a b d x y R => by simp
  rw [s0, s1, s2, s3]

/-- The code's, at p. -/
def WhereV (p : Nat) (L : List Car) : Th := fun w F => Holds w p (.int .i64 (L.length : Int) :: carsL (full L)) 127 ∧ (1 ≤ L.length ∧ L.length ≤ 16) ∧ ∀ k, F k ↔ k = p
theorem WhereV.good (p : Nat) (L : List Car) : Good (WhereV p L) := by
  refine ⟨fun ⟨h1, _, h3⟩ hk => ?_, fun ⟨h1, h2, h3⟩ hk hn => ⟨h1.keep hk (hn p ((h3 p).2 rfl)), h2, h3⟩⟩
  rw [(h3 _).1 hk]
  exact h1.lt
theorem WhereV.cell {p : Nat} {L : List Car} {w : World} {F : Nat → Prop} (h : WhereV p L w F) {i : Nat} (hi : i < 16) :
    w.cell? ⟨p, 1 + i * 4, none⟩ = some (.int .i64 (carAt L i).seq) ∧ w.cell? ⟨p, 1 + i * 4 + 1, none⟩ = some (.int .i64 (carAt L i).epoch) ∧ w.cell? ⟨p, 1 + i * 4 + 2, none⟩ = some (.int .i64 (carAt L i).ref.1) ∧ w.cell? ⟨p, 1 + i * 4 + 3, none⟩ = some (.int .i64 (carAt L i).ref.2) := by
  obtain ⟨h1, h2, h3⟩ := h
  have hl : i < (full L).length := by rw [full_len h2.2]; exact hi
  have hat : ∀ j u, (carL (carAt L i))[j]? = some u → w.cell? ⟨p, 1 + i * 4 + j, none⟩ = some u := fun j u hu => by
    rw [← full_at hl] at hu
    have := carsL_at (full L) i hl j u hu
    rw [cell_of_row _ _ _ _ _ _ h1]
    rw [show 1 + i * 4 + j = (i * 4 + j) + 1 from by omega]
    simpa using this
  exact ⟨hat 0 _ rfl, hat 1 _ rfl, hat 2 _ rfl, hat 3 _ rfl⟩
theorem WhereV.head {p : Nat} {L : List Car} {w : World} {F : Nat → Prop} (h : WhereV p L w F) : w.cell? ⟨p, 0, none⟩ = some (.int .i64 (L.length : Int)) := h.1.cell 0 (by simp)
theorem WhereV.set {p : Nat} {L : List Car} {w : World} {F : Nat → Prop} (h : WhereV p L w F) {i : Nat} (hi : i < L.length) (c : Car) :
    TStep (WhereV p (L.set i c)) w F ((((w.setCell ⟨p, 1 + i * 4, none⟩ (.int .i64 c.seq)).setCell ⟨p, 1 + i * 4 + 1, none⟩ (.int .i64 c.epoch)).setCell ⟨p, 1 + i * 4 + 2, none⟩ (.int .i64 c.ref.1)).setCell ⟨p, 1 + i * 4 + 3, none⟩ (.int .i64 c.ref.2)) := by
  obtain ⟨h1, h2, h3⟩ := h
  have hfl := full_len h2.2
  have hlen : (Value.int .i64 (L.length : Int) :: carsL (full L)).length = 65 := by rw [List.length_cons, carsL_len, hfl]
  have g0 := h1.set (1 + i * 4) (.int .i64 c.seq) (by rw [hlen]; omega)
  have g1 := g0.set (1 + i * 4 + 1) (.int .i64 c.epoch) (by rw [List.length_set, hlen]; omega)
  have g2 := g1.set (1 + i * 4 + 2) (.int .i64 c.ref.1) (by rw [List.length_set, List.length_set, hlen]; omega)
  have g3 := g2.set (1 + i * 4 + 3) (.int .i64 c.ref.2) (by rw [List.length_set, List.length_set, List.length_set, hlen]; omega)
  have e := carsL_set (full L) i (by rw [hfl]; omega) c [.int .i64 (L.length : Int)]
  simp only [List.length_cons, List.length_nil, List.cons_append, List.nil_append, Nat.zero_add] at e
  rw [e, ← full_set L i hi c] at g3
  refine ⟨F, ⟨by rw [List.length_set]; exact g3, by rw [List.length_set]; exact h2, h3⟩, ?_, fun k hk => .inl hk⟩
  have hF : ∀ k, Just p k → F k := fun k hk => (h3 k).2 hk
  have t := (((Keep.setCell w p (1 + i * 4) (.int .i64 c.seq)).trans (Keep.setCell _ p (1 + i * 4 + 1) (.int .i64 c.epoch)) (fun _ _ h => h)).trans (Keep.setCell _ p (1 + i * 4 + 2) (.int .i64 c.ref.1)) (fun _ _ h => h)).trans (Keep.setCell _ p (1 + i * 4 + 3) (.int .i64 c.ref.2)) (fun _ _ h => h)
  exact t.more (fun k _ hk => hF k hk)
/-- The reference's, at q. -/
def RWhereV (q : Nat) (L : List Car) : Th := fun w F => ∃ g, Holds w q [.slice (some ⟨g, 0, none⟩) L.length L.length] 130 ∧ Holds w g (carsL L) 132 ∧ (1 ≤ L.length ∧ L.length ≤ 16) ∧ ∀ k, F k ↔ k = q ∨ k = g
theorem RWhereV.good (q : Nat) (L : List Car) : Good (RWhereV q L) := by
  refine ⟨fun ⟨g, h1, h2, _, h4⟩ hk => ?_, fun ⟨g, h1, h2, h3, h4⟩ hk hn => ⟨g, h1.keep hk (hn q ((h4 q).2 (.inl rfl))), h2.keep hk (hn g ((h4 g).2 (.inr rfl))), h3, h4⟩⟩
  rcases (h4 _).1 hk with rfl | rfl
  · exact h1.lt
  · exact h2.lt
end Go.Proofs.Ytcmdfjeiefgmhaa
