/- Runes that are typed and rubbed out again, plainly; numbers appended. -/
import Derived.Test.YtckpidhcccnifaaEdLaw
namespace Go.Proofs.Ytckpidhcccnifaa
open Go.RowKit
set_option linter.unusedVariables false

/-- 'append(v, u...)' at numbers, whatever u is. -/
theorem wp_append_row {ops : Array Oper} {rest : List Oper} {o : Oper} {a : Go.Act} {w : World} {Q : Exit → Go.Act → World → Prop} (hgd : o.guard = none) (s x : Operand)
    (ho : o.op = .call { callee := .builtin .append, args := #[s, x], argTypes := #[22, 22] })
    (v : Value) (xs : List Int) (hs : a.eval s = v) (hown : OwnI w v xs) (u : Value) (ys : List Int) (hx : a.eval x = u) (hu : SliceI w u ys) (hlen : xs.length + ys.length ≤ 1000000000)
    (h : ∀ v' w', OwnI w' v' (xs ++ ys) → Keep (At v) w w' → Near w v v' → wpList Try.prog ops Q rest (a.put o.dst v') w') :
    wpList Try.prog ops Q (o :: rest) a w := by
  obtain ⟨ad, cap, rfl, hcap, hrow⟩ := hu
  cases ad with
  | none =>
    obtain rfl : ys = [] := by
      rcases hrow with h | ⟨b, off, h, _⟩
      · exact h
      · cases h
    obtain ⟨i0, hi, hz0, hz1, hz2⟩ := info_parts info_i64
    refine wpList_plain hgd fun K hK => ?_
    have hr : (Builtin.append_ #[22, 22] o.type #[v, .slice none 0 cap]).run Try.prog w = .ok v w := by
      rcases hown.2 with ⟨rfl, _⟩ | ⟨g, cp, cur, rfl, _, _, hn, _⟩
      · simp [Builtin.append_, run_underlying Try.underlying22, sizeOf, typeInfo, hi, Builtin.lenOf, Builtin.firstCells]
      · simp [Builtin.append_, run_underlying Try.underlying22, sizeOf, typeInfo, hi, Builtin.lenOf, Builtin.firstCells, hn, storeCells]
    unfold Oper.wp execOp
    simp only [ho, resolve, invoke, builtin, Sem.run_bind, Sem.run_pure, Result.andThen_ok, List.map_toArray, List.map_cons, List.map_nil, hs, hx, List.length_nil, hr]
    exact hK _ _ (h _ w (by simpa using hown) (Keep.refl _ _) (fun g hg => .inl hg))
  | some ad =>
    refine wp_append_any hgd s x ho Try.underlying22 info_i64 rfl (by decide) (by decide) v xs.length (intCells xs) hs hown ad ys.length cap (intCells ys) hx (by rw [intCells_len, Nat.mul_one]) ?_ (intCells_one ys) hlen ?_
    · rcases hrow with rfl | ⟨b, off, e, hb, hcells⟩
      · intro j u hu; simp [intCells] at hu
      · injection e with e
        subst e
        exact cells_news hcells
    · intro v' w' k1 k2 k3
      refine h v' w' ?_ k2 k3
      unfold OwnI
      rw [List.length_append]
      have e : intCells (xs ++ ys) = intCells xs ++ intCells ys := by simp [intCells]
      rw [e]
      exact k1

namespace Ed
/-- One rune is typed. -/
theorem typed_one {A B : List Int} {kl : List Int} {r : Int} (hr : Mesg.rune r = true) (hl : A.length + B.length < 1000) :
    behind (A ++ B) (A.length : Int) kl 1 r = (A ++ [r]) ++ B ∧ (turned (A ++ B) (A.length : Int) kl 1 r).at' = A.length + 1 ∧ (turned (A ++ B) (A.length : Int) kl 1 r).kill = kl := by
  have hc : caret (A ++ B) (A.length : Int) = A.length := by unfold caret; rw [List.length_append]; omega
  have ht : turned (A ++ B) (A.length : Int) kl 1 r = (put (begun (A ++ B) (A.length : Int) kl r) r).1 := rfl
  have hp : put (begun (A ++ B) (A.length : Int) kl r) r = ({ begun (A ++ B) (A.length : Int) kl r with acts := [⟨1, (A.length : Nat), r⟩], at' := A.length + 1, long := (A ++ B).length + 1 }, true) := by
    unfold put
    rw [if_pos ⟨hr, by simp only [begun]; rw [List.length_append]; omega⟩]
    simp only [begun, hc, List.nil_append]
  unfold behind
  rw [ht, hp]
  refine ⟨?_, rfl, rfl⟩
  simp only
  have h1 : apply (A ++ B) [⟨1, (A.length : Nat), r⟩] = some (A ++ r :: B) := by
    simp only [apply]
    rw [one_put r (by rw [List.length_append]; omega)]
    simp
  rw [h1, Option.getD_some]
  simp
/-- One is rubbed out. -/
theorem rubbed_one {A B : List Int} {kl : List Int} {r : Int} :
    behind (A ++ [r] ++ B) ((A.length + 1 : Nat) : Int) kl 2 104 = A ++ B ∧ (turned (A ++ [r] ++ B) ((A.length + 1 : Nat) : Int) kl 2 104).at' = A.length ∧ (turned (A ++ [r] ++ B) ((A.length + 1 : Nat) : Int) kl 2 104).kill = kl := by
  have hc : caret (A ++ [r] ++ B) ((A.length + 1 : Nat) : Int) = A.length + 1 := by unfold caret; rw [List.length_append, List.length_append, List.length_singleton]; omega
  have ht : turned (A ++ [r] ++ B) ((A.length + 1 : Nat) : Int) kl 2 104 = cut (begun (A ++ [r] ++ B) ((A.length + 1 : Nat) : Int) kl 104) (caret (A ++ [r] ++ B) ((caret (A ++ [r] ++ B) ((A.length + 1 : Nat) : Int) : Nat) - 1)) (caret (A ++ [r] ++ B) ((A.length + 1 : Nat) : Int)) := rfl
  have hc2 : caret (A ++ [r] ++ B) (((A.length + 1 : Nat) : Int) - 1) = A.length := by unfold caret; rw [List.length_append, List.length_append, List.length_singleton]; omega
  rw [hc, hc2] at ht
  unfold behind
  rw [ht]
  refine ⟨?_, rfl, rfl⟩
  have h0 := cut_apply (t := begun (A ++ [r] ++ B) ((A.length + 1 : Nat) : Int) kl 104) (a := A.length) (b := A.length + 1) rfl (by omega) (by simp only [begun]; rw [List.length_append, List.length_append, List.length_singleton]; omega)
  have h1 : apply (A ++ [r] ++ B) (cut (begun (A ++ [r] ++ B) ((A.length + 1 : Nat) : Int) kl 104) A.length (A.length + 1)).acts = some ((A ++ [r] ++ B).take A.length ++ (A ++ [r] ++ B).drop (A.length + 1)) := h0
  rw [h1, Option.getD_some]
  have e1 : (A ++ [r] ++ B).take A.length = A := by simp
  have e2 : (A ++ [r] ++ B).drop (A.length + 1) = B := by
    rw [List.drop_append_of_le_length (by simp), List.drop_eq_nil_of_le (by simp), List.nil_append]
  rw [e1, e2]
end Ed
end Go.Proofs.Ytckpidhcccnifaa
