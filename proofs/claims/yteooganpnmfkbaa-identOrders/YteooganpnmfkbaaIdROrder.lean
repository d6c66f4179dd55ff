/- The document's order of Ids. -/
import Derived.Test.YteooganpnmfkbaaIdRanks
namespace Go.Proofs.Yteooganpnmfkbaa
open Go.RowKit
set_option linter.unusedVariables false

theorem idCells_apps : ∀ (xs ys : List (Int × Int)), idCells (xs ++ ys) = idCells xs ++ idCells ys
  | [], _ => rfl
  | x :: xs, ys => by simp [idCells, idCells_apps xs ys]

theorem Idn.insert_order {ps os : List (Int × Int)} {x : Int × Int} (h : Idn.IsOrder ps os) (hx : x ∉ os) : Idn.IsOrder (ps ++ [x]) (os.take (Idn.rank os x) ++ ([x] ++ os.drop (Idn.rank os x))) := by
  have hlo : ∀ a ∈ os.take (Idn.rank os x), Idn.lt a x = true := fun a ha => by
    obtain ⟨i, hi, rfl⟩ := List.getElem_of_mem ha
    have h1 : i < Idn.rank os x ∧ i < os.length := by rw [List.length_take] at hi; omega
    rw [List.getElem_take, Idn.rank_at h.1 x i h1.2]
    exact decide_eq_true h1.1
  have hhi : ∀ b ∈ os.drop (Idn.rank os x), Idn.lt x b = true := fun b hb => by
    obtain ⟨i, hi, rfl⟩ := List.getElem_of_mem hb
    have hi' : Idn.rank os x + i < os.length := by rw [List.length_drop] at hi; omega
    rw [List.getElem_drop]
    have h1 := Idn.rank_at h.1 x _ hi'
    rw [decide_eq_false (by omega)] at h1
    have hne : os[Idn.rank os x + i] ≠ x := fun e => hx (by rw [← e]; exact List.getElem_mem hi')
    rcases Idn.lt_total hne with h2 | h2
    · rw [h1] at h2; cases h2
    · exact h2
  refine ⟨List.pairwise_append.2 ⟨h.1.sublist (List.take_sublist _ _), List.pairwise_append.2 ⟨List.pairwise_singleton _ _, h.1.sublist (List.drop_sublist _ _), fun a ha b hb => by rw [List.mem_singleton.1 ha]; exact hhi b hb⟩, fun a ha b hb => ?_⟩, fun y => ?_⟩
  · rcases List.mem_append.1 hb with hb | hb
    · rw [List.mem_singleton.1 hb]; exact hlo a ha
    · exact Idn.lt_trans (hlo a ha) (hhi b hb)
  · have hm : y ∈ os ↔ y ∈ os.take (Idn.rank os x) ∨ y ∈ os.drop (Idn.rank os x) := by
      rw [← List.mem_append, List.take_append_drop]
    simp only [List.mem_append, List.mem_singleton]
    rw [← h.2 y, hm]
    constructor
    · rintro (h | h | h)
      · exact .inl (.inl h)
      · exact .inr h
      · exact .inl (.inr h)
    · rintro ((h | h) | h)
      · exact .inl h
      · exact .inr (.inr h)
      · exact .inr (.inl h)
theorem Idn.again_order {ps os : List (Int × Int)} {x : Int × Int} (h : Idn.IsOrder ps os) (hx : x ∈ os) : Idn.IsOrder (ps ++ [x]) os :=
  ⟨h.1, fun y => by rw [h.2 y]; simp only [List.mem_append, List.mem_singleton]; exact ⟨.inl, fun hy => hy.elim id (fun e => by rw [e]; exact (h.2 x).1 hx)⟩⟩

/-- 'append(v, u...)' at Ids. -/
theorem wp_append_ids {ops : Array Oper} {rest : List Oper} {o : Oper} {a : Act} {w : World} {Q : Exit → Act → World → Prop} (hgd : o.guard = none) (s x : Operand)
    (ho : o.op = .call { callee := .builtin .append, args := #[s, x], argTypes := #[53, 53] })
    (v : Value) (xs : List (Int × Int)) (hs : a.eval s = v) (hown : Owns w 49 2 v xs.length (idCells xs)) (u : Value) (ys : List (Int × Int)) (hx : a.eval x = u) (hu : SliceG 2 idL w u ys) (hlen : xs.length + ys.length ≤ 1000000000)
    (h : ∀ v' w', Owns w' 49 2 v' (xs ++ ys).length (idCells (xs ++ ys)) → Keep (At v) w w' → Near w v v' → wpList Try.prog ops Q rest (a.put o.dst v') w') :
    wpList Try.prog ops Q (o :: rest) a w := by
  obtain ⟨ad, cap, rfl, hcap, hrow⟩ := hu
  cases ad with
  | none =>
    obtain rfl : ys = [] := by
      rcases hrow with h | ⟨b, off, h, _⟩
      · exact h
      · cases h
    obtain ⟨i0, hi, hz0, hz1, hz2⟩ := info_parts info_id
    refine wpList_plain hgd fun K hK => ?_
    have hr : (Builtin.append_ #[53, 53] o.type #[v, .slice none 0 cap]).run Try.prog w = .ok v w := by
      rcases hown.2 with ⟨rfl, _⟩ | ⟨g, cp, cur, rfl, _, _, hn, _⟩
      · simp [Builtin.append_, run_underlying Try.underlying53, sizeOf, typeInfo, hi, Builtin.lenOf, Builtin.firstCells]
      · simp [Builtin.append_, run_underlying Try.underlying53, sizeOf, typeInfo, hi, Builtin.lenOf, Builtin.firstCells, hn, storeCells]
    unfold Oper.wp execOp
    simp only [ho, resolve, invoke, builtin, Sem.run_bind, Sem.run_pure, Result.andThen_ok, List.map_toArray, List.map_cons, List.map_nil, hs, hx, List.length_nil, hr]
    exact hK _ _ (h _ w (by simpa using hown) (Keep.refl _ _) (fun g hg => .inl hg))
  | some ad =>
    refine wp_append_any hgd s x ho Try.underlying53 info_id rfl (by decide) (by decide) v xs.length (idCells xs) hs hown ad ys.length cap (idCells ys) hx (idCells_len ys) ?_ (idCells_one ys) hlen ?_
    · intro j u hu
      rcases hrow with rfl | ⟨b, off, e, hb, hc⟩
      · simp [idCells] at hu
      · injection e with e
        subst e
        have hj : j < ys.length * 2 := by have := (List.getElem?_eq_some_iff.1 hu).1; rwa [idCells_len] at this
        have e2 : (⟨b, off, none⟩ : Addr).add j = ⟨b, off + j, none⟩ := by simp [Addr.add]
        rw [e2]
        obtain ⟨k0, k1⟩ := idCells_at ys (j / 2) (by omega)
        have q0 := hc (j / 2) (by omega) 0 _ rfl
        have q1 := hc (j / 2) (by omega) 1 _ rfl
        rcases Nat.mod_two_eq_zero_or_one j with e | e
        · rw [show j / 2 * 2 = j from by omega] at k0 q0
          rw [hu] at k0
          rw [k0]; exact q0
        · rw [show j / 2 * 2 + 1 = j from by omega] at k1
          rw [show off + j / 2 * 2 + 1 = off + j from by omega] at q1
          rw [hu] at k1
          rw [k1]; exact q1
    · intro v' w' k1 k2 k3
      exact h v' w' (by rw [List.length_append, idCells_apps]; exact k1) k2 k3
end Go.Proofs.Yteooganpnmfkbaa
