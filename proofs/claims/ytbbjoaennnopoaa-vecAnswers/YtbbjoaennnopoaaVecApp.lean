/- 'append' of a slice of one name to one of another: as if they had the same name. -/
import Derived.Test.YtbbjoaennnopoaaVecMake
namespace Go.Proofs.Ytbbjoaennnopoaa
open Go.RowKit
set_option linter.unusedVariables false

theorem append_types {P : Program} {t u e e' ty : TypeId} {s x : Value} {w : World} {i0 : TypeInfo} (hi : P.info? e = some i0) (ht : P.underlying t = some (.slice e)) (hu : P.underlying u = some (.slice e')) :
    (Builtin.append_ #[t, u] ty #[s, x]).run P w = (Builtin.append_ #[t, t] ty #[s, x]).run P w := by
  cases s <;> simp [Builtin.append_, run_underlying ht, run_underlying hu, sizeOf, typeInfo, hi]

/-- 's = append(s, ..)' at two names of the type, the new elements lying anywhere. -/
theorem wp_append_two {ops : Array Oper} {rest : List Oper} {o : Oper} {a : Act} {w : World} {Q : Exit → Act → World → Prop} (hgd : o.guard = none) (s x : Operand) {t u e e' : TypeId}
    (ho : o.op = .call { callee := .builtin .append, args := #[s, x], argTypes := #[t, u] }) (ht : Try.prog.underlying t = some (.slice e)) (hu : Try.prog.underlying u = some (.slice e')) {z : Value} {size bytes : Nat}
    (hinf : (Try.prog.info? e).map (fun i => (i.zero, i.size, i.bytes)) = some (some z, size, bytes)) (hzs : z.cells.size = size) (hsz : 0 < size) (hby : bytes ≤ 1000)
    (v : Value) (n : Nat) (xs : List Value) (hs : a.eval s = v) (hown : Owns w e size v n xs)
    (ad : Addr) (m c : Nat) (news : List Value) (hx : a.eval x = .slice (some ad) m c) (hl : news.length = m * size) (hnews : ∀ j u, news[j]? = some u → w.cell? (ad.add j) = some u) (h1 : ∀ u ∈ news, u.oneCell' = true)
    (hlen : n + m ≤ 1000000000)
    (h : ∀ v' w', Owns w' e size v' (n + m) (xs ++ news) → Keep (At v) w w' → Near w v v' → wpList Try.prog ops Q rest (a.put o.dst v') w') :
    wpList Try.prog ops Q (o :: rest) a w := by
  obtain ⟨i0, hi, hz0, hz1, hz2⟩ := info_parts hinf
  have hby2 : (n + m) * bytes ≤ 140737488355328 := by
    have : (n + m) * bytes ≤ 1000000000 * 1000 := Nat.mul_le_mul hlen hby
    omega
  refine wpList_plain hgd fun K hK => ?_
  obtain ⟨v', w', hr, h2, h3, h4, h5⟩ := run_append_own_at (P := Try.prog) w 0 t o.type e i0 z size bytes ht hi hz0 hz1 hz2 hzs hsz v n xs hown ad m c news hl hnews h1 (by unfold maxLen; omega) hby2 (Nat.zero_le _)
  unfold Oper.wp execOp
  simp only [ho, resolve, invoke, builtin, Sem.run_bind, Sem.run_pure, Result.andThen_ok, List.map_toArray, List.map_cons, List.map_nil, hs, hx, append_types hi ht hu, hr]
  refine hK _ _ (h v' w' h2 ((Keep.of_grown h3).more (fun i _ hi => hi.symm)) (fun g hg => ?_))
  rcases h5 with k4 | k4
  · exact .inl (by rw [← k4]; exact hg)
  · rw [k4] at hg
    injection hg with hg
    exact .inr (by omega)

/-- Nothing is put to nothing. -/
theorem run_append_none {t u e e' ty : TypeId} {a : Option Addr} {cap : Nat} {w : World} (ht : Try.prog.underlying t = some (.slice e)) (hu : Try.prog.underlying u = some (.slice e')) {z : Value} {size bytes : Nat}
    (hinf : (Try.prog.info? e).map (fun i => (i.zero, i.size, i.bytes)) = some (some z, size, bytes)) :
    (Builtin.append_ #[t, u] ty #[.slice none 0 0, .slice a 0 cap]).run Try.prog w = .ok (.slice none 0 0) w := by
  obtain ⟨i0, hi, hz0, hz1, hz2⟩ := info_parts hinf
  rw [append_types hi ht hu]
  cases a <;> simp [Builtin.append_, run_underlying ht, sizeOf, typeInfo, hi, Builtin.lenOf, Builtin.firstCells, loadCells, loadCellsFrom]

/-- 'append(nil, v...)': a Vec of its own with the same numbers. -/
theorem wp_append_copy {ops : Array Oper} {rest : List Oper} {o : Oper} {a : Act} {w : World} {Q : Exit → Act → World → Prop} (hgd : o.guard = none) (s x : Operand) {t u e' : TypeId}
    (ho : o.op = .call { callee := .builtin .append, args := #[s, x], argTypes := #[t, u] }) (ht : Try.prog.underlying t = some (.slice 3)) (hu : Try.prog.underlying u = some (.slice e'))
    (hs : a.eval s = .slice none 0 0) (v : Value) (zs : List Int) (hx : a.eval x = v) (hv : SliceI w v zs) (hlen : zs.length ≤ 1000000)
    (h : ∀ v' w', SliceI w' v' zs → Below w.heap.size w w' → wpList Try.prog ops Q rest (a.put o.dst v') w') :
    wpList Try.prog ops Q (o :: rest) a w := by
  obtain ⟨ad, cap, rfl, hcap, hrow⟩ := hv
  rcases hrow with rfl | ⟨b, off, rfl, hb, hcells⟩
  · refine wpList_plain hgd fun K hK => ?_
    have hr := run_append_none (ty := o.type) (a := ad) (cap := cap) (w := w) ht hu info_i64
    unfold Oper.wp execOp
    simp only [ho, resolve, invoke, builtin, Sem.run_bind, Sem.run_pure, Result.andThen_ok, List.map_toArray, List.map_cons, List.map_nil, hs, hx, List.length_nil, hr]
    exact hK _ _ (h _ _ (SliceI.none _) (Below.refl _ _))
  · refine wp_append_two hgd s x ho ht hu info_i64 rfl (by decide) (by decide) _ 0 [] hs (Owns.nil _ _ _) ⟨b, off, none⟩ zs.length cap (intCells zs) hx (by rw [intCells_len, Nat.mul_one]) (cells_news hcells) (intCells_one zs) (by omega) ?_
    intro v' w' k1 k2 k3
    refine h v' w' (OwnI.slice (l := zs) (by unfold OwnI; rw [Nat.zero_add, List.nil_append] at k1; exact k1)) (k2.fresh fun i _ hi => ?_)
    have q' : (none : Option Nat) = some i := hi
    cases q'
end Go.Proofs.Ytbbjoaennnopoaa
