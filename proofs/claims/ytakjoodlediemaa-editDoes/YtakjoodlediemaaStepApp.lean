/- Appends in regions that draw their order. -/
import Derived.Test.YtakjoodlediemaaKeep
import Derived.Deep.RegionLaw
import Derived.Deep.AppendLies
namespace Go.Proofs.Ytakjoodlediemaa
open Go.RowKit
set_option linter.unusedVariables false

/-- 's = append(s, ..)' in a region that draws its order, the new elements lying anywhere, be it none. -/
theorem step_append_form {w : World} {ops : Array Oper} {o : Oper} {a : Act} {K : Act → World → Prop} {Q : Exit → Act → World → Prop} {E : Prop} (hgd : o.guard = none) (s x : Operand) {t e : TypeId}
    (ho : o.op = .call { callee := .builtin .append, args := #[s, x], argTypes := #[t, t] }) (ht : Try.prog.underlying t = some (.slice e)) {z : Value} {size bytes : Nat}
    (hinf : (Try.prog.info? e).map (fun i => (i.zero, i.size, i.bytes)) = some (some z, size, bytes)) (hzs : z.cells.size = size) (hsz : 0 < size) (hby : bytes ≤ 1000)
    (v : Value) (n : Nat) (xs : List Value) (hs : a.eval s = v) (hown : Owns w e size v n xs)
    (ad : Addr) (m c : Nat) (news : List Value) (hx : a.eval x = .slice (some ad) m c) (hl : news.length = m * size) (hnews : ∀ j u, news[j]? = some u → w.cell? (ad.add j) = some u) (h1 : ∀ u ∈ news, u.oneCell' = true)
    (hlen : n + m ≤ 1000000000)
    (h : ∀ va cap w', Owns w' e size (.slice va (n + m) cap) (n + m) (xs ++ news) → Keep (At v) w w' → Near w v (.slice va (n + m) cap) → K (a.put o.dst (.slice va (n + m) cap)) w') :
    if Region.wanted o (yielded ops a.tmps) = true then Oper.wp Try.prog o a w K Q else E := by
  obtain ⟨i0, hi, hz0, hz1, hz2⟩ := info_parts hinf
  have hb : (n + m) * bytes ≤ 1000000000 * 1000 := Nat.mul_le_mul hlen hby
  obtain ⟨v', w', hr, k1, k2, _, k4⟩ := run_append_own_at (P := Try.prog) w 0 t o.type e i0 z size bytes ht hi hz0 hz1 hz2 hzs hsz v n xs hown ad m c news hl hnews h1 (by unfold maxLen; omega) (by omega) (Nat.zero_le _)
  have hw : Region.wanted o (yielded ops a.tmps) = true := by simp [Region.wanted, hgd]
  rw [if_pos hw]
  obtain ⟨va, cap, rfl⟩ : ∃ va cap, v' = .slice va (n + m) cap := by
    rcases k1.2 with ⟨e, h0⟩ | ⟨g, cap, cur, e, _⟩
    · exact ⟨none, 0, by rw [e, h0]⟩
    · exact ⟨_, cap, e⟩
  unfold Oper.wp execOp
  simp only [ho, resolve, invoke, builtin, Sem.run_bind, Sem.run_pure, Result.andThen_ok, List.map_toArray, List.map_cons, List.map_nil, hs, hx, hr]
  refine h va cap w' k1 ((Keep.of_grown k2).more (fun i _ hi => hi.symm)) (fun g hg => ?_)
  rcases k4 with k4 | k4
  · exact .inl (by rw [← k4]; exact hg)
  · rw [k4] at hg
    injection hg with hg
    exact .inr (by omega)

/-- The same, the new elements lying in a row just made for that. -/
theorem step_append_lit {w : World} {ops : Array Oper} {o : Oper} {a : Act} {K : Act → World → Prop} {Q : Exit → Act → World → Prop} {E : Prop} (hgd : o.guard = none) (s x : Operand) {t e : TypeId}
    (ho : o.op = .call { callee := .builtin .append, args := #[s, x], argTypes := #[t, t] }) (ht : Try.prog.underlying t = some (.slice e)) {z : Value} {size bytes : Nat}
    (hinf : (Try.prog.info? e).map (fun i => (i.zero, i.size, i.bytes)) = some (some z, size, bytes)) (hzs : z.cells.size = size) (hsz : 0 < size) (hby : bytes ≤ 1000)
    (v : Value) (n : Nat) (xs : List Value) (hs : a.eval s = v) (hown : Owns w e size v n xs)
    (m : Nat) (news : List Value) (cs : Array Value) (hcs : cs = news.toArray) (hx : a.eval x = .slice (some ⟨w.heap.size, 0, none⟩) m m) (hl : news.length = m * size) (h1 : ∀ u ∈ news, u.oneCell' = true)
    (hlen : n + m ≤ 1000000000)
    (h : ∀ va cap w', Owns w' e size (.slice va (n + m) cap) (n + m) (xs ++ news) → Keep (At v) w w' → Near w v (.slice va (n + m) cap) → K (a.put o.dst (.slice va (n + m) cap)) w') :
    if Region.wanted o (yielded ops a.tmps) = true then Oper.wp Try.prog o a (w.alloc (.cells cs e)).drew K Q else E := by
  subst hcs
  refine step_append_form hgd s x ho ht hinf hzs hsz hby v n xs hs ?_ ⟨w.heap.size, 0, none⟩ m m news hx hl ?_ h1 hlen ?_
  · exact World.ownsRow.drew (World.ownsRow.alloc hown _)
  · intro j u hu
    rw [show (⟨w.heap.size, 0, none⟩ : Addr).add j = ⟨w.heap.size, j, none⟩ from by unfold Addr.add; split <;> simp_all]
    show (w.alloc (.cells news.toArray e)).cell? _ = _
    rw [cell_of_row _ _ _ _ _ _ (heap_alloc_new _ _)]
    simpa using hu
  · intro va cap w' k1 k2 k3
    refine h va cap w' k1 (((Keep.alloc _ w _).trans (Keep.of_grew (grew_drew _) (At v)) (fun i _ hi => hi)).trans k2 (fun i _ hi => hi)) (fun g hg => ?_)
    rcases k3 g hg with k | k
    · exact .inl k
    · exact .inr (by simp at k; omega)

/-- The same in a world that was not drawn from since. -/
theorem step_append_lit0 {w : World} {ops : Array Oper} {o : Oper} {a : Act} {K : Act → World → Prop} {Q : Exit → Act → World → Prop} {E : Prop} (hgd : o.guard = none) (s x : Operand) {t e : TypeId}
    (ho : o.op = .call { callee := .builtin .append, args := #[s, x], argTypes := #[t, t] }) (ht : Try.prog.underlying t = some (.slice e)) {z : Value} {size bytes : Nat}
    (hinf : (Try.prog.info? e).map (fun i => (i.zero, i.size, i.bytes)) = some (some z, size, bytes)) (hzs : z.cells.size = size) (hsz : 0 < size) (hby : bytes ≤ 1000)
    (v : Value) (n : Nat) (xs : List Value) (hs : a.eval s = v) (hown : Owns w e size v n xs)
    (m : Nat) (news : List Value) (cs : Array Value) (hcs : cs = news.toArray) (hx : a.eval x = .slice (some ⟨w.heap.size, 0, none⟩) m m) (hl : news.length = m * size) (h1 : ∀ u ∈ news, u.oneCell' = true)
    (hlen : n + m ≤ 1000000000)
    (h : ∀ va cap w', Owns w' e size (.slice va (n + m) cap) (n + m) (xs ++ news) → Keep (At v) w w' → Near w v (.slice va (n + m) cap) → K (a.put o.dst (.slice va (n + m) cap)) w') :
    if Region.wanted o (yielded ops a.tmps) = true then Oper.wp Try.prog o a (w.alloc (.cells cs e)) K Q else E := by
  subst hcs
  refine step_append_form hgd s x ho ht hinf hzs hsz hby v n xs hs ?_ ⟨w.heap.size, 0, none⟩ m m news hx hl ?_ h1 hlen ?_
  · exact World.ownsRow.alloc hown _
  · intro j u hu
    rw [show (⟨w.heap.size, 0, none⟩ : Addr).add j = ⟨w.heap.size, j, none⟩ from by unfold Addr.add; split <;> simp_all]
    rw [cell_of_row _ _ _ _ _ _ (heap_alloc_new _ _)]
    simpa using hu
  · intro va cap w' k1 k2 k3
    refine h va cap w' k1 ((Keep.alloc _ w _).trans k2 (fun i _ hi => hi)) (fun g hg => ?_)
    rcases k3 g hg with k | k
    · exact .inl k
    · exact .inr (by simp at k; omega)
end Go.Proofs.Ytakjoodlediemaa
