/- A line's order, ranged over. -/
import Derived.Test.YtohmhbjiapflpaaWvBehind
namespace Go.Proofs.Ytohmhbjiapflpaa
open Go.RowKit Go.Shelf
attribute [local go_sem] Oper.semAt_some
set_option linter.unusedVariables false

theorem yield_deep {n n' : Nat} {P : Program} {l : Nat} {args : Array Value} {W : World} {R : Ending → World → Prop} (h : YieldAt Fence.wide n P l args W R) : YieldAt Fence.wide n' P l args W R := by
  obtain ⟨fn, tmps, assign, body, hy, hR⟩ := h
  exact ⟨fn, tmps, assign, body, hy, round_deep hR⟩

set_option maxRecDepth 100000 in
set_option maxHeartbeats 2000000 in
theorem order_deep {L : List Wel} (hOk : Weave.Ok L) {w0 : World} {p : Nat} (hR : LRead w0 p L) (m : Nat) :
    SeqDeep m Try.prog 57 #[.pointer (some ⟨p, 0, none⟩)] #[] (fun e : Wel => #[e.val]) (fun k => k < w0.heap.size) (Weave.elements L) w0 := by
  intro l X J Jx W G hb hJ hJx hLo hYG hXY hY h0
  have HC := Lib.hid (behind_in hOk hR l W.heap.size X J Jx (Weave.elements L) hJ hJx hLo (fun k h => ⟨(hXY k h).1, Nat.le_of_not_lt (hXY k h).2⟩) (fun m' pre e G W1 h1 h2 => yield_deep (hY pre e G W1 h1 h2)) L.length (0, 0) (Weave.cnt_le L _) (by unfold I64; decide) (by unfold I64; decide) (m - 1) [] W G hb (Nat.le_refl _) (fun k h => Nat.le_of_not_lt (fun h' => hYG k h' h)) (List.prefix_refl _) h0)
  refine callsIn_of_wp Try.func57 rfl trivial ?_ rfl
  simp only [Try.ntmps57, List.size_toArray, List.length_cons, List.length_nil, Nat.reduceAdd, Nat.reduceSub, Array.replicate_succ, Array.replicate_zero, List.push_toArray, List.append_toArray, List.nil_append, List.cons_append]
  dsimp only [idV] at HC
  clear h0 hY hJ hJx hLo
  gi_wp2
  refine ⟨trivial, fun h => (by cases h), ?_⟩
  refine HC.out.mono ?_
  rintro e W2 (⟨rfl, G2, k1, k2, k3⟩ | ⟨rfl, ys, G2, k0, k1, k2, k3⟩)
  · gi_wp2
    go_end0
    exact ⟨⟨_, rfl⟩, .inl ⟨G2, k1, k2, k3⟩⟩
  · gi_wp2
    go_end0
    exact ⟨⟨_, rfl⟩, .inr ⟨ys, G2, k0, k1, k2, k3⟩⟩
end Go.Proofs.Ytohmhbjiapflpaa
