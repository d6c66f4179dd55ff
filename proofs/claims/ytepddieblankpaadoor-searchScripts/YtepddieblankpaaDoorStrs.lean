/- Slices of texts: what they hold, appended to. -/
import Derived.Test.YtepddieblankpaaDoorKeep
namespace Go.Proofs.YtepddieblankpaaDoor
open Go.RowKit
set_option linter.unusedVariables false

/-- Which blocks a thing may have come to lie in. -/
def NearS (a : World) (S S' : Nat → Prop) : Prop := ∀ k, S' k → S k ∨ a.heap.size ≤ k
theorem NearS.refl (a : World) (S : Nat → Prop) : NearS a S S := fun _ h => .inl h
theorem keepS {a b c : World} {S S1 S2 : Nat → Prop} (h1 : Keep S a b) (n1 : NearS a S S1) (h2 : Keep S1 b c) (n2 : NearS b S1 S2) : Keep S a c ∧ NearS a S S2 := by
  refine ⟨h1.trans h2 (fun i hi h => ?_), fun g hg => ?_⟩
  · rcases n1 i h with k | k
    · exact k
    · omega
  · rcases n2 g hg with k | k
    · exact n1 g k
    · exact .inr (Nat.le_trans h1.size k)

theorem info_str : (Tryd.prog.info? 9).map (fun i => (i.zero, i.size, i.bytes)) = some (some (.string ⟨#[]⟩), 1, 16) := by kernel_rfl

/-- The slice v has a row of its own, that holds the texts ts. -/
def OwnS (w : World) (v : Value) (ts : List ByteArray) : Prop := Owns w 9 1 v ts.length (ts.map Value.string)
theorem OwnS.nil (w : World) : OwnS w (.slice none 0 0) [] := Owns.nil _ _ _
theorem OwnS.keep {S : Nat → Prop} {a b : World} {v : Value} {ts : List ByteArray} (ho : OwnS a v ts) (h : Keep S a b) (hn : ∀ g, v.ownBlock = some g → ¬ S g) : OwnS b v ts := Owns.keep ho h hn
theorem OwnS.below {w w' : World} {v : Value} {ts : List ByteArray} (h : OwnS w v ts) (hb : Below w.heap.size w w') : OwnS w' v ts := Owns.keep h (Keep.of_grew hb Non) (fun _ _ h => h)
theorem OwnS.form {w : World} {v : Value} {ts : List ByteArray} (h : OwnS w v ts) : ∃ a cap, v = .slice a ts.length cap := by
  rcases h.2 with ⟨rfl, h0⟩ | ⟨g, cap, cur, rfl, _⟩
  · exact ⟨none, 0, by rw [h0]⟩
  · exact ⟨_, cap, rfl⟩

/-- The slice v holds the texts ts. -/
def SliceS (w : World) (v : Value) (ts : List ByteArray) : Prop :=
  ∃ a cap, v = .slice a ts.length cap ∧ ts.length ≤ cap ∧ (ts = [] ∨ ∃ b off, a = some ⟨b, off, none⟩ ∧ b < w.heap.size ∧ ∀ i (h : i < ts.length), w.cell? ⟨b, off + i, none⟩ = some (.string ts[i]))
theorem SliceS.none (w : World) : SliceS w (.slice none 0 0) [] := ⟨Option.none, 0, rfl, by simp, .inl rfl⟩
theorem SliceS.below {w w' : World} {v : Value} {ts : List ByteArray} (h : SliceS w v ts) (hb : Below w.heap.size w w') : SliceS w' v ts := by
  obtain ⟨a, cap, hv, hc, h⟩ := h
  refine ⟨a, cap, hv, hc, ?_⟩
  rcases h with h | ⟨b, off, ha, hlt, hcell⟩
  · exact .inl h
  · exact .inr ⟨b, off, ha, Nat.lt_of_lt_of_le hlt hb.size, fun i hi => by rw [hb.cell (p := ⟨b, off + i, Option.none⟩) hlt]; exact hcell i hi⟩
theorem SliceS.blow {B : Nat} {w w' : World} {v : Value} {ts : List ByteArray} (h : SliceS w v ts) (hw : w.heap.size ≤ B) (hb : Below B w w') : SliceS w' v ts := h.below (hb.mono hw)
theorem OwnS.slice {w : World} {v : Value} {ts : List ByteArray} (h : OwnS w v ts) : SliceS w v ts := by
  rcases h.2 with ⟨rfl, h0⟩ | ⟨g, cap, cur, rfl, hb, hg, hn, hm, hc, ht⟩
  · have : ts = [] := List.eq_nil_of_length_eq_zero h0
    subst this
    exact SliceS.none w
  · refine ⟨_, cap, rfl, hn, .inr ⟨g, 0, rfl, (Array.getElem?_eq_some_iff.1 hg).1, fun i hi => ?_⟩⟩
    have := World.ownsRow.cells h (g := g) rfl i (.string ts[i]) (by simp [List.getElem?_eq_getElem hi])
    rw [show (⟨g, 0, Option.none⟩ : Addr).add i = ⟨g, 0 + i, Option.none⟩ from by unfold Addr.add; split <;> simp_all] at this
    exact this

/-- A slice of texts that came in: nil; or a row of 'cap' cells that hold the texts ss, the first 'len' of them its elements. -/
def IsStrs (w : World) (a : Option Addr) (len cap : Nat) (ss : List ByteArray) : Prop :=
  (a = none ∧ len = 0 ∧ cap = 0 ∧ ss = []) ∨
  ∃ x, a = some x ∧ len ≤ cap ∧ cap ≤ maxLen ∧ ss.length = cap ∧ (∀ i, i < ss.length → w.cell? (x.add i) = some (.string (ss.getD i ByteArray.empty))) ∧ ∀ s ∈ ss, s.size ≤ maxLen

theorem IsStrs.slice {w : World} {a : Option Addr} {len cap : Nat} {ss : List ByteArray} (h : IsStrs w a len cap ss) :
    ∃ ts : List ByteArray, SliceS w (.slice a len cap) ts ∧ ts.length ≤ maxLen ∧ ∀ t ∈ ts, t.size ≤ maxLen := by
  rcases h with ⟨rfl, rfl, rfl, rfl⟩ | ⟨x, rfl, hl, hm, hz, hcell, hwf⟩
  · exact ⟨[], SliceS.none w, by simp, by simp⟩
  · have hlen : (ss.take len).length = len := by rw [List.length_take]; omega
    refine ⟨ss.take len, ⟨some x, cap, by rw [hlen], by omega, ?_⟩, by omega, fun n hn => hwf n (List.mem_of_mem_take hn)⟩
    by_cases h0 : len = 0
    · subst h0; exact .inl (by simp)
    · obtain ⟨b, off, spot⟩ := x
      have hc := hcell 0 (by omega)
      have hspot : spot = Option.none := by simpa [Addr.add] using World.cell?_spot hc
      subst hspot
      have hplain : ∀ i, (⟨b, off, Option.none⟩ : Addr).add i = ⟨b, off + i, Option.none⟩ := fun i => by unfold Addr.add; split <;> simp_all
      refine .inr ⟨b, off, rfl, ?_, fun i hi => ?_⟩
      · rw [hplain] at hc
        exact block_lt_of_cell hc
      · have hi' : i < ss.length := by omega
        have := hcell i hi'
        rw [hplain] at this
        rw [this]
        simp [List.getElem?_eq_getElem hi']

/-- 'l = append(l, t)'. -/
theorem wp_append_text {ops : Array Oper} {rest : List Oper} {o : Oper} {a : Act} {w : World} {Q : Exit → Act → World → Prop} (hgd : o.guard = none) (s x : Operand)
    (ho : o.op = .call { callee := .builtin .append, args := #[s, x], argTypes := #[22, 22] })
    (v : Value) (l : List ByteArray) (t : ByteArray) (hs : a.eval s = v) (hx : a.eval x = .slice (some ⟨w.heap.size, 0, none⟩) 1 1)
    (hown : OwnS w v l) (hlen : l.length + 1 ≤ 1000000000)
    (h : ∀ v' w', OwnS w' v' (l ++ [t]) → Keep (At v) w w' → Near w v v' → wpList Tryd.prog ops Q rest (a.put o.dst v') w') :
    wpList Tryd.prog ops Q (o :: rest) a (w.alloc (.cells #[.string t] 9)) := by
  refine wp_append_lit hgd s x ho Tryd.underlying22 info_str rfl (by decide) (by decide) v l.length (l.map Value.string) hs hown 1 [.string t] _ rfl hx rfl ?_ hlen ?_
  · intro u hu
    rw [List.mem_singleton.1 hu]
    rfl
  · intro v' w' k1 k2 k3
    refine h v' w' ?_ k2 k3
    unfold OwnS
    rw [List.length_append, List.map_append]
    exact k1
end Go.Proofs.YtepddieblankpaaDoor
