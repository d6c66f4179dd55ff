/- Lines and rows of structs as things of the call's own; calls on lines. -/
import Derived.Test.YtohmhbjiapflpaaThMore
import Derived.Test.YtohmhbjiapflpaaWvKids
import Derived.Test.YtohmhbjiapflpaaWvNil
import Derived.Test.YtohmhbjiapflpaaWvTree2
namespace Go.Proofs.Ytohmhbjiapflpaa
open Go.RowKit Go.Maps
set_option linter.unusedVariables false

theorem IsLine.keep {w w' : World} {F S : Nat → Prop} {p : Nat} {L : List Wel} (h : IsLine w F p L) (hk : Keep S w w') (hn : ∀ k, F k → ¬ S k) : IsLine w' F p L := by
  refine ⟨h.at', fun k hF => Nat.lt_of_lt_of_le (h.lt k hF) hk.size, ?_⟩
  rcases h.is with ⟨h1, h2⟩ | ⟨mh, mk, ks, hl, hmh, hmk, hr⟩
  · exact .inl ⟨h1, h2.keep hk (hn p h.at')⟩
  · refine .inr ⟨mh, mk, ks, ⟨hl.box.keep hk (hn p h.at'), hl.has.keep hk (hn mh hmh), hl.kids.keep hk (hn mk hmk), hl.pm, fun q hq => ?_, hl.dist, hl.all, hl.ok⟩, hmh, hmk, hr⟩
    obtain ⟨b, hb, h1, h2, h3⟩ := hl.row q hq
    exact ⟨b, hb, h1, h2, Owns.keep h3 hk (fun g hg => hn g (hr q hq g (by rw [← KSl.own]; exact hg)))⟩
/-- A line. -/
def LineT (p : Nat) (L : List Wel) : Th := fun w F => IsLine w F p L
theorem LineT.good (p : Nat) (L : List Wel) : Good (LineT p L) := ⟨fun h hk => IsLine.lt h _ hk, fun h hk hn => IsLine.keep h hk hn⟩
/-- Things of k cells each, in v. -/
def RowV {α : Type} (k : Nat) (c : α → List Value) (v : Value) (os : List α) : Th := fun w F => ∃ a cap, v = .slice a os.length cap ∧ os.length ≤ cap ∧ (os = [] ∨ ∃ b off, a = some ⟨b, off, none⟩ ∧ F b ∧ ∀ i (h : i < os.length) j u, (c os[i])[j]? = some u → w.cell? ⟨b, off + i * k + j, none⟩ = some u) ∧ ∀ k, F k → k < w.heap.size
theorem RowV.good {α : Type} (k : Nat) (c : α → List Value) (v : Value) (os : List α) : Good (RowV k c v os) := by
  refine ⟨fun ⟨a, cap, h1, h2, h3, h4⟩ hk => h4 _ hk, fun ⟨a, cap, h1, h2, h3, h4⟩ hk hn => ⟨a, cap, h1, h2, ?_, fun k hF => Nat.lt_of_lt_of_le (h4 k hF) hk.size⟩⟩
  rcases h3 with h3 | ⟨b, off, e, hF, hc⟩
  · exact .inl h3
  · exact .inr ⟨b, off, e, hF, fun i hi j u hu => (hk.cell (h4 b hF) (hn b hF)).trans (hc i hi j u hu)⟩
theorem RowV.slice {α : Type} {k : Nat} {c : α → List Value} {v : Value} {os : List α} {w : World} {F : Nat → Prop} (h : RowV k c v os w F) : SliceG k c w v os := by
  obtain ⟨a, cap, h1, h2, h3, h4⟩ := h
  refine ⟨a, cap, h1, h2, ?_⟩
  rcases h3 with h3 | ⟨b, off, e, hF, hc⟩
  · exact .inl h3
  · exact .inr ⟨b, off, e, h4 b hF, hc⟩
theorem Mine.rowG {α : Type} {k : Nat} {c : α → List Value} {Ts : List Th} {w0 w : World} {v : Value} {os : List α} (h : Mine (RowV k c v os :: Ts) w0 w) : SliceG k c w v os := by
  obtain ⟨F, hF, _⟩ := h.first
  exact hF.slice
theorem Mine.ok {Ts : List Th} {w0 w : World} {p : Nat} {L : List Wel} (h : Mine (LineT p L :: Ts) w0 w) : Weave.Ok L := by
  obtain ⟨F, hF, _⟩ := h.first
  exact IsLine.ok hF
theorem Mine.read {Ts : List Th} {w0 w : World} {p : Nat} {L : List Wel} (h : Mine (LineT p L :: Ts) w0 w) : LRead w p L := by
  obtain ⟨F, hF, _⟩ := h.first
  exact IsLine.read hF

theorem w_New {Ts : List Th} {w0 w : World} (h : Mine Ts w0 w) : Calls Try.prog 14 #[] w fun e w' => ∃ p, e = .returned (.pointer (some ⟨p, 0, none⟩)) ∧ Mine (LineT p [] :: Ts) w0 w' :=
  (weave_New w).mono fun e w' ⟨k1, k2, k3⟩ => ⟨_, k1, h.new (F := fun k => k = w.heap.size) (LineT.good _ _) k2 (fun k hk => Nat.le_of_eq hk.symm) k3⟩
theorem w_Insert {Ts : List Th} {w0 w : World} {p : Nat} {L : List Wel} (h : Mine (LineT p L :: Ts) w0 w) (x ref : Int × Int) (r : Int) :
    Calls Try.prog 17 #[.pointer (some ⟨p, 0, none⟩), idV x, idV ref, .int .i64 r] w fun e w' => e = .returned (.int .i64 (Weave.insert L x ref r).1) ∧ Mine (LineT p (Weave.insert L x ref r).2 :: Ts) w0 w' :=
  h.call (LineT.good _ _) (fun F hF => weave_Insert hF x ref r)
theorem w_Drop {Ts : List Th} {w0 w : World} {p : Nat} {L : List Wel} (h : Mine (LineT p L :: Ts) w0 w) (x : Int × Int) (hx1 : I64 x.1) (hx2 : I64 x.2) :
    Calls Try.prog 15 #[.pointer (some ⟨p, 0, none⟩), idV x] w fun e w' => e = .returned (.int .i64 (Weave.drop L x).1) ∧ Mine (LineT p (Weave.drop L x).2 :: Ts) w0 w' :=
  h.call (LineT.good _ _) (fun F hF => weave_Drop hF x hx1 hx2)
theorem w_Place {Ts : List Th} {w0 w : World} {p : Nat} {L : List Wel} (h : Mine (LineT p L :: Ts) w0 w) (x : Int × Int) (hx1 : I64 x.1) (hx2 : I64 x.2) :
    Calls Try.prog 19 #[.pointer (some ⟨p, 0, none⟩), idV x] w fun e w' => e = .returned (.tuple #[.int .i64 (Weave.place L x : Nat), .bool (Weave.has L x)]) ∧ Mine (LineT p L :: Ts) w0 w' ∧ Below w.heap.size w w' :=
  (weave_Place h.ok h.read x hx1 hx2 (Nat.le_trans (Weave.elements_few h.ok) (by decide))).mono fun e w' ⟨k1, k2⟩ => ⟨k1, h.grew k2, k2⟩
theorem w_Elements {Ts : List Th} {w0 w : World} {p : Nat} {L : List Wel} (h : Mine (LineT p L :: Ts) w0 w) :
    Calls Try.prog 22 #[.pointer (some ⟨p, 0, none⟩)] w fun e w' => ∃ v, e = .returned v ∧ Mine (RowV 6 Wel.cells v (Weave.elements L) :: LineT p L :: Ts) w0 w' ∧ Below w.heap.size w w' := by
  refine (weave_Elements h.ok h.read (Nat.le_trans (Weave.elements_few h.ok) (by decide))).mono ?_
  rintro e w' ⟨v, rfl, ho, hb⟩
  obtain ⟨a, cap, e1, h1, h2⟩ := ho.slice
  have hlt : ∀ k, v.ownBlock = some k → w.heap.size ≤ k ∧ k < w'.heap.size := fun k hk => World.ownsRow.lt ho k hk
  refine ⟨v, rfl, h.new (F := fun k => v.ownBlock = some k) (RowV.good _ _ _ _) ⟨a, cap, e1, h1, ?_, fun k hk => (hlt k hk).2⟩ (fun k hk => (hlt k hk).1) hb, hb⟩
  rcases h2 with h2 | ⟨b, off, e2, hb2, hc⟩
  · exact .inl h2
  · subst e1 e2
    exact .inr ⟨b, off, rfl, rfl, hc⟩
end Go.Proofs.Ytohmhbjiapflpaa
