/- A state in a box beside numbers of the call's own. -/
import Derived.Test.YtckpidhcccnifaaEdTypedM
import Derived.Test.YtckpidhcccnifaaEdTurn2
namespace Go.Proofs.Ytckpidhcccnifaa
open Go.RowKit
set_option linter.unusedVariables false

theorem slice_keep_ne {S : Nat → Prop} {w w' : World} {v : Value} {zs : List Int} (h : SliceI w v zs) (hk : Keep S w w') (hn : zs ≠ [] → ∀ g, v.ownBlock = some g → ¬ S g) : SliceI w' v zs := by
  by_cases hz : zs = []
  · subst hz
    obtain ⟨a, cap, rfl, hc, _⟩ := h
    exact ⟨a, cap, rfl, hc, .inl rfl⟩
  · exact slice_keep h hk (hn hz)
theorem slice_lt {w : World} {v : Value} {zs : List Int} (h : SliceI w v zs) (hz : zs ≠ []) {g : Nat} (hg : v.ownBlock = some g) : g < w.heap.size := by
  obtain ⟨a, cap, rfl, hc, h⟩ := h
  rcases h with h | ⟨b, off, rfl, hlt, _⟩
  · exact absurd h hz
  · simp only [Value.ownBlock] at hg
    injection hg with hg
    subst hg
    exact hlt

structure Typ (w0 W : World) (ab : Nat) (wv : Value) (want L K : List Int) (a' : Int) (La Ka : Option Addr) (Lc Kc : Nat) : Prop where
  box : Holds W ab [.slice La L.length Lc, .int .i64 a', .slice Ka K.length Kc] 29
  line : SliceI W (.slice La L.length Lc) L
  kill : SliceI W (.slice Ka K.length Kc) K
  own : OwnI W wv want
  far : ∀ g, wv.ownBlock = some g → w0.heap.size ≤ g ∧ g ≠ ab
  apL : L ≠ [] → ∀ g, wv.ownBlock = some g → (Value.slice La L.length Lc).ownBlock ≠ some g
  apK : K ≠ [] → ∀ g, wv.ownBlock = some g → (Value.slice Ka K.length Kc).ownBlock ≠ some g
  lab : w0.heap.size ≤ ab
  bel : Below w0.heap.size w0 W

theorem Typ.grew {w0 W W' : World} {ab : Nat} {wv : Value} {want L K : List Int} {a' : Int} {La Ka : Option Addr} {Lc Kc : Nat} (h : Typ w0 W ab wv want L K a' La Ka Lc Kc) (hb : Below W.heap.size W W') : Typ w0 W' ab wv want L K a' La Ka Lc Kc :=
  ⟨h.box.keep (Keep.of_grew hb Non) (fun e => e), h.line.below hb, h.kill.below hb, h.own.below hb, h.far, h.apL, h.apK, h.lab, Go.Proofs.Ytckpidhcccnifaa.grew h.bel hb⟩
theorem Typ.app {w0 W W' : World} {ab : Nat} {wv v' : Value} {want want' L K : List Int} {a' : Int} {La Ka : Option Addr} {Lc Kc : Nat} (h : Typ w0 W ab wv want L K a' La Ka Lc Kc) (ho : OwnI W' v' want') (hk : Keep (At wv) W W') (hn : Near W wv v') : Typ w0 W' ab v' want' L K a' La Ka Lc Kc := by
  refine ⟨h.box.keep hk (fun e => (h.far _ e).2 rfl), slice_keep_ne h.line hk (fun hz g hg e => h.apL hz g e hg), slice_keep_ne h.kill hk (fun hz g hg e => h.apK hz g e hg), ho, ?_, ?_, ?_, h.lab, h.bel.trans (hk.below h.bel.size (fun i e => (h.far i e).1))⟩
  · intro g hg
    rcases hn g hg with e | e
    · exact h.far g e
    · have := h.box.lt
      exact ⟨Nat.le_trans h.bel.size e, by omega⟩
  · intro hz g hg e2
    rcases hn g hg with e | e
    · exact h.apL hz g e e2
    · have := slice_lt h.line hz e2
      omega
  · intro hz g hg e2
    rcases hn g hg with e | e
    · exact h.apK hz g e e2
    · have := slice_lt h.kill hz e2
      omega
/-- The box is written with what Do handed back. -/
theorem Typ.put {w0 W x : World} {ab : Nat} {wv : Value} {want L K m kl' : List Int} {a' z' : Int} {La Ka La' Ka' Aa : Option Addr} {Lc Kc Lc' Kc' Ac : Nat} {acts : List EAct} (h : Typ w0 W ab wv want L K a' La Ka Lc Kc) (hb : Below W.heap.size W x) (hd : DoS x W.heap.size m kl' acts La' Ka' Aa Lc' Kc' Ac) :
    Typ w0 (((x.setCell ⟨ab, 0, none⟩ (.slice La' m.length Lc')).setCell ⟨ab, 1, none⟩ (.int .i64 z')).setCell ⟨ab, 2, none⟩ (.slice Ka' kl'.length Kc')) ab wv want m kl' z' La' Ka' Lc' Kc' := by
  obtain ⟨b1, b2, b3, b4, _⟩ := box_set (at' := z') h.box h.lab h.bel hb hd h.box.lt
  refine ⟨b1, b2.line, b2.kill, (h.own.below hb).keep b3 (fun g hg e => (h.far g hg).2 e), h.far, ?_, ?_, h.lab, b4⟩
  · intro _ g hg e
    have h1 := hd.new g (.inl e)
    have h2 := h.own.lt hg
    omega
  · intro _ g hg e
    have h1 := hd.new g (.inr (.inl e))
    have h2 := h.own.lt hg
    omega

theorem Typ.start {w0 W : World} {va ka : Option Addr} {vc kc : Nat} {l kl want : List Int} {z : Int} {v' : Value} (hv : SliceI w0 (.slice va l.length vc) l) (hkv : SliceI w0 (.slice ka kl.length kc) kl) (ho : OwnI W v' want)
    (hk : Keep (At (.slice none 0 0)) (w0.alloc (.cells #[.slice va l.length vc, .int .i64 z, .slice ka kl.length kc] 29)) W) (hn : Near (w0.alloc (.cells #[.slice va l.length vc, .int .i64 z, .slice ka kl.length kc] 29)) (.slice none 0 0) v') :
    Typ w0 W w0.heap.size v' want l kl z va ka vc kc := by
  have hb : Below w0.heap.size w0 W := Go.Proofs.Ytckpidhcccnifaa.grew (grew_alloc _ _) (hk.fresh (fun i _ e => by cases e))
  have hf : ∀ g, v'.ownBlock = some g → w0.heap.size + 1 ≤ g := by
    intro g hg
    rcases hn g hg with e | e
    · cases e
    · simpa using e
  refine ⟨(Holds.new w0 [.slice va l.length vc, .int .i64 z, .slice ka kl.length kc] 29).keep hk (fun e => by cases e), hv.below hb, hkv.below hb, ho, fun g hg => ?_, fun hz g hg e => ?_, fun hz g hg e => ?_, Nat.le_refl _, hb⟩
  · have := hf g hg
    omega
  · have := hf g hg
    have := slice_lt hv hz e
    omega
  · have := hf g hg
    have := slice_lt hkv hz e
    omega

/-- The front and the rest of a slice. -/
theorem slice_front {w : World} {va : Option Addr} {vc : Nat} {l : List Int} (h : SliceI w (.slice va l.length vc) l) {n : Nat} (hn : n ≤ l.length) : SliceI w (.slice va n vc) (l.take n) := by
  have hcap : l.length ≤ vc := by
    obtain ⟨_, _, e, hc, _⟩ := h
    injection e with _ _ e
    omega
  refine ⟨va, vc, by rw [List.length_take]; congr 1; omega, by rw [List.length_take]; omega, ?_⟩
  by_cases h0 : n = 0
  · exact .inl (by rw [h0]; rfl)
  · obtain ⟨b0, off, e, hb0, _⟩ := slice_cell h (k := 0) (by omega)
    refine .inr ⟨b0, off, e, hb0, fun i hi => ?_⟩
    rw [List.length_take] at hi
    obtain ⟨b1, off1, e1, _, hc⟩ := slice_cell h (k := i) (by omega)
    rw [e] at e1
    injection e1 with e1
    injection e1 with e1 e2
    subst e1
    subst e2
    rw [hc, List.getElem_take]
theorem slice_rest {w : World} {va : Option Addr} {vc : Nat} {l : List Int} (h : SliceI w (.slice va l.length vc) l) {n : Nat} (hn : n ≤ l.length) : SliceI w (.slice (Option.map (fun x : Addr => x.add n) va) (l.length - n) (vc - n)) (l.drop n) := by
  by_cases h1 : n < l.length
  · have := h.part h1 (Nat.le_refl _)
    rw [List.take_length] at this
    exact this
  · have e : l.drop n = [] := List.drop_eq_nil_of_le (by omega)
    rw [e]
    exact ⟨_, vc - n, by rw [List.length_nil]; congr 1; omega, by simp, .inl rfl⟩
theorem slice_empty {w : World} {va : Option Addr} {m c : Nat} {l : List Int} (hl : l = []) (hm : m = 0) : SliceI w (.slice va m c) l := by
  subst hl hm
  exact ⟨va, c, rfl, by simp, .inl rfl⟩
theorem slice_none {w : World} {va : Option Addr} {n : Nat} {l : List Int} {c : Nat} (hn : l.length ≤ n) : SliceI w (.slice va (l.length - n) c) (l.drop n) := by
  have e : l.drop n = [] := List.drop_eq_nil_of_le hn
  rw [e]
  exact ⟨va, c, by rw [List.length_nil]; congr 1; omega, by simp, .inl rfl⟩
end Go.Proofs.Ytckpidhcccnifaa
