/- A range over a function that itself ranges over functions: what it and the loop's rounds promise one another. G is the blocks that the rounds may turn. -/
import Derived.Test.YtohmhbjiapflpaaWvHeld
import Derived.RangeFuncNested
import Derived.RangeFuncBound
import Derived.RangeFuncCalls
import Derived.RangeFuncLeaves
namespace Go.Proofs.Ytohmhbjiapflpaa
open Go.RowKit
set_option linter.unusedVariables false

theorem round_inRound {F : Fence} {n : Nat} {P : Program} {l l' : Nat} {f : FuncId} {tmps : Array Value} {assign body : Code} {w : World} {R : Ending → World → Prop} (h : RoundIn F n P l f tmps assign body w R) : RoundIn (F.inRound l') n P l f tmps assign body w R := h
theorem round_deep {n n' : Nat} {P : Program} {l : Nat} {f : FuncId} {tmps : Array Value} {assign body : Code} {w : World} {R : Ending → World → Prop} (h : RoundIn Fence.wide n P l f tmps assign body w R) : RoundIn Fence.wide n' P l f tmps assign body w R := ⟨h.1, fun c cs _ => h.2 c cs (room_wide _)⟩
theorem calls_deep {n n' : Nat} {P : Program} {f : FuncId} {args : Array Value} {w : World} {R : Ending → World → Prop} (h : CallsIn Fence.wide n P f args w R) : CallsIn Fence.wide n' P f args w R := callsIn_wide.2 (callsIn_wide.1 h)

theorem keep_putObj (w : World) (r : Nat) (o : Obj) : Keep (Just r) w (w.putObj r o) := (Keep.of_grown (grownBy_putObj' w r o)).more (fun i _ e => by injection e)

/-- J speaks of what lies below B or in G, and of nothing else. -/
def Fr {α : Type} (B : Nat) (J : List α → (Nat → Prop) → World → Prop) : Prop := ∀ pre G W W', J pre G W → Keep (fun k => B ≤ k ∧ ¬ G k) W W' → J pre G W'
/-- G's blocks are there. -/
def Lo {α : Type} (J : List α → (Nat → Prop) → World → Prop) : Prop := ∀ pre G W, J pre G W → ∀ k, G k → k < W.heap.size
/-- A set of blocks behind a step: those, or new ones. -/
def New (G G' : Nat → Prop) (W : World) : Prop := ∀ k, G' k → G k ∨ W.heap.size ≤ k
theorem New.refl (G : Nat → Prop) (W : World) : New G G W := fun _ h => .inl h
theorem New.trans {G G' G'' : Nat → Prop} {W W' : World} (h : New G G' W) (k : New G' G'' W') (hs : W.heap.size ≤ W'.heap.size) : New G G'' W := fun i hi => by
  rcases k i hi with k | k
  · exact h i k
  · exact .inr (by omega)

/-- What a round owes. -/
def RoundOwes {α : Type} (X G : Nat → Prop) (J Jx : List α → (Nat → Prop) → World → Prop) (ys : List α) (W1 : World) (e : Ending) (W' : World) : Prop :=
  (e = .returned (.bool true) ∧ ∃ G', J ys G' W' ∧ New G G' W1 ∧ Keep G W1 W') ∨ (e = .returned (.bool false) ∧ ∃ G', Jx ys G' W' ∧ New G G' W1 ∧ Keep (fun k => G k ∨ X k) W1 W')

/-- An iterator that tells xs, whatever the rounds do; it leans on the blocks Y. -/
def SeqDeep {α : Type} (m : Nat) (P : Program) (g : Nat) (bd lb : Array Value) (encs : α → Array Value) (Y : Nat → Prop) (xs : List α) (w₀ : World) : Prop :=
  ∀ (l : Nat) (X : Nat → Prop) (J Jx : List α → (Nat → Prop) → World → Prop) (W : World) (G : Nat → Prop), Below w₀.heap.size w₀ W → Fr W.heap.size J → Fr W.heap.size Jx → Lo J → (∀ k, Y k → ¬ G k) → (∀ k, X k → k < W.heap.size ∧ ¬ Y k) →
    (∀ pre x G W1, J pre G W1 → pre ++ [x] <+: xs → YieldAt Fence.wide (m - 1) P l (encs x) W1 (RoundOwes X G J Jx (pre ++ [x]) W1)) →
    J [] G W →
    CallsIn Fence.wide m P g (bd ++ #[.func (.yield l) #[] #[]] ++ lb) W fun e W' => (∃ v, e = .returned v) ∧ ((∃ G', J xs G' W' ∧ New G G' W ∧ Keep G W W') ∨ ∃ pre G', pre <+: xs ∧ Jx pre G' W' ∧ New G G' W ∧ Keep (fun k => G k ∨ X k) W W')

/-- How a round's body may be left; X: what may turn besides where it leaves the loop. -/
def deepPost {α : Type} (X : Nat → Prop) (I : List α → (Nat → Prop) → World → Prop) (Ix : Code → List α → (Nat → Prop) → World → Prop) (ys : List α) (G : Nat → Prop) (W : World) : Exit → Act → World → Prop
  | .normal, _, W' => ∃ G', I ys G' W' ∧ New G G' W ∧ Keep G W W'
  | .ret, _, W' => ∃ G', Ix .ret ys G' W' ∧ New G G' W ∧ Keep (fun k => G k ∨ X k) W W'
  | .exit id, _, W' => ∃ G', Ix (.exit id) ys G' W' ∧ New G G' W ∧ Keep (fun k => G k ∨ X k) W W'
  | .goto t, _, W' => ∃ G', Ix (.goto t) ys G' W' ∧ New G G' W ∧ Keep (fun k => G k ∨ X k) W W'
  | .panic _, _, _ => False
  | .outgrown, _, _ => False

theorem wpIn_rangeDeep {α : Type} {m : Nat} {P : Program} {g : Operand} {ps : Array Tmp} {assign body : Code} {Q : Exit → Act → World → Prop} {a : Act} {w : World}
    {gf : Nat} {bd lb : Array Value} (hg : a.eval g = .func (.func gf) bd lb) (eg : ∀ args w, (callFunc gf args).run P w = .ok (.enter gf args) w)
    {encs : α → Array Value} {Y : Nat → Prop} {xs : List α} {w0 : World} (hseq : SeqDeep (m - 1) P gf bd lb encs Y xs w0) (hb0 : Below w0.heap.size w0 w) (hY : ∀ k, Y k → k < w.heap.size) (hps : ∀ x, (encs x).size = ps.size)
    (X : Nat → Prop) (hX : ∀ k, X k → k < w.heap.size) (hXY : ∀ k, X k → ¬ Y k)
    (I : List α → (Nat → Prop) → World → Prop) (Ix : Code → List α → (Nat → Prop) → World → Prop) (hI : Fr w.heap.size I) (hIx : ∀ c, Fr w.heap.size (Ix c)) (hLo : Lo I) (G : Nat → Prop) (hYG : ∀ k, Y k → ¬ G k) (h0 : I [] G w)
    (Ax : α → Act → Nat → World → Prop)
    (hassign : ∀ (l : Nat) (pre : List α) (x : α) (G : Nat → Prop) (W : World) (K : Act → World → Prop), I pre G W → (∀ a' W', Keep Non W W' → I pre G W' → (∀ W'', Keep (fun k => k < W.heap.size) W' W'' → Ax x a' W.heap.size W'') → K a' W') →
      assign.wpIn (Fence.wide.inRound l) (m - 1 - 1) P (Exit.then K (fun _ _ _ => False)) { tmps := (ps.zip (encs x)).foldl (fun t (p, v) => t.setIfInBounds p v) a.tmps, defers := [] } W)
    (hbody : ∀ (l : Nat) (pre : List α) (x : α) (a' : Act) (B0 : Nat) (G : Nat → Prop) (W : World), w.heap.size ≤ l → l < W.heap.size → ¬ G l → I pre G W → w.heap.size ≤ B0 → (∀ k, G k → k < B0) → Ax x a' B0 W → pre ++ [x] <+: xs → body.wpIn (Fence.wide.inRound l) (m - 1 - 1) P (deepPost X I Ix (pre ++ [x]) G W) a' W)
    (hdone : ∀ (D : Nat) (G' : Nat → Prop) (W : World), w.heap.size ≤ D → I xs G' W → ¬ G' D → New G G' w → Keep G w W → W.heap[D]? = some (.deferred (some [])) → Q .normal { a with defers := { target := .collected D, args := #[] } :: a.defers } W)
    (hstop : ∀ (D : Nat) (c : Code) (pre : List α) (G' : Nat → Prop) (W : World), w.heap.size ≤ D → pre <+: xs → Ix c pre G' W → ¬ G' D → New G G' w → Keep (fun k => G k ∨ X k) w W → W.heap[D]? = some (.deferred (some [])) → c.wpIn Fence.wide m P Q { a with defers := { target := .collected D, args := #[] } :: a.defers } W) :
    (Code.rangeFunc g ps assign body).wpIn Fence.wide m P Q a w := by
  refine wpIn_rangeFunc (fun fn hfn => ?_)
  obtain ⟨L, hL⟩ : ∃ L : LoopState → Option Code → Loop, L = fun st pe => { state := st, pending := pe, fn, tmps := a.tmps, params := ps, assign, body, defers := w.heap.size } := ⟨_, rfl⟩
  have hsz : ((w.alloc (.deferred (some []))).alloc (.loop (L .ready none))).heap.size = w.heap.size + 2 := by simp
  have hrec : ((w.alloc (.deferred (some []))).alloc (.loop (L .ready none))).heap[w.heap.size + 1]? = some (.loop (L .ready none)) := by
    have := World.alloc_heap_new (w.alloc (.deferred (some []))) (.loop (L .ready none))
    rwa [World.size_alloc] at this
  have hdef : ((w.alloc (.deferred (some []))).alloc (.loop (L .ready none))).heap[w.heap.size]? = some (.deferred (some [])) := (Below.heap_alloc _ _ _ (by simp)).trans (World.alloc_heap_new w _)
  have hkw : Keep Non w ((w.alloc (.deferred (some []))).alloc (.loop (L .ready none))) := (Keep.alloc Non _ _).trans (Keep.alloc Non _ _) (fun _ _ h => h)
  have hI1 : I [] G ((w.alloc (.deferred (some []))).alloc (.loop (L .ready none))) := hI _ _ _ _ h0 (hkw.more (fun _ _ h => h.elim))
  have hb1 : Below w0.heap.size w0 ((w.alloc (.deferred (some []))).alloc (.loop (L .ready none))) := hb0.trans (hkw.below hb0.size (fun _ h => h.elim))
  have hGw := hLo _ _ _ h0
  have hrun := run_enterLoop_outer (P := P) (w := w) fn a.tmps ps assign body
  rw [show Loop.mk .ready none fn a.tmps ps assign body w.heap.size = L .ready none from by rw [hL]] at hrun
  generalize ((w.alloc (.deferred (some []))).alloc (.loop (L .ready none))) = W1 at *
  refine ⟨w.heap.size + 1, [{ target := .collected w.heap.size, args := #[] }], W1, { target := .fn (.func gf) lb, args := bd ++ #[.func (.yield (w.heap.size + 1)) #[] #[]] }, W1, gf, bd ++ #[.func (.yield (w.heap.size + 1)) #[] #[]] ++ lb, W1, hrun, ?_, fun _ _ => trivial, ?_, fun h => (by cases h), ?_⟩
  · simp only [resolve, hg]
    simp [go_sem]
  · simp [invoke, go_sem, eg]
  · -- J, Jx: the caller's own, and the walk's two blocks
    refine (hseq (w.heap.size + 1) (fun k => k = w.heap.size + 1 ∨ X k)
      (fun pre G W => I pre G W ∧ W.heap[w.heap.size + 1]? = some (.loop (L .ready none)) ∧ W.heap[w.heap.size]? = some (.deferred (some [])) ∧ ¬ G (w.heap.size + 1) ∧ ¬ G w.heap.size)
      (fun pre G W => ∃ c, Ix c pre G W ∧ W.heap[w.heap.size + 1]? = some (.loop (L .done (some c))) ∧ W.heap[w.heap.size]? = some (.deferred (some [])) ∧ ¬ G (w.heap.size + 1) ∧ ¬ G w.heap.size)
      W1 G hb1
      (fun pre G A B ⟨h1, h2, h3, h4, h5⟩ hk => ⟨hI _ _ _ _ h1 (hk.more (fun i _ h => ⟨by omega, h.2⟩)), (hk.block _ (Array.getElem?_eq_some_iff.1 h2).1 (fun h => by omega)).trans h2, (hk.block _ (Array.getElem?_eq_some_iff.1 h3).1 (fun h => by omega)).trans h3, h4, h5⟩)
      (fun pre G A B ⟨c, h1, h2, h3, h4, h5⟩ hk => ⟨c, hIx c _ _ _ _ h1 (hk.more (fun i _ h => ⟨by omega, h.2⟩)), (hk.block _ (Array.getElem?_eq_some_iff.1 h2).1 (fun h => by omega)).trans h2, (hk.block _ (Array.getElem?_eq_some_iff.1 h3).1 (fun h => by omega)).trans h3, h4, h5⟩)
      (fun pre G A h => hLo _ _ _ h.1) hYG (fun k h => h.elim (fun e => ⟨by omega, fun y => by have := hY _ y; omega⟩) (fun h => ⟨by have := hX _ h; omega, hXY _ h⟩))
      ?_ ⟨hI1, hrec, hdef, fun h => (by have := hGw _ h; omega), fun h => (by have := hGw _ h; omega)⟩).mono ?_
    · rintro pre x G W ⟨hi, hl, hk, hgl, hgk⟩ hpre
      have hlt : w.heap.size + 1 < W.heap.size := (Array.getElem?_eq_some_iff.1 hl).1
      have hGW := hLo _ _ _ hi
      have hy := run_yield (P := P) (args := encs x) hl (by rw [hL]; exact hps x)
      rw [hL] at hy
      refine ⟨fn, _, assign, body, hy, roundIn_of_wpIn hfn (hassign _ pre x G W _ hi (fun a' W2 hkn hi2 hax => ?_))⟩
      have hs2 : W.heap.size ≤ W2.heap.size := hkn.size
      have hl2 : W2.heap[w.heap.size + 1]? = some (.loop (L .ready none)) := (hkn.block _ hlt (fun h => h)).trans hl
      have hk2 : W2.heap[w.heap.size]? = some (.deferred (some [])) := (hkn.block _ (by omega) (fun h => h)).trans hk
      obtain ⟨W3, hW3⟩ : ∃ W3, W2.putObj (w.heap.size + 1) (.loop { L .ready none with state := .busy }) = W3 := ⟨_, rfl⟩
      have hbr : (Instr.beginRound (w.heap.size + 1)).run P W2 = .ok () W3 := by rw [← hW3]; exact run_beginRound hl2 (by rw [hL])
      have q3 : Keep (Just (w.heap.size + 1)) W2 W3 := by rw [← hW3]; exact keep_putObj W2 (w.heap.size + 1) _
      have hi3 : I pre G W3 := hI _ _ _ _ hi2 (q3.more (fun i _ e => by have e : i = w.heap.size + 1 := e; exact ⟨by omega, by rw [e]; exact hgl⟩))
      have hax3 : Ax x a' W.heap.size W3 := hax _ (q3.more (fun i _ e => by have e : i = w.heap.size + 1 := e; omega))
      have hl3 : W3.heap[w.heap.size + 1]? = some (.loop { L .ready none with state := .busy }) := by rw [← hW3]; exact World.putObj_heap_same (by omega)
      have hk3 : W3.heap[w.heap.size]? = some (.deferred (some [])) := by rw [← hW3]; exact (World.putObj_heap_other (by omega)).trans hk2
      have hs3 := q3.size
      refine ⟨W3, hbr, wpIn_mono (hbody _ pre x a' W.heap.size G W3 (by omega) (by omega) hgl hi3 (by omega) hGW hax3 hpre) ?_⟩
      have k03 : Keep (Just (w.heap.size + 1)) W W3 := (hkn.more (S' := Just (w.heap.size + 1)) (fun _ _ h => h.elim)).trans q3 (fun _ _ h => h)
      clear hW3 hbr
      have fin : ∀ (jump : Option Code) (S : Nat → Prop) (W4 : World), Keep S W3 W4 → ¬ S (w.heap.size + 1) → ¬ S w.heap.size →
          (Instr.endRound (w.heap.size + 1) jump).run P W4 = .ok (.bool jump.isNone) (W4.putObj (w.heap.size + 1) (.loop (L (if jump.isNone then .ready else .done) jump))) ∧
          (W4.putObj (w.heap.size + 1) (.loop (L (if jump.isNone then .ready else .done) jump))).heap[w.heap.size + 1]? = some (.loop (L (if jump.isNone then .ready else .done) jump)) ∧
          (W4.putObj (w.heap.size + 1) (.loop (L (if jump.isNone then .ready else .done) jump))).heap[w.heap.size]? = some (.deferred (some [])) ∧
          Keep (fun k => S k ∨ k = w.heap.size + 1) W (W4.putObj (w.heap.size + 1) (.loop (L (if jump.isNone then .ready else .done) jump))) := fun jump S W4 hk4 n1 n2 => by
        have q1 : W4.heap[w.heap.size + 1]? = some (.loop { L .ready none with state := .busy }) := (hk4.block _ (by omega) n1).trans hl3
        have q2 := (hk4.block _ (by omega) n2).trans hk3
        have := run_endRound (P := P) jump q1
        rw [hL] at this ⊢
        refine ⟨this, World.putObj_heap_same (Array.getElem?_eq_some_iff.1 q1).1, (World.putObj_heap_other (by omega)).trans q2, ?_⟩
        exact ((k03.more (S' := fun k => S k ∨ k = w.heap.size + 1) (fun _ _ h => .inr h)).trans hk4 (fun _ _ h => .inl h)).trans (keep_putObj W4 (w.heap.size + 1) _) (fun _ _ h => .inr h)
      have nin : ∀ {G' : Nat → Prop} {k : Nat}, New G G' W3 → ¬ G k → k < W3.heap.size → ¬ G' k := fun hn h0 hk h => by
        rcases hn _ h with h | h
        · exact h0 h
        · omega
      have out : ∀ {G' : Nat → Prop}, New G G' W3 → New G G' W := fun hn k h => (hn k h).imp id (fun h => by omega)
      rintro e a4 W4 hp
      cases e with
      | normal =>
        obtain ⟨G', hi4, hn4, hk4⟩ := hp
        obtain ⟨r1, r3, r4, r5⟩ := fin none G W4 hk4 hgl hgk
        refine ⟨_, _, r1, .inl ⟨rfl, G', ⟨hI _ _ _ _ hi4 ((keep_putObj W4 _ _).more (fun i _ e => by have e : i = w.heap.size + 1 := e; exact ⟨by omega, by rw [e]; exact nin hn4 hgl (by omega)⟩)), r3, r4, nin hn4 hgl (by omega), nin hn4 hgk (by omega)⟩, out hn4, ?_⟩⟩
        -- the record is as it was
        refine ⟨r5.os, r5.tape, r5.output, r5.size, fun k hk' hn => ?_⟩
        by_cases e : k = w.heap.size + 1
        · rw [e, hl]; exact r3
        · exact r5.block k hk' (fun h => h.elim hn e)
      | ret =>
        obtain ⟨G', hi4, hn4, hk4⟩ := hp
        obtain ⟨r1, r3, r4, r5⟩ := fin (some .ret) _ W4 hk4 (fun h => h.elim hgl (fun h => by have := hX _ h; omega)) (fun h => h.elim hgk (fun h => by have := hX _ h; omega))
        refine ⟨_, _, r1, .inr ⟨rfl, G', ⟨.ret, hIx _ _ _ _ _ hi4 ((keep_putObj W4 _ _).more (fun i _ e => by have e : i = w.heap.size + 1 := e; exact ⟨by omega, by rw [e]; exact nin hn4 hgl (by omega)⟩)), r3, r4, nin hn4 hgl (by omega), nin hn4 hgk (by omega)⟩, out hn4, r5.more (fun k _ h => ?_)⟩⟩
        rcases h with (h | h) | h
        · exact .inl h
        · exact .inr (.inr h)
        · exact .inr (.inl h)
      | exit id =>
        obtain ⟨G', hi4, hn4, hk4⟩ := hp
        obtain ⟨r1, r3, r4, r5⟩ := fin (some (.exit id)) _ W4 hk4 (fun h => h.elim hgl (fun h => by have := hX _ h; omega)) (fun h => h.elim hgk (fun h => by have := hX _ h; omega))
        refine ⟨_, _, r1, .inr ⟨rfl, G', ⟨(.exit id), hIx _ _ _ _ _ hi4 ((keep_putObj W4 _ _).more (fun i _ e => by have e : i = w.heap.size + 1 := e; exact ⟨by omega, by rw [e]; exact nin hn4 hgl (by omega)⟩)), r3, r4, nin hn4 hgl (by omega), nin hn4 hgk (by omega)⟩, out hn4, r5.more (fun k _ h => ?_)⟩⟩
        rcases h with (h | h) | h
        · exact .inl h
        · exact .inr (.inr h)
        · exact .inr (.inl h)
      | goto t =>
        obtain ⟨G', hi4, hn4, hk4⟩ := hp
        obtain ⟨r1, r3, r4, r5⟩ := fin (some (.goto t)) _ W4 hk4 (fun h => h.elim hgl (fun h => by have := hX _ h; omega)) (fun h => h.elim hgk (fun h => by have := hX _ h; omega))
        refine ⟨_, _, r1, .inr ⟨rfl, G', ⟨(.goto t), hIx _ _ _ _ _ hi4 ((keep_putObj W4 _ _).more (fun i _ e => by have e : i = w.heap.size + 1 := e; exact ⟨by omega, by rw [e]; exact nin hn4 hgl (by omega)⟩)), r3, r4, nin hn4 hgl (by omega), nin hn4 hgk (by omega)⟩, out hn4, r5.more (fun k _ h => ?_)⟩⟩
        rcases h with (h | h) | h
        · exact .inl h
        · exact .inr (.inr h)
        · exact .inr (.inl h)
      | panic ch => exact hp.elim
      | outgrown => exact hp.elim
    · rintro e W2 ⟨⟨v, rfl⟩, (⟨G', ⟨hi, hl, hk, hgl, hgk⟩, hn, hkp⟩ | ⟨pre, G', hSp, ⟨c, hi, hl, hk, hgl, hgk⟩, hn, hkp⟩)⟩
      · have r := run_endLoop (P := P) hl (by rw [hL]; simp)
        rw [hL] at r
        have q := keep_putObj W2 (w.heap.size + 1) (.loop { L .ready none with state := .exhausted })
        rw [hL] at q
        refine ⟨none, _, r, hdone _ G' _ (Nat.le_refl _) (hI _ _ _ _ hi (q.more (fun i _ e => by have e : i = w.heap.size + 1 := e; exact ⟨by omega, by rw [e]; exact hgl⟩))) hgk (fun k h => (hn k h).imp id (fun h => by omega)) ?_ ((World.putObj_heap_other (by omega)).trans hk)⟩
        exact ((hkw.more (S' := G) (fun _ _ h => h.elim)).trans hkp (fun _ _ h => h)).trans q (fun i hi e => by have e : i = w.heap.size + 1 := e; omega)
      · have r := run_endLoop (P := P) hl (by rw [hL]; simp)
        rw [hL] at r
        have q := keep_putObj W2 (w.heap.size + 1) (.loop { L .done (some c) with state := .exhausted })
        rw [hL] at q
        refine ⟨some c, _, r, hstop _ c pre G' _ (Nat.le_refl _) hSp (hIx c _ _ _ _ hi (q.more (fun i _ e => by have e : i = w.heap.size + 1 := e; exact ⟨by omega, by rw [e]; exact hgl⟩))) hgk (fun k h => (hn k h).imp id (fun h => by omega)) ?_ ((World.putObj_heap_other (by omega)).trans hk)⟩
        refine ((hkw.more (S' := fun k => G k ∨ X k) (fun _ _ h => h.elim)).trans hkp (fun i hi h => ?_)).trans q (fun i hi e => by have e : i = w.heap.size + 1 := e; omega)
        rcases h with h | h | h
        · exact .inl h
        · omega
        · exact .inr h
end Go.Proofs.Ytohmhbjiapflpaa
