/- Things of the call's own, side by side: each in blocks of its own. -/
import Derived.Test.YtohmhbjiapflpaaKeep
namespace Go.Proofs.Ytohmhbjiapflpaa
open Go.RowKit
set_option linter.unusedVariables false

/-- A thing: how it lies in a world, and in which blocks. -/
abbrev Th := World → (Nat → Prop) → Prop
/-- A thing that lies where it says. -/
structure Good (T : Th) : Prop where
  lt : ∀ {w F k}, T w F → F k → k < w.heap.size
  keep : ∀ {w w' F} {S : Nat → Prop}, T w F → Keep S w w' → (∀ k, F k → ¬ S k) → T w' F
/-- What a call makes of a thing. -/
def TStep (T : Th) (w : World) (F : Nat → Prop) (w' : World) : Prop := ∃ F', T w' F' ∧ Keep F w w' ∧ ∀ k, F' k → F k ∨ w.heap.size ≤ k
theorem TStep.same {T : Th} (g : Good T) {w w' : World} {F : Nat → Prop} (h : T w F) (hb : Below w.heap.size w w') : TStep T w F w' := ⟨F, g.keep h (Keep.of_grew hb Non) (fun _ _ h => h), Keep.of_grew hb F, fun k hk => .inl hk⟩
theorem TStep.after {T : Th} {w w1 w' : World} {F : Nat → Prop} (hb : Below w.heap.size w w1) (h : TStep T w1 F w') : TStep T w F w' := by
  obtain ⟨F', h1, h2, h3⟩ := h
  exact ⟨F', h1, (Keep.of_grew hb F).trans h2 (fun _ _ h => h), fun k hk => (h3 k hk).imp id (fun h => Nat.le_trans hb.size h)⟩
theorem TStep.then {T : Th} (g : Good T) {w w1 w' : World} {F : Nat → Prop} (h : TStep T w F w1) (hb : Below w1.heap.size w1 w') : TStep T w F w' := by
  obtain ⟨F', h1, h2, h3⟩ := h
  exact ⟨F', g.keep h1 (Keep.of_grew hb Non) (fun _ _ h => h), h2.trans (Keep.of_grew hb F) (fun _ _ h => h), h3⟩

/-- All these, each in blocks of its own. -/
def All : List Th → World → (Nat → Prop) → Prop
  | [], _, H => ∀ k, ¬ H k
  | T :: Ts, w, H => ∃ F G, T w F ∧ All Ts w G ∧ (∀ k, F k → ¬ G k) ∧ ∀ k, H k ↔ F k ∨ G k
theorem All.lt : ∀ {Ts : List Th}, (∀ T ∈ Ts, Good T) → ∀ {w H k}, All Ts w H → H k → k < w.heap.size
  | [], _, _, _, k, h, hk => (h k hk).elim
  | T :: Ts, g, w, H, k, ⟨F, G, h1, h2, _, h4⟩, hk => by
    rcases (h4 k).1 hk with q | q
    · exact (g T (by simp)).lt h1 q
    · exact All.lt (fun T' h => g T' (by simp [h])) h2 q
theorem All.keep : ∀ {Ts : List Th}, (∀ T ∈ Ts, Good T) → ∀ {w w' H} {S : Nat → Prop}, All Ts w H → Keep S w w' → (∀ k, H k → ¬ S k) → All Ts w' H
  | [], _, _, _, _, _, h, _, _ => h
  | T :: Ts, g, w, w', H, S, ⟨F, G, h1, h2, h3, h4⟩, hk, hn =>
    ⟨F, G, (g T (by simp)).keep h1 hk (fun k hF => hn k ((h4 k).2 (.inl hF))), All.keep (fun T' h => g T' (by simp [h])) h2 hk (fun k hG => hn k ((h4 k).2 (.inr hG))), h3, h4⟩
theorem All.good {Ts : List Th} (g : ∀ T ∈ Ts, Good T) : Good (All Ts) := ⟨fun h hk => All.lt g h hk, fun h hk hn => All.keep g h hk hn⟩
/-- Another one ahead of the first. -/
theorem All.swap {A B : Th} {Ts : List Th} {w : World} {H : Nat → Prop} (h : All (A :: B :: Ts) w H) : All (B :: A :: Ts) w H := by
  obtain ⟨F, G, h1, ⟨F2, G2, k1, k2, k3, k4⟩, h3, h4⟩ := h
  refine ⟨F2, fun k => F k ∨ G2 k, k1, ⟨F, G2, h1, k2, fun k hF hG => h3 k hF ((k4 k).2 (.inr hG)), fun k => Iff.rfl⟩, fun k hF hG => ?_, fun k => ?_⟩
  · rcases hG with q | q
    · exact h3 k q ((k4 k).2 (.inl hF))
    · exact k3 k hF q
  · rw [h4 k, k4 k]
    constructor
    · rintro (q | q | q)
      · exact .inr (.inl q)
      · exact .inl q
      · exact .inr (.inr q)
    · rintro (q | q | q)
      · exact .inr (.inl q)
      · exact .inl q
      · exact .inr (.inr q)
theorem All.swap2 {A B C : Th} {Ts : List Th} {w : World} {H : Nat → Prop} (h : All (A :: B :: C :: Ts) w H) : All (C :: A :: B :: Ts) w H := by
  obtain ⟨F, G, h1, h2, h3, h4⟩ := h
  exact All.swap ⟨F, G, h1, h2.swap, h3, h4⟩
theorem All.swap3 {A B C D : Th} {Ts : List Th} {w : World} {H : Nat → Prop} (h : All (A :: B :: C :: D :: Ts) w H) : All (D :: A :: B :: C :: Ts) w H := by
  obtain ⟨F, G, h1, h2, h3, h4⟩ := h
  exact All.swap ⟨F, G, h1, h2.swap2, h3, h4⟩
theorem All.swap4 {A B C D E : Th} {Ts : List Th} {w : World} {H : Nat → Prop} (h : All (A :: B :: C :: D :: E :: Ts) w H) : All (E :: A :: B :: C :: D :: Ts) w H := by
  obtain ⟨F, G, h1, h2, h3, h4⟩ := h
  exact All.swap ⟨F, G, h1, h2.swap3, h3, h4⟩

/-- All that the call made since w0, side by side. -/
structure Mine (Ts : List Th) (w0 w : World) : Prop where
  good : ∀ T ∈ Ts, Good T
  all : ∃ H, All Ts w H ∧ ∀ k, H k → w0.heap.size ≤ k
  bel : Below w0.heap.size w0 w
theorem Mine.nothing (w : World) : Mine [] w w := ⟨by simp, ⟨Non, fun _ h => h, fun _ h => h.elim⟩, Below.refl _ _⟩
theorem Mine.grew {Ts : List Th} {w0 w w' : World} (h : Mine Ts w0 w) (hb : Below w.heap.size w w') : Mine Ts w0 w' := by
  obtain ⟨g, ⟨H, h1, h2⟩, h3⟩ := h
  exact ⟨g, ⟨H, All.keep g h1 (Keep.of_grew hb Non) (fun _ _ h => h), h2⟩, Go.Proofs.Ytohmhbjiapflpaa.grew h3 hb⟩
theorem Mine.swap {A B : Th} {Ts : List Th} {w0 w : World} (h : Mine (A :: B :: Ts) w0 w) : Mine (B :: A :: Ts) w0 w := by
  obtain ⟨g, ⟨H, h1, h2⟩, h3⟩ := h
  exact ⟨fun T hT => g T (by simp only [List.mem_cons] at hT ⊢; rcases hT with h | h | h <;> simp [h]), ⟨H, h1.swap, h2⟩, h3⟩
theorem Mine.swap2 {A B C : Th} {Ts : List Th} {w0 w : World} (h : Mine (A :: B :: C :: Ts) w0 w) : Mine (C :: A :: B :: Ts) w0 w := by
  obtain ⟨g, ⟨H, h1, h2⟩, h3⟩ := h
  exact ⟨fun T hT => g T (by simp only [List.mem_cons] at hT ⊢; rcases hT with h | h | h | h <;> simp [h]), ⟨H, h1.swap2, h2⟩, h3⟩
theorem Mine.swap3 {A B C D : Th} {Ts : List Th} {w0 w : World} (h : Mine (A :: B :: C :: D :: Ts) w0 w) : Mine (D :: A :: B :: C :: Ts) w0 w := by
  obtain ⟨g, ⟨H, h1, h2⟩, h3⟩ := h
  exact ⟨fun T hT => g T (by simp only [List.mem_cons] at hT ⊢; rcases hT with h | h | h | h | h <;> simp [h]), ⟨H, h1.swap3, h2⟩, h3⟩
theorem Mine.swap4 {A B C D E : Th} {Ts : List Th} {w0 w : World} (h : Mine (A :: B :: C :: D :: E :: Ts) w0 w) : Mine (E :: A :: B :: C :: D :: Ts) w0 w := by
  obtain ⟨g, ⟨H, h1, h2⟩, h3⟩ := h
  exact ⟨fun T hT => g T (by simp only [List.mem_cons] at hT ⊢; rcases hT with h | h | h | h | h | h <;> simp [h]), ⟨H, h1.swap4, h2⟩, h3⟩
theorem Mine.drop {A : Th} {Ts : List Th} {w0 w : World} (h : Mine (A :: Ts) w0 w) : Mine Ts w0 w := by
  obtain ⟨g, ⟨H, ⟨F, G, h1, h2, h3, h4⟩, h5⟩, h6⟩ := h
  exact ⟨fun T hT => g T (by simp [hT]), ⟨G, h2, fun k hk => h5 k ((h4 k).2 (.inr hk))⟩, h6⟩
/-- The first one as it lies. -/
theorem Mine.first {A : Th} {Ts : List Th} {w0 w : World} (h : Mine (A :: Ts) w0 w) : ∃ F, A w F ∧ ∀ k, F k → w0.heap.size ≤ k := by
  obtain ⟨g, ⟨H, ⟨F, G, h1, h2, h3, h4⟩, h5⟩, h6⟩ := h
  exact ⟨F, h1, fun k hk => h5 k ((h4 k).2 (.inl hk))⟩
/-- A new one. -/
theorem Mine.new {A : Th} {Ts : List Th} (gA : Good A) {w0 w w' : World} {F : Nat → Prop} (h : Mine Ts w0 w) (hA : A w' F) (hF : ∀ k, F k → w.heap.size ≤ k) (hb : Below w.heap.size w w') : Mine (A :: Ts) w0 w' := by
  obtain ⟨g, ⟨H, h1, h5⟩, h6⟩ := h
  refine ⟨fun T hT => ?_, ⟨fun k => F k ∨ H k, ⟨F, H, hA, All.keep g h1 (Keep.of_grew hb Non) (fun _ _ h => h), fun k hk hH => ?_, fun k => Iff.rfl⟩, fun k hk => ?_⟩, Go.Proofs.Ytohmhbjiapflpaa.grew h6 hb⟩
  · rcases List.mem_cons.1 hT with rfl | h
    · exact gA
    · exact g T h
  · have := All.lt g h1 hH
    have := hF k hk
    omega
  · rcases hk with q | q
    · exact Nat.le_trans h6.size (hF k q)
    · exact h5 k q
/-- The first one is another one behind a call. -/
theorem Mine.step {A A' : Th} {Ts : List Th} (gA : Good A') {w0 w w' : World} (h : Mine (A :: Ts) w0 w) (hs : ∀ F, A w F → TStep A' w F w') : Mine (A' :: Ts) w0 w' := by
  obtain ⟨g, ⟨H, ⟨F, G, h1, h2, h3, h4⟩, h5⟩, h6⟩ := h
  obtain ⟨F', k1, k2, k3⟩ := hs F h1
  have g' : ∀ T ∈ Ts, Good T := fun T hT => g T (by simp [hT])
  have hG : ∀ k, G k → k < w.heap.size := fun k hk => All.lt g' h2 hk
  refine ⟨fun T hT => ?_, ⟨fun k => F' k ∨ G k, ⟨F', G, k1, All.keep g' h2 k2 (fun k hk hF => h3 k hF hk), fun k hF hk => ?_, fun k => Iff.rfl⟩, fun k hk => ?_⟩, h6.trans (k2.below h6.size (fun i hi => h5 i ((h4 i).2 (.inl hi))))⟩
  · rcases List.mem_cons.1 hT with rfl | h
    · exact gA
    · exact g' T h
  · rcases k3 k hF with q | q
    · exact h3 k q hk
    · have := hG k hk; omega
  · rcases hk with q | q
    · rcases k3 k q with q | q
      · exact h5 k ((h4 k).2 (.inl q))
      · exact Nat.le_trans h6.size q
    · exact h5 k ((h4 k).2 (.inr q))
/-- What a call does that turns the first one; r: what more it tells. -/
theorem Mine.call {A A' : Th} {Ts : List Th} (gA : Good A') {w0 w : World} (h : Mine (A :: Ts) w0 w) {f : Nat} {ar : Array Value} {R : Ending → World → Prop}
    (hc : ∀ F, A w F → Calls Try.prog f ar w fun e w' => R e w' ∧ TStep A' w F w') : Calls Try.prog f ar w fun e w' => R e w' ∧ Mine (A' :: Ts) w0 w' := by
  have h0 := h
  obtain ⟨g, ⟨H, ⟨F, G, h1, h2, h3, h4⟩, h5⟩, h6⟩ := h
  refine (hc F h1).mono fun e w' ⟨k1, k2⟩ => ⟨k1, ?_⟩
  obtain ⟨F', q1, q2, q3⟩ := k2
  have g' : ∀ T ∈ Ts, Good T := fun T hT => g T (by simp [hT])
  have hG : ∀ k, G k → k < w.heap.size := fun k hk => All.lt g' h2 hk
  refine ⟨fun T hT => ?_, ⟨fun k => F' k ∨ G k, ⟨F', G, q1, All.keep g' h2 q2 (fun k hk hF => h3 k hF hk), fun k hF hk => ?_, fun k => Iff.rfl⟩, fun k hk => ?_⟩, h6.trans (q2.below h6.size (fun i hi => h5 i ((h4 i).2 (.inl hi))))⟩
  · rcases List.mem_cons.1 hT with rfl | h
    · exact gA
    · exact g' T h
  · rcases q3 k hF with q | q
    · exact h3 k q hk
    · have := hG k hk; omega
  · rcases hk with q | q
    · rcases q3 k q with q | q
      · exact h5 k ((h4 k).2 (.inl q))
      · exact Nat.le_trans h6.size q
    · exact h5 k ((h4 k).2 (.inr q))
/-- What a call does that turns nothing that lay there. -/
theorem Mine.look {Ts : List Th} {w0 w : World} (h : Mine Ts w0 w) {f : Nat} {ar : Array Value} {R : Ending → World → Prop}
    (hc : Calls Try.prog f ar w fun e w' => R e w' ∧ Below w.heap.size w w') : Calls Try.prog f ar w fun e w' => R e w' ∧ Mine Ts w0 w' :=
  hc.mono fun _ _ ⟨k1, k2⟩ => ⟨k1, h.grew k2⟩
end Go.Proofs.Ytohmhbjiapflpaa
