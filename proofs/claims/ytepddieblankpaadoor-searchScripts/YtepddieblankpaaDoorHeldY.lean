/- A region that draws its order and holds one operation behind which nothing is known of memory: what is read ahead of it is taken first. -/
import Derived.Test.YtepddieblankpaaDoorWvHeld
namespace Go.Proofs.YtepddieblankpaaDoor
open Go.RowKit
set_option linter.unusedVariables false

section
variable {F : Fence} {n : Nat} {P : Program} {ops : Array Oper} {Q : Exit → Act → World → Prop} {md : Region.Mode} {S : World → Prop} {y : Nat}

/-- The rest of a region, whatever comes next; till y is listed the world is one of S. -/
def wpAnyY (F : Fence) (n : Nat) (P : Program) (md : Region.Mode) (ops : Array Oper) (Q : Exit → Act → World → Prop) (S : World → Prop) (y : Nat) : Nat → Array Bool → Act → World → Prop
  | 0, listed, a, w => Region.ready md ops listed = [] ∧ Q .normal a w
  | fuel + 1, listed, a, w => (Region.ready md ops listed = [] → Q .normal a w) ∧ ∀ i ∈ Region.ready md ops listed, wpOpIn F n P ops Q i (fun a' w' => ((listed.setIfInBounds i true).getD y true = false → S w') ∧ wpAnyY F n P md ops Q S y fuel (listed.setIfInBounds i true) a' w') a w
theorem wpAnyY.any : ∀ {fuel : Nat} {listed : Array Bool} {a : Act} {w : World}, wpAnyY F n P md ops Q S y fuel listed a w → wpAnyIn F n P md ops Q fuel listed a w
  | 0, _, _, _, h => h
  | fuel + 1, _, _, _, h => ⟨h.1, fun i hi => wpOpIn_mono (fun _ _ k => wpAnyY.any k.2) (h.2 i hi)⟩

/-- What waits for i, one behind the other. -/
def waiters (md : Region.Mode) (ops : Array Oper) (i : Nat) : List Nat :=
  (List.range ops.size).foldl (fun D k => match ops[k]? with | some o => if o.after.any (fun e => Region.binds md e && (e.on == i || D.contains e.on)) then D ++ [k] else D | none => D) []
def waitsB (md : Region.Mode) (ops : Array Oper) (D : List Nat) (i : Nat) (listed : Array Bool) : Bool :=
  D.all fun k => !(listed.getD k true) && (match ops[k]? with | some o => o.after.any fun e => Region.binds md e && (e.on == i || D.contains e.on) | none => false)
def Waits (md : Region.Mode) (ops : Array Oper) (D : List Nat) (i : Nat) (listed : Array Bool) : Prop :=
  ∀ k ∈ D, listed.getD k true = false ∧ ∃ o, ops[k]? = some o ∧ ∃ e ∈ o.after, Region.binds md e = true ∧ (e.on = i ∨ e.on ∈ D)
theorem waitsB_spec {D : List Nat} {i : Nat} {listed : Array Bool} (h : waitsB md ops D i listed = true) : Waits md ops D i listed := by
  intro k hk
  have := List.all_eq_true.1 h k hk
  simp only [Bool.and_eq_true, Bool.not_eq_true'] at this
  refine ⟨this.1, ?_⟩
  have h2 := this.2
  split at h2
  · rename_i o ho
    obtain ⟨e, he, hb⟩ := Array.any_eq_true'.1 h2
    simp only [Bool.and_eq_true, Bool.or_eq_true, beq_iff_eq, List.contains_iff_mem] at hb
    exact ⟨o, ho, e, he, hb.1, hb.2⟩
  · cases h2
theorem getD_in' {listed : Array Bool} {i : Nat} (h : listed.getD i true = false) : listed.getD i false = false := by
  rcases Nat.lt_or_ge i listed.size with h' | h'
  · simp [h'] at h ⊢; exact h
  · simp [Array.getElem?_eq_none h'] at h
theorem Waits.not_ready {D : List Nat} {i j : Nat} {listed : Array Bool} (h : Waits md ops D i listed) (hi : listed.getD i true = false) (hj : j ∈ Region.ready md ops listed) : j ∉ D := by
  intro hD
  obtain ⟨_, oj, hoj, hall⟩ := mem_ready.1 hj
  obtain ⟨_, o, ho, e, he, hb, hon⟩ := h j hD
  rw [hoj] at ho
  cases ho
  have h1 := hall e he hb
  have h2 : listed.getD e.on true = false := by
    rcases hon with rfl | hon
    · exact hi
    · exact (h _ hon).1
  rw [getD_in' h2] at h1
  cases h1
theorem Waits.set {D : List Nat} {i j : Nat} {listed : Array Bool} (h : Waits md ops D i listed) (hj : j ∉ D) : Waits md ops D i (listed.setIfInBounds j true) := by
  intro k hk
  obtain ⟨h1, h2⟩ := h k hk
  refine ⟨?_, h2⟩
  have hjk : j ≠ k := fun e => by subst e; exact hj hk
  rw [getD_set_ne true hjk]
  exact h1

theorem wpAnyY_first {i : Nat} {oi : Oper} {v : Value} {D : List Nat} (hF : ∀ f, F.fn f) (hi : ops[i]? = some oi) (hsel : ∀ (j : Nat) (o : Oper) cs b, ops[j]? = some o → o.op ≠ .select cs b) (hdef : ∀ (j : Nat) (o : Oper) c, ops[j]? = some o → o.op ≠ .defer c)
    (hQ : ∀ c a w, Q (.panic c) (a.put oi.dst v) w → Q (.panic c) a w) (hyD : y ∈ D) (hyi : y ≠ i) :
    ∀ (fuel : Nat) (listed : Array Bool) (a : Act) (w : World),
      (∀ j oj, ops[j]? = some oj → j ≠ i → listed.getD j true = false → (∀ e ∈ oj.after, Region.binds md e = true → e.on ≠ i) → oi.apart ops oj = true) →
      Waits md ops D i listed → i ∈ Region.ready md ops listed → S w → Tells P ops S oi v a →
      wpAnyY F n P md ops Q S y fuel (listed.setIfInBounds i true) (a.put oi.dst v) w → wpAnyY F n P md ops Q S y (fuel + 1) listed a w := by
  intro fuel
  induction fuel with
  | zero =>
    intro listed a w _ _ hr hS hy H
    refine ⟨fun h => (by rw [h] at hr; cases hr), fun j hj => ?_⟩
    by_cases hji : j = i
    · subst hji
      exact hy.op hF hi (fun c => hdef _ _ c hi) hS ⟨fun _ => hS, H⟩
    · have := ready_mono hj hji
      rw [H.1] at this
      cases this
  | succ fuel ih =>
    intro listed a w hfree hwt hr hS hy H
    refine ⟨fun h => (by rw [h] at hr; cases hr), fun j hj => ?_⟩
    by_cases hji : j = i
    · subst hji
      exact hy.op hF hi (fun c => hdef _ _ c hi) hS ⟨fun _ => hS, H⟩
    · have h1 := H.2 j (ready_mono hj hji)
      obtain ⟨hjun, oj, hoj, hall⟩ := mem_ready.1 hj
      have hiun := (mem_ready.1 hr).1
      have hnot : ∀ e ∈ oj.after, Region.binds md e = true → e.on ≠ i := fun e he hb heq => by
        have h1 := hall e he hb
        rw [heq, getD_in' hiun] at h1
        cases h1
      have hjD := hwt.not_ready hiun hj
      have h2 := hy.other hF hoj (fun c => hdef _ _ c hoj) (hfree j oj hoj hji hjun hnot) (fun cs b => hsel i oi cs b hi) (fun cs b => hsel j oj cs b hoj) hQ h1
      have hfree' : ∀ k ok, ops[k]? = some ok → k ≠ i → (listed.setIfInBounds j true).getD k true = false →
          (∀ e ∈ ok.after, Region.binds md e = true → e.on ≠ i) → oi.apart ops ok = true := fun k ok hk hki hun hno => by
        refine hfree k ok hk hki ?_ hno
        by_cases hjk : j = k
        · subst hjk; exact hjun
        · rw [getD_set_ne true hjk] at hun; exact hun
      have hyl : ((listed.setIfInBounds i true).setIfInBounds j true).getD y true = false := by
        have hjy : j ≠ y := fun e => by subst e; exact hjD hyD
        rw [getD_set_ne true hjy, getD_set_ne true (Ne.symm hyi)]
        exact (hwt y hyD).1
      refine wpOpIn_mono (fun a' w' h3 => ⟨fun _ => h3.2.1 hyl, ih (listed.setIfInBounds j true) a' w' hfree' (hwt.set hjD) (ready_mono hr (Ne.symm hji)) (h3.2.1 hyl) h3.1 ?_⟩) h2
      rw [Array.setIfInBounds_comm _ _ hji]
      exact h3.2.2

theorem wpAnyY_take {i : Nat} {oi : Oper} {v : Value} {fuel : Nat} {listed : Array Bool} {a : Act} {w : World} (hF : ∀ f, F.fn f) (hi : ops[i]? = some oi)
    (hs : Region.noSelect ops = true) (hd : ops.all (fun o => match o.op with | .defer _ => false | _ => true) = true) (hf : Region.free md ops listed i = true) (hr : (Region.ready md ops listed).contains i = true)
    (hwt : waitsB md ops (waiters md ops i) i listed = true) (hyD : (waiters md ops i).contains y = true) (hyi : (y != i) = true)
    (hQ : ∀ c a w, Q (.panic c) (a.put oi.dst v) w → Q (.panic c) a w) (hS : S w) (hy : Tells P ops S oi v a)
    (h : wpAnyY F n P md ops Q S y fuel (listed.setIfInBounds i true) (a.put oi.dst v) w) : wpAnyY F n P md ops Q S y (fuel + 1) listed a w :=
  wpAnyY_first (D := waiters md ops i) hF hi (Region.noSelect_spec hs) (fun j o c hj e => by
    obtain ⟨hlt, rfl⟩ := Array.getElem?_eq_some_iff.1 hj
    have := Array.all_eq_true.1 hd j hlt
    rw [e] at this
    cases this) hQ (List.contains_iff_mem.1 hyD) (by simpa using hyi) fuel listed a w (Region.free_spec hi hf) (waitsB_spec hwt) (by simpa using hr) hS hy h
/-- One alone may come next. -/
theorem wpAnyY_one {i : Nat} {o : Oper} {fuel : Nat} {listed : Array Bool} {a : Act} {w : World} (hr : Region.ready md ops listed = [i]) (ho : ops[i]? = some o)
    (h : ∀ K : Act → World → Prop, (∀ a w, ((listed.setIfInBounds i true).getD y true = false → S w) → wpAnyY F n P md ops Q S y fuel (listed.setIfInBounds i true) a w → K a w) → if Region.wanted o (yielded ops a.tmps) = true then Oper.wpIn F n P o a w K Q else (∀ f, o.about P w a.eval = some f → F.fn f) ∧ K (a.put o.dst undef) w) :
    wpAnyY F n P md ops Q S y (fuel + 1) listed a w := by
  refine ⟨fun h0 => (by rw [hr] at h0; cases h0), fun j hj => ?_⟩
  rw [hr] at hj
  have : j = i := by simpa using hj
  subst this
  exact wpOpIn_step ho (fun K hK => h K (fun a w hS hW => hK a w ⟨hS, hW⟩))
theorem wpAnyY_done {listed : Array Bool} {a : Act} {w : World} (hr : Region.ready md ops listed = []) (h : Q .normal a w) : ∀ fuel, wpAnyY F n P md ops Q S y fuel listed a w
  | 0 => ⟨hr, h⟩
  | _ + 1 => ⟨fun _ => h, by rw [hr]; simp⟩
end
end Go.Proofs.YtepddieblankpaaDoor
