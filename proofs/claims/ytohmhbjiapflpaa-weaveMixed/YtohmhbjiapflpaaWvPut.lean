/- What put comes to. -/
import Derived.Test.YtohmhbjiapflpaaWvMem
import Derived.Test.YtohmhbjiapflpaaIdRank
import Derived.Test.YtohmhbjiapflpaaQLater
import Derived.StillTailTactics
import Derived.Deep.RegionWith
namespace Go.Proofs.Ytohmhbjiapflpaa
open Go.RowKit Go.Maps
set_option linter.unusedVariables false

namespace Weave
theorem kids_snoc (L : List Wel) (e : Wel) (x : Int × Int) : kids (L ++ [e]) x = if e.ref = x then ins e.id (kids L x) else kids L x := by
  unfold kids
  rw [List.filter_append, List.map_append, List.foldl_append]
  by_cases h : e.ref = x
  · rw [if_pos h]
    simp [h]
  · rw [if_neg h]
    simp [h]
end Weave
theorem hasL_snoc (L : List Wel) (e : Wel) : hasL (L ++ [e]) = hasL L ++ [(e.id, e)] := by simp [hasL]
theorem hasL_but {L : List Wel} {e : Wel} (h : (L ++ [e]).Pairwise (fun a b => a.id ≠ b.id)) : butP (hasL L) e.id = hasL L := by
  rw [List.pairwise_append] at h
  unfold butP hasL
  rw [List.filter_eq_self]
  intro q hq
  obtain ⟨d, hd, rfl⟩ := List.mem_map.1 hq
  exact decide_eq_true (h.2.2 d hd e (by simp))

theorem PMap.obj {α : Type} {C : Coded α} {w : World} {k : TypeId} {mp : Nat} {es : List ((Int × Int) × α)} (h : PMap C w k mp es) : ∃ xs clock, w.heap[mp]? = some (.map xs clock) := by
  obtain ⟨D, ⟨xs, clock, hb, _⟩, _⟩ := h
  exact ⟨xs, clock, hb⟩
theorem own_obj {w : World} {T : TypeId} {size : Nat} {v : Value} {n : Nat} {xs : List Value} (h : Owns w T size v n xs) {g : Nat} (hg : v.ownBlock = some g) : ∃ cur, w.heap[g]? = some (.cells cur T (0, 0)) := by
  rcases h.2 with ⟨rfl, _⟩ | ⟨b, cap, cur, rfl, _, hb, _⟩
  · cases hg
  · injection hg with hg
    subst hg
    exact ⟨cur, hb⟩
theorem own_map {α : Type} {C : Coded α} {w : World} {k T : TypeId} {size mp : Nat} {v : Value} {n : Nat} {xs : List Value} {es : List ((Int × Int) × α)} (h : Owns w T size v n xs) (hm : PMap C w k mp es) {g : Nat} (hg : v.ownBlock = some g) : g ≠ mp := by
  rintro rfl
  obtain ⟨cur, h1⟩ := own_obj h hg
  obtain ⟨a, b, h2⟩ := hm.obj
  rw [h1] at h2
  cases h2
theorem holds_map {α : Type} {C : Coded α} {w : World} {k T : TypeId} {mp p : Nat} {cs : List Value} {es : List ((Int × Int) × α)} (h : Holds w p cs T) (hm : PMap C w k mp es) : p ≠ mp := by
  rintro rfl
  obtain ⟨a, b, h2⟩ := hm.obj
  rw [h] at h2
  cases h2
theorem holds_own {w : World} {T U : TypeId} {size p : Nat} {v : Value} {n : Nat} {xs cs : List Value} (h : Holds w p cs U) (ho : Owns w T size v n xs) (hT : U ≠ T) {g : Nat} (hg : v.ownBlock = some g) : g ≠ p := by
  rintro rfl
  obtain ⟨cur, h1⟩ := own_obj ho hg
  rw [h] at h1
  injection h1 with h1
  injection h1 with _ h1
  exact hT h1

/-- What is known of the kids of a ref in a line. -/
theorem LineM.at_ref {w : World} {p mh mk : Nat} {L : List Wel} {ks : List ((Int × Int) × KSl)} (h : LineM w p mh mk L ks) (x : Int × Int) :
    Owns w 24 2 (((atP ks x).getD KSl.none).enc) (Weave.kids L x).length (idCells (Weave.kids L x)) ∧ ((atP ks x).getD KSl.none).n = (Weave.kids L x).length := by
  cases ha : atP ks x with
  | none =>
    have hk : Weave.kids L x = [] := by
      cases hkk : Weave.kids L x with
      | nil => rfl
      | cons y ys =>
        obtain ⟨q, hq, hqx⟩ := h.all x (by rw [hkk]; simp)
        exact absurd hqx (atP_none ha q hq)
    rw [hk]
    exact ⟨Owns.nil _ _ _, rfl⟩
  | some k =>
    obtain ⟨b, hb, hn, h1, ho⟩ := h.row _ (atP_some ha)
    have hn' : k.n = (Weave.kids L x).length := hn
    have ho' : Owns w 24 2 k.enc k.n (idCells (Weave.kids L x)) := ho
    rw [hn'] at ho'
    exact ⟨ho', hn'⟩
theorem KSl.own (k : KSl) : k.enc.ownBlock = k.b := by
  unfold KSl.enc Value.ownBlock
  cases k.b <;> rfl
theorem pairwise_ne {α : Type} {β : Type} {f : α → β} : ∀ {xs : List α}, xs.Pairwise (fun x y => f x ≠ f y) → ∀ {x y : α}, x ∈ xs → y ∈ xs → x ≠ y → f x ≠ f y
  | [], _, x, y, hx, _, _ => by cases hx
  | z :: zs, h, x, y, hx, hy, hn => by
    obtain ⟨h1, h2⟩ := List.pairwise_cons.1 h
    rcases List.mem_cons.1 hx with rfl | hx'
    · rcases List.mem_cons.1 hy with rfl | hy'
      · exact absurd rfl hn
      · exact h1 y hy'
    · rcases List.mem_cons.1 hy with rfl | hy'
      · exact fun e => h1 x hx' e.symm
      · exact pairwise_ne h2 hx' hy' hn

/-- The kids of e's ref behind the insertion. -/
theorem put_line {W4 W5 W9 W10 : World} {p mh mk : Nat} {L : List Wel} {ks : List ((Int × Int) × KSl)} {e : Wel} (h : LineM W4 p mh mk L ks) (hok : Weave.Ok (L ++ [e]))
    (h5 : PMap welC W5 24 mh (butP (hasL L) e.id ++ [(e.id, e)])) (k5 : Keep (Just mh) W4 W5) {b9 c9 : Nat}
    (ho : Owns W9 24 2 (.slice (some ⟨b9, 0, none⟩) ((Weave.kids L e.ref).length + 1) c9) ((Weave.kids L e.ref).length + 1) (idCells (Weave.ins e.id (Weave.kids L e.ref))))
    (k9 : Keep (At (((atP ks e.ref).getD KSl.none).enc)) W5 W9) (n9 : Near W5 (((atP ks e.ref).getD KSl.none).enc) (.slice (some ⟨b9, 0, none⟩) ((Weave.kids L e.ref).length + 1) c9))
    (h10 : PMap kslC W10 24 mk (butP ks (e.ref.1, e.ref.2) ++ [((e.ref.1, e.ref.2), ⟨some b9, (Weave.kids L e.ref).length + 1, c9⟩)])) (k10 : Keep (Just mk) W9 W10) :
    LineM W10 p mh mk (L ++ [e]) (butP ks e.ref ++ [(e.ref, ⟨some b9, (Weave.kids L e.ref).length + 1, c9⟩)]) := by
  obtain ⟨hv, hvn⟩ := h.at_ref e.ref
  have hpm := holds_map h.box h.has
  have hpk := holds_map h.box h.kids
  have hvh : ∀ g, (((atP ks e.ref).getD KSl.none).enc).ownBlock = some g → g ≠ mh := fun g hg => own_map hv h.has hg
  have hvk : ∀ g, (((atP ks e.ref).getD KSl.none).enc).ownBlock = some g → g ≠ mk := fun g hg => own_map hv h.kids hg
  have hvp : ∀ g, (((atP ks e.ref).getD KSl.none).enc).ownBlock = some g → g ≠ p := fun g hg => holds_own h.box hv (by decide) hg
  have s5 := k5.size
  have hmk := h.kids.lt
  have hbk : b9 ≠ mk := by
    rcases n9 b9 rfl with q | q
    · exact hvk b9 q
    · omega
  have hkeep : ∀ q ∈ ks, q.1 ≠ e.ref → ∃ b, q.2.b = some b ∧ b ≠ b9 ∧ q.2.n = (Weave.kids L q.1).length ∧ 1 ≤ q.2.n ∧ Owns W10 24 2 q.2.enc q.2.n (idCells (Weave.kids L q.1)) := by
    intro q hq hne
    obtain ⟨b, hb, hn, h1, ho⟩ := h.row q hq
    have hob : q.2.enc.ownBlock = some b := by rw [KSl.own, hb]
    have hap : ∀ g, (((atP ks e.ref).getD KSl.none).enc).ownBlock = some g → b ≠ g := by
      intro g hg
      cases ha : atP ks e.ref with
      | none => rw [ha] at hg; cases hg
      | some k =>
        rw [ha] at hg
        have hg' : k.b = some g := by rw [← KSl.own]; exact hg
        have := pairwise_ne (f := fun x : (Int × Int) × KSl => x.2.b) h.dist hq (atP_some ha) (fun e' => hne (by rw [e']))
        rintro rfl
        exact this (hb.trans hg'.symm)
    refine ⟨b, hb, ?_, hn, h1, ?_⟩
    · rcases n9 b9 rfl with q' | q'
      · exact hap b9 q'
      · have := ho.lt hob
        omega
    · have o5 := ho.keep k5 (fun g hg => own_map ho h.has hg)
      have o9 := o5.keep k9 (fun g hg hat => by
        rw [hob] at hg
        injection hg with hg
        subst hg
        exact hap b hat rfl)
      exact o9.keep k10 (fun g hg => own_map ho h.kids hg)
  have hsn : ∀ q ∈ ks, q.1 ≠ e.ref → Weave.kids (L ++ [e]) q.1 = Weave.kids L q.1 := fun q _ hne => by
    rw [Weave.kids_snoc, if_neg (fun e' => hne e'.symm)]
  have hse : Weave.kids (L ++ [e]) e.ref = Weave.ins e.id (Weave.kids L e.ref) := by
    rw [Weave.kids_snoc, if_pos rfl]
  refine ⟨?_, ?_, h10, h.pm, ?_, ?_, ?_, hok⟩
  · have b5 := h.box.keep k5 hpm
    have b9' := b5.keep k9 (fun hat => hvp p hat rfl)
    exact b9'.keep k10 hpk
  · rw [hasL_snoc]
    rw [hasL_but hok.apart] at h5
    exact (h5.keep k9 (fun hat => hvh mh hat rfl)).keep k10 h.pm
  · intro q hq
    rcases List.mem_append.1 hq with hq | hq
    · obtain ⟨hq, hne⟩ := mem_butP.1 hq
      obtain ⟨b, hb, _, hn, h1, ho⟩ := hkeep q hq hne
      rw [hsn q hq hne]
      exact ⟨b, hb, hn, h1, ho⟩
    · rw [List.mem_singleton.1 hq]
      refine ⟨b9, rfl, ?_, ?_, ?_⟩
      · rw [hse, Weave.ins_len]
      · simp
      · rw [hse]
        exact ho.keep k10 (fun g hg => by
          have : g = b9 := by
            have hg' : some b9 = some g := hg
            injection hg' with hg'
            exact hg'.symm
          rw [this]
          exact hbk)
  · rw [List.pairwise_append]
    refine ⟨h.dist.filter _, by simp, fun x hx y hy => ?_⟩
    rw [List.mem_singleton.1 hy]
    obtain ⟨hx, hne⟩ := mem_butP.1 hx
    obtain ⟨b, hb, hbb, _⟩ := hkeep x hx hne
    rw [hb]
    intro e'
    injection e' with e'
    exact hbb e'
  · intro x hx
    by_cases hxr : x = e.ref
    · exact ⟨_, List.mem_append_right _ (List.mem_singleton.2 rfl), hxr.symm⟩
    · rw [Weave.kids_snoc, if_neg (fun e' => hxr e'.symm)] at hx
      obtain ⟨q, hq, hqx⟩ := h.all x hx
      exact ⟨q, List.mem_append_left _ (mem_butP.2 ⟨hq, by rw [hqx]; exact hxr⟩), hqx⟩
end Go.Proofs.Ytohmhbjiapflpaa
