/- A line behind the taking of one. -/
import Derived.Test.YtohmhbjiapflpaaWvPut2
import Derived.Test.YtohmhbjiapflpaaWvDel
namespace Go.Proofs.Ytohmhbjiapflpaa
open Go.RowKit Go.Maps
set_option linter.unusedVariables false

def Weave.less (L : List Wel) (x : Int × Int) : List Wel := L.filter fun e => decide (e.id ≠ x)
theorem Weave.mem_less {L : List Wel} {x : Int × Int} {e : Wel} : e ∈ Weave.less L x ↔ e ∈ L ∧ e.id ≠ x := by simp [Weave.less]
theorem Weave.less_ok {L : List Wel} (h : Weave.Ok L) {x : Int × Int} (hn : Weave.kids L x = []) : Weave.Ok (Weave.less L x) := by
  refine ⟨h.apart.filter _, fun e he => h.may e (Weave.mem_less.1 he).1, fun e he => ?_, Nat.le_trans (List.length_filter_le _ _) h.few⟩
  have he' := (Weave.mem_less.1 he).1
  rcases h.ref e he' with q | ⟨q1, q2, d, hd, q3⟩
  · exact .inl q
  · refine .inr ⟨q1, q2, d, Weave.mem_less.2 ⟨hd, fun hx => ?_⟩, q3⟩
    have : e.id ∈ Weave.kids L x := ((Weave.kids_spec h.apart x).2 e.id).2 ⟨e, he', by rw [← hx, q3], rfl⟩
    rw [hn] at this
    cases this
theorem Weave.less_mem {L : List Wel} (h : Weave.Ok L) (x y z : Int × Int) : z ∈ Weave.kids (Weave.less L x) y ↔ z ∈ Weave.kids L y ∧ z ≠ x := by
  rw [(Weave.kids_spec (L := Weave.less L x) (h.apart.filter _) y).2 z, (Weave.kids_spec h.apart y).2 z]
  constructor
  · rintro ⟨e, he, h1, h2⟩
    obtain ⟨he, hx⟩ := Weave.mem_less.1 he
    exact ⟨⟨e, he, h1, h2⟩, by rw [← h2]; exact hx⟩
  · rintro ⟨⟨e, he, h1, h2⟩, hx⟩
    exact ⟨e, Weave.mem_less.2 ⟨he, by rw [h2]; exact hx⟩, h1, h2⟩
theorem Weave.less_other {L : List Wel} (h : Weave.Ok L) {d : Wel} (hd : d ∈ L) {y : Int × Int} (hy : y ≠ d.ref) : Weave.kids (Weave.less L d.id) y = Weave.kids L y := by
  refine Idn.same (Weave.kids_spec (h.apart.filter _) y).1 (Weave.kids_spec h.apart y).1 (fun z => ?_)
  rw [Weave.less_mem h]
  refine ⟨fun h => h.1, fun hz => ⟨hz, fun e => ?_⟩⟩
  obtain ⟨e', he', h1, h2⟩ := ((Weave.kids_spec h.apart y).2 z).1 hz
  have hee : e' = d := by
    have h3 := Weave.Ok.at_eq h.apart he'
    have h4 := Weave.Ok.at_eq h.apart hd
    rw [h2, e] at h3
    rw [← h3, h4]
  rw [hee] at h1
  exact hy h1.symm
theorem Weave.less_rank {L : List Wel} (h : Weave.Ok L) {d : Wel} (hd : d ∈ L) : Idn.rank (Weave.kids L d.ref) d.id < (Weave.kids L d.ref).length ∧
    Weave.kids (Weave.less L d.id) d.ref = (Weave.kids L d.ref).take (Idn.rank (Weave.kids L d.ref) d.id) ++ (Weave.kids L d.ref).drop (Idn.rank (Weave.kids L d.ref) d.id + 1) := by
  have hs := Weave.kids_spec h.apart d.ref
  obtain ⟨hi, he⟩ := (Idn.rank_mem hs.1 d.id).1 ((hs.2 d.id).2 ⟨d, hd, rfl, rfl⟩)
  refine ⟨hi, ?_⟩
  rw [← List.eraseIdx_eq_take_drop_succ]
  refine Idn.same (Weave.kids_spec (h.apart.filter _) d.ref).1 (hs.1.sublist (List.eraseIdx_sublist _ _)) (fun z => ?_)
  rw [Weave.less_mem h, List.mem_eraseIdx_iff_getElem]
  constructor
  · rintro ⟨hz, hne⟩
    obtain ⟨i, hi2, e⟩ := List.getElem_of_mem hz
    refine ⟨i, hi2, fun e' => hne ?_, e⟩
    subst e'
    rw [← e, he]
  · rintro ⟨i, hi2, hne, e⟩
    refine ⟨by rw [← e]; exact List.getElem_mem _, fun e' => ?_⟩
    rw [e', ← he] at e
    have hp := List.pairwise_iff_getElem.1 hs.1
    rcases Nat.lt_or_gt_of_ne hne with q | q
    · have := hp _ _ hi2 hi q
      rw [e, Idn.lt_irrefl] at this
      cases this
    · have := hp _ _ hi hi2 q
      rw [e, Idn.lt_irrefl] at this
      cases this
theorem Weave.less_len {L : List Wel} (h : Weave.Ok L) {d : Wel} (hd : d ∈ L) : (Weave.kids (Weave.less L d.id) d.ref).length + 1 = (Weave.kids L d.ref).length := by
  obtain ⟨h1, h2⟩ := Weave.less_rank h hd
  rw [h2, List.length_append, List.length_take, List.length_drop]
  omega
theorem hasL_less (L : List Wel) (x : Int × Int) : butP (hasL L) x = hasL (Weave.less L x) := by
  unfold butP hasL Weave.less
  rw [List.filter_map]
  rfl

theorem take_line {W4 W5 W9 W10 : World} {p mh mk : Nat} {L : List Wel} {ks ks' : List ((Int × Int) × KSl)} {d : Wel} (h : LineM W4 p mh mk L ks) (hd : d ∈ L) (hno : Weave.kids L d.id = [])
    (h5 : PMap welC W5 24 mh (butP (hasL L) d.id)) (k5 : Keep (Just mh) W4 W5) {b9 c9 n : Nat} (hn : (Weave.kids (Weave.less L d.id) d.ref).length = n)
    (ho : Owns W9 24 2 (.slice (some ⟨b9, 0, none⟩) n c9) n (idCells (Weave.kids (Weave.less L d.id) d.ref)))
    (k9 : Keep (At (((atP ks d.ref).getD KSl.none).enc)) W5 W9) (n9 : (((atP ks d.ref).getD KSl.none).enc).ownBlock = some b9)
    (h10 : PMap kslC W10 24 mk ks') (k10 : Keep (Just mk) W9 W10)
    (hks : (1 ≤ n ∧ ks' = butP ks d.ref ++ [(d.ref, ⟨some b9, n, c9⟩)]) ∨ (n = 0 ∧ ks' = butP ks d.ref)) :
    LineM W10 p mh mk (Weave.less L d.id) ks' := by
  obtain ⟨hv, hvn⟩ := h.at_ref d.ref
  have hok := Weave.less_ok h.ok hno
  have hpm := holds_map h.box h.has
  have hpk := holds_map h.box h.kids
  have hvh := own_map hv h.has n9
  have hvk := own_map hv h.kids n9
  have hvp := holds_own h.box hv (by decide) n9
  have hat : ∀ g, At (((atP ks d.ref).getD KSl.none).enc) g → g = b9 := fun g hg => by
    have hg : (((atP ks d.ref).getD KSl.none).enc).ownBlock = some g := hg
    rw [n9] at hg
    injection hg with hg
    exact hg.symm
  have hkeep : ∀ q ∈ ks, q.1 ≠ d.ref → ∃ b, q.2.b = some b ∧ b ≠ b9 ∧ q.2.n = (Weave.kids L q.1).length ∧ 1 ≤ q.2.n ∧ Owns W10 24 2 q.2.enc q.2.n (idCells (Weave.kids L q.1)) := by
    intro q hq hne
    obtain ⟨b, hb, hn, h1, ho⟩ := h.row q hq
    have hob : q.2.enc.ownBlock = some b := by rw [KSl.own, hb]
    have hap : b ≠ b9 := by
      cases ha : atP ks d.ref with
      | none => rw [ha] at n9; cases n9
      | some k =>
        rw [ha] at n9
        have hg' : k.b = some b9 := by rw [← KSl.own]; exact n9
        have := pairwise_ne (f := fun x : (Int × Int) × KSl => x.2.b) h.dist hq (atP_some ha) (fun e' => hne (by rw [e']))
        rintro rfl
        exact this (hb.trans hg'.symm)
    refine ⟨b, hb, hap, hn, h1, ?_⟩
    have o5 := ho.keep k5 (fun g hg => own_map ho h.has hg)
    have o9 := o5.keep k9 (fun g hg hat' => by
      rw [hob] at hg
      injection hg with hg
      subst hg
      exact hap (hat b hat'))
    exact o9.keep k10 (fun g hg => own_map ho h.kids hg)
  have hnew : Owns W10 24 2 (.slice (some ⟨b9, 0, none⟩) n c9) n (idCells (Weave.kids (Weave.less L d.id) d.ref)) := ho.keep k10 (fun g hg => by
    have hg' : some b9 = some g := hg
    injection hg' with hg'
    rw [← hg']
    exact hvk)
  refine ⟨?_, ?_, h10, h.pm, ?_, ?_, ?_, hok⟩
  · have b5 := h.box.keep k5 hpm
    have b9' := b5.keep k9 (fun h => hvp (hat p h).symm)
    exact b9'.keep k10 hpk
  · rw [hasL_less] at h5
    exact (h5.keep k9 (fun h => hvh (hat mh h).symm)).keep k10 h.pm
  · intro q hq
    have hold : q ∈ butP ks d.ref → ∃ b, q.2.b = some b ∧ q.2.n = (Weave.kids (Weave.less L d.id) q.1).length ∧ 1 ≤ q.2.n ∧ Owns W10 24 2 q.2.enc q.2.n (idCells (Weave.kids (Weave.less L d.id) q.1)) := fun hq => by
      obtain ⟨hq, hne⟩ := mem_butP.1 hq
      obtain ⟨b, hb, _, hn, h1, ho⟩ := hkeep q hq hne
      rw [Weave.less_other h.ok hd hne]
      exact ⟨b, hb, hn, h1, ho⟩
    rcases hks with ⟨h1, rfl⟩ | ⟨_, rfl⟩
    · rcases List.mem_append.1 hq with hq | hq
      · exact hold hq
      · rw [List.mem_singleton.1 hq]
        exact ⟨b9, rfl, hn.symm, h1, hnew⟩
    · exact hold hq
  · rcases hks with ⟨h1, rfl⟩ | ⟨_, rfl⟩
    · rw [List.pairwise_append]
      refine ⟨h.dist.filter _, by simp, fun x hx y hy => ?_⟩
      rw [List.mem_singleton.1 hy]
      obtain ⟨hx, hne⟩ := mem_butP.1 hx
      obtain ⟨b, hb, hbb, _⟩ := hkeep x hx hne
      rw [hb]
      intro e'
      injection e' with e'
      exact hbb e'
    · exact h.dist.filter _
  · intro x hx
    by_cases hxr : x = d.ref
    · rcases hks with ⟨h1, rfl⟩ | ⟨h1, rfl⟩
      · exact ⟨_, List.mem_append_right _ (List.mem_singleton.2 rfl), hxr.symm⟩
      · exfalso
        rw [hxr] at hx
        exact hx (List.eq_nil_of_length_eq_zero (by omega))
    · rw [Weave.less_other h.ok hd hxr] at hx
      obtain ⟨q, hq, hqx⟩ := h.all x hx
      have hq' : q ∈ butP ks d.ref := mem_butP.2 ⟨hq, by rw [hqx]; exact hxr⟩
      rcases hks with ⟨_, rfl⟩ | ⟨_, rfl⟩
      · exact ⟨q, List.mem_append_left _ hq', hqx⟩
      · exact ⟨q, hq', hqx⟩
end Go.Proofs.Ytohmhbjiapflpaa
