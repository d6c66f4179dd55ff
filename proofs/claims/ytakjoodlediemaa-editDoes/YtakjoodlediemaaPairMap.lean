/- Maps that are keyed by a pair of ints: plain data in a code of its own. -/
import Derived.Test.YtakjoodlediemaaPairKey
namespace Go.Proofs.Ytakjoodlediemaa
open Go.RowKit Go.Maps
set_option linter.unusedVariables false

/-- Values that stand for things: each by a row of numbers. -/
structure Coded (α : Type) where
  enc : α → Value
  code : α → List Int
  enc_inj : ∀ x y, enc x = enc y → x = y
  code_inj : ∀ x y, code x = code y → x = y
def numD (a : Int) : DataW Unit := .lit (.int .i64 a)
theorem nums_inj : ∀ {xs ys : List Int}, xs.map numD = ys.map numD → xs = ys
  | [], [], _ => rfl
  | [], y :: ys, h => by simp at h
  | x :: xs, [], h => by simp at h
  | x :: xs, y :: ys, h => by
    simp only [List.map_cons, List.cons.injEq] at h
    obtain ⟨h1, h2⟩ := h
    simp [numD] at h1
    rw [h1, nums_inj h2]
def Coded.dat {α : Type} (C : Coded α) (x : α) : DataW Unit := .agg ((C.code x).map numD)
theorem Coded.dat_inj {α : Type} (C : Coded α) {x y : α} (h : C.dat x = C.dat y) : x = y := by
  unfold Coded.dat at h
  injection h with h
  exact C.code_inj _ _ (nums_inj h)
open Classical in
/-- How a thing in the map reads. -/
noncomputable def Coded.rd {α : Type} (C : Coded α) (v : Value) : Option (DataW Unit × List MemPlace) := if h : ∃ x : α, v = C.enc x then some (C.dat (Classical.choose h), []) else none
theorem Coded.rd_enc {α : Type} (C : Coded α) (x : α) : C.rd (C.enc x) = some (C.dat x, []) := by
  have h : ∃ y : α, C.enc x = C.enc y := ⟨x, rfl⟩
  unfold Coded.rd
  rw [dif_pos h]
  rw [← C.enc_inj _ _ (Classical.choose_spec h)]
theorem Coded.rd_inv {α : Type} (C : Coded α) {v : Value} {y : DataW Unit × List MemPlace} (h : C.rd v = some y) : ∃ x : α, v = C.enc x ∧ y = (C.dat x, []) := by
  unfold Coded.rd at h
  split at h
  · rename_i hx
    injection h with h
    exact ⟨_, Classical.choose_spec hx, h.symm⟩
  · cases h
def OkP {α : Type} (x : (Int × Int) × α) : Prop := I64 x.1.1 ∧ I64 x.1.2

/-- A map as read holds just these messages. -/
structure ReadsP {α : Type} (C : Coded α) (D : DataW Unit) (es : List ((Int × Int) × α)) : Prop where
  apart : es.Pairwise fun x y => x.1 ≠ y.1
  size : Maps.size D = es.length
  ok : ∀ x ∈ es, OkP x
  yes : ∀ x ∈ es, Maps.has D (kl x.1.1 x.1.2) = true ∧ ∀ z, D.atKey (kl x.1.1 x.1.2) z = C.dat x.2
  no : ∀ a b, I64 a → I64 b → (∀ x ∈ es, x.1 ≠ (a, b)) → Maps.has D (kl a b) = false

theorem ReadsP.nil {α : Type} (C : Coded α) : ReadsP C (.map []) [] := ⟨.nil, rfl, by simp, by simp, fun a b _ _ _ => rfl⟩

/-- The messages but those of one key. -/
def butP {α : Type} (es : List ((Int × Int) × α)) (k : Int × Int) : List ((Int × Int) × α) := es.filter fun x => decide (x.1 ≠ k)
theorem mem_butP {α : Type} {es : List ((Int × Int) × α)} {k : Int × Int} {x : (Int × Int) × α} : x ∈ butP es k ↔ x ∈ es ∧ x.1 ≠ k := by simp [butP]

theorem length_butP {α : Type} : ∀ {es : List ((Int × Int) × α)} (k : Int × Int), es.Pairwise (fun x y => x.1 ≠ y.1) → (butP es k).length + (if ∃ x ∈ es, x.1 = k then 1 else 0) = es.length
  | [], k, _ => by simp [butP]
  | x :: es, k, h => by
    obtain ⟨h1, h2⟩ := List.pairwise_cons.1 h
    have ih := length_butP k h2
    by_cases e : x.1 = k
    · have hn : ¬ ∃ y ∈ es, y.1 = k := by
        rintro ⟨y, hy, ey⟩
        exact h1 y hy (e.trans ey.symm)
      rw [if_neg hn] at ih
      have e2 : butP (x :: es) k = butP es k := by simp [butP, e]
      rw [e2, if_pos ⟨x, by simp, e⟩]
      simp
      omega
    · have e2 : butP (x :: es) k = x :: butP es k := by simp [butP, e]
      rw [e2]
      have e3 : (∃ y ∈ x :: es, y.1 = k) ↔ ∃ y ∈ es, y.1 = k := by simp [e]
      simp only [e3]
      simp
      omega

theorem ReadsP.find {α : Type} {C : Coded α} {D : DataW Unit} {es : List ((Int × Int) × α)} (h : ReadsP C D es) {a b : Int} (ha : I64 a) (hb : I64 b) :
    (Maps.has D (kl a b) = true ∧ ∃ x ∈ es, x.1 = (a, b) ∧ ∀ z, D.atKey (kl a b) z = C.dat x.2) ∨ (Maps.has D (kl a b) = false ∧ ∀ x ∈ es, x.1 ≠ (a, b)) := by
  by_cases hx : ∃ x ∈ es, x.1 = (a, b)
  · obtain ⟨x, hx, e⟩ := hx
    have h1 : x.1.1 = a := congrArg Prod.fst e
    have h2 : x.1.2 = b := congrArg Prod.snd e
    have := h.yes x hx
    rw [h1, h2] at this
    exact .inl ⟨this.1, x, hx, e, this.2⟩
  · have hn : ∀ x ∈ es, x.1 ≠ (a, b) := fun x hx' e => hx ⟨x, hx', e⟩
    exact .inr ⟨h.no a b ha hb hn, hn⟩

theorem ReadsP.del {α : Type} {C : Coded α} {D : DataW Unit} {es : List ((Int × Int) × α)} {k : TypeId} (K : PairKey k) (h : ReadsP C D es) (hD : Tidy D) {a b : Int} (ha : I64 a) (hb : I64 b) : ReadsP C (D.del (kl a b)) (butP es (a, b)) := by
  refine ⟨h.apart.filter _, ?_, fun x hx => h.ok x (mem_butP.1 hx).1, fun x hx => ?_, fun c d hc hd hn => ?_⟩
  · have e1 := Maps.size_del (k := kl a b) hD
    have e2 := length_butP (a, b) h.apart
    rw [h.size] at e1
    rcases h.find ha hb with ⟨h1, x, hx, e, _⟩ | ⟨h1, hn⟩
    · rw [if_pos h1] at e1
      rw [if_pos ⟨x, hx, e⟩] at e2
      omega
    · rw [h1] at e1
      rw [if_neg (fun ⟨x, hx, e⟩ => hn x hx e)] at e2
      simp at e1
      omega
  · obtain ⟨hx, hne⟩ := mem_butP.1 hx
    have hk : kl x.1.1 x.1.2 ≠ kl a b := fun e => hne (by
      obtain ⟨e1, e2⟩ := K.inj (h.ok x hx).1 (h.ok x hx).2 ha hb e
      exact Prod.ext e1 e2)
    exact ⟨by rw [Maps.has_del_other hk]; exact (h.yes x hx).1, fun z => by rw [Maps.atKey_del_other hk]; exact (h.yes x hx).2 z⟩
  · by_cases e : (c, d) = (a, b)
    · obtain ⟨rfl, rfl⟩ := Prod.mk.inj e
      exact Maps.has_del_same
    · have hk : kl c d ≠ kl a b := fun e' => e (by obtain ⟨e1, e2⟩ := K.inj hc hd ha hb e'; rw [e1, e2])
      rw [Maps.has_del_other hk]
      refine h.no c d hc hd (fun x hx e' => ?_)
      exact hn x (mem_butP.2 ⟨hx, by rw [e']; exact e⟩) e'

theorem ReadsP.put {α : Type} {C : Coded α} {D : DataW Unit} {es : List ((Int × Int) × α)} {k : TypeId} (K : PairKey k) (h : ReadsP C D es) (hD : Tidy D) (x : (Int × Int) × α) (hx : OkP x) : ReadsP C (D.put (kl x.1.1 x.1.2) (C.dat x.2)) (butP es (x.1) ++ [x]) := by
  obtain ⟨ha, hb⟩ := hx
  have hkey : ∀ y ∈ es, y.1 ≠ x.1 → kl y.1.1 y.1.2 ≠ kl x.1.1 x.1.2 := fun y hy hne e => hne (by
    obtain ⟨e1, e2⟩ := K.inj (h.ok y hy).1 (h.ok y hy).2 ha hb e
    exact Prod.ext e1 e2)
  refine ⟨?_, ?_, ?_, ?_, ?_⟩
  · rw [List.pairwise_append]
    refine ⟨h.apart.filter _, by simp, fun y hy z hz => ?_⟩
    rw [List.mem_singleton.1 hz]
    exact (mem_butP.1 hy).2
  · have e1 := Maps.size_put (k := kl x.1.1 x.1.2) hD (C.dat x.2)
    have e2 := length_butP (x.1) h.apart
    rw [h.size] at e1
    rw [e1]
    simp
    rcases h.find ha hb with ⟨h1, y, hy, e, _⟩ | ⟨h1, hn⟩
    · rw [if_pos h1]
      rw [if_pos ⟨y, hy, e⟩] at e2
      omega
    · rw [h1]
      rw [if_neg (fun ⟨y, hy, e⟩ => hn y hy e)] at e2
      simp
      omega
  · intro y hy
    rcases List.mem_append.1 hy with hy | hy
    · exact h.ok y (mem_butP.1 hy).1
    · rw [List.mem_singleton.1 hy]; exact ⟨ha, hb⟩
  · intro y hy
    rcases List.mem_append.1 hy with hy | hy
    · obtain ⟨hy, hne⟩ := mem_butP.1 hy
      have := hkey y hy hne
      exact ⟨by rw [Maps.has_put_other this]; exact (h.yes y hy).1, fun z => by rw [Maps.atKey_put_other this]; exact (h.yes y hy).2 z⟩
    · rw [List.mem_singleton.1 hy]
      exact ⟨Maps.has_put_same hD.isMap (K.is ha hb) _, fun z => Maps.atKey_put_same hD.isMap (K.is ha hb) _ z⟩
  · intro c d hc hd hn
    have e : (c, d) ≠ (x.1.1, x.1.2) := fun e => hn x (by simp) e.symm
    have hk : kl c d ≠ kl x.1.1 x.1.2 := fun e' => e (by obtain ⟨e1, e2⟩ := K.inj hc hd ha hb e'; rw [e1, e2])
    rw [Maps.has_put_other hk]
    refine h.no c d hc hd (fun y hy e' => ?_)
    exact hn y (List.mem_append_left _ (mem_butP.2 ⟨hy, by rw [e']; exact e⟩)) e'

theorem ownsMap_tightP {w : World} {k : TypeId} {R : Value → Option (DataW Unit × List MemPlace)} {b n : Nat} {D : DataW Unit} (h : w.ownsMap Try.prog k R b n D) : w.ownsMap Try.prog k R b (Maps.size D) D := by
  obtain ⟨es, clock, hb, F, hs, rfl⟩ := h
  exact ⟨es, clock, hb, F, by simp [Maps.size, length_sorted], rfl⟩
theorem ownsMap_keptP {S : Nat → Prop} {w w' : World} {k : TypeId} {R : Value → Option (DataW Unit × List MemPlace)} {b n : Nat} {D : DataW Unit} (h : w.ownsMap Try.prog k R b n D) (hk : Keep S w w') (hn : ¬ S b) : w'.ownsMap Try.prog k R b n D := by
  have hl := h.lt
  obtain ⟨es, clock, hb, r⟩ := h
  exact ⟨es, clock, (hk.block b hl hn).trans hb, r⟩

/-- A map at mp that holds just these. -/
def PMap {α : Type} (C : Coded α) (w : World) (k : TypeId) (mp : Nat) (es : List ((Int × Int) × α)) : Prop := ∃ D, w.ownsMap Try.prog k C.rd mp es.length D ∧ ReadsP C D es
theorem PMap.lt {α : Type} {C : Coded α} {w : World} {k : TypeId} {mp : Nat} {es : List ((Int × Int) × α)} (h : PMap C w k mp es) : mp < w.heap.size := by
  obtain ⟨D, hD, _⟩ := h
  exact hD.lt
theorem PMap.keep {α : Type} {C : Coded α} {w w' : World} {S : Nat → Prop} {k : TypeId} {mp : Nat} {es : List ((Int × Int) × α)} (h : PMap C w k mp es) (hk : Keep S w w') (hn : ¬ S mp) : PMap C w' k mp es := by
  obtain ⟨D, hD, hr⟩ := h
  exact ⟨D, ownsMap_keptP hD hk hn, hr⟩
theorem PMap.nil {α : Type} (C : Coded α) (w : World) (k : TypeId) : PMap C (w.alloc (.map #[] 0)) k w.heap.size [] := ⟨_, World.ownsMap_made w Try.prog k C.rd, ReadsP.nil C⟩
theorem PMap.apart {α : Type} {C : Coded α} {w : World} {k : TypeId} {mp : Nat} {es : List ((Int × Int) × α)} (h : PMap C w k mp es) : es.Pairwise fun x y => x.1 ≠ y.1 := by
  obtain ⟨D, _, hr⟩ := h
  exact hr.apart
theorem PMap.ok {α : Type} {C : Coded α} {w : World} {k : TypeId} {mp : Nat} {es : List ((Int × Int) × α)} (h : PMap C w k mp es) : ∀ x ∈ es, OkP x := by
  obtain ⟨D, _, hr⟩ := h
  exact hr.ok
theorem PMap.len {α : Type} {C : Coded α} {w : World} {k t e : TypeId} {mp : Nat} {es : List ((Int × Int) × α)} (h : PMap C w k mp es) (ht : Try.prog.underlying t = some (.map k e)) (ty : TypeId) : (Builtin.len_ #[t] ty #[.map (some mp)]).run Try.prog w = .ok (.int .i64 (es.length : Int)) w := by
  obtain ⟨D, hD, hr⟩ := h
  rw [← hr.size]
  exact hD.len ht ty

/-- The thing of a key. -/
def atP {α : Type} (es : List ((Int × Int) × α)) (k : Int × Int) : Option α := (es.find? fun x => decide (x.1 = k)).map Prod.snd
theorem atP_some {α : Type} {es : List ((Int × Int) × α)} {k : Int × Int} {x : α} (h : atP es k = some x) : (k, x) ∈ es := by
  unfold atP at h
  cases hf : es.find? fun x => decide (x.1 = k) with
  | none => rw [hf] at h; cases h
  | some y =>
    rw [hf] at h
    have h1 := List.mem_of_find?_eq_some hf
    have h2 : y.1 = k := by simpa using List.find?_some hf
    have h3 : y.2 = x := Option.some.inj h
    rw [← h2, ← h3]
    exact h1
theorem atP_none {α : Type} {es : List ((Int × Int) × α)} {k : Int × Int} (h : atP es k = none) : ∀ x ∈ es, x.1 ≠ k := fun x hx => by
  unfold atP at h
  cases hf : es.find? fun x => decide (x.1 = k) with
  | none => simpa using (List.find?_eq_none.1 hf) x hx
  | some y => rw [hf] at h; cases h
theorem atP_mem {α : Type} {es : List ((Int × Int) × α)} (ha : es.Pairwise fun x y => x.1 ≠ y.1) {k : Int × Int} {x : α} (h : (k, x) ∈ es) : atP es k = some x := by
  cases hf : atP es k with
  | none => exact absurd rfl (atP_none hf _ h)
  | some y =>
    have h1 := atP_some hf
    obtain ⟨i, hi, ei⟩ := List.getElem_of_mem h
    obtain ⟨j, hj, ej⟩ := List.getElem_of_mem h1
    by_cases hij : i = j
    · subst hij
      rw [ei] at ej
      injection ej with _ e
      rw [e]
    · rcases Nat.lt_or_gt_of_ne hij with q | q
      · exact absurd (by rw [ei, ej]) (List.pairwise_iff_getElem.1 ha i j hi hj q)
      · exact absurd (by rw [ei, ej]) (List.pairwise_iff_getElem.1 ha j i hj hi q)

theorem PMap.atD {α : Type} {C : Coded α} {D : DataW Unit} {es : List ((Int × Int) × α)} (hr : ReadsP C D es) {a b : Int} (ha : I64 a) (hb : I64 b) (z : α) :
    Maps.has D (kl a b) = (atP es (a, b)).isSome ∧ D.atKey (kl a b) (C.dat z) = C.dat ((atP es (a, b)).getD z) := by
  cases hat : atP es (a, b) with
  | none =>
    have hn := hr.no a b ha hb (atP_none hat)
    exact ⟨by rw [hn]; rfl, by rw [Maps.atKey_of_not_has hn]; rfl⟩
  | some y =>
    have hy := hr.yes _ (atP_some hat)
    exact ⟨by rw [hy.1]; rfl, hy.2 _⟩
/-- 'm, ok := s[k]'. -/
theorem PMap.look {α : Type} {C : Coded α} {w : World} {k t e : TypeId} {mp : Nat} {es : List ((Int × Int) × α)} (K : PairKey k) (h : PMap C w k mp es) (ht : Try.prog.underlying t = some (.map k e)) {z : α} (hz : ∀ w, (zeroValue e).run Try.prog w = .ok (C.enc z) w) {a b : Int} (ha : I64 a) (hb : I64 b) :
    (Instr.lookup t (.map (some mp)) (keyV (a, b)) true).run Try.prog w = .ok (.tuple #[C.enc ((atP es (a, b)).getD z), .bool (atP es (a, b)).isSome]) w := by
  obtain ⟨D, hD, hr⟩ := h
  obtain ⟨v, ps, hrun, hv⟩ := hD.look_ok K.keyed ht (hz w) (zd := C.dat z) (zp := []) (C.rd_enc z) (K.make a b ha hb)
  obtain ⟨h1, h2⟩ := PMap.atD hr ha hb z
  rw [h2] at hv
  obtain ⟨x, rfl, hx⟩ := C.rd_inv hv
  have : x = (atP es (a, b)).getD z := C.dat_inj (congrArg Prod.fst hx).symm
  rw [hrun, this, h1]
/-- 's[k]'. -/
theorem PMap.get {α : Type} {C : Coded α} {w : World} {k t e : TypeId} {mp : Nat} {es : List ((Int × Int) × α)} (K : PairKey k) (h : PMap C w k mp es) (ht : Try.prog.underlying t = some (.map k e)) {z : α} (hz : ∀ w, (zeroValue e).run Try.prog w = .ok (C.enc z) w) {a b : Int} (ha : I64 a) (hb : I64 b) :
    (Instr.lookup t (.map (some mp)) (keyV (a, b)) false).run Try.prog w = .ok (C.enc ((atP es (a, b)).getD z)) w := by
  obtain ⟨D, hD, hr⟩ := h
  obtain ⟨v, ps, hrun, hv⟩ := hD.lookup K.keyed ht (hz w) (zd := C.dat z) (zp := []) (C.rd_enc z) (K.make a b ha hb)
  obtain ⟨h1, h2⟩ := PMap.atD hr ha hb z
  rw [h2] at hv
  obtain ⟨x, rfl, hx⟩ := C.rd_inv hv
  have : x = (atP es (a, b)).getD z := C.dat_inj (congrArg Prod.fst hx).symm
  rw [hrun, this]
/-- 's[k] = m'. -/
theorem PMap.store {α : Type} {C : Coded α} {w : World} {k t e : TypeId} {mp : Nat} {es : List ((Int × Int) × α)} (K : PairKey k) (h : PMap C w k mp es) (ht : Try.prog.underlying t = some (.map k e)) (hl : es.length ≤ 1000000) {a b : Int} (ha : I64 a) (hb : I64 b) (x : α) :
    ∃ w', (Instr.mapUpdate t (.map (some mp)) (keyV (a, b)) (C.enc x)).run Try.prog w = .ok () w' ∧ PMap C w' k mp (butP es (a, b) ++ [((a, b), x)]) ∧ Keep (Just mp) w w' := by
  obtain ⟨D, hD, hr⟩ := h
  obtain ⟨w', hrun, hown, hturn⟩ := hD.store K.keyed ht (by unfold maxLen; omega) (K.make a b ha hb) (val := C.enc x) (C.rd_enc x)
  have hr' := hr.put K (hD.tidy K.keyed) ((a, b), x) ⟨ha, hb⟩
  refine ⟨w', hrun, ⟨_, ?_, hr'⟩, (Keep.of_grown hturn.grown).more (fun i _ e => by injection e)⟩
  rw [← hr'.size]
  exact ownsMap_tightP hown
/-- 'delete(s, k)'. -/
theorem PMap.drop {α : Type} {C : Coded α} {w : World} {k t e : TypeId} {mp : Nat} {es : List ((Int × Int) × α)} (K : PairKey k) (h : PMap C w k mp es) (ht : Try.prog.underlying t = some (.map k e)) {a b : Int} (ha : I64 a) (hb : I64 b) (ty : TypeId) :
    ∃ w', (Builtin.delete_ #[t, k] ty #[.map (some mp), keyV (a, b)]).run Try.prog w = .ok (.tuple #[]) w' ∧ PMap C w' k mp (butP es (a, b)) ∧ Keep (Just mp) w w' := by
  obtain ⟨D, hD, hr⟩ := h
  obtain ⟨w', hrun, hown, hturn⟩ := hD.drop K.keyed ht (K.make a b ha hb) ty
  have hr' := hr.del K (hD.tidy K.keyed) ha hb
  refine ⟨w', hrun, ⟨_, ?_, hr'⟩, (Keep.of_grown hturn.grown).more (fun i _ e => by injection e)⟩
  rw [← hr'.size]
  exact ownsMap_tightP hown
end Go.Proofs.Ytakjoodlediemaa
