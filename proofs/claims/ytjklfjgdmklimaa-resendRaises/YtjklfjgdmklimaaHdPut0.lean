/- A message more in a hold: plain mathematics, and memory. -/
import Derived.Test.YtjklfjgdmklimaaHdTell
namespace Hold

theorem nextFrom_none {s : St} : ∀ {k i : Nat}, nextFrom s i k = none → ∀ j, j < k → dueAt s (i + j) = none
  | 0, i, _, j, hj => absurd hj (by omega)
  | k + 1, i, h, j, hj => by
    cases hd : dueAt s i with
    | some m => rw [nextFrom_hit hd] at h; cases h
    | none =>
      rw [nextFrom_skip hd] at h
      cases j with
      | zero => exact hd
      | succ j =>
        have := nextFrom_none h j (by omega)
        rw [show i + (j + 1) = i + 1 + j from by omega]
        exact this
theorem tell_len : ∀ (n : Nat) (s : St), (tell n s).2.l.length ≤ s.l.length ∧ (tell n s).2.room = s.room
  | 0, s => ⟨Nat.le_refl _, rfl⟩
  | n + 1, s => by
    cases h : next s with
    | none => rw [tell_none h]; exact ⟨Nat.le_refl _, rfl⟩
    | some m =>
      rw [tell_some h]
      have := tell_len n (deliver s m)
      exact ⟨Nat.le_trans this.1 (List.length_filter_le _ _), this.2⟩

theorem key_inj {l : List Mesg.Msg} (h : l.Pairwise fun a b => key a ≠ key b) {a b : Mesg.Msg} (ha : a ∈ l) (hb : b ∈ l) (e : key a = key b) : a = b := by
  obtain ⟨i, hi, rfl⟩ := List.mem_iff_getElem.1 ha
  obtain ⟨j, hj, rfl⟩ := List.mem_iff_getElem.1 hb
  rcases Nat.lt_trichotomy i j with h1 | rfl | h1
  · exact absurd e (List.pairwise_iff_getElem.1 h i j hi hj h1)
  · rfl
  · exact absurd e.symm (List.pairwise_iff_getElem.1 h j i hj hi h1)
theorem mem_find {l : List Mesg.Msg} (h : l.Pairwise fun a b => key a ≠ key b) {m : Mesg.Msg} (hm : m ∈ l) : find l (key m) = some m := by
  cases hf : find l (key m) with
  | none => exact absurd (List.find?_eq_none.1 hf m hm) (by simp)
  | some x =>
    obtain ⟨hx, hk⟩ := find_mem hf
    rw [key_inj h hx hm hk]
/-- A hold with a message more. -/
def with_ (s : St) (m : Mesg.Msg) : St := { s with l := but s.l (key m) ++ [m] }
theorem Ok.with_ {s : St} (h : Ok s) {m : Mesg.Msg} (hm : Mesg.may m = true) (hl : m.know.length = s.clock.length) (hr : s.l.length ≤ s.room) : Ok (with_ s m) := by
  refine ⟨h.sites, h.room, ?_, h.clock, fun x hx => ?_, ?_⟩
  · have : (but s.l (key m)).length ≤ s.l.length := List.length_filter_le _ _
    show (but s.l (key m) ++ [m]).length ≤ s.room + 1
    simp
    omega
  · rcases List.mem_append.1 hx with hx | hx
    · exact h.may x (List.mem_filter.1 hx).1
    · rw [List.mem_singleton.1 hx]; exact ⟨hm, hl⟩
  · show (but s.l (key m) ++ [m]).Pairwise _
    rw [List.pairwise_append]
    refine ⟨h.apart.filter _, by simp, fun x hx y hy => ?_⟩
    rw [List.mem_singleton.1 hy]
    simpa using (List.mem_filter.1 hx).2
/-- Behind all that is told there is room. -/
theorem room_left {s : St} (h : Ok s) {m : Mesg.Msg} (hm : Mesg.may m = true) (hl : m.know.length = s.clock.length) (hr : s.l.length ≤ s.room) (hd : due s.clock m = true ∨ (but s.l (key m)).length < s.room) :
    (tell (with_ s m).l.length (with_ s m)).2.l.length ≤ s.room := by
  have hok := h.with_ hm hl hr
  have hlen : (with_ s m).l.length = (but s.l (key m)).length + 1 := by simp [Hold.with_]
  rcases hd with hd | hd
  · have hmem : m ∈ (with_ s m).l := by simp [Hold.with_]
    have hb := Resend.may_bounds hm
    have hda : dueAt (with_ s m) m.site.toNat = some m := by
      unfold dueAt
      have hkey : ((m.site.toNat : Int), (with_ s m).clock.getD m.site.toNat 0 + 1) = key m := by
        have : m.seq = s.clock.getD m.site.toNat 0 + 1 := by
          unfold due at hd
          simp only [Bool.and_eq_true, decide_eq_true_eq] at hd
          exact hd.1
        unfold key
        rw [this]
        have e : ((m.site.toNat : Nat) : Int) = m.site := by omega
        rw [e]
        rfl
      rw [hkey, mem_find hok.apart hmem]
      show (if due s.clock m then some m else none) = some m
      rw [hd]
      rfl
    cases hn : next (with_ s m) with
    | none =>
      have := nextFrom_none hn m.site.toNat (by show m.site.toNat < s.clock.length; omega)
      rw [Nat.zero_add, hda] at this
      cases this
    | some x =>
      rw [hlen, tell_some hn]
      have h1 := (tell_len (but s.l (key m)).length (deliver (with_ s m) x)).1
      have hx : x ∈ (with_ s m).l := by
        have : ∀ k i, nextFrom (with_ s m) i k = some x → x ∈ (with_ s m).l := by
          intro k
          induction k with
          | zero => intro i h; cases h
          | succ k ih =>
            intro i h
            cases hd' : dueAt (with_ s m) i with
            | none => rw [nextFrom_skip hd'] at h; exact ih _ h
            | some y =>
              rw [nextFrom_hit hd'] at h
              injection h with h
              subst h
              exact (find_mem (dueAt_some hd').1).1
        exact this _ _ hn
      have h2 := but_length hok.apart hx
      have h3 : (deliver (with_ s m) x).l.length = (but (with_ s m).l (key x)).length := rfl
      have h4 : (but s.l (key m)).length ≤ s.l.length := List.length_filter_le _ _
      show (tell (but s.l (key m)).length (deliver (with_ s m) x)).2.l.length ≤ s.room
      omega
  · have h1 := (tell_len (with_ s m).l.length (with_ s m)).1
    omega
end Hold
namespace Go.Proofs.Ytjklfjgdmklimaa
open Go.RowKit Go.Maps
set_option linter.unusedVariables false

/-- What Put hands back. -/
def PutOut (w : World) (F : Nat → Prop) (p : Nat) (q : List Mesg.Msg × Int × Hold.St) (r : Value) (w' : World) : Prop :=
  ∃ T xs F', r = .tuple #[T, .int .i64 q.2.1] ∧ OwnM w' T xs ∧ xs.map Prod.fst = q.1 ∧ (∀ y ∈ xs, SliceI w' y.2 y.1.know ∧ ∀ g, y.2.ownBlock = some g → F' g) ∧ (∀ g, T.ownBlock = some g → w.heap.size ≤ g ∧ ¬ F' g) ∧ IsHold w' F' p q.2.2 ∧ Keep F w w' ∧ NearS w F F' ∧ q.2.2.l.length ≤ q.2.2.room
theorem PutOut.no {w w' : World} {F : Nat → Prop} {p : Nat} {s : Hold.St} {n : Int} (h : IsHold w F p s) (hr : s.l.length ≤ s.room) (hb : Below w.heap.size w w') : PutOut w F p ([], n, s) (.tuple #[.slice none 0 0, .int .i64 n]) w' :=
  ⟨.slice none 0 0, [], F, rfl, OwnM.nil _, rfl, by simp, fun g hg => (by cases hg), h.below hb, Keep.of_grew hb F, NearS.refl _ _, hr⟩

/-- A message more in the map. -/
theorem HoldW.with_ {w w8 w9 : World} {F : Nat → Prop} {p : Nat} {s : Hold.St} {cb cc mp : Nat} {S : Nat → Prop} {es : List Ent} (h : HoldW w F p s cb cc mp S es) (x : Ent) (hg : w.heap.size ≤ x.b) (hlt : x.b < w8.heap.size) {B : Nat} (hB : w.heap.size ≤ B) (hk8 : Keep (Just B) w w8)
    (hm : MsgMap w9 71 mp (fun b => S b ∨ b = x.b) (but es (Mesg.Msg.key x.m) ++ [x])) (hk : Keep (Just mp) w8 w9) (hok : Hold.Ok (Hold.with_ s x.m)) :
    HoldW w9 (fun b => F b ∨ b = x.b) p (Hold.with_ s x.m) cb cc mp (fun b => S b ∨ b = x.b) (but es (Mesg.Msg.key x.m) ++ [x]) ∧ Keep F w w9 := by
  have hFB : ∀ b, F b → ¬ Just B b := fun b hb e => by have e : b = B := e; have := h.lt b hb; omega
  have hW8 := h.keep hk8 hFB
  refine ⟨⟨hok, ?_, ?_, hm, ?_, fun b hb => ?_, h.pm, .inl h.inp, .inl h.inm, .inl h.inc, fun b hb => hb.imp (h.ins b) id, fun b hb => ?_⟩, ?_⟩
  · exact hW8.box.keep hk (fun e => h.pm.1 e)
  · exact hW8.clk.keep hk (fun g hg e => by
      have e1 : cb = g := Option.some.inj hg
      have e2 : g = mp := e
      exact h.pm.2.2 (by omega))
  · rw [List.map_append, but_map h.is]
    rfl
  · rcases hb with hb | rfl
    · exact h.off b hb
    · have := h.lt p h.inp
      have := h.lt mp h.inm
      have := h.lt cb h.inc
      exact ⟨by omega, by omega, by omega⟩
  · have h2 := hk.size
    rcases hb with hb | rfl
    · have := h.lt b hb; have := hk8.size; omega
    · omega
  · exact (hk8.more (S' := fun b => F b ∨ w.heap.size ≤ b) (fun b _ e => by have e : b = B := e; exact .inr (by omega))).trans (hk.more (S' := F) (fun b _ e => by rw [show b = mp from e]; exact h.inm)) (fun b _ e => .inl e) |>.more (fun b hb e => by rcases e with e | e; exact e; omega)
end Go.Proofs.Ytjklfjgdmklimaa
