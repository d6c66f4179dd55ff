/- What is told, one message after the other: plain mathematics, and memory. -/
import Derived.Test.YtjklfjgdmklimaaHdDue
import Derived.Test.YtjklfjgdmklimaaRsRef
import Derived.ScopeJumps
import Derived.WalkMore
namespace Hold
open Go.Proofs.Ytjklfjgdmklimaa

theorem but_length {l : List Mesg.Msg} {m : Mesg.Msg} (h : l.Pairwise fun a b => key a ≠ key b) (hm : m ∈ l) : (but l (key m)).length + 1 = l.length := by
  induction l with
  | nil => simp at hm
  | cons x l ih =>
    obtain ⟨h1, h2⟩ := List.pairwise_cons.1 h
    by_cases e : key x = key m
    · have e2 : but (x :: l) (key m) = but l (key m) := by simp [but, e]
      have e3 : but l (key m) = l := List.filter_eq_self.2 (fun y hy => by
        have := h1 y hy
        rw [e] at this
        simpa using fun e' => this e'.symm)
      rw [e2, e3]
      simp
    · have hm' : m ∈ l := by
        rcases List.mem_cons.1 hm with rfl | hm
        · exact absurd rfl e
        · exact hm
      have e2 : but (x :: l) (key m) = x :: but l (key m) := by simp [but, e]
      rw [e2]
      have := ih h2 hm'
      simp
      omega
theorem find_mem {l : List Mesg.Msg} {k : Int × Int} {m : Mesg.Msg} (h : find l k = some m) : m ∈ l ∧ key m = k := ⟨List.mem_of_find?_eq_some h, by simpa using List.find?_some h⟩
theorem dueAt_some {s : St} {i : Nat} {m : Mesg.Msg} (h : dueAt s i = some m) : find s.l ((i : Int), s.clock.getD i 0 + 1) = some m ∧ due s.clock m = true := by
  unfold dueAt at h
  cases hf : find s.l ((i : Int), s.clock.getD i 0 + 1) with
  | none => rw [hf] at h; cases h
  | some x =>
    rw [hf] at h
    simp only at h
    split at h
    · rename_i hd
      injection h with h
      subst h
      exact ⟨rfl, hd⟩
    · cases h
theorem nextFrom_skip {s : St} {i k : Nat} (h : dueAt s i = none) : nextFrom s i (k + 1) = nextFrom s (i + 1) k := by
  show (match dueAt s i with | some m => some m | none => nextFrom s (i + 1) k) = _
  rw [h]
theorem nextFrom_hit {s : St} {i k : Nat} {m : Mesg.Msg} (h : dueAt s i = some m) : nextFrom s i (k + 1) = some m := by
  show (match dueAt s i with | some m => some m | none => nextFrom s (i + 1) k) = _
  rw [h]
theorem tell_none {s : St} (h : next s = none) : ∀ n, tell n s = ([], s)
  | 0 => rfl
  | n + 1 => by
    show (match next s with | some m => (m :: (tell n (deliver s m)).1, (tell n (deliver s m)).2) | none => ([], s)) = _
    rw [h]
theorem tell_some {s : St} {m : Mesg.Msg} {n : Nat} (h : next s = some m) : tell (n + 1) s = (m :: (tell n (deliver s m)).1, (tell n (deliver s m)).2) := by
  show (match next s with | some m => (m :: (tell n (deliver s m)).1, (tell n (deliver s m)).2) | none => ([], s)) = _
  rw [h]

/-- Behind a delivery a hold still keeps to all. -/
theorem Ok.deliver {s : St} (h : Ok s) {m : Mesg.Msg} (hm : m ∈ s.l) : Ok (deliver s m) := by
  have hb := Resend.may_bounds (h.may m hm).1
  refine ⟨by simpa [Hold.deliver] using h.sites, h.room, ?_, fun z hz => ?_, fun x hx => ?_, h.apart.filter _⟩
  · exact Nat.le_trans (List.length_filter_le _ _) h.full
  · rcases List.mem_or_eq_of_mem_set hz with hz | rfl
    · exact h.clock z hz
    · exact ⟨by omega, by omega⟩
  · have := h.may x (List.mem_filter.1 hx).1
    refine ⟨this.1, ?_⟩
    simp only [Hold.deliver, List.length_set]
    exact this.2
end Hold
namespace Go.Proofs.Ytjklfjgdmklimaa
open Go.RowKit Go.Maps
set_option linter.unusedVariables false

/-- How many entries a map has. -/
def mapSize (w : World) (mp : Nat) : Nat := match w.heap[mp]? with | some (.map es _) => es.size | _ => 0
theorem MsgMap.size {w : World} {k : TypeId} {mp : Nat} {S : Nat → Prop} {es : List Ent} (h : MsgMap w k mp S es) : mapSize w mp = es.length := by
  obtain ⟨D, hD, hr⟩ := h.own
  rw [← hr.size]
  obtain ⟨xs, clock, hb, F, hs, rfl⟩ := hD
  unfold mapSize
  rw [hb]
  simp [Maps.size, length_sorted]

theorem find_at {es : List Ent} {l : List Mesg.Msg} (h : es.map Ent.m = l) (k : Int × Int) : Hold.find l k = (at? es k).map Ent.m := by
  subst h
  unfold Hold.find at?
  rw [List.find?_map]
  rfl
theorem but_map {es : List Ent} {l : List Mesg.Msg} (h : es.map Ent.m = l) (k : Int × Int) : (but es k).map Ent.m = Hold.but l k := by
  subst h
  unfold Hold.but but
  rw [List.filter_map]
  rfl

theorem jump_mono {l : Nat} {J J' : Act → World → Prop} {Q : Exit → Act → World → Prop} (h : ∀ a w, J a w → J' a w) : ∀ e a w, Exit.jump l J Q e a w → Exit.jump l J' Q e a w := by
  intro e a w hj
  cases e <;> simp only [Exit.jump] at hj ⊢ <;> first | exact hj | exact ⟨hj.1, h _ _ hj.2⟩

/-- A label that is jumped to again and again: what holds there, and a measure. -/
theorem wp_scope_again {P : Program} {a : Act} {w : World} {Q : Exit → Act → World → Prop} {pre body : Code} (l : Nat) (J : Act → World → Prop) (μ : Act → World → Nat) (hf : findLabel (pre.seq ((Code.label l).seq body)) l = some (Code.skip.seq body))
    (first : pre.wp P (Exit.then J (Exit.jump l J Q)) a w) (pass : ∀ a w, J a w → body.wp P (Exit.jump l (fun a' w' => J a' w' ∧ μ a' w' < μ a w) Q) a w) : (Code.scope (pre.seq ((Code.label l).seq body))).wp P Q a w := by
  refine wp_scope_jumps l J μ hf ?_ ?_
  · refine wp_seq (Code.wp_mono ?_ first)
    intro e a w h
    cases e with
    | normal => exact wp_seq (wp_label (Code.wp_mono (jump_mono fun _ _ h => h.1) (pass a w h)))
    | _ => exact h
  · intro a w h
    exact wp_seq (wp_skip (pass a w h))

theorem OwnI.stored {w : World} {cb n cc : Nat} {zs : List Int} (h : OwnI w (clockV cb n cc) zs) (j : Nat) (z : Int) : OwnI (w.setCell ⟨cb, j, none⟩ (.int .i64 z)) (clockV cb n cc) (zs.set j z) := by
  have hn : n = zs.length := by
    rcases h.2 with ⟨e, _⟩ | ⟨g, cap, cur, e, _⟩
    · cases e
    · injection e
  subst hn
  have := World.ownsRow.stored h j (.int .i64 z)
  rw [intCells_set] at this
  unfold OwnI Owns
  rw [List.length_set]
  exact this.1

theorem OwnI.has {w : World} {cb n cc : Nat} {zs : List Int} (h : OwnI w (clockV cb n cc) zs) {j : Nat} (hj : j < zs.length) : ∃ z, w.cell? ⟨cb, j, none⟩ = some (.int .i64 z) := by
  have hn : n = zs.length := by
    rcases h.2 with ⟨e, _⟩ | ⟨g, cap, cur, e, _⟩
    · cases e
    · injection e
  subst hn
  refine ⟨zs[j], ?_⟩
  have := World.ownsRow.cellAt h j (by omega)
  rw [this]
  simp [intCells, hj]
theorem OwnI.free {w : World} {cb n cc : Nat} {zs : List Int} (h : OwnI w (clockV cb n cc) zs) (j : Nat) : w.frozen? ⟨cb, j, none⟩ = false := by
  rcases h.2 with ⟨e, _⟩ | ⟨g, cap, cur, e, _, hg, _⟩
  · cases e
  · injection e with e1 _ _
    injection e1 with e1
    injection e1 with e1
    subst e1
    unfold World.frozen?
    rw [hg]
    simp

/-- A message is taken out of the map and the clock set: what is left of the hold. -/
theorem HoldW.told {w w1 w2 : World} {F : Nat → Prop} {p : Nat} {s : Hold.St} {cb cc mp : Nat} {S : Nat → Prop} {es : List Ent} (h : HoldW w F p s cb cc mp S es) {x : Ent} (hx : x ∈ es) (hm : MsgMap w1 71 mp S (but es (Mesg.Msg.key x.m))) (hk : Keep (Just mp) w w1)
    (h2 : w2 = w1.setCell ⟨cb, x.m.site.toNat, none⟩ (.int .i64 x.m.seq)) : HoldW w2 F p (Hold.deliver s x.m) cb cc mp S (but es (Mesg.Msg.key x.m)) ∧ Keep F w w2 := by
  subst h2
  have hxl : x.m ∈ s.l := by rw [← h.is]; exact List.mem_map_of_mem hx
  have kk : Keep (Just cb) w1 (w1.setCell ⟨cb, x.m.site.toNat, none⟩ (.int .i64 x.m.seq)) := Keep.setCell _ _ _ _
  have hok := h.ok.deliver hxl
  have hclk1 : OwnI w1 (clockV cb s.clock.length cc) s.clock := h.clk.keep hk (fun g hg e => by
    have e1 : cb = g := Option.some.inj hg
    have e2 : g = mp := e
    exact h.pm.2.2 (by omega))
  have hb := Resend.may_bounds (h.ok.may x.m hxl).1
  have hln := (h.ok.may x.m hxl).2
  refine ⟨⟨hok, ?_, ?_, hm.keep kk (fun e => h.pm.2.2 e) (fun b hb e => (h.off b hb).2.2 e), by rw [but_map h.is]; rfl, h.off, h.pm, h.inp, h.inm, h.inc, h.ins, fun b hb => Nat.lt_of_lt_of_le (h.lt b hb) (Nat.le_trans hk.size kk.size)⟩, (hk.more (fun b _ e => by rw [show b = mp from e]; exact h.inm)).trans kk (fun b _ e => by rw [show b = cb from e]; exact h.inc)⟩
  · have := (h.box.keep hk (fun e => h.pm.1 e)).keep kk (fun e => h.pm.2.1 e)
    simpa [Hold.deliver] using this
  · have := OwnI.stored hclk1 x.m.site.toNat x.m.seq
    simpa [Hold.deliver] using this
end Go.Proofs.Ytjklfjgdmklimaa
