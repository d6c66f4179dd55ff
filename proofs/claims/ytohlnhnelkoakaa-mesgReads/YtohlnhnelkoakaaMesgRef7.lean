/- The reference's Decode: where it stands, and that what it reads is what the message's own words say. -/
import Derived.Test.YtohlnhnelkoakaaMesgRef3
import Derived.Test.YtohlnhnelkoakaaMesgRef4
import Derived.Test.YtohlnhnelkoakaaMesgDec
set_option linter.unusedVariables false
namespace Pack
theorem eachN_bad : ∀ (k : Nat) (l : List UInt8), (eachN k l).2.2 ≠ 0 → eachN k l = ([], [], (eachN k l).2.2)
  | 0, l, h => absurd rfl h
  | k + 1, l, h => by
    simp only [eachN] at h ⊢
    by_cases h1 : (take l).2.2 = 0
    · rw [if_pos h1] at h ⊢
      by_cases h2 : (eachN k (take l).2.1).2.2 = 0
      · rw [if_pos h2] at h; exact absurd rfl h
      · rw [if_neg h2]
    · rw [if_neg h1]
theorem each_bad {l : List UInt8} (h : (each l).2.2 ≠ 0) : each l = ([], [], (each l).2.2) := by
  unfold each at h ⊢
  by_cases h1 : (take l).2.2 = 0
  · rw [if_pos h1] at h ⊢
    by_cases h2 : 1000 < (take l).1
    · rw [if_pos h2]
    · rw [if_neg h2] at h ⊢; exact eachN_bad _ _ h
  · rw [if_neg h1]
end Pack
namespace Mesg

/-- A reading g has come to x with l behind it, or to the error e. -/
def Sim {α : Type} (g : Got α) (x : α) (l : List UInt8) (e : Nat) : Prop := (e = 0 ∧ g = .ok x l) ∨ (e ≠ 0 ∧ g = .error e)

theorem Sim.on {α β : Type} {g : Got α} {x : α} {l : List UInt8} {e : Nat} (h : Sim g x l e) {f : α → List UInt8 → Got β} {y : β} {l' : List UInt8} {e' : Nat} (h0 : e = 0 → Sim (f x l) y l' e') (h1 : e ≠ 0 → e' = e) : Sim (g.on f) y l' e' := by
  rcases h with ⟨he, hg⟩ | ⟨he, hg⟩
  · rw [hg]; exact h0 he
  · rw [hg, h1 he]; exact .inr ⟨he, rfl⟩

/-- What the end of a reading comes to. -/
def endR (m : Msg) (l : List UInt8) (e : Nat) : Got Msg := if e ≠ 0 then .error e else if l ≠ [] then .error 2 else if may m then .ok m [] else .error 2
theorem decode_end {s : List UInt8} {m : Msg} {l : List UInt8} {e : Nat} (h : Sim (rmsg s) m l e) : decode s = endR m l e := by
  unfold decode endR
  rcases h with ⟨he, hg⟩ | ⟨he, hg⟩
  · rw [hg, if_neg (by simpa using he)]; rfl
  · rw [hg, if_pos he]; rfl
end Mesg

namespace Go.Proofs.Ytohlnhnelkoakaa
open Go.RowKit
open Mesg (Sim)

theorem sim_num (l : List UInt8) {n : Nat} {t : List UInt8} {e : Nat} (h : rnum l 0 = (n, t, e)) : Sim (Mesg.num l) (n : Int) t e := by
  unfold rnum at h
  rw [if_pos rfl] at h
  unfold Mesg.num Sim
  rw [h]
  by_cases he : e = 0
  · exact .inl ⟨he, by simp [he]⟩
  · exact .inr ⟨he, by simp [he]⟩
theorem rnum_bad {l : List UInt8} {e : Nat} (he : e ≠ 0) : rnum l e = (0, l, e) := by unfold rnum; rw [if_neg he]
theorem rid2_bad {l : List UInt8} {e : Nat} (he : e ≠ 0) : rid2 l e = (⟨0, 0⟩, l, e) := by
  unfold rid2
  rw [rnum_bad he]
  simp only
  rw [rnum_bad he]
  rfl
theorem sim_list (l : List UInt8) {zs : List Nat} {t : List UInt8} {e : Nat} (h : Pack.each l = (zs, t, e)) : Sim (Mesg.list l) (natI zs) t e := by
  unfold Mesg.list Sim
  rw [h]
  by_cases he : e = 0
  · exact .inl ⟨he, by simp [he, natI]⟩
  · exact .inr ⟨he, by simp [he]⟩
theorem sim_rid (l : List UInt8) {x : Mesg.Id} {t : List UInt8} {e : Nat} (h : rid2 l 0 = (x, t, e)) : Sim (Mesg.rid l) x t e := by
  unfold Mesg.rid
  obtain ⟨n1, l1, e1, h1⟩ : ∃ n1 l1 e1, rnum l 0 = (n1, l1, e1) := ⟨_, _, _, rfl⟩
  obtain ⟨n2, l2, e2, h2⟩ : ∃ n2 l2 e2, rnum l1 e1 = (n2, l2, e2) := ⟨_, _, _, rfl⟩
  unfold rid2 at h
  rw [h1] at h
  simp only at h
  rw [h2] at h
  simp only [Prod.mk.injEq] at h
  obtain ⟨rfl, rfl, rfl⟩ := h
  refine (sim_num l h1).on (fun he => ?_) (fun he => ?_)
  · subst he
    refine (sim_num l1 h2).on (fun he => ?_) (fun he => rfl)
    exact .inl ⟨he, rfl⟩
  · rw [rnum_bad he] at h2
    simp only [Prod.mk.injEq] at h2
    exact h2.2.2.symm

/-- Where the reference's Decode stands: the result, the reader, the message. -/
structure RefW (w : World) (m : Mesg.Msg) (v : Value) (wr : World) (l : List UInt8) (e : Nat) : Prop where
  rd : Rd wr (w.heap.size + 1) l e
  msg : Holds wr (w.heap.size + 1 + 1) (msgL m v) 28
  res : Holds wr w.heap.size (msgL Mesg.none (.slice none 0 0)) 28
  below : Below w.heap.size w wr
  know : SliceI wr v m.know
  far : ∀ g, v.ownBlock = some g → w.heap.size + 1 + 1 < g

theorem RefW.gets {w : World} {m : Mesg.Msg} {v : Value} {wr w1 : World} {l l' : List UInt8} {e e' : Nat} (h : RefW w m v wr l e) (hs : Rd w1 (w.heap.size + 1) l' e') (hk : Keep (Just (w.heap.size + 1)) wr w1) : RefW w m v w1 l' e' :=
  ⟨hs, h.msg.keep hk (fun e => by have e : w.heap.size + 1 + 1 = w.heap.size + 1 := e; omega), h.res.keep hk (fun e => by have e : w.heap.size = w.heap.size + 1 := e; omega),
    h.below.trans (hk.below (by have := h.res.lt; omega) (fun i e => by have e : i = w.heap.size + 1 := e; omega)), h.know.keep hk (fun g hg e => by have e : g = w.heap.size + 1 := e; have := h.far g hg; omega), h.far⟩
theorem RefW.set {w : World} {m m' : Mesg.Msg} {v v' : Value} {wr : World} {l : List UInt8} {e : Nat} (h : RefW w m v wr l e) (j : Nat) (u : Value) (hj : j < 10) (he : (msgL m v).set j u = msgL m' v') (hk : SliceI wr v' m'.know) (hf : ∀ g, v'.ownBlock = some g → w.heap.size + 1 + 1 < g) :
    RefW w m' v' (wr.setCell ⟨w.heap.size + 1 + 1, j, none⟩ u) l e := by
  have kk : Keep (Just (w.heap.size + 1 + 1)) wr (wr.setCell ⟨w.heap.size + 1 + 1, j, none⟩ u) := Keep.setCell _ _ _ _
  exact ⟨h.rd.keep kk (fun e => by have e : w.heap.size + 1 = w.heap.size + 1 + 1 := e; omega), by rw [← he]; exact h.msg.set j u hj, h.res.keep kk (fun e => by have e : w.heap.size = w.heap.size + 1 + 1 := e; omega),
    h.below.setCell (by simp; omega) _, hk.keep kk (fun g hg e => by have e : g = w.heap.size + 1 + 1 := e; have := hf g hg; omega), hf⟩
theorem RefW.put {w : World} {m m' : Mesg.Msg} {v : Value} {wr : World} {l : List UInt8} {e : Nat} (h : RefW w m v wr l e) (j : Nat) (u : Value) (hj : j < 10) (he : (msgL m v).set j u = msgL m' v) (hk : m'.know = m.know) : RefW w m' v (wr.setCell ⟨w.heap.size + 1 + 1, j, none⟩ u) l e :=
  h.set j u hj he (by rw [hk]; exact h.know) h.far
theorem RefW.grew {w : World} {m : Mesg.Msg} {v : Value} {wr w1 : World} {l : List UInt8} {e : Nat} (h : RefW w m v wr l e) (hb : Below wr.heap.size wr w1) : RefW w m v w1 l e :=
  ⟨h.rd.keep (Keep.of_grew hb Non) (fun h => h), h.msg.keep (Keep.of_grew hb Non) (fun h => h), h.res.keep (Keep.of_grew hb Non) (fun h => h), Go.Proofs.Ytohlnhnelkoakaa.grew h.below hb, h.know.below hb, h.far⟩
/-- 'r.s, r.e' are set. -/
theorem RefW.rests {w : World} {m : Mesg.Msg} {v : Value} {wr : World} {l : List UInt8} {e : Nat} (h : RefW w m v wr l e) (l' : List UInt8) (e' : Nat) :
    RefW w m v ((wr.setCell ⟨w.heap.size + 1, 0, none⟩ (.string (str l'))).setCell ⟨w.heap.size + 1, 1, none⟩ (.int .i64 (e' : Int))) l' e' :=
  h.gets (h.rd.sets l' e') ((Keep.setCell _ _ _ _).trans (Keep.setCell _ _ _ _) (fun _ _ h => h))
theorem RefW.errs {w : World} {m : Mesg.Msg} {v : Value} {wr : World} {l : List UInt8} {e : Nat} (h : RefW w m v wr l e) (e' : Nat) :
    RefW w m v (wr.setCell ⟨w.heap.size + 1, 1, none⟩ (.int .i64 (e' : Int))) l e' :=
  h.gets (Holds.set h.rd 1 (.int .i64 (e' : Int)) (by simp)) (Keep.setCell _ _ _ _)

theorem ref_start (w : World) (s : ByteArray) : RefW w Mesg.none (.slice none 0 0) (((w.alloc (.cells #[.int .i64 0, .int .i64 0, .slice none 0 0, .int .i64 0, .int .i64 0, .int .i64 0, .int .i64 0, .int .i64 0, .int .i64 0, .int .i64 0] 28)).alloc (.cells #[.string s, .int .i64 0] 64)).alloc (.cells #[.int .i64 0, .int .i64 0, .slice none 0 0, .int .i64 0, .int .i64 0, .int .i64 0, .int .i64 0, .int .i64 0, .int .i64 0, .int .i64 0] 28)) s.data.toList 0 := by
  have z1 : (w.alloc (.cells #[.int .i64 0, .int .i64 0, .slice none 0 0, .int .i64 0, .int .i64 0, .int .i64 0, .int .i64 0, .int .i64 0, .int .i64 0, .int .i64 0] 28)).heap.size = w.heap.size + 1 := Array.size_push _
  have z2 : ((w.alloc (.cells #[.int .i64 0, .int .i64 0, .slice none 0 0, .int .i64 0, .int .i64 0, .int .i64 0, .int .i64 0, .int .i64 0, .int .i64 0, .int .i64 0] 28)).alloc (.cells #[.string s, .int .i64 0] 64)).heap.size = w.heap.size + 1 + 1 := by rw [← z1]; exact Array.size_push _
  refine ⟨?_, ?_, ?_, Go.Proofs.Ytohlnhnelkoakaa.grew (grew_alloc _ _) (Go.Proofs.Ytohlnhnelkoakaa.grew (grew_alloc _ _) (grew_alloc _ _)), SliceI.none _, fun g hg => by simp [Value.ownBlock] at hg⟩
  · have := (Holds.new (w.alloc (.cells #[.int .i64 0, .int .i64 0, .slice none 0 0, .int .i64 0, .int .i64 0, .int .i64 0, .int .i64 0, .int .i64 0, .int .i64 0, .int .i64 0] 28)) [.string s, .int .i64 0] 64).keep (S := Non) (Keep.alloc Non _ (.cells #[.int .i64 0, .int .i64 0, .slice none 0 0, .int .i64 0, .int .i64 0, .int .i64 0, .int .i64 0, .int .i64 0, .int .i64 0, .int .i64 0] 28)) (fun h => h)
    rw [z1] at this
    unfold Rd
    rw [str_of]
    exact this
  · have := Holds.new ((w.alloc (.cells #[.int .i64 0, .int .i64 0, .slice none 0 0, .int .i64 0, .int .i64 0, .int .i64 0, .int .i64 0, .int .i64 0, .int .i64 0, .int .i64 0] 28)).alloc (.cells #[.string s, .int .i64 0] 64)) (msgL Mesg.none (.slice none 0 0)) 28
    rw [z2] at this
    exact this
  · exact ((Holds.new w (msgL Mesg.none (.slice none 0 0)) 28).keep (S := Non) (Keep.alloc Non _ _) (fun h => h)).keep (S := Non) (Keep.alloc Non _ _) (fun h => h)

theorem num_as {w : World} {g : Nat} {l : List UInt8} {e n : Nat} {t : List UInt8} {e2 : Nat} (q : rnum l e = (n, t, e2)) (h : Rd w g l e) (hl : l.length ≤ 1000000000) :
    Calls Try.prog 39 #[.pointer (some ⟨g, 0, none⟩)] w fun e' w' => e' = .returned (.int .i64 (n : Int)) ∧ Rd w' g t e2 ∧ Keep (Just g) w w' :=
  (ref04_num w g l e h hl).mono fun e' w' ⟨h1, h2, h3⟩ => ⟨by rw [h1, q], by rw [q] at h2; exact h2, h3⟩
theorem num_bad {w : World} {g : Nat} {l : List UInt8} {e : Nat} (he : e ≠ 0) (h : Rd w g l e) (hl : l.length ≤ 1000000000) :
    Calls Try.prog 39 #[.pointer (some ⟨g, 0, none⟩)] w fun e' w' => e' = .returned (.int .i64 0) ∧ Rd w' g l e ∧ Keep (Just g) w w' :=
  num_as (rnum_bad he) h hl
theorem id_as {w : World} {g : Nat} {l : List UInt8} {e : Nat} {x : Mesg.Id} {t : List UInt8} {e2 : Nat} (q : rid2 l e = (x, t, e2)) (h : Rd w g l e) (hl : l.length ≤ 1000000000) :
    Calls Try.prog 41 #[.pointer (some ⟨g, 0, none⟩)] w fun e' w' => e' = .returned (.agg #[.int .i64 x.time, .int .i64 x.site]) ∧ Rd w' g t e2 ∧ Keep (Just g) w w' :=
  (ref04_id w g l e h hl).mono fun e' w' ⟨h1, h2, h3⟩ => ⟨by rw [h1, q]; rfl, by rw [q] at h2; exact h2, h3⟩
theorem id_bad {w : World} {g : Nat} {l : List UInt8} {e : Nat} (he : e ≠ 0) (h : Rd w g l e) (hl : l.length ≤ 1000000000) :
    Calls Try.prog 41 #[.pointer (some ⟨g, 0, none⟩)] w fun e' w' => e' = .returned (.agg #[.int .i64 0, .int .i64 0]) ∧ Rd w' g l e ∧ Keep (Just g) w w' :=
  id_as (rid2_bad he) h hl
theorem rnum_short {l t : List UInt8} {e n e2 : Nat} (q : rnum l e = (n, t, e2)) (h : l.length ≤ 1000000000) : t.length ≤ 1000000000 := by
  have := rnum_len l e
  rw [q] at this
  exact Nat.le_trans this h
theorem rid2_short {l t : List UInt8} {e e2 : Nat} {x : Mesg.Id} (q : rid2 l e = (x, t, e2)) (h : l.length ≤ 1000000000) : t.length ≤ 1000000000 := by
  unfold rid2 at q
  simp only [Prod.mk.injEq] at q
  have h1 := rnum_len l e
  have h2 := rnum_len (rnum l e).2.1 (rnum l e).2.2
  rw [q.2.1] at h2
  omega

theorem holds_drew {w : World} {g : Nat} {cs : List Value} {t : TypeId} (h : Holds w g cs t) : Holds w.drew g cs t := h

set_option maxRecDepth 100000 in
set_option maxHeartbeats 1000000 in
theorem rdec_res (tmps : Array Value) (m : Mesg.Msg) (v : Value) (n : Int) (W w : World) (h1 : Holds W w.heap.size (msgL m v) 28)
    (t2 : tmps[2]?.getD undef = .pointer (some ⟨w.heap.size, 0, none⟩)) (t3 : tmps[3]?.getD undef = .int .i64 n) :
    (results Try.f19 tmps).run Try.prog W = .ok (.tuple #[msgV m v, .int .i64 n]) W := by
  obtain ⟨⟨d0, d1, d2⟩, d3, d4, d5, d6, d7, d8, d9⟩ := msg_cells h1
  simp [results, Try.results19, go_sem, t2, t3, d0, d1, d2, d3, d4, d5, d6, d7, d8, d9, msgV]

theorem num_is {w : World} {g : Nat} {l : List UInt8} {e n : Nat} {t : List UInt8} {e2 : Nat} (q : rnum l e = (n, t, e2)) {z : Int} (hz : (n : Int) = z) (h : Rd w g l e) (hl : l.length ≤ 1000000000) :
    Calls Try.prog 39 #[.pointer (some ⟨g, 0, none⟩)] w fun e' w' => e' = .returned (.int .i64 z) ∧ Rd w' g t e2 ∧ Keep (Just g) w w' := by
  subst hz; exact num_as q h hl
theorem each_as {w : World} {l : List UInt8} {zs : List Nat} {t : List UInt8} {e : Nat} (q : Pack.each l = (zs, t, e)) (hl : l.length ≤ 1000000000) :
    Calls Try.prog 40 #[.string (str l)] w fun e' w' => (∃ v, e' = .returned (.tuple #[v, .string (str t), .int .i64 (e : Int)]) ∧ SliceI w' v (natI zs) ∧ ∀ g, v.ownBlock = some g → w.heap.size ≤ g) ∧ Below w.heap.size w w' :=
  (ref01_EachF (str l) w (by rw [str_size]; exact hl)).mono fun e' w' ⟨h, hb⟩ => ⟨by rw [show (str l).data.toList = l from rfl, q] at h; exact h, hb⟩
theorem rnum_zero {l t : List UInt8} {n e : Nat} (q : rnum l 0 = (n, t, e)) (he : e ≠ 0) : n = 0 := by
  unfold rnum at q
  rw [if_pos rfl] at q
  rcases Pack.take_cases l with ⟨k, t', ht, _⟩ | ⟨x, ht, _⟩
  · rw [ht] at q
    simp only [Prod.mk.injEq] at q
    exact absurd q.2.2.symm he
  · rw [ht] at q
    simp only [Prod.mk.injEq] at q
    exact q.1.symm
theorem each_short {l t : List UInt8} {zs : List Nat} {e : Nat} (q : Pack.each l = (zs, t, e)) (h : l.length ≤ 1000000000) : t.length ≤ 1000000000 ∧ zs.length ≤ 1000 := by
  by_cases he : e = 0
  · subst he
    have h1 : Mesg.list l = .ok (natI zs) t := by
      rcases sim_list l q with ⟨_, h⟩ | ⟨h, _⟩
      · exact h
      · exact absurd rfl h
    have h2 := list_len_le h1
    have h3 := list_len_max h1
    rw [natI, List.length_map] at h3
    exact ⟨by omega, h3⟩
  · have := Pack.each_bad (l := l) (by rw [q]; exact he)
    rw [q] at this
    simp only [Prod.mk.injEq] at this
    rw [this.1, this.2.1]
    simp
theorem RefW.errs2 {w : World} {m : Mesg.Msg} {v : Value} {wr : World} {l : List UInt8} {e : Nat} (h : RefW w m v wr l e) :
    RefW w m v (wr.setCell ⟨w.heap.size + 1, 1, none⟩ (.int .i64 2)) l 2 := h.errs 2
end Go.Proofs.Ytohlnhnelkoakaa
