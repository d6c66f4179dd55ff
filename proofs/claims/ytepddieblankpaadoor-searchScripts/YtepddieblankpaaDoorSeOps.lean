/- A search's calls: look, Back, On, Found, Query, New. -/
import Derived.Test.YtepddieblankpaaDoorSeGo
import Derived.Test.YtepddieblankpaaDoorSeUtf
import Derived.Test.YtepddieblankpaaDoorMesgCheck
import Derived.StillTailTactics
namespace Srch
/-- The last place that fits, of those below k; the first one, from k on. -/
def lastFit (ts : List ByteArray) (q : ByteArray) (k : Nat) : Option Nat := (places ts q (List.range k).reverse).head?
def nextFit (ts : List ByteArray) (q : ByteArray) (k : Nat) : Option Nat := (places ts q (List.range' k (ts.length - k))).head?
/-- Where one stands, having looked. -/
def placeOf (pl : Int) (o : Option Nat) : Int := match o with | none => pl | some x => (x : Nat)
def foundOf (fd : Bool) (o : Option Nat) : Bool := match o with | none => fd | some _ => true
theorem lastFit_lt {ts : List ByteArray} {q : ByteArray} {k x : Nat} (h : lastFit ts q k = some x) : x < k ∧ fits q (ts.getD x ByteArray.empty) = true := by
  unfold lastFit at h
  have := List.mem_of_mem_head? (Option.mem_def.2 h)
  unfold places at this
  rw [List.mem_filter] at this
  simpa using this
theorem nextFit_lt {ts : List ByteArray} {q : ByteArray} {k x : Nat} (h : nextFit ts q k = some x) : k ≤ x ∧ x < ts.length ∧ fits q (ts.getD x ByteArray.empty) = true := by
  unfold nextFit at h
  have := List.mem_of_mem_head? (Option.mem_def.2 h)
  unfold places at this
  rw [List.mem_filter, List.mem_range'_1] at this
  obtain ⟨⟨h1, h2⟩, h3⟩ := this
  exact ⟨h1, by omega, h3⟩
end Srch
namespace Go.Proofs.YtepddieblankpaaDoor
open Go.RowKit Go.Shelf
attribute [local go_sem] Oper.semAt_some
set_option linter.unusedVariables false

theorem SliceS.keep {S : Nat → Prop} {w w' : World} {v : Value} {ts : List ByteArray} (h : SliceS w v ts) (hk : Keep S w w') (hn : ∀ g, v.ownBlock = some g → ¬ S g) : SliceS w' v ts := by
  obtain ⟨a, cap, rfl, hc, h⟩ := h
  refine ⟨a, cap, rfl, hc, ?_⟩
  rcases h with h | ⟨b, off, rfl, hlt, hcell⟩
  · exact .inl h
  · exact .inr ⟨b, off, rfl, Nat.lt_of_lt_of_le hlt hk.size, fun i hi => by rw [hk.cell hlt (hn b rfl)]; exact hcell i hi⟩

/-- A search over some lines lies at p. -/
structure Sea (w : World) (p : Nat) (v : Value) (ts : List ByteArray) (q : ByteArray) (pl : Int) (fd : Bool) : Prop where
  box : IsS w p v q pl fd
  lines : SliceS w v ts
  far : ∀ g, v.ownBlock = some g → g ≠ p
  few : ts.length ≤ 1000000000
  short : ∀ t ∈ ts, t.size < 4294967281
  max : MaxLen w
  here : 3 ≠ p
theorem Sea.turn {S : Nat → Prop} {w w' : World} {p : Nat} {v : Value} {ts : List ByteArray} {q q' : ByteArray} {pl pl' : Int} {fd fd' : Bool} (h : Sea w p v ts q pl fd) (hk : Keep (Just p) w w') (hb : IsS w' p v q' pl' fd') : Sea w' p v ts q' pl' fd' :=
  ⟨hb, h.lines.keep hk (fun g hg e => h.far g hg e), h.far, h.few, h.short, by
    obtain ⟨m, hm⟩ := h.max
    exact ⟨m, by rw [hk.cell (block_lt_of_cell hm) (fun e => h.here e)]; exact hm⟩, h.here⟩
theorem Sea.below {w w' : World} {p : Nat} {v : Value} {ts : List ByteArray} {q : ByteArray} {pl : Int} {fd : Bool} (h : Sea w p v ts q pl fd) (hb : Below w.heap.size w w') : Sea w' p v ts q pl fd :=
  ⟨h.box.below hb, h.lines.below hb, h.far, h.few, h.short, h.max.below hb, h.here⟩
theorem Sea.keep {S : Nat → Prop} {w w' : World} {p : Nat} {v : Value} {ts : List ByteArray} {q : ByteArray} {pl : Int} {fd : Bool} (h : Sea w p v ts q pl fd) (hk : Keep S w w') (h1 : ¬ S p) (h2 : ∀ g, v.ownBlock = some g → ¬ S g) (h3 : ¬ S 3) : Sea w' p v ts q pl fd :=
  ⟨h.box.keep hk h1, h.lines.keep hk h2, h.far, h.few, h.short, by
    obtain ⟨m, hm⟩ := h.max
    exact ⟨m, by rw [hk.cell (block_lt_of_cell hm) h3]; exact hm⟩, h.here⟩

theorem trail_down {n k : Nat} (hk : k ≤ n) : Trail n ((k : Int) - 1) (-1) (List.range k).reverse := by
  refine ⟨.inr rfl, fun j hj => ?_, .inl ?_, by simpa using hk, by omega, by omega⟩
  · have hj' : j < k := by simpa using hj
    have e : (List.range k).reverse[j] = k - 1 - j := by simp
    rw [e]
    omega
  · simp; omega
theorem trail_up {n k : Nat} (hk : k ≤ n) : Trail n (k : Int) 1 (List.range' k (n - k)) := by
  refine ⟨.inl rfl, fun j hj => ?_, .inr ?_, by simp, by omega, by omega⟩
  · have hj' : j < n - k := by simpa using hj
    have e : (List.range' k (n - k))[j] = k + j := by simp
    rw [e]
    omega
  · simp; omega

theorem search_fitting (p : Nat) (frm step : Int) (w : World) : Calls Tryd.prog 55 #[.pointer (some ⟨p, 0, none⟩), .int .i64 frm, .int .i64 step] w fun e w' => ∃ Bs Bf Bt : Nat,
    e = .returned (.func (.func 62) #[] #[.pointer (some ⟨Bf, 0, none⟩), .pointer (some ⟨Bs, 0, none⟩), .pointer (some ⟨Bt, 0, none⟩)]) ∧
      (w'.cell? ⟨Bs, 0, none⟩ = some (.pointer (some ⟨p, 0, none⟩)) ∧ w'.cell? ⟨Bf, 0, none⟩ = some (.int .i64 frm) ∧ w'.cell? ⟨Bt, 0, none⟩ = some (.int .i64 step)) ∧ Below w.heap.size w w' :=
  ((callsIn_wide (n := 1)).1 (fit_in 1 p frm step w)).mono (by
    rintro e w' ⟨rfl, rfl⟩
    have b0 := ((Boxed.new w 26 (.pointer (some ⟨p, 0, none⟩))).alloc (.cells #[.int .i64 frm] 3)).alloc (.cells #[.int .i64 step] 3)
    have b1 := (Boxed.new (w.alloc (.cells #[.pointer (some ⟨p, 0, none⟩)] 26)) 3 (.int .i64 frm)).alloc (.cells #[.int .i64 step] 3)
    have b2 := Boxed.new ((w.alloc (.cells #[.pointer (some ⟨p, 0, none⟩)] 26)).alloc (.cells #[.int .i64 frm] 3)) 3 (.int .i64 step)
    rw [World.size_alloc] at b1
    rw [World.size_alloc, World.size_alloc] at b2
    exact ⟨_, _, _, rfl, ⟨b0.cell, b1.cell, b2.cell⟩, (((Below.refl _ w).alloc (Nat.le_refl _) _).alloc (by simp) _).alloc (by simp; omega) _⟩)

/-- A step of a search. -/
def SeaStep (p : Nat) (v : Value) (ts : List ByteArray) (w : World) (b : Bool) (q : ByteArray) (pl : Int) (fd : Bool) (e : Ending) (w' : World) : Prop :=
  e = .returned (.bool b) ∧ Sea w' p v ts q pl fd ∧ Keep (Just p) w w'

theorem gone_step {w w1 w' : World} {p : Nat} {v : Value} {ts : List ByteArray} {q : ByteArray} {pl : Int} {fd : Bool} {l : List Nat} {e : Ending} (h : Sea w1 p v ts q pl fd) (hk : Keep (Just p) w w1) (hg : GoneTo p v q pl fd l w1 e w') :
    SeaStep p v ts w l.head?.isSome q (Srch.placeOf pl l.head?) (Srch.foundOf fd l.head?) e w' := by
  cases l with
  | nil => exact ⟨hg.1, h.turn (S := Just p) hg.2.2 hg.2.1, hk.trans hg.2.2 (fun _ _ h => h)⟩
  | cons x l => exact ⟨hg.1, h.turn (S := Just p) hg.2.2 hg.2.1, hk.trans hg.2.2 (fun _ _ h => h)⟩

theorem found_yes (o : Option Nat) : Srch.foundOf true o = true := by cases o <;> rfl

theorem search_Back {w : World} {p : Nat} {v : Value} {ts : List ByteArray} {q : ByteArray} {pl : Nat} (h : Sea w p v ts q (pl : Nat) true) (hp : pl < ts.length) :
    Calls Tryd.prog 22 #[.pointer (some ⟨p, 0, none⟩)] w (SeaStep p v ts w (Srch.lastFit ts q pl).isSome q (Srch.placeOf (pl : Nat) (Srch.lastFit ts q pl)) true) := by
  have H := Lib.hid h
  have HT := Lib.hid (trail_down (Nat.le_of_lt hp))
  obtain ⟨c0, c1, c2, c3, z0, z1, z2, z3⟩ := h.box
  have hfew := h.few
  have hw : wrap64 ((pl : Int) - 1) = (pl : Int) - 1 := IntWalk.wrap64_in _ ⟨by omega, by omega⟩
  clear h
  go_enter Tryd.func22, Tryd.ntmps22
  go_wp2_with (go_at_call 55; refine (search_fitting p ((pl : Int) - 1) (-1) w).mono ?_; rintro e w1 ⟨Bs, Bf, Bt, rfl, ⟨b1, b2, b3⟩, hb⟩)
  have H1 := Lib.hid (H.out.below hb)
  refine (search_goTo p Bs Bf Bt w1 v ts q (pl : Nat) _ _ true _ H1.out.box H1.out.lines H1.out.few H1.out.short H1.out.max HT.out b1 b2 b3).mono ?_
  rintro e w2 hg
  obtain ⟨rfl, h2, h3⟩ := gone_step H1.out (Keep.of_grew hb (Just p)) hg
  have HG := Lib.hid (And.intro h2 h3)
  clear h2 h3 hg b1 b2 b3 hb
  go_wp2
  go_ret
  exact ⟨rfl, by rw [← found_yes (Srch.lastFit ts q pl)]; exact HG.out.1, HG.out.2⟩

theorem trail_on {n pl : Nat} (hp : pl < n) : Trail n ((pl : Int) + 1) 1 (List.range' (pl + 1) (n - (pl + 1))) := by
  have := trail_up (n := n) (k := pl + 1) hp
  rw [Int.natCast_add] at this
  exact this
theorem search_On {w : World} {p : Nat} {v : Value} {ts : List ByteArray} {q : ByteArray} {pl : Nat} (h : Sea w p v ts q (pl : Nat) true) (hp : pl < ts.length) :
    Calls Tryd.prog 24 #[.pointer (some ⟨p, 0, none⟩)] w (SeaStep p v ts w (Srch.nextFit ts q (pl + 1)).isSome q (Srch.placeOf (pl : Nat) (Srch.nextFit ts q (pl + 1))) true) := by
  have H := Lib.hid h
  have HT := Lib.hid (trail_on hp)
  obtain ⟨c0, c1, c2, c3, z0, z1, z2, z3⟩ := h.box
  have hfew := h.few
  have hw : wrap64 ((pl : Int) + 1) = (pl : Int) + 1 := IntWalk.wrap64_in _ ⟨by omega, by omega⟩
  clear h
  go_enter Tryd.func24, Tryd.ntmps24
  go_wp2_with (go_at_call 55; refine (search_fitting p ((pl : Int) + 1) (1) w).mono ?_; rintro e w1 ⟨Bs, Bf, Bt, rfl, ⟨b1, b2, b3⟩, hb⟩)
  have H1 := Lib.hid (H.out.below hb)
  refine (search_goTo p Bs Bf Bt w1 v ts q (pl : Nat) _ _ true _ H1.out.box H1.out.lines H1.out.few H1.out.short H1.out.max HT.out b1 b2 b3).mono ?_
  rintro e w2 hg
  obtain ⟨rfl, h2, h3⟩ := gone_step H1.out (Keep.of_grew hb (Just p)) hg
  have HG := Lib.hid (And.intro h2 h3)
  clear h2 h3 hg b1 b2 b3 hb
  go_wp2
  go_ret
  exact ⟨rfl, by rw [← found_yes (Srch.nextFit ts q (pl + 1))]; exact HG.out.1, HG.out.2⟩

theorem search_not {w : World} {p : Nat} {v : Value} {ts : List ByteArray} {q : ByteArray} {pl : Int} (h : Sea w p v ts q pl false) :
    Calls Tryd.prog 22 #[.pointer (some ⟨p, 0, none⟩)] w (fun e w' => e = .returned (.bool false) ∧ w = w') ∧ Calls Tryd.prog 24 #[.pointer (some ⟨p, 0, none⟩)] w (fun e w' => e = .returned (.bool false) ∧ w = w') := by
  obtain ⟨c0, c1, c2, c3, z0, z1, z2, z3⟩ := h.box
  clear h
  constructor
  · go_enter Tryd.func22, Tryd.ntmps22
    go_wp2
    go_ret
    exact ⟨rfl, rfl⟩
  · go_enter Tryd.func24, Tryd.ntmps24
    go_wp2
    go_ret
    exact ⟨rfl, rfl⟩

theorem search_nowhere {w : World} {p : Nat} {v : Value} {ts : List ByteArray} {q : ByteArray} {pl : Int} {fd : Bool} (h : Sea w p v ts q pl fd) :
    Calls Tryd.prog 53 #[.pointer (some ⟨p, 0, none⟩)] w fun e w' => (∃ u, e = .returned u) ∧ Sea w' p v ts q 0 false ∧ Keep (Just p) w w' := by
  have H := Lib.hid h
  obtain ⟨c0, c1, c2, c3, z0, z1, z2, z3⟩ := h.box
  clear h
  go_enter Tryd.func53, Tryd.ntmps53
  go_wp2
  have hk : Keep (Just p) w ((w.setCell ⟨p, 2, none⟩ (.int .i64 0)).setCell ⟨p, 3, none⟩ (.bool false)) := (Keep.setCell w p 2 _).trans (Keep.setCell _ p 3 _) (fun _ _ h => h)
  go_end0
  exact ⟨⟨_, rfl⟩, H.out.turn (S := Just p) hk ((H.out.box.put 0).found false), hk⟩

theorem search_look {w : World} {p : Nat} {v : Value} {ts : List ByteArray} {q : ByteArray} {pl : Int} {fd : Bool} (h : Sea w p v ts q pl fd) {k : Nat} (hk : k ≤ ts.length) {z : Int} (hz : z = (k : Int) - 1) :
    Calls Tryd.prog 49 #[.pointer (some ⟨p, 0, none⟩), .int .i64 z] w (SeaStep p v ts w (Srch.lastFit ts q k).isSome q (Srch.placeOf 0 (Srch.lastFit ts q k)) (Srch.foundOf false (Srch.lastFit ts q k))) := by
  have H := Lib.hid h
  have HT := Lib.hid (trail_down hk)
  rw [← hz] at HT
  clear h hz
  go_enter Tryd.func49, Tryd.ntmps49
  go_wp2_with fail
  refine (search_nowhere H.out).mono ?_
  rintro e w0 ⟨⟨u, rfl⟩, h0, hk0⟩
  have H0 := Lib.hid h0
  have HK0 := Lib.hid hk0
  clear h0 hk0
  go_wp2_with fail
  refine (search_fitting p z (-1) w0).mono ?_
  rintro e w1 ⟨Bs, Bf, Bt, rfl, ⟨b1, b2, b3⟩, hb⟩
  have H1 := Lib.hid (H0.out.below hb)
  have HK1 := Lib.hid (HK0.out.trans (Keep.of_grew hb (Just p)) (fun _ _ h => h))
  clear hb
  go_wp2_with fail
  refine (search_goTo p Bs Bf Bt w1 v ts q 0 _ _ false _ H1.out.box H1.out.lines H1.out.few H1.out.short H1.out.max HT.out b1 b2 b3).mono ?_
  rintro e w2 hg
  obtain ⟨rfl, h2, h3⟩ := gone_step H1.out HK1.out hg
  have HG := Lib.hid (And.intro h2 h3)
  clear h2 h3 hg b1 b2 b3
  go_wp2
  go_ret
  exact ⟨rfl, HG.out.1, HG.out.2⟩

theorem search_Query {w : World} {p : Nat} {v : Value} {q : ByteArray} {pl : Int} {fd : Bool} (h : IsS w p v q pl fd) :
    Calls Tryd.prog 27 #[.pointer (some ⟨p, 0, none⟩)] w fun e w' => e = .returned (.string q) ∧ w = w' := by
  obtain ⟨c0, c1, c2, c3, z0, z1, z2, z3⟩ := h
  go_enter Tryd.func27, Tryd.ntmps27
  go_wp2
  go_ret
  exact ⟨rfl, rfl⟩

theorem search_Found_no {w : World} {p : Nat} {v : Value} {q : ByteArray} {pl : Int} (h : IsS w p v q pl false) :
    Calls Tryd.prog 26 #[.pointer (some ⟨p, 0, none⟩)] w fun e w' => e = .returned (.tuple #[.int .i64 0, .string ⟨#[]⟩, .bool false]) ∧ w = w' := by
  obtain ⟨c0, c1, c2, c3, z0, z1, z2, z3⟩ := h
  go_enter Tryd.func26, Tryd.ntmps26
  go_wp2
  go_ret3
  exact ⟨rfl, rfl⟩
set_option maxHeartbeats 2000000 in
theorem search_Found_yes {w : World} {p : Nat} {v : Value} {ts : List ByteArray} {q : ByteArray} {pl : Nat} (h : Sea w p v ts q (pl : Nat) true) (hp : pl < ts.length) :
    Calls Tryd.prog 26 #[.pointer (some ⟨p, 0, none⟩)] w fun e w' => e = .returned (.tuple #[.int .i64 (pl : Nat), .string ts[pl], .bool true]) ∧ Below w.heap.size w w' := by
  obtain ⟨c0, c1, c2, c3, z0, z1, z2, z3⟩ := h.box
  obtain ⟨a, cap, rfl, hcap, hc⟩ := h.lines
  rcases hc with hc | ⟨b, off, rfl, hb, hcell⟩
  · subst hc; simp at hp
  have c4 := hcell pl hp
  have hfew := h.few
  have d1 : decide (pl < ts.length) = true := decide_eq_true hp
  have hia : (pl : Int) < (ts.length : Int) := by omega
  generalize ts[pl] = t at *
  clear h hcell
  go_enter Tryd.func26, Tryd.ntmps26
  go_wp2_with fail
  go_quiet (fail)
  go_wp2
  go_ret3
  exact ⟨rfl, grew_drewN _ _⟩
end Go.Proofs.YtepddieblankpaaDoor
