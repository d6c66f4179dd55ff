/- A hold in memory; what New, Clock, Waits of hold come to. -/
import Derived.Test.YtjklfjgdmklimaaMsgCopy
import Derived.Test.YtjklfjgdmklimaaHdMath
import Derived.Test.YtjklfjgdmklimaaVecJoin
namespace Go.Proofs.Ytjklfjgdmklimaa
open Go.RowKit Go.Maps
set_option linter.unusedVariables false

theorem place_row : 71 < Try.prog.types.size := of_decide_eq_true (by kernel_rfl)
theorem place_keyed : Keyed Try.prog 71 := Keyed.of_law (deep_law_laid laidOut0 (m := 2) (by omega) place_row (by kernel_rfl) (by rw [Try.underlying71]))
theorem place_key : PairKey 71 := pair_key Try.underlying71 (by kernel_rfl) (by kernel_rfl) place_keyed (by kernel_rfl) (by kernel_rfl)
theorem place_map : Try.prog.underlying 67 = some (.map 71 40) := Try.underlying67

/-- The clock's value. -/
def clockV (cb n cc : Nat) : Value := .slice (some ⟨cb, 0, none⟩) n cc

/-- A hold at p, all of whose blocks are in F. -/
structure HoldW (w : World) (F : Nat → Prop) (p : Nat) (s : Hold.St) (cb cc mp : Nat) (S : Nat → Prop) (es : List Ent) : Prop where
  ok : Hold.Ok s
  box : Holds w p [.int .i64 (s.room : Int), clockV cb s.clock.length cc, .map (some mp)] 69
  clk : OwnI w (clockV cb s.clock.length cc) s.clock
  map : MsgMap w 71 mp S es
  is : es.map Ent.m = s.l
  off : ∀ b, S b → b ≠ p ∧ b ≠ mp ∧ b ≠ cb
  pm : p ≠ mp ∧ p ≠ cb ∧ mp ≠ cb
  inp : F p
  inm : F mp
  inc : F cb
  ins : ∀ b, S b → F b
  lt : ∀ b, F b → b < w.heap.size
def IsHold (w : World) (F : Nat → Prop) (p : Nat) (s : Hold.St) : Prop := ∃ cb cc mp S es, HoldW w F p s cb cc mp S es

theorem HoldW.keep {w w' : World} {F F' : Nat → Prop} {p : Nat} {s : Hold.St} {cb cc mp : Nat} {S : Nat → Prop} {es : List Ent} (h : HoldW w F p s cb cc mp S es) (hk : Keep F' w w') (hn : ∀ b, F b → ¬ F' b) : HoldW w' F p s cb cc mp S es :=
  ⟨h.ok, h.box.keep hk (hn p h.inp), h.clk.keep hk (fun g hg => by have : cb = g := Option.some.inj hg; rw [← this]; exact hn cb h.inc), h.map.keep hk (hn mp h.inm) (fun b hb => hn b (h.ins b hb)), h.is, h.off, h.pm, h.inp, h.inm, h.inc, h.ins, fun b hb => Nat.lt_of_lt_of_le (h.lt b hb) hk.size⟩
theorem HoldW.below {w w' : World} {F : Nat → Prop} {p : Nat} {s : Hold.St} {cb cc mp : Nat} {S : Nat → Prop} {es : List Ent} (h : HoldW w F p s cb cc mp S es) (hb : Below w.heap.size w w') : HoldW w' F p s cb cc mp S es := h.keep (Keep.of_grew hb Non) (fun _ _ h => h)
theorem IsHold.keep {w w' : World} {F F' : Nat → Prop} {p : Nat} {s : Hold.St} (h : IsHold w F p s) (hk : Keep F' w w') (hn : ∀ b, F b → ¬ F' b) : IsHold w' F p s := by
  obtain ⟨cb, cc, mp, S, es, h⟩ := h
  exact ⟨cb, cc, mp, S, es, h.keep hk hn⟩
theorem IsHold.below {w w' : World} {F : Nat → Prop} {p : Nat} {s : Hold.St} (h : IsHold w F p s) (hb : Below w.heap.size w w') : IsHold w' F p s := h.keep (Keep.of_grew hb Non) (fun _ _ h => h)
theorem IsHold.lt {w : World} {F : Nat → Prop} {p : Nat} {s : Hold.St} (h : IsHold w F p s) : ∀ b, F b → b < w.heap.size := by
  obtain ⟨_, _, _, _, _, h⟩ := h
  exact h.lt
theorem IsHold.ok {w : World} {F : Nat → Prop} {p : Nat} {s : Hold.St} (h : IsHold w F p s) : Hold.Ok s := by
  obtain ⟨_, _, _, _, _, h⟩ := h
  exact h.ok
/-- What is left of a hold behind a step. -/
def HStep (w : World) (F : Nat → Prop) (p : Nat) (s' : Hold.St) (w' : World) : Prop := ∃ F', IsHold w' F' p s' ∧ Keep F w w' ∧ NearS w F F'
theorem HStep.grew {w w' : World} {F : Nat → Prop} {p : Nat} {s : Hold.St} (h : IsHold w F p s) (hb : Below w.heap.size w w') : HStep w F p s w' := ⟨F, h.below hb, Keep.of_grew hb F, NearS.refl _ _⟩

theorem Hold.Ok.new {n r : Nat} (hn : 1 ≤ n ∧ n ≤ 16) (hr : r ≤ 1000) : Hold.Ok (Hold.new n r) :=
  ⟨by simpa [Hold.new] using hn, hr, by simp [Hold.new], fun z hz => by rw [(List.mem_replicate.1 hz).2]; exact ⟨by omega, by omega⟩, by simp [Hold.new], by simp [Hold.new]⟩

/-- A list that vec.New makes is a new one. -/
theorem vec_New_own (n : Nat) (w : World) (hn : 1 ≤ n ∧ n ≤ 16) :
    Calls Try.prog 29 #[.int .i64 (n : Int)] w fun e w' => e = .returned (.tuple #[clockV w.heap.size n n, .int .i64 0]) ∧ OwnI w' (clockV w.heap.size n n) (List.replicate n 0) ∧ Below w.heap.size w w' := by
  have hd : decide ((n : Int) < 1) = false := decide_eq_false (by omega)
  have hd2 : decide ((16 : Int) < (n : Int)) = false := decide_eq_false (by omega)
  obtain ⟨W, hmake, hown, hbel⟩ := ints_zeros Try.underlying46 n w (by omega)
  have HO := Lib.hid hown
  clear hn hown
  go_enter Try.func29, Try.ntmps29
  go_wp2
  go_ret2
  refine ⟨rfl, ?_, hbel⟩
  obtain ⟨h2, h3⟩ := HO.out
  refine ⟨h2, ?_⟩
  rcases h3 with h3 | ⟨g, cap, cur, hv, _, q⟩
  · exact .inl h3
  · exact .inr ⟨g, cap, cur, hv, Nat.zero_le _, q⟩
theorem vec_New_no (n : Int) (w : World) (hn : ¬ (1 ≤ n ∧ n ≤ 16)) :
    Calls Try.prog 29 #[.int .i64 n] w fun e w' => e = .returned (.tuple #[.slice none 0 0, .int .i64 1]) ∧ w = w' := by
  by_cases h1 : n < 1
  · have hd : decide (n < 1) = true := decide_eq_true h1
    clear h1 hn
    go_enter Try.func29, Try.ntmps29
    go_wp2
    go_ret2
    exact ⟨rfl, rfl⟩
  · have hd : decide (n < 1) = false := decide_eq_false h1
    have hd2 : decide (16 < n) = true := decide_eq_true (by omega)
    clear h1 hn
    go_enter Try.func29, Try.ntmps29
    go_wp2
    go_ret2
    exact ⟨rfl, rfl⟩

set_option maxRecDepth 100000 in
theorem hold_New_yes (n r : Nat) (w : World) (hn : 1 ≤ n ∧ n ≤ 16) (hr : r ≤ 1000) :
    Calls Try.prog 10 #[.int .i64 (n : Int), .int .i64 (r : Int)] w fun e w' => ∃ p F, e = .returned (.tuple #[.pointer (some ⟨p, 0, none⟩), .int .i64 0]) ∧ IsHold w' F p (Hold.new n r) ∧ (∀ b, F b → w.heap.size ≤ b) ∧ Below w.heap.size w w' := by
  have d3 : decide ((r : Int) < 0) = false := decide_eq_false (by omega)
  have d4 : decide ((1000 : Int) < (r : Int)) = false := decide_eq_false (by omega)
  have HN := Lib.hid (And.intro hn hr)
  have hmm := @run_makeMap Try.prog
  clear hn hr
  go_enter Try.func10, Try.ntmps10
  go_wp2_with fail
  refine (vec_New_own n w HN.out.1).mono ?_
  rintro e w1 ⟨rfl, ho, hb⟩
  have HO := Lib.hid ho
  have HB := Lib.hid hb
  clear ho hb
  unfold clockV
  go_wp2
  go_ret2
  have hcl : w.heap.size < w1.heap.size := Owns.lt HO.out rfl
  have z1 : (w1.alloc (.map #[] 0)).heap.size = w1.heap.size + 1 := Array.size_push _
  have hbb := grew (grew_alloc w1 (.map #[] 0)) (grew_alloc _ (.cells #[.int .i64 (r : Int), .slice (some ⟨w.heap.size, 0, none⟩) n n, .map (some w1.heap.size)] 69))
  have z2 : ((w1.alloc (.map #[] 0)).alloc (.cells #[.int .i64 (r : Int), .slice (some ⟨w.heap.size, 0, none⟩) n n, .map (some w1.heap.size)] 69)).heap.size = w1.heap.size + 1 + 1 := by rw [← z1]; exact Array.size_push _
  have hsz := HB.out.size
  refine ⟨w1.heap.size + 1, fun b => b = w1.heap.size ∨ b = w1.heap.size + 1 ∨ b = w.heap.size, rfl, ⟨w.heap.size, n, w1.heap.size, Non, [], ⟨Hold.Ok.new HN.out.1 HN.out.2, ?_, ?_, (MsgMap.nil w1 _ Non).below (grew_alloc _ _), rfl, (fun b h => h.elim), ⟨by omega, by omega, by omega⟩, .inr (.inl rfl), .inl rfl, .inr (.inr rfl), (fun b h => h.elim), (fun b hb => by rw [z2]; omega)⟩⟩, (fun b hb => by omega), grew HB.out hbb⟩
  · have := Holds.new (w1.alloc (.map #[] 0)) [.int .i64 (r : Int), .slice (some ⟨w.heap.size, 0, none⟩) n n, .map (some w1.heap.size)] 69
    rw [z1] at this
    simpa [Hold.new, clockV] using this
  · have := HO.out.below hbb
    simpa [Hold.new, clockV] using this

def newOkH (n r : Int) : Bool := decide (1 ≤ n) && decide (n ≤ 16) && decide (0 ≤ r) && decide (r ≤ 1000)
set_option maxRecDepth 100000 in
theorem hold_New_no (n r : Int) (w : World) (h : newOkH n r = false) :
    Calls Try.prog 10 #[.int .i64 n, .int .i64 r] w fun e w' => e = .returned (.tuple #[.pointer none, .int .i64 1]) ∧ Below w.heap.size w w' := by
  by_cases h1 : 1 ≤ n ∧ n ≤ 16
  · obtain ⟨k, rfl⟩ : ∃ k : Nat, n = k := ⟨n.toNat, by omega⟩
    have HN : Hid (1 ≤ k ∧ k ≤ 16) := Lib.hid (by omega)
    have hr : r < 0 ∨ 1000 < r := by simp [newOkH] at h; omega
    clear h h1
    by_cases h2 : r < 0
    · have d2 : decide (r < 0) = true := decide_eq_true h2
      clear h2 hr
      go_enter Try.func10, Try.ntmps10
      go_wp2_with fail
      refine (vec_New_own k w HN.out).mono ?_
      rintro e w1 ⟨rfl, ho, hb⟩
      go_wp2
      go_ret2
      exact ⟨rfl, hb⟩
    · have d2 : decide (r < 0) = false := decide_eq_false h2
      have d3 : decide (1000 < r) = true := decide_eq_true (by omega)
      clear h2 hr
      go_enter Try.func10, Try.ntmps10
      go_wp2_with fail
      refine (vec_New_own k w HN.out).mono ?_
      rintro e w1 ⟨rfl, ho, hb⟩
      go_wp2
      go_ret2
      exact ⟨rfl, hb⟩
  · have HN := Lib.hid (vec_New_no n w h1)
    clear h h1
    go_enter Try.func10, Try.ntmps10
    go_wp2_with fail
    refine HN.out.mono ?_
    rintro e _ ⟨rfl, rfl⟩
    go_wp2
    go_ret2
    exact ⟨rfl, Below.refl _ _⟩

theorem hold_Waits {w : World} {F : Nat → Prop} {p : Nat} {s : Hold.St} (h : IsHold w F p s) :
    Calls Try.prog 15 #[.pointer (some ⟨p, 0, none⟩)] w fun e w' => e = .returned (.int .i64 (s.l.length : Int)) ∧ w = w' := by
  obtain ⟨cb, cc, mp, S, es, h⟩ := h
  have c2 := h.box.cell 2 (by simp)
  simp only [List.getElem_cons_succ, List.getElem_cons_zero] at c2
  have hlen := h.map.len place_map
  have HL : Hid (es.length = s.l.length) := Lib.hid (by rw [← h.is]; simp)
  clear h
  go_enter Try.func15, Try.ntmps15
  go_wp2
  go_ret
  exact ⟨by rw [HL.out]; rfl, rfl⟩
theorem hold_Waits_nil (w : World) : Calls Try.prog 15 #[.pointer none] w fun e w' => e = .returned (.int .i64 0) ∧ w = w' := by
  go_enter Try.func15, Try.ntmps15
  go_wp2
  go_ret
  exact ⟨rfl, rfl⟩
theorem hold_Clock {w : World} {F : Nat → Prop} {p : Nat} {s : Hold.St} (h : IsHold w F p s) :
    Calls Try.prog 17 #[.pointer (some ⟨p, 0, none⟩)] w fun e w' => ∃ v g cap, e = .returned v ∧ Fresh w w' v s.clock g cap := by
  obtain ⟨cb, cc, mp, S, es, h⟩ := h
  have c1 := h.box.cell 1 (by simp)
  simp only [List.getElem_cons_succ, List.getElem_cons_zero] at c1
  have hs := h.ok.sites
  have HC := Lib.hid (vec_Clone _ s.clock w h.clk.slice (by omega) (by omega))
  clear h hs
  unfold clockV at c1 HC
  go_enter Try.func17, Try.ntmps17
  go_wp2_with fail
  refine HC.out.mono ?_
  rintro e w1 ⟨v, rfl, g, cap, hf⟩
  go_wp2
  go_ret
  exact ⟨_, g, cap, rfl, hf⟩
theorem hold_Clock_nil (w : World) : Calls Try.prog 17 #[.pointer none] w fun e w' => e = .returned (.slice none 0 0) ∧ w = w' := by
  go_enter Try.func17, Try.ntmps17
  go_wp2
  go_ret
  exact ⟨rfl, rfl⟩
theorem hold_Known_nil (w : World) : Calls Try.prog 18 #[.pointer none] w fun e w' => e = .returned (.slice none 0 0) ∧ w = w' := by
  go_enter Try.func18, Try.ntmps18
  go_wp2
  go_ret
  exact ⟨rfl, rfl⟩
end Go.Proofs.Ytjklfjgdmklimaa
