/- The reference's store in memory; what its New, Get come to. -/
import Derived.Test.YtafcabepdaejbaaRsGet
import Derived.Test.YtafcabepdaejbaaMesgCopy
import Derived.Test.YtafcabepdaejbaaStepApp
namespace Go.Proofs.Ytafcabepdaejbaa
open Go.RowKit Go.Maps
set_option linter.unusedVariables false

/-- The cells of messages, one behind the other. -/
def msgCells (xs : List (Mesg.Msg × Value)) : List Value := xs.flatMap fun q => msgL q.1 q.2
theorem msgL_len (m : Mesg.Msg) (v : Value) : (msgL m v).length = 10 := rfl
theorem msgCells_append (a b : List (Mesg.Msg × Value)) : msgCells (a ++ b) = msgCells a ++ msgCells b := by simp [msgCells]
theorem msgCells_len : ∀ l : List (Mesg.Msg × Value), (msgCells l).length = l.length * 10
  | [] => rfl
  | p :: l => by
    have := msgCells_len l
    simp [msgCells, msgL_len] at this ⊢
    omega
theorem msgCells_get {l : List (Mesg.Msg × Value)} {k j : Nat} (hk : k < l.length) (hj : j < 10) : (msgCells l)[k * 10 + j]? = (msgL l[k].1 l[k].2)[j]? := by
  induction l generalizing k with
  | nil => simp at hk
  | cons p l ih =>
    cases k with
    | zero =>
      have : j < (msgL p.1 p.2).length := by rw [msgL_len]; exact hj
      simp only [msgCells, List.flatMap_cons, Nat.zero_mul, Nat.zero_add, List.getElem_cons_zero]
      rw [List.getElem?_append_left this]
    | succ k =>
      have := ih (k := k) (by simpa using hk)
      have e1 : (k + 1) * 10 + j = 10 + (k * 10 + j) := by omega
      simp only [msgCells, List.flatMap_cons, List.getElem_cons_succ] at this ⊢
      rw [e1, List.getElem?_append_right (by rw [msgL_len]; omega), msgL_len, Nat.add_sub_cancel_left, this]
theorem msgL_one (m : Mesg.Msg) {v : Value} (hv : v.oneCell' = true) : ∀ u ∈ msgL m v, u.oneCell' = true := by
  intro u hu
  simp only [msgL, List.mem_cons, List.not_mem_nil, or_false] at hu
  rcases hu with rfl | rfl | rfl | rfl | rfl | rfl | rfl | rfl | rfl | rfl <;> first | exact hv | rfl

theorem info_msg : (Try.prog.info? 40).map (fun i => (i.zero, i.size, i.bytes)) = some (some (msgV Mesg.none (.slice none 0 0)), 10, 96) := by kernel_rfl

/-- A slice of messages of one's own. -/
def OwnM (w : World) (V : Value) (xs : List (Mesg.Msg × Value)) : Prop := Owns w 40 10 V xs.length (msgCells xs)
theorem OwnM.nil (w : World) : OwnM w (.slice none 0 0) [] := Owns.nil _ _ _
theorem OwnM.below {w w' : World} {V : Value} {l : List (Mesg.Msg × Value)} (h : OwnM w V l) (hb : Below w.heap.size w w') : OwnM w' V l := Owns.keep h (Keep.of_grew hb Non) (fun _ _ h => h)
theorem OwnM.form {w : World} {V : Value} {l : List (Mesg.Msg × Value)} (h : OwnM w V l) : ∃ a cap, V = .slice a l.length cap := by
  rcases h.2 with ⟨e, h0⟩ | ⟨g, cap, cur, e, _⟩
  · exact ⟨none, 0, by rw [e, h0]⟩
  · exact ⟨_, cap, e⟩
/-- The k-th message's cells. -/
theorem OwnM.at {w : World} {a : Option Addr} {cap : Nat} {l : List (Mesg.Msg × Value)} (h : OwnM w (.slice a l.length cap) l) {k : Nat} (hk : k < l.length) : ∃ b, a = some ⟨b, 0, none⟩ ∧ b < w.heap.size ∧ ∀ j u, (msgL l[k].1 l[k].2)[j]? = some u → w.cell? ⟨b, k * 10 + j, none⟩ = some u := by
  rcases h.2 with ⟨e, h0⟩ | ⟨g, cap', cur, e, _⟩
  · omega
  · injection e with e1 _ e3
    subst e1 e3
    refine ⟨g, rfl, Owns.lt h rfl, fun j u hu => ?_⟩
    have hj : j < 10 := by
      have := (List.getElem?_eq_some_iff.1 hu).1
      rw [msgL_len] at this; exact this
    rw [World.ownsRow.cellAt h (k * 10 + j) (by omega), msgCells_get hk hj, hu]

theorem SliceI.block_lt {w : World} {v : Value} {zs : List Int} (h : SliceI w v zs) (h1 : 1 ≤ zs.length) {g : Nat} (hg : v.ownBlock = some g) : g < w.heap.size := by
  obtain ⟨a, cap, rfl, _, h⟩ := h
  rcases h with h | ⟨b, off, rfl, hlt, _⟩
  · rw [h] at h1; simp at h1
  · have : b = g := Option.some.inj hg
    omega

/-- The reference's store at p, all of whose blocks are in F. -/
structure RStoreW (w : World) (F : Nat → Prop) (p : Nat) (s : Resend.St) (V : Value) (xs : List (Mesg.Msg × Value)) : Prop where
  ok : Resend.Ok s
  box : Holds w p [.int .i64 (s.sites : Int), .int .i64 (s.room : Int), V] 76
  own : OwnM w V xs
  is : xs.map Prod.fst = s.l
  know : ∀ q ∈ xs, SliceI w q.2 q.1.know ∧ ∀ g, q.2.ownBlock = some g → F g ∧ g ≠ p ∧ V.ownBlock ≠ some g
  row : ∀ g, V.ownBlock = some g → F g ∧ g ≠ p
  inp : F p
  lt : ∀ b, F b → b < w.heap.size
def IsRStore (w : World) (F : Nat → Prop) (p : Nat) (s : Resend.St) : Prop := ∃ V xs, RStoreW w F p s V xs

theorem RStoreW.keep {w w' : World} {F F' : Nat → Prop} {p : Nat} {s : Resend.St} {V : Value} {xs : List (Mesg.Msg × Value)} (h : RStoreW w F p s V xs) (hk : Keep F' w w') (hn : ∀ b, F b → ¬ F' b) : RStoreW w' F p s V xs :=
  ⟨h.ok, h.box.keep hk (hn p h.inp), Owns.keep h.own hk (fun g hg => hn g (h.row g hg).1), h.is, fun q hq => ⟨(h.know q hq).1.keep hk (fun g hg => hn g ((h.know q hq).2 g hg).1), (h.know q hq).2⟩, h.row, h.inp, fun b hb => Nat.lt_of_lt_of_le (h.lt b hb) hk.size⟩
theorem RStoreW.below {w w' : World} {F : Nat → Prop} {p : Nat} {s : Resend.St} {V : Value} {xs : List (Mesg.Msg × Value)} (h : RStoreW w F p s V xs) (hb : Below w.heap.size w w') : RStoreW w' F p s V xs := h.keep (Keep.of_grew hb Non) (fun _ _ h => h)
theorem IsRStore.keep {w w' : World} {F F' : Nat → Prop} {p : Nat} {s : Resend.St} (h : IsRStore w F p s) (hk : Keep F' w w') (hn : ∀ b, F b → ¬ F' b) : IsRStore w' F p s := by
  obtain ⟨V, xs, h⟩ := h
  exact ⟨V, xs, h.keep hk hn⟩
theorem IsRStore.below {w w' : World} {F : Nat → Prop} {p : Nat} {s : Resend.St} (h : IsRStore w F p s) (hb : Below w.heap.size w w') : IsRStore w' F p s := h.keep (Keep.of_grew hb Non) (fun _ _ h => h)
/-- What is left of it behind a step. -/
def RSStep (w : World) (F : Nat → Prop) (p : Nat) (s' : Resend.St) (w' : World) : Prop := ∃ F', IsRStore w' F' p s' ∧ Keep F w w' ∧ NearS w F F'
theorem RSStep.grew {w w' : World} {F : Nat → Prop} {p : Nat} {s : Resend.St} (h : IsRStore w F p s) (hb : Below w.heap.size w w') : RSStep w F p s w' := ⟨F, h.below hb, Keep.of_grew hb F, NearS.refl _ _⟩

theorem ref08_New_yes (n r : Nat) (w : World) (hn : 1 ≤ n ∧ n ≤ 16) (hr : 1 ≤ r ∧ r ≤ 100000) :
    Calls Try.prog 30 #[.int .i64 (n : Int), .int .i64 (r : Int)] w fun e w' => ∃ p F, e = .returned (.tuple #[.pointer (some ⟨p, 0, none⟩), .int .i64 0]) ∧ IsRStore w' F p (Resend.new n r) ∧ (∀ b, F b → w.heap.size ≤ b) ∧ Below w.heap.size w w' := by
  have d1 : decide ((n : Int) < 1) = false := decide_eq_false (by omega)
  have d2 : decide ((16 : Int) < (n : Int)) = false := decide_eq_false (by omega)
  have d3 : decide ((r : Int) < 1) = false := decide_eq_false (by omega)
  have d4 : decide ((100000 : Int) < (r : Int)) = false := decide_eq_false (by omega)
  have HN := Lib.hid (And.intro hn hr)
  clear hn hr
  go_enter Try.func30, Try.ntmps30
  go_wp2
  go_ret2
  have hh := Holds.new w [.int .i64 (n : Int), .int .i64 (r : Int), .slice none 0 0] 76
  refine ⟨w.heap.size, fun b => b = w.heap.size, rfl, ⟨.slice none 0 0, [], ⟨Resend.Ok.new HN.out.1 HN.out.2, hh, OwnM.nil _, rfl, (by simp), (fun g hg => by cases hg), rfl, (fun b hb => by rw [hb]; exact hh.lt)⟩⟩, fun b hb => by omega, grew_alloc _ _⟩
theorem ref08_New_no (n r : Int) (w : World) (h : newOk n r = false) :
    Calls Try.prog 30 #[.int .i64 n, .int .i64 r] w fun e w' => e = .returned (.tuple #[.pointer none, .int .i64 1]) ∧ w = w' := by
  have HN : Hid (¬ (¬ n < 1 ∧ ¬ 16 < n ∧ ¬ r < 1 ∧ ¬ 100000 < r)) := Lib.hid (fun ⟨a, b, c, d⟩ => by simp [newOk] at h; omega)
  clear h
  have hn := HN.out
  clear HN
  by_cases h1 : n < 1
  · have d1 : decide (n < 1) = true := decide_eq_true h1
    clear hn h1
    go_enter Try.func30, Try.ntmps30
    go_wp2
    go_ret2
    exact ⟨rfl, rfl⟩
  · have d1 : decide (n < 1) = false := decide_eq_false h1
    by_cases h2 : 16 < n
    · have d2 : decide (16 < n) = true := decide_eq_true h2
      clear hn h1 h2
      go_enter Try.func30, Try.ntmps30
      go_wp2
      go_ret2
      exact ⟨rfl, rfl⟩
    · have d2 : decide (16 < n) = false := decide_eq_false h2
      by_cases h3 : r < 1
      · have d3 : decide (r < 1) = true := decide_eq_true h3
        clear hn h1 h2 h3
        go_enter Try.func30, Try.ntmps30
        go_wp2
        go_ret2
        exact ⟨rfl, rfl⟩
      · have d3 : decide (r < 1) = false := decide_eq_false h3
        have d4 : decide (100000 < r) = true := decide_eq_true (Classical.byContradiction fun h4 => hn ⟨h1, h2, h3, h4⟩)
        clear hn h1 h2 h3
        go_enter Try.func30, Try.ntmps30
        go_wp2
        go_ret2
        exact ⟨rfl, rfl⟩
end Go.Proofs.Ytafcabepdaejbaa
