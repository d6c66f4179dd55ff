/- What ident.Order comes to. -/
import Derived.Test.YtohmhbjiapflpaaIdCompact
import Derived.Test.YtohmhbjiapflpaaIdMath
import Derived.Test.YtohmhbjiapflpaaSliceG
import Derived.Shelf.SlSortCmp.NoneTotal
namespace Go.Proofs.Ytohmhbjiapflpaa
open Go.RowKit
open Go.Sort (grow grow_empty grow_grow alloc_eq_grow size_grow heap_grow_old HoldsK flatK get_flatK size_flatK putRowK SWO PermIn SortedIn holdsK_putRowK holdsK_grow holdsK_ahead)
open Go.Lib (keeps compactUpTo)
set_option linter.unusedVariables false

/-- The cells of Ids one behind the other. -/
def idCells : List (Int × Int) → List Value
  | [] => []
  | x :: xs => .int .i64 x.1 :: .int .i64 x.2 :: idCells xs
theorem idCells_len : ∀ xs : List (Int × Int), (idCells xs).length = xs.length * 2
  | [] => rfl
  | x :: xs => by simp [idCells, idCells_len xs]; omega
theorem idCells_one : ∀ xs : List (Int × Int), ∀ u ∈ idCells xs, u.oneCell' = true
  | [], u, h => by simp [idCells] at h
  | x :: xs, u, h => by
    simp only [idCells, List.mem_cons] at h
    rcases h with rfl | rfl | h
    · rfl
    · rfl
    · exact idCells_one xs u h
theorem idCells_at : ∀ (xs : List (Int × Int)) (i : Nat) (hi : i < xs.length), (idCells xs)[i * 2]? = some (.int .i64 xs[i].1) ∧ (idCells xs)[i * 2 + 1]? = some (.int .i64 xs[i].2)
  | [], i, hi => by simp at hi
  | x :: xs, 0, _ => ⟨rfl, rfl⟩
  | x :: xs, i + 1, hi => by
    have := idCells_at xs i (by simpa using hi)
    rw [show (i + 1) * 2 = i * 2 + 1 + 1 from by omega]
    simpa [idCells] using this

theorem info_id : (Try.prog.info? 24).map (fun i => (i.zero, i.size, i.bytes)) = some (some (.agg #[.int .i64 0, .int .i64 0]), 2, 16) := by kernel_rfl

/-- What a slice of the call's own holds. -/
theorem Owns.idRow {w : World} {g cap : Nat} {xs : List (Int × Int)} (h : Owns w 24 2 (.slice (some ⟨g, 0, none⟩) xs.length cap) xs.length (idCells xs)) : IdRow w g xs.toArray ∧ xs.length ≤ cap := by
  rcases h.2 with ⟨e, _⟩ | ⟨g', cap', cur, e, _, hg, hn, hm, hs, ht⟩
  · cases e
  · injection e with e1 _ e3
    injection e1 with e1
    injection e1 with e1 _ _
    subst e1 e3
    refine ⟨⟨(Array.getElem?_eq_some_iff.1 hg).1, fun i hi => ?_⟩, hn⟩
    have hi' : i < xs.length := by simpa using hi
    obtain ⟨k0, k1⟩ := idCells_at xs i hi'
    rw [← ht] at k0 k1
    rw [List.getElem?_take] at k0 k1
    rw [if_pos (by omega), Array.getElem?_toList] at k0 k1
    rw [getElem!_pos xs.toArray i hi]
    refine ⟨⟨?_, ?_⟩, by simp [World.frozen?, hg], by simp [World.frozen?, hg]⟩
    · simp only [World.cell?, hg]; simpa using k0
    · simp only [World.cell?, hg]; simpa using k1

theorem IdRow.slice {w : World} {g cap : Nat} {ys : List (Int × Int)} (h : IdRow w g ys.toArray) (hc : ys.length ≤ cap) : SliceG 2 idL w (.slice (some ⟨g, 0, none⟩) ys.length cap) ys :=
  ⟨_, cap, rfl, hc, .inr ⟨g, 0, rfl, h.1, fun i hi j u hu => by
    obtain ⟨⟨c0, c1⟩, _⟩ := h.2 i (by simpa using hi)
    rw [getElem!_pos ys.toArray i (by simpa using hi)] at c0 c1
    rw [Nat.zero_add]
    match j, hu with
    | 0, hu => simp only [idL, List.getElem?_cons_zero, Option.some.injEq] at hu; rw [← hu]; exact c0
    | 1, hu => simp only [idL, List.getElem?_cons_succ, List.getElem?_cons_zero, Option.some.injEq] at hu; rw [← hu]; exact c1
    | j + 2, hu => simp [idL] at hu⟩⟩

theorem IdRow.holdsK {w : World} {g : Nat} {d : Array (Int × Int)} (h : IdRow w g d) : HoldsK idL 2 w g 0 d := by
  intro t ht
  have ht' : t < d.size * 2 := by simpa using ht
  obtain ⟨⟨c0, c1⟩, f0, f1⟩ := h.2 (t / 2) (by omega)
  rw [get_flatK _ _ _ t ht', Nat.zero_add]
  rcases Nat.mod_two_eq_zero_or_one t with e | e
  · rw [e, show t = t / 2 * 2 from by omega]
    rw [show t / 2 * 2 / 2 = t / 2 from by omega]
    exact ⟨c0, f0⟩
  · rw [e, show t = t / 2 * 2 + 1 from by omega]
    rw [show (t / 2 * 2 + 1) / 2 = t / 2 from by omega]
    exact ⟨c1, f1⟩
theorem IdRow.of_holdsK {w : World} {g : Nat} {d : Array (Int × Int)} (h : HoldsK idL 2 w g 0 d) (hg : g < w.heap.size) : IdRow w g d := by
  refine ⟨hg, fun i hi => ?_⟩
  have h0 := h (i * 2) (by simp; omega)
  have h1 := h (i * 2 + 1) (by simp; omega)
  rw [get_flatK _ _ _ _ (by omega), Nat.zero_add] at h0 h1
  rw [show i * 2 / 2 = i from by omega, show i * 2 % 2 = 0 from by omega] at h0
  rw [show (i * 2 + 1) / 2 = i from by omega, show (i * 2 + 1) % 2 = 1 from by omega] at h1
  exact ⟨⟨h0.1, h1.1⟩, h0.2, h1.2⟩

theorem keep_sorted (w : World) (g n : Nat) (d : Array (Int × Int)) (os : Array Obj) : Keep (Just g) w (Go.Proofs.sortWorldK idL 2 w g 0 n d os) := by
  refine ⟨rfl, rfl, rfl, by simp [Go.Proofs.sortWorldK, putRowK, Go.Sort.ahead], fun k hk hn => ?_⟩
  unfold Go.Proofs.sortWorldK
  rw [heap_grow_old _ _ (by simpa [putRowK, Go.Sort.ahead] using hk)]
  simp only [putRowK, Go.Sort.putRow, Go.Sort.mapBlock, Array.getElem?_modify]
  rw [if_neg (fun e => hn e.symm)]
  rfl

theorem swo_id : SWO (Go.Proofs.ltOf Idn.cmp) where
  irrefl x := by unfold Go.Proofs.ltOf; rw [Idn.cmp_lt]; exact Idn.lt_irrefl x
  trans x y z h1 h2 := by unfold Go.Proofs.ltOf at *; rw [Idn.cmp_lt] at *; exact Idn.lt_trans h1 h2
  ntrans x y z h1 h2 := by unfold Go.Proofs.ltOf at *; rw [Idn.cmp_lt, Idn.lt_no] at *; omega

set_option maxRecDepth 100000 in
set_option maxHeartbeats 1000000 in
theorem slices_CloneIds (v : Value) (xs : List (Int × Int)) (w : World) (hv : SliceG 2 idL w v xs) (hm : xs.length ≤ 1000000) :
    Calls Try.prog 60 #[v] w fun e w' => ∃ v', e = .returned v' ∧ Owns w' 24 2 v' xs.length (idCells xs) ∧ (∀ g, v'.ownBlock = some g → w.heap.size ≤ g) ∧ Below w.heap.size w w' := by
  obtain ⟨a, cap, rfl, hcap, hrow⟩ := hv
  cases a with
  | none =>
    obtain rfl : xs = [] := by
      rcases hrow with h | ⟨b, off, h, _⟩
      · exact h
      · cases h
    clear hrow
    have hnil : (binOp .eql 41 (.slice none 0 cap) (.slice none 0 0)).run Try.prog w = .ok (.bool true) w := by
      simp only [binOp]
      simp [run_equal_slice_nil w 41 24 _ _ _ Try.underlying41]
    simp only [List.length_nil]
    go_enter Try.func60, Try.ntmps60
    go_wp2
    go_ret
    exact ⟨_, rfl, Owns.nil _ _ _, fun g hg => (by cases hg), Below.refl _ _⟩
  | some ad =>
    have HN : Hid (∀ j u, (idCells xs)[j]? = some u → (w.alloc (.cells #[] 24)).cell? (ad.add j) = some u) := Lib.hid (fun j u hu => by
      rcases hrow with rfl | ⟨b, off, e, hb, hc⟩
      · simp [idCells] at hu
      · injection e with e
        subst e
        have hj : j < xs.length * 2 := by have := (List.getElem?_eq_some_iff.1 hu).1; rwa [idCells_len] at this
        have e2 : (⟨b, off, none⟩ : Addr).add j = ⟨b, off + j, none⟩ := by simp [Addr.add]
        rw [e2, (grew_alloc w _).cell (p := ⟨b, off + j, none⟩) hb]
        obtain ⟨k0, k1⟩ := idCells_at xs (j / 2) (by omega)
        have q0 := hc (j / 2) (by omega) 0 _ rfl
        have q1 := hc (j / 2) (by omega) 1 _ rfl
        rcases Nat.mod_two_eq_zero_or_one j with e | e
        · rw [show j / 2 * 2 = j from by omega] at k0 q0
          rw [hu] at k0
          rw [k0]; exact q0
        · rw [show j / 2 * 2 + 1 = j from by omega] at k1
          rw [show off + j / 2 * 2 + 1 = off + j from by omega] at q1
          rw [hu] at k1
          rw [k1]; exact q1)
    have HO : Hid (Owns (w.alloc (.cells #[] 24)) 24 2 (.slice (some ⟨w.heap.size, 0, none⟩) 0 0) 0 []) := Lib.hid (by
      have := World.ownsRow_lit (base := 0) (e := 24) (size := 2) w #[] 0 (Nat.zero_le _) (by unfold maxLen; omega) rfl
      exact this)
    have HM := Lib.hid hm
    have hnil : (binOp .eql 41 (.slice (some ad) xs.length cap) (.slice none 0 0)).run Try.prog w = .ok (.bool false) w := by
      simp only [binOp]
      simp [run_equal_slice_nil w 41 24 _ _ _ Try.underlying41]
    clear hrow hcap hm
    go_enter Try.func60, Try.ntmps60
    go_wp2_with (at_builtin; refine wp_append_any rfl (.tmp 5) (.tmp 6) rfl Try.underlying41 info_id rfl (by decide) (by decide) _ 0 [] rfl HO.out ad xs.length cap (idCells xs) rfl (idCells_len xs) HN.out (idCells_one xs) (by have := HM.out; omega) ?_; intro v' w' ho hk hn)
    go_ret
    refine ⟨_, rfl, by rw [Nat.zero_add, List.nil_append] at ho; exact ho, ?_, ?_⟩
    · intro g hg
      rcases hn g hg with k | k
      · have : w.heap.size = g := Option.some.inj k
        omega
      · simp at k; omega
    · refine (((Keep.alloc _ w _).trans hk (fun i _ hi => hi)).fresh fun i hi hs => ?_)
      have : w.heap.size = i := Option.some.inj hs
      omega

/-- What Order hands back of xs. -/
structure OrderOut (w : World) (xs : List (Int × Int)) (r : Value) (w' : World) (ys : List (Int × Int)) : Prop where
  is : Idn.IsOrder xs ys
  row : SliceG 2 idL w' r ys
  new : ∀ g, r.ownBlock = some g → w.heap.size ≤ g
  bel : Below w.heap.size w w'

end Go.Proofs.Ytohmhbjiapflpaa