/- A line in memory. -/
import Derived.Test.YtohmhbjiapflpaaWvElems
import Derived.Test.YtohmhbjiapflpaaWvIns
import Derived.Test.YtohmhbjiapflpaaPairMap
namespace Go.Proofs.Ytohmhbjiapflpaa
open Go.RowKit Go.Maps
set_option linter.unusedVariables false

theorem id_row : 24 < Try.prog.types.size := of_decide_eq_true (by kernel_rfl)
theorem id_keyed : Keyed Try.prog 24 := Keyed.of_law (deep_law_laid laidOut0 (m := 2) (by omega) id_row (by kernel_rfl) (by rw [Try.underlying24]))
theorem id_key : PairKey 24 := pair_key Try.underlying24 (by kernel_rfl) (by kernel_rfl) id_keyed (by kernel_rfl) (by kernel_rfl)
theorem has_map : Try.prog.underlying 81 = some (.map 24 49) := Try.underlying81
theorem kids_map : Try.prog.underlying 82 = some (.map 24 41) := Try.underlying82

theorem idCells_cell : ∀ (xs : List (Int × Int)) (i : Nat) (h : i < xs.length) (j : Nat) (u : Value), (idL xs[i])[j]? = some u → (idCells xs)[i * 2 + j]? = some u
  | x :: xs, 0, h, j, u, hu => by
    have hj : j < 2 := (List.getElem?_eq_some_iff.1 hu).1
    rw [Nat.zero_mul, Nat.zero_add]
    rcases (by omega : j = 0 ∨ j = 1) with rfl | rfl
    · exact hu
    · exact hu
  | x :: xs, i + 1, h, j, u, hu => by
    have := idCells_cell xs i (by simpa using h) j u hu
    rw [show (i + 1) * 2 + j = i * 2 + j + 1 + 1 from by omega]
    exact this
theorem own_ids_slice {w : World} {v : Value} {ys : List (Int × Int)} (h : Owns w 24 2 v ys.length (idCells ys)) : SliceG 2 idL w v ys := by
  have h' : w.ownsRow 0 24 2 v ys.length (idCells ys) := h
  rcases h'.2 with ⟨rfl, h0⟩ | ⟨g, cap, cur, rfl, hb, hg, hn, hm, hc, ht⟩
  · exact ⟨none, 0, by rw [h0], by omega, .inl (List.eq_nil_of_length_eq_zero h0)⟩
  · refine ⟨_, cap, rfl, hn, .inr ⟨g, 0, rfl, (Array.getElem?_eq_some_iff.1 hg).1, fun i hi j u hu => ?_⟩⟩
    have := World.ownsRow.cells h' (g := g) rfl (i * 2 + j) u (idCells_cell ys i hi j u hu)
    rw [show (⟨g, 0, none⟩ : Addr).add (i * 2 + j) = ⟨g, 0 + i * 2 + j, none⟩ from by unfold Addr.add; split <;> simp_all] at this
    exact this

/-- A slice's value: its block, its numbers. -/
structure KSl where
  b : Option Nat
  n : Nat
  c : Nat
def KSl.enc (k : KSl) : Value := .slice (k.b.map fun b => ⟨b, 0, Option.none⟩) k.n k.c
def KSl.none : KSl := ⟨Option.none, 0, 0⟩
def kslC : Coded KSl where
  enc := KSl.enc
  code k := [match k.b with | Option.none => -1 | some b => (b : Int), k.n, k.c]
  enc_inj := fun ⟨b, n, c⟩ ⟨b', n', c'⟩ h => by
    unfold KSl.enc at h
    injection h with h1 h2 h3
    simp only at h1 h2 h3
    subst h2 h3
    cases b <;> cases b' <;> simp at h1 ⊢
    exact h1
  code_inj := fun ⟨b, n, c⟩ ⟨b', n', c'⟩ h => by
    simp only [List.cons.injEq, and_true] at h
    obtain ⟨h1, h2, h3⟩ := h
    have e1 : n = n' := by omega
    have e2 : c = c' := by omega
    subst e1 e2
    congr 1
    cases b <;> cases b' <;> simp at h1 ⊢ <;> omega
def welC : Coded Wel where
  enc := Wel.val
  code e := [e.id.1, e.id.2, e.ref.1, e.ref.2, e.rune]
  enc_inj := fun ⟨⟨a, b⟩, ⟨c, d⟩, r⟩ ⟨⟨a', b'⟩, ⟨c', d'⟩, r'⟩ h => by
    simp [Wel.val] at h
    obtain ⟨rfl, rfl, rfl, rfl, rfl⟩ := h
    rfl
  code_inj := fun ⟨⟨a, b⟩, ⟨c, d⟩, r⟩ ⟨⟨a', b'⟩, ⟨c', d'⟩, r'⟩ h => by
    simp at h
    obtain ⟨rfl, rfl, rfl, rfl, rfl⟩ := h
    rfl
def Wel.zero : Wel := ⟨(0, 0), (0, 0), 0⟩
theorem zero_wel (w : World) : (zeroValue 49).run Try.prog w = .ok (welC.enc Wel.zero) w := Try.zeroValue49 w
theorem zero_ksl (w : World) : (zeroValue 41).run Try.prog w = .ok (kslC.enc KSl.none) w := Try.zeroValue41 w

def hasL (L : List Wel) : List ((Int × Int) × Wel) := L.map fun e => (e.id, e)
/-- A line at p, its maps at mh, mk; ks: where the kids lie. -/
structure LineM (w : World) (p mh mk : Nat) (L : List Wel) (ks : List ((Int × Int) × KSl)) : Prop where
  box : Holds w p [.map (some mh), .map (some mk)] 84
  has : PMap welC w 24 mh (hasL L)
  kids : PMap kslC w 24 mk ks
  pm : mh ≠ mk
  row : ∀ q ∈ ks, ∃ b, q.2.b = some b ∧ q.2.n = (Weave.kids L q.1).length ∧ 1 ≤ q.2.n ∧ Owns w 24 2 q.2.enc q.2.n (idCells (Weave.kids L q.1))
  dist : ks.Pairwise fun x y => x.2.b ≠ y.2.b
  all : ∀ x, Weave.kids L x ≠ [] → ∃ q ∈ ks, q.1 = x
  ok : Weave.Ok L

theorem atP_has {L : List Wel} (h : L.Pairwise (fun a b => a.id ≠ b.id)) (x : Int × Int) : (atP (hasL L) x).isSome = Weave.has L x ∧ (atP (hasL L) x).getD Wel.zero = if Weave.has L x then Weave.at' L x else Wel.zero := by
  cases hh : Weave.has L x with
  | true =>
    obtain ⟨e, he, hx⟩ := List.any_eq_true.1 hh
    have hx : e.id = x := of_decide_eq_true hx
    have h1 : atP (hasL L) x = some e := atP_mem (by unfold hasL; rw [List.pairwise_map]; exact h) (by rw [← hx]; exact List.mem_map.2 ⟨e, he, rfl⟩)
    rw [h1, ← hx, Weave.Ok.at_eq h he]
    exact ⟨rfl, rfl⟩
  | false =>
    have h1 : atP (hasL L) x = none := by
      cases ha : atP (hasL L) x with
      | none => rfl
      | some e =>
        obtain ⟨d, hd, hde⟩ := List.mem_map.1 (atP_some ha)
        injection hde with hde _
        have := List.any_eq_false.1 hh d hd
        simp [hde] at this
    rw [h1]
    exact ⟨rfl, rfl⟩

theorem LineM.read {w : World} {p mh mk : Nat} {L : List Wel} {ks : List ((Int × Int) × KSl)} (h : LineM w p mh mk L ks) : LRead w p L := by
  have hh : ∀ W, Below w.heap.size w W → PMap welC W 24 mh (hasL L) := fun W hW => h.has.keep (Keep.of_grew hW Non) (fun h => h)
  have hk : ∀ W, Below w.heap.size w W → PMap kslC W 24 mk ks := fun W hW => h.kids.keep (Keep.of_grew hW Non) (fun h => h)
  refine ⟨.map (some mh), .map (some mk), h.box, fun x hx1 hx2 => ?_, fun e he W hW => ?_, fun x hx1 hx2 W hW => ?_, fun W hW ty => ?_⟩
  · refine ⟨kslC.enc ((atP ks x).getD KSl.none), ?_, fun W hW => (hk W hW).get id_key kids_map zero_ksl hx1 hx2⟩
    cases ha : atP ks x with
    | none =>
      have : Weave.kids L x = [] := by
        cases hkk : Weave.kids L x with
        | nil => rfl
        | cons y ys =>
          obtain ⟨q, hq, hqx⟩ := h.all x (by rw [hkk]; simp)
          exact absurd hqx (atP_none ha q hq)
      rw [this]
      exact ⟨none, 0, rfl, Nat.le_refl _, .inl rfl⟩
    | some k =>
      obtain ⟨b, hb, hn, h1, ho⟩ := h.row _ (atP_some ha)
      rw [hn] at ho
      have e : kslC.enc ((some k).getD KSl.none) = k.enc := rfl
      rw [e]
      exact own_ids_slice ho
  · have hm := Idn.may_i64 (h.ok.may e he)
    have := (hh W hW).get id_key has_map zero_wel hm.1 hm.2
    rw [(atP_has h.ok.apart e.id).2] at this
    have hy : Weave.has L e.id = true := List.any_eq_true.2 ⟨e, he, by simp⟩
    rw [if_pos hy, Weave.Ok.at_eq h.ok.apart he] at this
    exact this
  · have := (hh W hW).look id_key has_map zero_wel hx1 hx2
    rw [(atP_has h.ok.apart (x.1, x.2)).2, (atP_has h.ok.apart (x.1, x.2)).1] at this
    cases hb : Weave.has L x with
    | true => rw [hb] at this; exact this
    | false => rw [hb] at this; exact this
  · have := (hh W hW).len has_map ty
    rw [show (hasL L).length = L.length from by simp [hasL]] at this
    exact this
end Go.Proofs.Ytohmhbjiapflpaa
