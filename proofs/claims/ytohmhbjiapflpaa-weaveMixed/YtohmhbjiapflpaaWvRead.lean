/- A line as it is read; the kids from the last one on. -/
import Derived.Test.YtohmhbjiapflpaaWvLaw
import Derived.Test.YtohmhbjiapflpaaWvMath
import Derived.Test.YtohmhbjiapflpaaIdOrder
import Derived.Test.YtohmhbjiapflpaaPairKey
import Derived.Shelf.Abstract
import Derived.Shelf.RegionOpen
import Derived.WalkKit
import Derived.TacticsInMore
import Derived.LoopNIn
import Derived.LoopIn
namespace Go.Proofs.Ytohmhbjiapflpaa
open Go.RowKit Go.Shelf
attribute [local go_sem] Oper.semAt_some
set_option linter.unusedVariables false

def Wel.val (e : Wel) : Value := .agg #[.int .i64 e.id.1, .int .i64 e.id.2, .int .i64 e.ref.1, .int .i64 e.ref.2, .int .i64 e.rune, .slice none 0 0]
def Wel.cells (e : Wel) : List Value := [.int .i64 e.id.1, .int .i64 e.id.2, .int .i64 e.ref.1, .int .i64 e.ref.2, .int .i64 e.rune, .slice none 0 0]

/-- Is there an element of that Id? -/
def Weave.has (L : List Wel) (x : Int × Int) : Bool := L.any fun e => decide (e.id = x)
/-- What a line in memory tells who looks. -/
structure LRead (w : World) (p : Nat) (L : List Wel) : Prop where
  maps : ∃ h k, Holds w p [h, k] 84 ∧
    (∀ x, I64 x.1 → I64 x.2 → ∃ v, SliceG 2 idL w v (Weave.kids L x) ∧ ∀ W, Below w.heap.size w W → (Instr.lookup 82 k (idV x) false).run Try.prog W = .ok v W) ∧
    (∀ e ∈ L, ∀ W, Below w.heap.size w W → (Instr.lookup 81 h (idV e.id) false).run Try.prog W = .ok e.val W) ∧
    (∀ x, I64 x.1 → I64 x.2 → ∀ W, Below w.heap.size w W → (Instr.lookup 81 h (idV x) true).run Try.prog W = .ok (.tuple #[if Weave.has L x then (Weave.at' L x).val else Wel.val ⟨(0, 0), (0, 0), 0⟩, .bool (Weave.has L x)]) W) ∧
    (∀ W, Below w.heap.size w W → ∀ ty, (Builtin.len_ #[81] ty #[h]).run Try.prog W = .ok (.int .i64 (L.length : Int)) W)
theorem LRead.below {w w' : World} {p : Nat} {L : List Wel} (h : LRead w p L) (hb : Below w.heap.size w w') : LRead w' p L := by
  obtain ⟨mh, mk, h1, h2, h3, h4, h5⟩ := h.maps
  have hup : ∀ {W : World}, Below w'.heap.size w' W → Below w.heap.size w W := fun h => hb.trans (h.mono hb.size)
  refine ⟨mh, mk, h1.keep (Keep.of_grew hb Non) (fun h => h), fun x a b => ?_, fun e he W hW => h3 e he W (hup hW), fun x a b W hW => h4 x a b W (hup hW), fun W hW => h5 W (hup hW)⟩
  obtain ⟨v, k1, k2⟩ := h2 x a b
  exact ⟨v, k1.below hb, fun W hW => k2 W (hup hW)⟩

theorem Weave.back_len (ks : List (Int × Int)) : (Weave.back ks).length = ks.length := by simp [Weave.back]
theorem Weave.back_take {ks : List (Int × Int)} {m : Nat} (hm : m < ks.length) : (Weave.back ks).take (ks.length - m) = (Weave.back ks).take (ks.length - (m + 1)) ++ [(m, ks[m])] := by
  have h : ks.length - m = (ks.length - (m + 1)) + 1 := by omega
  rw [h, List.take_succ_eq_append_getElem (by rw [Weave.back_len]; omega)]
  congr 1
  simp only [List.cons.injEq, and_true]
  unfold Weave.back
  rw [List.getElem_map, List.getElem_reverse, List.getElem_range]
  have e : (List.range ks.length).length - 1 - (ks.length - (m + 1)) = m := by rw [List.length_range]; omega
  rw [e, List.getD_eq_getElem?_getD, List.getElem?_eq_getElem hm]
  rfl

set_option maxRecDepth 100000 in
set_option maxHeartbeats 4000000 in
theorem back_deep (m Bn : Nat) (w0 w1 : World) (v : Value) (ks : List (Int × Int)) (hv : SliceG 2 idL w0 v ks) (hm : ks.length ≤ 1000000) (hb : Below w0.heap.size w0 w1) (hlt : Bn < w1.heap.size) (hc : w1.cell? ⟨Bn, 0, none⟩ = some v) :
    SeqDeep m Try.prog 94 #[] #[.pointer (some ⟨Bn, 0, none⟩)] (fun x : Nat × (Int × Int) => #[.int .i64 (x.1 : Nat), idV x.2]) (fun k => k < w0.heap.size ∨ k = Bn) (Weave.back ks) w1 := by
  intro l X J Jx W G hb1 hJ hJx hLo hYG hXY hY h0
  obtain ⟨va, vc, e⟩ := hv.shape
  subst e
  have hc' : W.cell? ⟨Bn, 0, none⟩ = some (.slice va ks.length vc) := (hb1.cell (p := ⟨Bn, 0, none⟩) hlt).trans hc
  have HV := Lib.hid hv
  have HBW := Lib.hid (hb.trans (hb1.mono hb.size))
  have HK : Hid (∀ wr, Keep G W wr → wr.cell? ⟨Bn, 0, none⟩ = some (.slice va ks.length vc) ∧ SliceG 2 idL wr (.slice va ks.length vc) ks) := Lib.hid (fun wr hk => ⟨(hk.cell (Nat.lt_of_lt_of_le hlt hb1.size) (hYG _ (.inr rfl))).trans hc', by
    obtain ⟨a, cap, e, h1, h2⟩ := hv
    refine ⟨a, cap, e, h1, h2.imp id ?_⟩
    rintro ⟨b, off, e1, h3, h4⟩
    have h5 : b < W.heap.size := Nat.lt_of_lt_of_le h3 HBW.out.size
    exact ⟨b, off, e1, Nat.lt_of_lt_of_le h5 hk.size, fun i hi j u hu => by rw [hk.cell h5 (hYG _ (.inl h3)), HBW.out.cell (p := ⟨b, off + i * 2 + j, none⟩) h3]; exact h4 i hi j u hu⟩⟩)
  have HJ0 := Lib.hid h0
  have HLO := Lib.hid hLo
  refine callsIn_of_wp Try.func94 rfl trivial ?_ rfl
  simp only [Try.ntmps94, List.size_toArray, List.length_cons, List.length_nil, Nat.reduceAdd, Nat.reduceSub, Array.replicate_succ, Array.replicate_zero, List.push_toArray, List.append_toArray, List.nil_append, List.cons_append]
  have hw1 : IntKind.i64.wrap ((ks.length : Int) - 1) = (ks.length : Int) - 1 := by rw [IntKind.wrap_i64]; omega
  clear hv h0 hb hb1 hlt hc
  gi_wp2
  gi_loopw [3] (fun i wr => ∃ k : Nat, k ≤ ks.length ∧ i = .int .i64 ((k : Int) - 1) ∧ ∃ G', J ((Weave.back ks).take (ks.length - k)) G' wr ∧ New G G' W ∧ Keep G W wr) (fun i _ => (intOf i + 1).toNat)
  case atStart => exact ⟨ks.length, Nat.le_refl _, by go_num, G, by rw [Nat.sub_self, List.take_zero]; exact HJ0.out, New.refl _ _, Keep.refl _ _⟩
  case round =>
    obtain ⟨k, hk, e, G', hJ', hN', hK'⟩ := hrel
    have HJ' := Lib.hid hJ'
    have HN' := Lib.hid hN'
    have HK' := Lib.hid hK'
    obtain ⟨c0, hsl⟩ := HK.out _ hK'
    cases k with
    | zero =>
      obtain rfl := e
      have d1 : decide ((0 : Int) ≤ ((0 : Nat) : Int) - 1) = false := by decide
      have d2 : decide ((0 : Int) ≤ -1) = false := by decide
      clear hJ' hN' hK' hsl
      gi_wp2
      go_end0
      exact ⟨⟨_, rfl⟩, .inl ⟨G', by have := HJ'.out; rwa [Nat.sub_zero, List.take_of_length_le (by rw [Weave.back_len]; exact Nat.le_refl _)] at this, HN'.out, HK'.out⟩⟩
    | succ i =>
      rw [show ((i + 1 : Nat) : Int) - 1 = (i : Int) from by omega] at e
      obtain rfl := e
      have hi : i < ks.length := by omega
      have hia : (i : Int) < (ks.length : Int) := by omega
      have d1 : decide ((0 : Int) ≤ (i : Int)) = true := decide_eq_true (by omega)
      have hw2 : IntKind.i64.wrap ((i : Int) - 1) = (i : Int) - 1 := by rw [IntKind.wrap_i64]; omega
      obtain ⟨b, off, e1, hbl, hcc⟩ := hsl.at hi
      subst e1
      have q0 := hcc 0 _ rfl
      have q1 := hcc 1 _ rfl
      simp only [Nat.add_zero] at q0
      have HTK := Lib.hid (Weave.back_take hi)
      obtain ⟨fn, tmps, assign, body, hy, hR⟩ := hY _ (i, ks[i]) G' _ HJ'.out (by rw [← HTK.out]; exact List.take_prefix _ _)
      dsimp only [idV] at hy
      generalize ks[i] = x at q0 q1 HTK hy hR
      obtain ⟨x1, x2⟩ := x
      dsimp only at q0 q1 hy
      clear hJ' hN' hK' hsl hcc
      gi_wp2
      refine ⟨fun h => (by cases h), ?_⟩
      refine (round_deep hR).mono ?_
      rintro e W3 (⟨rfl, G2, hJ3, hn3, hk3⟩ | ⟨rfl, G2, hJ3, hn3, hk3⟩)
      · have HJ3 := Lib.hid hJ3
        have HN3 : Hid (New G G2 W) := Lib.hid (HN'.out.trans hn3 HK'.out.size)
        have HK3 : Hid (Keep G W W3) := Lib.hid (HK'.out.trans hk3 (fun j hj h => by
          rcases HN'.out j h with h | h
          · exact h
          · omega))
        clear hJ3 hn3 hk3
        gi_wp2
        go_roundw
        case rel => exact ⟨i, by omega, by go_num, G2, by rw [HTK.out]; exact HJ3.out, HN3.out, HK3.out⟩
        case measure => simp [intOf] <;> omega
      · have HJ3 := Lib.hid hJ3
        have HN3 : Hid (New G G2 W) := Lib.hid (HN'.out.trans hn3 HK'.out.size)
        have HK3 : Hid (Keep (fun k => G k ∨ X k) W W3) := Lib.hid ((HK'.out.more (S' := fun k => G k ∨ X k) (fun _ _ h => .inl h)).trans hk3 (fun j hj h => by
          rcases h with h | h
          · rcases HN'.out j h with h | h
            · exact .inl h
            · omega
          · exact .inr h))
        clear hJ3 hn3 hk3
        gi_wp2
        refine bodyPost_ret (results_none rfl _ _ _) rfl ?_
        exact ⟨⟨_, rfl⟩, .inr ⟨_, G2, by rw [← HTK.out]; exact List.take_prefix _ _, HJ3.out, HN3.out, HK3.out⟩⟩
end Go.Proofs.Ytohmhbjiapflpaa
