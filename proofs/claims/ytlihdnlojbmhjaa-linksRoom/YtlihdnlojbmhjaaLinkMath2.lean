/- Plain mathematics of networks, more: what the laws of layer 5 ask. -/
import Derived.Test.YtlihdnlojbmhjaaLinkMath
set_option linter.unusedVariables false
namespace Links

theorem set_set (N : Net) (i j : Nat) (ts us : List (List UInt8)) : (N.set i j ts).set i j us = N.set i j us := by
  unfold Net.set
  simp only
  congr 1
  funext a b
  by_cases h : a = i ∧ b = j
  · simp [h]
  · simp [h]
theorem set_on {N : Net} {i j : Nat} (h : Lk N.sites i j) (ts : List (List UInt8)) : (N.set i j ts).on i j = ts := by
  rw [on_nat (N := N.set i j ts) h, set_q]
theorem set_on_other {N : Net} {i j i' j' : Nat} (h : Lk N.sites i' j') (ts : List (List UInt8)) (hne : ¬ (i' = i ∧ j' = j)) : (N.set i j ts).on i' j' = N.on i' j' := by
  rw [on_nat (N := N.set i j ts) h, on_nat h, set_other N ts hne]

theorem send_yes {N : Net} {i j : Nat} {s : List UInt8} (h : Lk N.sites i j) (hs : s.length ≤ 5000) (hr : (N.on i j).length < N.room) : send N i j s = (0, N.set i j (N.on i j ++ [s])) := by
  unfold send
  rw [if_pos ⟨lk_of h, hs⟩, if_pos hr]
  simp
theorem send_full {N : Net} {i j : Nat} {s : List UInt8} (h : Lk N.sites i j) (hs : s.length ≤ 5000) (hr : ¬ (N.on i j).length < N.room) : send N i j s = (5, N) := by
  unfold send
  rw [if_pos ⟨lk_of h, hs⟩, if_neg hr]
theorem send_self {N : Net} {i : Nat} {s : List UInt8} : send N i i s = (1, N) := by
  unfold send
  rw [if_neg (fun h => by have := h.1; simp [lk] at this)]
theorem take_yes {N : Net} {i j k : Nat} (h : Lk N.sites i j) (hk : k < (N.on i j).length) : take N i j k = ((N.on i j)[k], true, N.set i j ((N.on i j).eraseIdx k)) := by
  unfold take
  have : has N i j k = true := by unfold has; simp [hk]
  rw [if_pos this]
  simp [hk]
theorem double_full {N : Net} {i j k : Nat} (h : Lk N.sites i j) (hk : k < (N.on i j).length) (hr : ¬ (N.on i j).length < N.room) : double N i j k = (5, N) := by
  unfold double
  have : has N i j k = true := by unfold has; simp [hk]
  rw [if_pos (lk_of h), if_pos this, if_neg hr]

/-! One text on the link from 1 to 0 of two sites. -/
structure One (N : Net) (l : List UInt8) : Prop where
  sites : N.sites = 2
  on : N.on 1 0 = [l]
theorem one_turns {N : Net} {l : List UInt8} (h : One N l) (k : Int) : turns N 1 0 0 k = (decide (0 ≤ k) && decide (k < l.length)) := by
  unfold turns has
  rw [h.on]
  simp
def turnL (l : List UInt8) (k : Int) (c : UInt8) : List UInt8 := if (decide (0 ≤ k) && decide (k < l.length)) = true then l.set k.toNat (l.getD k.toNat 0 ^^^ c) else l
theorem one_turn {N : Net} {l : List UInt8} (h : One N l) (k : Int) (c : UInt8) : (turn N 1 0 0 k c).1 = (decide (0 ≤ k) && decide (k < l.length)) ∧ One (turn N 1 0 0 k c).2 (turnL l k c) := by
  unfold turn turnL
  rw [one_turns h]
  cases hb : (decide (0 ≤ k) && decide (k < (l.length : Int)))
  · exact ⟨rfl, h⟩
  · refine ⟨rfl, h.sites, ?_⟩
    simp only [if_true]
    have e := set_on (N := N) (i := 1) (j := 0) (by rw [h.sites]; exact ⟨by omega, by omega, by omega⟩) ((N.on 1 0).set (0 : Int).toNat (((N.on 1 0).getD (0 : Int).toNat []).set k.toNat (((N.on 1 0).getD (0 : Int).toNat []).getD k.toNat 0 ^^^ c)))
    refine Eq.trans e ?_
    rw [h.on]
    simp
theorem turnL_len (l : List UInt8) (k : Int) (c : UInt8) : (turnL l k c).length = l.length := by
  unfold turnL
  split
  · simp
  · rfl
theorem turnL_yes {l : List UInt8} {k : Int} (c : UInt8) (h : (decide (0 ≤ k) && decide (k < (l.length : Int))) = true) : turnL l k c = l.set k.toNat (l.getD k.toNat 0 ^^^ c) := by unfold turnL; rw [h]; rfl
theorem turnL_twice (l : List UInt8) (k : Int) (c : UInt8) : turnL (turnL l k c) k c = l := by
  have hl := turnL_len l k c
  cases hb : (decide (0 ≤ k) && decide (k < (l.length : Int)))
  · unfold turnL
    rw [hb]
    simp only [Bool.false_eq_true, if_false]
    rw [hb]
    rfl
  · have h1 := turnL_yes c hb
    have h2 := turnL_yes (l := turnL l k c) (k := k) c (by rw [hl]; exact hb)
    rw [h2, h1]
    have hk : k.toNat < l.length := by
      simp only [Bool.and_eq_true, decide_eq_true_eq] at hb
      omega
    have hget : (l.set k.toNat (l.getD k.toNat 0 ^^^ c)).getD k.toNat 0 = l.getD k.toNat 0 ^^^ c := by simp [hk]
    rw [hget, List.set_set, UInt8.xor_assoc, UInt8.xor_self, UInt8.xor_zero]
    have : l.getD k.toNat 0 = l[k.toNat] := by simp [hk]
    rw [this, List.set_getElem_self]
theorem one_take {N : Net} {l : List UInt8} (h : One N l) : (take N 1 0 0).1 = l ∧ (take N 1 0 0).2.1 = true := by
  have hk : 0 < (N.on (1 : Nat) (0 : Nat)).length := by
    show 0 < (N.on 1 0).length
    rw [h.on]; simp
  have := take_yes (N := N) (i := 1) (j := 0) (k := 0) (by rw [h.sites]; exact ⟨by omega, by omega, by omega⟩) hk
  have e : take N 1 0 0 = _ := this
  rw [e]
  refine ⟨?_, rfl⟩
  show (N.on 1 0)[0] = l
  simp [h.on]
theorem one_send (s : List UInt8) (hs : s.length ≤ 5000) : One (send (new 2 5) 1 0 s).2 s := by
  have e : (new 2 5).on (1 : Nat) (0 : Nat) = [] := by rw [on_nat (N := new 2 5) ⟨by decide, by decide, by decide⟩]; rfl
  have := send_yes (N := new 2 5) (i := 1) (j := 0) (s := s) ⟨by decide, by decide, by decide⟩ hs (by rw [e]; decide)
  rw [e] at this
  have e2 : send (new 2 5) 1 0 s = _ := this
  rw [e2]
  exact ⟨rfl, set_on (N := new 2 5) (i := 1) (j := 0) ⟨by decide, by decide, by decide⟩ _⟩

/-! So many texts, all alike, on the link from 0 to 1 of two sites. -/
def fill (r : Nat) (s : List UInt8) (k : Nat) : Net := (new 2 r).set 0 1 (List.replicate k s)
theorem lk01 (r : Nat) (s : List UInt8) (k : Nat) : Lk (fill r s k).sites 0 1 := ⟨show 0 < 2 by omega, show 1 < 2 by omega, by omega⟩
theorem fill_on (r : Nat) (s : List UInt8) (k : Nat) : (fill r s k).on (0 : Nat) (1 : Nat) = List.replicate k s := set_on (N := new 2 r) (i := 0) (j := 1) ⟨show 0 < 2 by omega, show 1 < 2 by omega, by omega⟩ _
theorem fill_zero (r : Nat) (s : List UInt8) : fill r s 0 = new 2 r := by
  unfold fill Net.set new
  simp
theorem fill_send {r : Nat} {s : List UInt8} {k : Nat} (hs : s.length ≤ 5000) (hk : k < r) : send (fill r s k) 0 1 s = (0, fill r s (k + 1)) := by
  have := send_yes (lk01 r s k) hs (by rw [fill_on, List.length_replicate]; exact hk)
  have e : send (fill r s k) 0 1 s = _ := this
  rw [e, fill_on]
  unfold fill
  rw [set_set, List.replicate_succ']
theorem fill_full {r : Nat} {s : List UInt8} (hs : s.length ≤ 5000) : send (fill r s r) 0 1 s = (5, fill r s r) := by
  have := send_full (lk01 r s r) hs (by rw [fill_on]; simp [fill, new, Net.set])
  exact this
theorem fill_double {r : Nat} {s : List UInt8} (hr : 1 ≤ r) : double (fill r s r) 0 1 0 = (5, fill r s r) := by
  have := double_full (k := 0) (lk01 r s r) (by rw [fill_on, List.length_replicate]; exact hr) (by rw [fill_on]; simp [fill, new, Net.set])
  exact this
theorem fill_cast {r : Nat} {s : List UInt8} (hs : s.length ≤ 5000) : cast (fill r s r) 0 s = (0, fill r s r) := by
  have h0 : send (fill r s r) 0 0 s = (1, fill r s r) := send_self (N := fill r s r) (i := 0)
  have h1 := fill_full (r := r) hs
  have e1 : castTo (fill r s r) 0 s 1 = (0, fill r s r) := by
    show ((castTo (fill r s r) 0 s 0).1 + (if (send (castTo (fill r s r) 0 s 0).2 0 ((0 : Nat) : Int) s).1 = 0 then 1 else 0), (send (castTo (fill r s r) 0 s 0).2 0 ((0 : Nat) : Int) s).2) = _
    have : send (castTo (fill r s r) 0 s 0).2 0 ((0 : Nat) : Int) s = (1, fill r s r) := h0
    rw [this]
    rfl
  show castTo (fill r s r) 0 s 2 = _
  show ((castTo (fill r s r) 0 s 1).1 + (if (send (castTo (fill r s r) 0 s 1).2 0 ((1 : Nat) : Int) s).1 = 0 then 1 else 0), (send (castTo (fill r s r) 0 s 1).2 0 ((1 : Nat) : Int) s).2) = _
  rw [e1]
  have : send (0, fill r s r).2 0 ((1 : Nat) : Int) s = (5, fill r s r) := h1
  rw [this]
  rfl
theorem fill_take {r : Nat} {s : List UInt8} (hr : 1 ≤ r) : take (fill r s r) 0 1 ((r : Int) - 1) = (s, true, fill r s (r - 1)) := by
  have hk : r - 1 < ((fill r s r).on (0 : Nat) (1 : Nat)).length := by rw [fill_on]; simp; omega
  have := take_yes (lk01 r s r) hk
  have e : take (fill r s r) 0 1 ((r : Int) - 1) = take (fill r s r) (0 : Nat) (1 : Nat) ((r - 1 : Nat) : Int) := by
    congr 1
    omega
  rw [e, this]
  simp only [fill_on]
  refine Prod.ext (by simp) (Prod.ext rfl ?_)
  show ((fill r s r).set 0 1 ((List.replicate r s).eraseIdx (r - 1))) = _
  unfold fill
  rw [set_set]
  congr 1
  rw [List.eraseIdx_eq_take_drop_succ]
  simp
  omega
end Links
