/- Plain mathematics of messages: what bytes are read as. -/
import Derived.Test.YtohlnhnelkoakaaMesgMath2
namespace Mesg

/-- What is read, and what is behind it; or why nothing is. -/
inductive Got (α : Type) where
  | ok (a : α) (l : List UInt8)
  | error (e : Nat)

def Got.on {α β : Type} (r : Got α) (f : α → List UInt8 → Got β) : Got β := match r with
  | .ok a l => f a l
  | .error e => .error e

/-- The next number. -/
def num (l : List UInt8) : Got Int := if (Pack.take l).2.2 = 0 then .ok ((Pack.take l).1 : Int) (Pack.take l).2.1 else .error (Pack.take l).2.2
/-- The next list. -/
def list (l : List UInt8) : Got (List Int) := if (Pack.each l).2.2 = 0 then .ok ((Pack.each l).1.map Int.ofNat) (Pack.each l).2.1 else .error (Pack.each l).2.2
/-- The next Id. -/
def rid (l : List UInt8) : Got Id := (num l).on fun t l1 => (num l1).on fun s l2 => .ok ⟨t, s⟩ l2
def idIf (b : Bool) (l : List UInt8) : Got Id := if b then rid l else .ok zero l
def numIf (b : Bool) (l : List UInt8) : Got Int := if b then num l else .ok 0 l
/-- The next op. -/
def rop (l : List UInt8) : Got Op := (num l).on fun k l1 =>
  if k < 1 ∨ 8 < k then .error 2
  else (num l1).on fun ep l2 => (idIf (decide (k = 1 ∨ k = 6)) l2).on fun i l3 => (idIf (decide (k ≠ 6)) l3).on fun r l4 => (numIf (decide (k = 1)) l4).on fun u l5 => .ok ⟨k, ep, i, r, u⟩ l5
def rmsg (l : List UInt8) : Got Msg := (num l).on fun a l1 => (num l1).on fun b l2 => (list l2).on fun kn l3 => (rop l3).on fun o l4 => .ok ⟨a, b, kn, o⟩ l4
/-- What bytes are read as. -/
def decode (l : List UInt8) : Got Msg := (rmsg l).on fun m r => if r ≠ [] then .error 2 else if may m then .ok m [] else .error 2

theorem num_ok {l t : List UInt8} {n : Int} (h : num l = .ok n t) : ∃ k : Nat, n = k ∧ k < 4294967296 ∧ Pack.take l = (k, t, 0) ∧ l = Pack.num k ++ t := by
  unfold num at h
  rcases Pack.take_cases l with ⟨k, t', ht, hk, hl⟩ | ⟨e, ht, he⟩
  · rw [ht] at h
    simp only [if_true] at h
    injection h with h1 h2
    subst h2
    exact ⟨k, h1.symm, hk, ht, hl⟩
  · rw [ht] at h
    rcases he with rfl | rfl <;> simp at h
theorem num_error {l : List UInt8} {e : Nat} (h : num l = .error e) : Pack.take l = (0, [], e) ∧ (e = 2 ∨ e = 3) := by
  unfold num at h
  rcases Pack.take_cases l with ⟨k, t', ht, hk, hl⟩ | ⟨e', ht, he⟩
  · rw [ht] at h; simp at h
  · rw [ht] at h
    have : e' = e := by
      rcases he with rfl | rfl <;> simpa using h
    subst this
    exact ⟨ht, he⟩
theorem num_write (k : Nat) (t : List UInt8) (hk : k < 4294967296) : num (Pack.num k ++ t) = .ok (k : Int) t := by
  unfold num
  rw [Pack.take_num k t hk]
  rfl

theorem list_ok {l t : List UInt8} {zs : List Int} (h : list l = .ok zs t) : Pack.each l = ((Pack.each l).1, t, 0) ∧ zs = (Pack.each l).1.map Int.ofNat := by
  unfold list at h
  by_cases hz : (Pack.each l).2.2 = 0
  · rw [if_pos hz] at h
    injection h with h1 h2
    exact ⟨Prod.ext rfl (Prod.ext h2 hz), h1.symm⟩
  · rw [if_neg hz] at h
    cases h
theorem list_error {l : List UInt8} {e : Nat} (h : list l = .error e) : (Pack.each l).2.2 = e ∧ e ≠ 0 := by
  unfold list at h
  by_cases hz : (Pack.each l).2.2 = 0
  · rw [if_pos hz] at h
    cases h
  · rw [if_neg hz] at h
    injection h with h
    exact ⟨h, h ▸ hz⟩
end Mesg
