/- Plain mathematics of messages: an error is an error. -/
import Derived.Test.YtohlnhnelkoakaaMesgMath4
namespace Mesg
set_option linter.unusedVariables false

/-- A way of reading never says that it was well and tells nothing. -/
def Honest {α : Type} (R : List UInt8 → Got α) : Prop := ∀ l e, R l = .error e → e ≠ 0

theorem Honest.on {α β : Type} {R : List UInt8 → Got α} (h : Honest R) {f : α → List UInt8 → Got β} (g : ∀ a, Honest (f a)) : Honest (fun l => (R l).on f) := by
  intro l e he
  change (R l).on f = .error e at he
  cases hr : R l with
  | ok a t => rw [hr] at he; exact g a t e he
  | error d =>
    rw [hr] at he
    change Got.error d = Got.error e at he
    injection he with he
    exact he ▸ h l d hr
theorem Honest.pure {α : Type} (x : α) : Honest (fun l => .ok x l) := fun l e h => by cases h
theorem Honest.bad {α : Type} (n : Nat) (h : n ≠ 0) : Honest (fun _ => (.error n : Got α)) := fun l e he => by injection he with he; exact he ▸ h
theorem Honest.ite {α : Type} {c : Prop} [Decidable c] {R S : List UInt8 → Got α} (h : Honest R) (k : Honest S) : Honest (fun l => if c then R l else S l) := by
  intro l e he
  change (if c then R l else S l) = .error e at he
  by_cases hc : c
  · rw [if_pos hc] at he; exact h l e he
  · rw [if_neg hc] at he; exact k l e he

theorem honest_num : Honest num := fun l e h => by have := (num_error h).2; omega
theorem honest_list : Honest list := fun l e h => (list_error h).2
theorem honest_rid : Honest rid := honest_num.on fun t => honest_num.on fun s => Honest.pure _
theorem honest_idIf (b : Bool) : Honest (idIf b) := Honest.ite (c := b = true) honest_rid (Honest.pure _)
theorem honest_numIf (b : Bool) : Honest (numIf b) := Honest.ite (c := b = true) honest_num (Honest.pure _)
theorem honest_rop : Honest rop := honest_num.on fun k => Honest.ite (Honest.bad 2 (by decide)) (honest_num.on fun ep => (honest_idIf _).on fun i => (honest_idIf _).on fun r => (honest_numIf _).on fun u => Honest.pure _)
theorem honest_rmsg : Honest rmsg := honest_num.on fun a => honest_num.on fun b => honest_list.on fun kn => honest_rop.on fun o => Honest.pure _
theorem honest_decode : Honest decode := honest_rmsg.on fun m => fun l e he => by
  by_cases h1 : l ≠ []
  · rw [if_pos h1] at he; injection he with he; omega
  · rw [if_neg h1] at he
    by_cases h2 : may m = true
    · rw [if_pos h2] at he; cases he
    · rw [if_neg h2] at he; injection he with he; omega
theorem decode_error {l : List UInt8} {e : Nat} (h : decode l = .error e) : e ≠ 0 := honest_decode l e h
end Mesg
