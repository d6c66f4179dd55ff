/- What is killed and yanked at once is as it was, plainly. -/
import Derived.Test.YtckpidhcccnifaaEdLaw
namespace Go.Proofs.Ytckpidhcccnifaa
set_option linter.unusedVariables false

def killKeys : List (Int × Int) := [(2, 107), (2, 117), (2, 119), (3, 100)]
namespace Ed
theorem caret_at2 {l : List Int} {i : Nat} (h : i ≤ l.length) : caret l i = i := by unfold caret; omega
theorem kills (l : List Int) (z : Int) (kl : List Int) (j : Nat) (hj : j < 4) : ∃ a b, a ≤ b ∧ b ≤ l.length ∧ turned l z kl (killKeys[j]'hj).1 (killKeys[j]'hj).2 = killed (begun l z kl (killKeys[j]'hj).2) a b := by
  have hc := caret_le l z
  have hcc : caret l (caret l z : Nat) = caret l z := caret_at2 hc
  rcases (by omega : j = 0 ∨ j = 1 ∨ j = 2 ∨ j = 3) with rfl | rfl | rfl | rfl
  · exact ⟨caret l z, l.length, hc, Nat.le_refl _, rfl⟩
  · exact ⟨0, caret l z, Nat.zero_le _, hc, rfl⟩
  · exact ⟨wordBack l (caret l (caret l z : Nat)), caret l z, by have := wordBack_le l (caret l (caret l z : Nat)); omega, hc, rfl⟩
  · exact ⟨caret l z, wordOn l (caret l (caret l z : Nat)), by have := wordOn_ge l (caret l (caret l z : Nat)); omega, wordOn_le _ _ (by omega), rfl⟩
theorem yank_all : ∀ (K : List Int) (t : Tn) (M : List Int), (∀ r ∈ K, Mesg.rune r = true) → apply t.line t.acts = some M → M.length = t.long → t.at' ≤ t.long → t.long + K.length ≤ 1000 →
    apply (yank t K).line (yank t K).acts = some (M.take t.at' ++ (K ++ M.drop t.at')) ∧ (yank t K).at' = t.at' + K.length
  | [], t, M, _, h, _, _, _ => by
    rw [yank, List.nil_append, List.take_append_drop]
    exact ⟨h, rfl⟩
  | r :: K, t, M, hr, h, hl, ha, hb => by
    rw [List.length_cons] at hb
    have hp : put t r = ({ t with acts := t.acts ++ [⟨1, t.at', r⟩], at' := t.at' + 1, long := t.long + 1 }, true) := by
      unfold put
      rw [if_pos ⟨hr r (by simp), by omega⟩]
    have h1 : apply t.line (t.acts ++ [⟨1, t.at', r⟩]) = some (M.take t.at' ++ r :: M.drop t.at') := by
      rw [apply_app, h]
      simp only [Option.bind_some, apply]
      rw [one_put r (by omega)]
    have h2 : (M.take t.at' ++ r :: M.drop t.at').length = t.long + 1 := by
      rw [List.length_append, List.length_cons, List.length_take, List.length_drop]
      omega
    have ih := yank_all K { t with acts := t.acts ++ [⟨1, t.at', r⟩], at' := t.at' + 1, long := t.long + 1 } (M.take t.at' ++ r :: M.drop t.at') (fun x hx => hr x (by simp [hx])) h1 h2 (by simp only; omega) (by simp only; omega)
    rw [yank, hp]
    simp only [if_true]
    refine ⟨?_, ?_⟩
    · rw [ih.1]
      congr 1
      simp only
      have hlt : (M.take t.at').length = t.at' := by rw [List.length_take]; omega
      have e1 : (M.take t.at' ++ r :: M.drop t.at').take (t.at' + 1) = M.take t.at' ++ [r] := by
        rw [show M.take t.at' ++ r :: M.drop t.at' = (M.take t.at' ++ [r]) ++ M.drop t.at' from by simp, List.take_append_of_le_length (by rw [List.length_append, hlt]; simp), List.take_of_length_le (by rw [List.length_append, hlt]; simp)]
      have e2 : (M.take t.at' ++ r :: M.drop t.at').drop (t.at' + 1) = M.drop t.at' := by
        rw [show M.take t.at' ++ r :: M.drop t.at' = (M.take t.at' ++ [r]) ++ M.drop t.at' from by simp, List.drop_append, List.drop_eq_nil_of_le (by rw [List.length_append, hlt]; simp), List.nil_append, List.length_append, hlt]
        simp
      rw [e1, e2]
      simp
    · rw [ih.2, List.length_cons]
      simp only
      omega
/-- What a key that kills does to a line. -/
theorem kill_facts {l : List Int} {z : Int} {kl : List Int} {j : Nat} (hj : j < 4) (hl : l.length ≤ 1000) (hr : ∀ r ∈ l, Mesg.rune r = true) :
    ((turned l z kl (killKeys[j]'hj).1 (killKeys[j]'hj).2).acts = [] ∧ (turned l z kl (killKeys[j]'hj).1 (killKeys[j]'hj).2).kill = kl ∧ behind l z kl (killKeys[j]'hj).1 (killKeys[j]'hj).2 = l)
    ∨ ∃ a n, 0 < n ∧ (turned l z kl (killKeys[j]'hj).1 (killKeys[j]'hj).2).acts.length = n ∧ (turned l z kl (killKeys[j]'hj).1 (killKeys[j]'hj).2).kill.length = n ∧ (turned l z kl (killKeys[j]'hj).1 (killKeys[j]'hj).2).at' = a
      ∧ (behind l z kl (killKeys[j]'hj).1 (killKeys[j]'hj).2).length ≤ 1000
      ∧ behind (behind l z kl (killKeys[j]'hj).1 (killKeys[j]'hj).2) (a : Int) (turned l z kl (killKeys[j]'hj).1 (killKeys[j]'hj).2).kill 2 121 = l
      ∧ (turned (behind l z kl (killKeys[j]'hj).1 (killKeys[j]'hj).2) (a : Int) (turned l z kl (killKeys[j]'hj).1 (killKeys[j]'hj).2).kill 2 121).at' = a + n := by
  obtain ⟨a, b, h1, h2, h3⟩ := kills l z kl j hj
  unfold behind
  rw [h3]
  by_cases hab : a = b
  · left
    have e : killed (begun l z kl (killKeys[j]'hj).2) a b = begun l z kl (killKeys[j]'hj).2 := by unfold killed; rw [if_pos hab]
    rw [e]
    exact ⟨rfl, rfl, rfl⟩
  · right
    have e : killed (begun l z kl (killKeys[j]'hj).2) a b = { cut (begun l z kl (killKeys[j]'hj).2) a b with kill := (l.take b).drop a } := by unfold killed; rw [if_neg hab]; rfl
    have hap : apply l (cut (begun l z kl (killKeys[j]'hj).2) a b).acts = some (l.take a ++ l.drop b) := cut_apply (t := begun l z kl (killKeys[j]'hj).2) rfl h1 h2
    have hlen : (cut (begun l z kl (killKeys[j]'hj).2) a b).acts.length = b - a := by
      unfold cut begun cutActs
      simp only [List.nil_append, List.length_map]
      exact slice_length h1 h2
    rw [e]
    simp only
    rw [hap, Option.getD_some]
    have hK : ((l.take b).drop a).length = b - a := slice_length h1 h2
    have hM : (l.take a ++ l.drop b).length = l.length - (b - a) := by rw [List.length_append, List.length_take, List.length_drop]; omega
    have hca : caret (l.take a ++ l.drop b) (a : Int) = a := caret_at2 (by omega)
    have hy := yank_all ((l.take b).drop a) (begun (l.take a ++ l.drop b) (a : Int) ((l.take b).drop a) 121) (l.take a ++ l.drop b) (fun r hrm => hr r (List.mem_of_mem_take (List.mem_of_mem_drop hrm))) rfl rfl (by simp only [begun]; rw [hca]; omega) (by simp only [begun]; omega)
    have ht : turned (l.take a ++ l.drop b) (a : Int) ((l.take b).drop a) 2 121 = yank (begun (l.take a ++ l.drop b) (a : Int) ((l.take b).drop a) 121) ((l.take b).drop a) := rfl
    have hline : (yank (begun (l.take a ++ l.drop b) (a : Int) ((l.take b).drop a) 121) ((l.take b).drop a)).line = l.take a ++ l.drop b := yank_line _ _
    rw [hline] at hy
    have hat : (begun (l.take a ++ l.drop b) (a : Int) ((l.take b).drop a) 121).at' = a := hca
    rw [hat] at hy
    refine ⟨a, b - a, by omega, hlen, hK, rfl, by omega, ?_, by rw [ht, hy.2, hK]⟩
    rw [ht, hy.1, Option.getD_some]
    have e1 : (l.take a ++ l.drop b).take a = l.take a := by rw [List.take_append_of_le_length (by rw [List.length_take]; omega), List.take_take, Nat.min_self]
    have e2 : (l.take a ++ l.drop b).drop a = l.drop b := by
      rw [List.drop_append, List.drop_eq_nil_of_le (by rw [List.length_take]; omega), List.nil_append, List.length_take, show a - min a l.length = 0 from by omega, List.drop_zero]
    rw [e1, e2]
    have e3 : (l.take b).drop a ++ l.drop b = l.drop a := by
      have : l.drop a = ((l.take b) ++ l.drop b).drop a := by rw [List.take_append_drop]
      rw [this, List.drop_append_of_le_length (by rw [List.length_take]; omega)]
    rw [e3, List.take_append_drop]
theorem rune_ok {r : Int} (h : 32 ≤ r ∧ r ≤ 126) : Mesg.rune r = true := by
  unfold Mesg.rune
  rw [decide_eq_true (by omega : (32 : Int) ≤ r), decide_eq_true (by omega : r ≤ 1114111), decide_eq_false (by omega : ¬ (127 : Int) ≤ r), decide_eq_false (by omega : ¬ (55296 : Int) ≤ r)]
  rfl
end Ed
end Go.Proofs.Ytckpidhcccnifaa
