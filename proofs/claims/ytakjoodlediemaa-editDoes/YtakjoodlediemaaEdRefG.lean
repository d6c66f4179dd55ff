/- The reference's Do comes to what the keys' own table says. -/
import Derived.Test.YtakjoodlediemaaEdRefF
namespace Go.Proofs.Ytakjoodlediemaa
set_option linter.unusedVariables false

/-- A turn, and the document's work. -/
structure Rel (t : Tn) (s : Wk) : Prop where
  acts : s.acts = t.acts
  at' : s.at' = t.at'
  kill : s.kill = t.kill
  done : Ed.apply t.line t.acts = some s.line
  long : s.line.length = t.long
  le : s.at' ≤ s.line.length
theorem one_put {l : List Int} {i : Nat} {r : Int} (h : i ≤ l.length) : Ed.apply l [⟨1, i, r⟩] = some (l.take i ++ r :: l.drop i) := by
  have e1 : Ed.one l ⟨1, i, r⟩ = some (l.take i ++ r :: l.drop i) := by
    unfold Ed.one
    rw [if_pos ⟨rfl, by simp, by simpa using h⟩]
    simp
  simp only [Ed.apply, e1]
theorem one_cut {l : List Int} {i : Nat} {r : Int} (h : i < l.length) : Ed.apply l [⟨2, i, r⟩] = some (l.take i ++ l.drop (i + 1)) := by
  have e1 : Ed.one l ⟨2, i, r⟩ = some (l.take i ++ l.drop (i + 1)) := by
    unfold Ed.one
    rw [if_neg (by simp), if_pos ⟨rfl, by simp, by simpa using h⟩]
    simp
  simp only [Ed.apply, e1]
theorem Rel.put {t : Tn} {s : Wk} (h : Rel t s) (r : Int) : Rel (Ed.put t r).1 (s.put r).1 ∧ (s.put r).2 = (Ed.put t r).2 := by
  by_cases hc : Mesg.rune r = true ∧ t.long < 1000
  · have e1 : Ed.put t r = ({ t with acts := t.acts ++ [⟨1, t.at', r⟩], at' := t.at' + 1, long := t.long + 1 }, true) := if_pos hc
    have e2 : s.put r = (⟨(Ed.apply s.line [⟨1, s.at', r⟩]).getD [], s.at' + 1, s.kill, s.acts ++ [⟨1, s.at', r⟩]⟩, true) := if_pos ⟨hc.1, by rw [h.long]; exact hc.2⟩
    rw [e1, e2]
    have hp := one_put (l := s.line) (i := s.at') (r := r) h.le
    rw [hp]
    refine ⟨⟨?_, ?_, h.kill, ?_, ?_, ?_⟩, rfl⟩
    · show s.acts ++ _ = t.acts ++ _; rw [h.acts, h.at']
    · show s.at' + 1 = t.at' + 1; rw [h.at']
    · show Ed.apply t.line (t.acts ++ [⟨1, t.at', r⟩]) = _
      rw [Ed.apply_app, h.done, ← h.at']
      exact hp
    · have := h.long; have := h.le; simp; omega
    · have := h.le; simp; omega
  · have e1 : Ed.put t r = (t, false) := if_neg hc
    have e2 : s.put r = (s, false) := if_neg (by rw [h.long]; exact hc)
    rw [e1, e2]
    exact ⟨h, rfl⟩
theorem Rel.yank : ∀ (l : List Int) {t : Tn} {s : Wk}, Rel t s → Rel (Ed.yank t l) (s.yank l)
  | [], t, s, h => h
  | r :: l, t, s, h => by
    obtain ⟨h1, h2⟩ := h.put r
    unfold Ed.yank Wk.yank
    rw [h2]
    split
    · exact Rel.yank l h1
    · exact h1
/-- A work that has just begun. -/
def fresh (l kl : List Int) (i : Nat) : Wk := ⟨l, i, kl, []⟩
def freshT (l kl : List Int) (i : Nat) (r : Int) : Tn := ⟨l, i, l.length, kl, r, []⟩
theorem Rel.begun {l kl : List Int} {i : Nat} (r : Int) (h : i ≤ l.length) : Rel (freshT l kl i r) (fresh l kl i) := ⟨rfl, rfl, rfl, rfl, rfl, h⟩
theorem cut_apply (l kl : List Int) (i f : Nat) : ∀ c, f + c ≤ l.length → Ed.apply l ((fresh l kl i).cut f c).acts = some ((fresh l kl i).cut f c).line
  | 0, _ => by rw [Wk.cut_zero]; rfl
  | c + 1, h => by
    have ih := cut_apply l kl i f c (by omega)
    have hm := (fresh l kl i).cut_more (f := f) (k := c) h
    have hl := (fresh l kl i).cut_len (f := f) (k := c) (show f + c ≤ l.length by omega)
    have ho := one_cut (l := ((fresh l kl i).cut f c).line) (i := f) (r := (fresh l kl i).line[f + c]'h) (by have : (fresh l kl i).line.length = l.length := rfl; omega)
    rw [ho] at hm
    rw [hm]
    show Ed.apply l (((fresh l kl i).cut f c).acts ++ [_]) = _
    rw [Ed.apply_app, ih]
    exact ho
theorem cut_same (l : List Int) (f c : Nat) : (l.take (f + c)).drop f = (l.drop f).take c := by
  rw [List.drop_take]
  congr 1
  omega
/-- A cut, told alike. -/
theorem Rel.cut {l kl : List Int} {i f c b : Nat} (r : Int) (hb : f + c = b) (h : b ≤ l.length) (k2 : List Int) : Rel { Ed.cut (freshT l kl i r) f b with kill := k2 } ⟨((fresh l kl i).cut f c).line, f, k2, ((fresh l kl i).cut f c).acts⟩ := by
  subst hb
  have hl := (fresh l kl i).cut_len (f := f) (k := c) (show f + c ≤ l.length by omega)
  have hfl : (fresh l kl i).line.length = l.length := rfl
  have ha : ((fresh l kl i).cut f c).acts = (Ed.cut (freshT l kl i r) f (f + c)).acts := by
    show [] ++ Ed.cutActs f ((l.drop f).take c) = [] ++ Ed.cutActs f ((l.take (f + c)).drop f)
    rw [cut_same]
  refine ⟨ha, rfl, rfl, ?_, ?_, ?_⟩
  · show Ed.apply l (Ed.cut (freshT l kl i r) f (f + c)).acts = _
    rw [← ha]
    exact cut_apply l kl i f c h
  · show ((fresh l kl i).cut f c).line.length = l.length - (f + c - f)
    omega
  · show f ≤ ((fresh l kl i).cut f c).line.length
    omega
theorem Rel.goto {l kl : List Int} {i : Nat} (r : Int) {j : Nat} (h : j ≤ l.length) : Rel { freshT l kl i r with at' := j } ((fresh l kl i).goto j) := ⟨rfl, rfl, rfl, rfl, rfl, h⟩
theorem Rel.killed {l kl : List Int} {i f b : Nat} (r : Int) (h : i ≤ l.length) (hf : f ≤ b) (hb : b ≤ l.length) : Rel (Ed.killed (freshT l kl i r) f b) ((fresh l kl i).kil f (b - f)) := by
  unfold Ed.killed Wk.kil
  by_cases e : f = b
  · rw [if_pos e, if_pos (by omega)]
    exact Rel.begun r h
  · rw [if_neg e, if_neg (by omega)]
    have hh := Rel.cut (l := l) (kl := kl) (i := i) (f := f) (c := b - f) (b := b) r (by omega) hb ((l.take b).drop f)
    rw [show (fresh l kl i).gone f (b - f) = (l.take b).drop f from by
      show (l.drop f).take (b - f) = _
      rw [← cut_same, show f + (b - f) = b from by omega]]
    exact hh
theorem Rel.cutTo {l kl : List Int} {i f b : Nat} (r : Int) (h : i ≤ l.length) (hf : f ≤ b) (hb : b ≤ l.length) (hi : f = b → i = f) : Rel (Ed.cut (freshT l kl i r) f b) ((fresh l kl i).cutTo f (b - f)) := by
  have hh := Rel.cut (l := l) (kl := kl) (i := i) (f := f) (c := b - f) (b := b) r (by omega) hb kl
  have e : (fresh l kl i).cutAt f (b - f) = f := by
    unfold Wk.cutAt
    split
    · exact hi (by omega)
    · rfl
  unfold Wk.cutTo
  rw [e]
  exact hh
theorem Rel.swap {l kl : List Int} {i : Nat} (r : Int) (h : i ≤ l.length) : Rel (Ed.swap (freshT l kl i r)) (fresh l kl i).swp := by
  have hb := Rel.begun (kl := kl) r h
  unfold Ed.swap Wk.swp
  show Rel (if i = 0 ∨ l.length < 2 ∨ 1000 < l.length then _ else if Mesg.rune (l.getD (min i (l.length - 1) - 1) 0) = true then _ else _) (if l.length < 2 ∨ i = 0 ∨ 1000 < l.length ∨ Mesg.rune (l.getD (min i (l.length - 1) - 1) 0) = false then _ else _)
  by_cases h1 : i = 0 ∨ l.length < 2 ∨ 1000 < l.length
  · rw [if_pos h1, if_pos (by omega)]
    exact hb
  · rw [if_neg h1]
    cases hr : Mesg.rune (l.getD (min i (l.length - 1) - 1) 0) with
    | false =>
      rw [if_neg (by simp), if_pos (by simp)]
      exact hb
    | true =>
      rw [if_pos rfl, if_neg (by simp; omega)]
      have hh := Rel.cut (l := l) (kl := kl) (i := i) (f := min i (l.length - 1) - 1) (c := 1) (b := min i (l.length - 1)) r (by omega) (by omega) kl
      have hc := (fresh l kl i).cut_len (f := min i (l.length - 1) - 1) (k := 1) (show _ ≤ l.length by omega)
      have hfl : (fresh l kl i).line.length = l.length := rfl
      exact (Rel.put (t := { Ed.cut (freshT l kl i r) (min i (l.length - 1) - 1) (min i (l.length - 1)) with at' := min i (l.length - 1) }) (s := ⟨((fresh l kl i).cut (min i (l.length - 1) - 1) 1).line, min i (l.length - 1), kl, ((fresh l kl i).cut (min i (l.length - 1) - 1) 1).acts⟩) ⟨hh.acts, rfl, rfl, hh.done, hh.long, by show min i (l.length - 1) ≤ _; simp only at hc ⊢; omega⟩ _).1

theorem deed_rel (l kl : List Int) (z k r : Int) : Rel (Ed.turned l z kl k r) ((fresh l kl (Ed.caret l z)).deed k r) := by
  have h := Ed.caret_le l z
  obtain ⟨i, hi⟩ : ∃ i, Ed.caret l z = i := ⟨_, rfl⟩
  rw [hi] at h ⊢
  have cA : Ed.caret l ((i : Int) - 1) = i - 1 := by unfold Ed.caret; omega
  have cB : Ed.caret l ((i : Int) + 1) = min (i + 1) l.length := by unfold Ed.caret; omega
  have cC : Ed.caret l (i : Int) = i := Ed.caret_in h
  have w1 := Ed.wordBack_le l i
  have w2 := Ed.wordOn_ge l i
  have w3 := Ed.wordOn_le l i h
  by_cases q1 : k = 1
  · subst q1
    have hd : Ed.deed 1 r = some .typeRune := by simp [Ed.deed, Ed.doings, Ed.name]
    have ht : Ed.turned l z kl 1 r = Ed.Deed.run .typeRune (freshT l kl i r) := by unfold Ed.turned; rw [hd]; rw [← hi]; rfl
    rw [ht]
    have he : (fresh l kl i).deed 1 r = ((fresh l kl i).put r).1 := by first | rfl | (simp [Wk.deed, Wk.ctrl]; rfl)
    rw [he]
    exact ((Rel.begun (kl := kl) r h).put r).1
  by_cases q2 : k = 2
  · subst q2
    by_cases p97 : r = 97
    · subst p97
      have hd : Ed.deed 2 97 = some .toBegin := by simp [Ed.deed, Ed.doings, Ed.name]
      have ht : Ed.turned l z kl 2 97 = Ed.Deed.run .toBegin (freshT l kl i 97) := by unfold Ed.turned; rw [hd]; rw [← hi]; rfl
      rw [ht]
      have he : (fresh l kl i).deed 2 97 = (fresh l kl i).goto 0 := by first | rfl | (simp [Wk.deed, Wk.ctrl]; rfl)
      rw [he]
      exact Rel.goto _ (Nat.zero_le _)
    by_cases p101 : r = 101
    · subst p101
      have hd : Ed.deed 2 101 = some .toEnd := by simp [Ed.deed, Ed.doings, Ed.name]
      have ht : Ed.turned l z kl 2 101 = Ed.Deed.run .toEnd (freshT l kl i 101) := by unfold Ed.turned; rw [hd]; rw [← hi]; rfl
      rw [ht]
      have he : (fresh l kl i).deed 2 101 = (fresh l kl i).goto l.length := by first | rfl | (simp [Wk.deed, Wk.ctrl]; rfl)
      rw [he]
      exact Rel.goto _ (Nat.le_refl _)
    by_cases p98 : r = 98
    · subst p98
      have hd : Ed.deed 2 98 = some .oneBack := by simp [Ed.deed, Ed.doings, Ed.name]
      have ht : Ed.turned l z kl 2 98 = Ed.Deed.run .oneBack (freshT l kl i 98) := by unfold Ed.turned; rw [hd]; rw [← hi]; rfl
      rw [ht]
      have he : (fresh l kl i).deed 2 98 = (fresh l kl i).goto (i - 1) := by first | rfl | (simp [Wk.deed, Wk.ctrl]; rfl)
      rw [he]
      show Rel { freshT l kl i _ with at' := Ed.caret l ((i : Int) - 1) } ((fresh l kl i).goto (i - 1))
      rw [cA]
      exact Rel.goto _ (by omega)
    by_cases p102 : r = 102
    · subst p102
      have hd : Ed.deed 2 102 = some .oneOn := by simp [Ed.deed, Ed.doings, Ed.name]
      have ht : Ed.turned l z kl 2 102 = Ed.Deed.run .oneOn (freshT l kl i 102) := by unfold Ed.turned; rw [hd]; rw [← hi]; rfl
      rw [ht]
      have he : (fresh l kl i).deed 2 102 = (fresh l kl i).goto (min (i + 1) l.length) := by first | rfl | (simp [Wk.deed, Wk.ctrl]; rfl)
      rw [he]
      show Rel { freshT l kl i _ with at' := Ed.caret l ((i : Int) + 1) } ((fresh l kl i).goto (min (i + 1) l.length))
      rw [cB]
      exact Rel.goto _ (by omega)
    by_cases p104 : r = 104
    · subst p104
      have hd : Ed.deed 2 104 = some .cutAhead := by simp [Ed.deed, Ed.doings, Ed.name]
      have ht : Ed.turned l z kl 2 104 = Ed.Deed.run .cutAhead (freshT l kl i 104) := by unfold Ed.turned; rw [hd]; rw [← hi]; rfl
      rw [ht]
      have he : (fresh l kl i).deed 2 104 = (fresh l kl i).cutTo (i - 1) (i - (i - 1)) := by first | rfl | (simp [Wk.deed, Wk.ctrl]; rfl)
      rw [he]
      show Rel (Ed.cut (freshT l kl i _) (Ed.caret l ((i : Int) - 1)) i) ((fresh l kl i).cutTo (i - 1) (i - (i - 1)))
      rw [cA]
      exact Rel.cutTo _ h (by omega) h (by omega)
    by_cases p100 : r = 100
    · subst p100
      have hd : Ed.deed 2 100 = some .cutHere := by simp [Ed.deed, Ed.doings, Ed.name]
      have ht : Ed.turned l z kl 2 100 = Ed.Deed.run .cutHere (freshT l kl i 100) := by unfold Ed.turned; rw [hd]; rw [← hi]; rfl
      rw [ht]
      have he : (fresh l kl i).deed 2 100 = (fresh l kl i).cutTo i (min (i + 1) l.length - i) := by first | rfl | (simp [Wk.deed, Wk.ctrl]; rfl)
      rw [he]
      show Rel (Ed.cut (freshT l kl i _) i (Ed.caret l ((i : Int) + 1))) ((fresh l kl i).cutTo i (min (i + 1) l.length - i))
      rw [cB]
      exact Rel.cutTo _ h (by omega) (by omega) (fun _ => rfl)
    by_cases p107 : r = 107
    · subst p107
      have hd : Ed.deed 2 107 = some .killToEnd := by simp [Ed.deed, Ed.doings, Ed.name]
      have ht : Ed.turned l z kl 2 107 = Ed.Deed.run .killToEnd (freshT l kl i 107) := by unfold Ed.turned; rw [hd]; rw [← hi]; rfl
      rw [ht]
      have he : (fresh l kl i).deed 2 107 = (fresh l kl i).kil i (l.length - i) := by first | rfl | (simp [Wk.deed, Wk.ctrl]; rfl)
      rw [he]
      exact Rel.killed _ h h (Nat.le_refl _)
    by_cases p117 : r = 117
    · subst p117
      have hd : Ed.deed 2 117 = some .killToBegin := by simp [Ed.deed, Ed.doings, Ed.name]
      have ht : Ed.turned l z kl 2 117 = Ed.Deed.run .killToBegin (freshT l kl i 117) := by unfold Ed.turned; rw [hd]; rw [← hi]; rfl
      rw [ht]
      have he : (fresh l kl i).deed 2 117 = (fresh l kl i).kil 0 i := by first | rfl | (simp [Wk.deed, Wk.ctrl]; rfl)
      rw [he]
      exact Rel.killed (f := 0) (b := i) _ h (Nat.zero_le _) h
    by_cases p119 : r = 119
    · subst p119
      have hd : Ed.deed 2 119 = some .killWordBack := by simp [Ed.deed, Ed.doings, Ed.name]
      have ht : Ed.turned l z kl 2 119 = Ed.Deed.run .killWordBack (freshT l kl i 119) := by unfold Ed.turned; rw [hd]; rw [← hi]; rfl
      rw [ht]
      have he : (fresh l kl i).deed 2 119 = (fresh l kl i).kil (Ed.wordBack l i) (i - Ed.wordBack l i) := by first | rfl | (simp [Wk.deed, Wk.ctrl]; rfl)
      rw [he]
      show Rel (Ed.killed (freshT l kl i _) (Ed.wordBack l (Ed.caret l (i : Int))) i) ((fresh l kl i).kil (Ed.wordBack l i) (i - Ed.wordBack l i))
      rw [cC]
      exact Rel.killed _ h w1 h
    by_cases p121 : r = 121
    · subst p121
      have hd : Ed.deed 2 121 = some .yank := by simp [Ed.deed, Ed.doings, Ed.name]
      have ht : Ed.turned l z kl 2 121 = Ed.Deed.run .yank (freshT l kl i 121) := by unfold Ed.turned; rw [hd]; rw [← hi]; rfl
      rw [ht]
      have he : (fresh l kl i).deed 2 121 = (fresh l kl i).yank kl := by first | rfl | (simp [Wk.deed, Wk.ctrl]; rfl)
      rw [he]
      exact Rel.yank kl (Rel.begun _ h)
    by_cases p116 : r = 116
    · subst p116
      have hd : Ed.deed 2 116 = some .swap := by simp [Ed.deed, Ed.doings, Ed.name]
      have ht : Ed.turned l z kl 2 116 = Ed.Deed.run .swap (freshT l kl i 116) := by unfold Ed.turned; rw [hd]; rw [← hi]; rfl
      rw [ht]
      have he : (fresh l kl i).deed 2 116 = (fresh l kl i).swp := by first | rfl | (simp [Wk.deed, Wk.ctrl]; rfl)
      rw [he]
      exact Rel.swap _ h
    have hd : Ed.deed 2 r = none := by simp [Ed.deed, Ed.doings, Ed.name, eq_comm, p97, p101, p98, p102, p104, p100, p107, p117, p119, p121, p116]
    have ht : Ed.turned l z kl 2 r = freshT l kl i r := by unfold Ed.turned; rw [hd]; rw [← hi]; rfl
    have he : (fresh l kl i).deed 2 r = fresh l kl i := by simp [Wk.deed, Wk.ctrl, p97, p101, p98, p102, p104, p100, p107, p117, p119, p121, p116]
    rw [ht, he]
    exact Rel.begun r h
  by_cases q3 : k = 3
  · subst q3
    by_cases p98 : r = 98
    · subst p98
      have hd : Ed.deed 3 98 = some .wordBack := by simp [Ed.deed, Ed.doings, Ed.name]
      have ht : Ed.turned l z kl 3 98 = Ed.Deed.run .wordBack (freshT l kl i 98) := by unfold Ed.turned; rw [hd]; rw [← hi]; rfl
      rw [ht]
      have he : (fresh l kl i).deed 3 98 = (fresh l kl i).goto (Ed.wordBack l i) := by first | rfl | (simp [Wk.deed, Wk.ctrl]; rfl)
      rw [he]
      show Rel { freshT l kl i _ with at' := Ed.wordBack l (Ed.caret l (i : Int)) } ((fresh l kl i).goto (Ed.wordBack l i))
      rw [cC]
      exact Rel.goto _ (by omega)
    by_cases p102 : r = 102
    · subst p102
      have hd : Ed.deed 3 102 = some .wordOn := by simp [Ed.deed, Ed.doings, Ed.name]
      have ht : Ed.turned l z kl 3 102 = Ed.Deed.run .wordOn (freshT l kl i 102) := by unfold Ed.turned; rw [hd]; rw [← hi]; rfl
      rw [ht]
      have he : (fresh l kl i).deed 3 102 = (fresh l kl i).goto (Ed.wordOn l i) := by first | rfl | (simp [Wk.deed, Wk.ctrl]; rfl)
      rw [he]
      show Rel { freshT l kl i _ with at' := Ed.wordOn l (Ed.caret l (i : Int)) } ((fresh l kl i).goto (Ed.wordOn l i))
      rw [cC]
      exact Rel.goto _ (by omega)
    by_cases p100 : r = 100
    · subst p100
      have hd : Ed.deed 3 100 = some .killWordOn := by simp [Ed.deed, Ed.doings, Ed.name]
      have ht : Ed.turned l z kl 3 100 = Ed.Deed.run .killWordOn (freshT l kl i 100) := by unfold Ed.turned; rw [hd]; rw [← hi]; rfl
      rw [ht]
      have he : (fresh l kl i).deed 3 100 = (fresh l kl i).kil i (Ed.wordOn l i - i) := by first | rfl | (simp [Wk.deed, Wk.ctrl]; rfl)
      rw [he]
      show Rel (Ed.killed (freshT l kl i _) i (Ed.wordOn l (Ed.caret l (i : Int)))) ((fresh l kl i).kil i (Ed.wordOn l i - i))
      rw [cC]
      exact Rel.killed _ h w2 w3
    by_cases p127 : r = 127
    · subst p127
      have hd : Ed.deed 3 127 = some .killWordBack := by simp [Ed.deed, Ed.doings, Ed.name]
      have ht : Ed.turned l z kl 3 127 = Ed.Deed.run .killWordBack (freshT l kl i 127) := by unfold Ed.turned; rw [hd]; rw [← hi]; rfl
      rw [ht]
      have he : (fresh l kl i).deed 3 127 = (fresh l kl i).kil (Ed.wordBack l i) (i - Ed.wordBack l i) := by first | rfl | (simp [Wk.deed, Wk.ctrl]; rfl)
      rw [he]
      show Rel (Ed.killed (freshT l kl i _) (Ed.wordBack l (Ed.caret l (i : Int))) i) ((fresh l kl i).kil (Ed.wordBack l i) (i - Ed.wordBack l i))
      rw [cC]
      exact Rel.killed _ h w1 h
    have hd : Ed.deed 3 r = none := by simp [Ed.deed, Ed.doings, Ed.name, eq_comm, p98, p102, p100, p127]
    have ht : Ed.turned l z kl 3 r = freshT l kl i r := by unfold Ed.turned; rw [hd]; rw [← hi]; rfl
    have he : (fresh l kl i).deed 3 r = fresh l kl i := by simp [Wk.deed, p98, p102, p100, p127]
    rw [ht, he]
    exact Rel.begun r h
  by_cases q6 : k = 6
  · subst q6
    have hd : Ed.deed 6 r = some .oneOn := by simp [Ed.deed, Ed.doings, Ed.name]
    have ht : Ed.turned l z kl 6 r = Ed.Deed.run .oneOn (freshT l kl i r) := by unfold Ed.turned; rw [hd]; rw [← hi]; rfl
    rw [ht]
    have he : (fresh l kl i).deed 6 r = (fresh l kl i).goto (min (i + 1) l.length) := by first | rfl | (simp [Wk.deed, Wk.ctrl]; rfl)
    rw [he]
    show Rel { freshT l kl i _ with at' := Ed.caret l ((i : Int) + 1) } ((fresh l kl i).goto (min (i + 1) l.length))
    rw [cB]
    exact Rel.goto _ (by omega)
  by_cases q7 : k = 7
  · subst q7
    have hd : Ed.deed 7 r = some .oneBack := by simp [Ed.deed, Ed.doings, Ed.name]
    have ht : Ed.turned l z kl 7 r = Ed.Deed.run .oneBack (freshT l kl i r) := by unfold Ed.turned; rw [hd]; rw [← hi]; rfl
    rw [ht]
    have he : (fresh l kl i).deed 7 r = (fresh l kl i).goto (i - 1) := by first | rfl | (simp [Wk.deed, Wk.ctrl]; rfl)
    rw [he]
    show Rel { freshT l kl i _ with at' := Ed.caret l ((i : Int) - 1) } ((fresh l kl i).goto (i - 1))
    rw [cA]
    exact Rel.goto _ (by omega)
  by_cases q8 : k = 8
  · subst q8
    have hd : Ed.deed 8 r = some .toBegin := by simp [Ed.deed, Ed.doings, Ed.name]
    have ht : Ed.turned l z kl 8 r = Ed.Deed.run .toBegin (freshT l kl i r) := by unfold Ed.turned; rw [hd]; rw [← hi]; rfl
    rw [ht]
    have he : (fresh l kl i).deed 8 r = (fresh l kl i).goto 0 := by first | rfl | (simp [Wk.deed, Wk.ctrl]; rfl)
    rw [he]
    exact Rel.goto _ (Nat.zero_le _)
  by_cases q9 : k = 9
  · subst q9
    have hd : Ed.deed 9 r = some .toEnd := by simp [Ed.deed, Ed.doings, Ed.name]
    have ht : Ed.turned l z kl 9 r = Ed.Deed.run .toEnd (freshT l kl i r) := by unfold Ed.turned; rw [hd]; rw [← hi]; rfl
    rw [ht]
    have he : (fresh l kl i).deed 9 r = (fresh l kl i).goto l.length := by first | rfl | (simp [Wk.deed, Wk.ctrl]; rfl)
    rw [he]
    exact Rel.goto _ (Nat.le_refl _)
  by_cases q10 : k = 10
  · subst q10
    have hd : Ed.deed 10 r = some .cutHere := by simp [Ed.deed, Ed.doings, Ed.name]
    have ht : Ed.turned l z kl 10 r = Ed.Deed.run .cutHere (freshT l kl i r) := by unfold Ed.turned; rw [hd]; rw [← hi]; rfl
    rw [ht]
    have he : (fresh l kl i).deed 10 r = (fresh l kl i).cutTo i (min (i + 1) l.length - i) := by first | rfl | (simp [Wk.deed, Wk.ctrl]; rfl)
    rw [he]
    show Rel (Ed.cut (freshT l kl i _) i (Ed.caret l ((i : Int) + 1))) ((fresh l kl i).cutTo i (min (i + 1) l.length - i))
    rw [cB]
    exact Rel.cutTo _ h (by omega) (by omega) (fun _ => rfl)
  have hd : Ed.deed k r = none := by simp [Ed.deed, Ed.doings, Ed.name, eq_comm, q1, q2, q3, q6, q7, q8, q9, q10]
  have ht : Ed.turned l z kl k r = freshT l kl i r := by unfold Ed.turned; rw [hd]; rw [← hi]; rfl
  have he : (fresh l kl i).deed k r = fresh l kl i := by simp [Wk.deed, q1, q2, q3, q6, q7, q8, q9, q10]
  rw [ht, he]
  exact Rel.begun r h
end Go.Proofs.Ytakjoodlediemaa
