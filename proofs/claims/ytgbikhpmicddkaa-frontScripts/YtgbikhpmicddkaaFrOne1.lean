/- A front, and its rows put by in a list of the call's own. -/
import Derived.Test.YtgbikhpmicddkaaFrOne0
namespace Go.Proofs.Ytgbikhpmicddkaa
open Go.RowKit
set_option linter.unusedVariables false

theorem SliceI.own_lt {w : World} {v : Value} {zs : List Int} (h : SliceI w v zs) (h1 : 1 ≤ zs.length) {g : Nat} (hg : v.ownBlock = some g) : g < w.heap.size := by
  obtain ⟨a, cap, rfl, _, h⟩ := h
  rcases h with h | ⟨b, off, rfl, hlt, _⟩
  · rw [h] at h1; simp at h1
  · have : b = g := Option.some.inj hg
    rw [← this]; exact hlt

/-- A front that the call made since w0; V is a list of the call's own, of the lists ls. -/
def RowsW (w0 : World) (p : Nat) (rows : List (List Int)) (V : Value) (us : List Value) (ls : List (List Int)) (w : World) : Prop :=
  ∃ rb rc vs, IsFrontW w p rb rc vs rows ∧ w0.heap.size ≤ rb ∧ Below w0.heap.size w0 w ∧ Owns w 30 1 V us.length us ∧ us.length = ls.length ∧ (∀ i (h : i < ls.length) (h' : i < us.length), SliceI w us[i] ls[i]) ∧ (∀ l ∈ ls, 1 ≤ l.length) ∧ ∀ g, V.ownBlock = some g → w0.heap.size ≤ g ∧ (∀ u ∈ us, u.ownBlock ≠ some g) ∧ (∀ u ∈ vs, u.ownBlock ≠ some g)
theorem RowsW.nil {w0 w : World} {p : Nat} {rows : List (List Int)} (h : FLive w0 p rows w) : RowsW w0 p rows (.slice none 0 0) [] [] w := by
  obtain ⟨rb, rc, vs, h1, h2, h3⟩ := h
  exact ⟨rb, rc, vs, h1, h2, h3, Owns.nil _ _ _, rfl, fun i h => by simp at h, fun l h => by simp at h, fun g h => by cases h⟩
theorem RowsW.live {w0 w : World} {p : Nat} {rows : List (List Int)} {V : Value} {us : List Value} {ls : List (List Int)} (h : RowsW w0 p rows V us ls w) : FLive w0 p rows w := by
  obtain ⟨rb, rc, vs, h1, h2, h3, _⟩ := h
  exact ⟨rb, rc, vs, h1, h2, h3⟩
theorem RowsW.grew {w0 w w' : World} {p : Nat} {rows : List (List Int)} {V : Value} {us : List Value} {ls : List (List Int)} (h : RowsW w0 p rows V us ls w) (hb : Below w.heap.size w w') : RowsW w0 p rows V us ls w' := by
  obtain ⟨rb, rc, vs, h1, h2, h3, h4, h5, h6, h7, h8⟩ := h
  exact ⟨rb, rc, vs, h1.below hb, h2, Go.Proofs.Ytgbikhpmicddkaa.grew h3 hb, Owns.keep h4 (Keep.of_grew hb Non) (fun _ _ h => h), h5, fun i h h' => (h6 i h h').below hb, h7, h8⟩
theorem RowsW.shape {w0 w : World} {p : Nat} {rows : List (List Int)} {V : Value} {us : List Value} {ls : List (List Int)} (h : RowsW w0 p rows V us ls w) : ∃ a cap, V = .slice a us.length cap := by
  obtain ⟨rb, rc, vs, h1, h2, h3, h4, _⟩ := h
  rcases h4.2 with ⟨rfl, h0⟩ | ⟨g, cap, cur, rfl, _⟩
  · exact ⟨none, 0, by rw [h0]⟩
  · exact ⟨_, cap, rfl⟩
theorem RowsW.len {w0 w : World} {p : Nat} {rows : List (List Int)} {V : Value} {us : List Value} {ls : List (List Int)} (h : RowsW w0 p rows V us ls w) : us.length = ls.length := by
  obtain ⟨rb, rc, vs, h1, h2, h3, h4, h5, _⟩ := h
  exact h5
/-- The blocks of a front are no rows of slices. -/
theorem RowsW.apart {w : World} {p rb rc : Nat} {vs : List Value} {rows : List (List Int)} {V : Value} {us : List Value} (h : IsFrontW w p rb rc vs rows) (ho : Owns w 30 1 V us.length us) {g : Nat} (hg : V.ownBlock = some g) : p ≠ g ∧ rb ≠ g := by
  rcases ho.2 with ⟨rfl, _⟩ | ⟨g', cap, cur, rfl, _, hc, _⟩
  · cases hg
  · have : g' = g := Option.some.inj hg
    subst this
    refine ⟨fun e => ?_, fun e => ?_⟩
    · have h1 : w.heap[p]? = some _ := h.box
      rw [e, hc] at h1
      have h3 := Option.some.inj h1
      injection h3 with _ h4
      exact absurd h4 (by decide)
    · have h1 : w.heap[rb]? = some _ := h.row
      rw [e, hc] at h1
      have h3 := Option.some.inj h1
      injection h3 with _ h4
      exact absurd h4 (by decide)
theorem RowsW.append {w0 w w' : World} {p : Nat} {rows : List (List Int)} {V V' : Value} {us : List Value} {ls : List (List Int)} (h : RowsW w0 p rows V us ls w) {u : Value} {z : List Int} (hu : SliceI w u z) (hz : 1 ≤ z.length) (hn : ∀ g, V.ownBlock = some g → u.ownBlock ≠ some g)
    (ho : Owns w' 30 1 V' (us.length + 1) (us ++ [u])) (hk : Keep (At V) w w') (hnr : Near w V V') : RowsW w0 p rows V' (us ++ [u]) (ls ++ [z]) w' := by
  obtain ⟨rb, rc, vs, h1, h2, h3, h4, h5, h6, h7, h8⟩ := h
  have hAp : ¬ At V p := fun e => (RowsW.apart h1 h4 e).1 rfl
  have hAr : ¬ At V rb := fun e => (RowsW.apart h1 h4 e).2 rfl
  have hrl : ∀ i (h : i < rows.length), 1 ≤ rows[i].length := fun i hi => by rw [(h1.may _ (List.getElem_mem hi)).2]; exact h1.sites.1
  have hsl : ∀ {v : Value} {l : List Int}, SliceI w v l → (∀ g, V.ownBlock = some g → v.ownBlock ≠ some g) → SliceI w' v l := fun hv hg => hv.keep hk (fun g hg' e => hg g e hg')
  have hvs : ∀ v ∈ vs, ∃ l, SliceI w v l ∧ 1 ≤ l.length := fun v hv => by
    obtain ⟨i, hi, rfl⟩ := List.getElem_of_mem hv
    exact ⟨_, h1.vec i (by rw [← h1.len]; exact hi), hrl i _⟩
  have hus : ∀ v ∈ us, ∃ l, SliceI w v l ∧ 1 ≤ l.length := fun v hv => by
    obtain ⟨i, hi, rfl⟩ := List.getElem_of_mem hv
    have hi2 : i < ls.length := by rw [← h5]; exact hi
    exact ⟨_, h6 i hi2 hi, h7 _ (List.getElem_mem hi2)⟩
  refine ⟨rb, rc, vs, ⟨h1.box.keep hk hAp, h1.row.keep hk hAr, h1.len, fun i hi => hsl (h1.vec i hi) (fun g hg => (h8 g hg).2.2 _ (List.getElem_mem _)), h1.may, h1.sites⟩, h2, h3.trans (hk.below h3.size (fun i e => (h8 i e).1)), by rw [List.length_append]; exact ho, by simp [h5], fun i hi hi' => ?_, fun l hl => ?_, fun g hg => ?_⟩
  · by_cases hlt : i < us.length
    · rw [List.getElem_append_left hlt, List.getElem_append_left (by omega)]
      exact hsl (h6 i (by omega) hlt) (fun g hg => (h8 g hg).2.1 _ (List.getElem_mem _))
    · have hi2 : i = us.length := by simp at hi'; omega
      subst hi2
      rw [List.getElem_append_right (Nat.le_refl _), List.getElem_append_right (by omega)]
      simp only [h5, Nat.sub_self, List.getElem_cons_zero]
      exact hsl hu hn
  · rcases List.mem_append.1 hl with hl | hl
    · exact h7 l hl
    · rw [List.mem_singleton.1 hl]; exact hz
  · rcases hnr g hg with hg | hg
    · refine ⟨(h8 g hg).1, fun v hv => ?_, (h8 g hg).2.2⟩
      rcases List.mem_append.1 hv with hv | hv
      · exact (h8 g hg).2.1 v hv
      · rw [List.mem_singleton.1 hv]; exact hn g hg
    · refine ⟨Nat.le_trans h3.size hg, fun v hv e => ?_, fun v hv e => ?_⟩
      · rcases List.mem_append.1 hv with hv | hv
        · obtain ⟨l, k1, k2⟩ := hus v hv
          have := k1.own_lt k2 e
          omega
        · rw [List.mem_singleton.1 hv] at e
          have := hu.own_lt hz e
          omega
      · obtain ⟨l, k1, k2⟩ := hvs v hv
        have := k1.own_lt k2 e
        omega

/-- A front that the call made; the lists ls lie in the block g. -/
def GotW (w0 : World) (p : Nat) (rows : List (List Int)) (g : Nat) (ls : List (List Int)) (w : World) : Prop :=
  FLive w0 p rows w ∧ g < w.heap.size ∧ ∀ i (h : i < ls.length), ∃ u, w.cell? ⟨g, i, none⟩ = some u ∧ SliceI w u ls[i]
theorem GotW.grew {w0 w w' : World} {p : Nat} {rows : List (List Int)} {g : Nat} {ls : List (List Int)} (h : GotW w0 p rows g ls w) (hb : Below w.heap.size w w') : GotW w0 p rows g ls w' := by
  obtain ⟨h1, h2, h3⟩ := h
  refine ⟨h1.grew hb, Nat.lt_of_lt_of_le h2 hb.size, fun i hi => ?_⟩
  obtain ⟨u, k1, k2⟩ := h3 i hi
  exact ⟨u, by rw [hb.cell (p := ⟨g, i, none⟩) h2]; exact k1, k2.below hb⟩
/-- Hear, with rows put by. -/
theorem rows_Hear {w0 w : World} {p : Nat} {rows : List (List Int)} {V : Value} {us : List Value} {ls : List (List Int)} (h : RowsW w0 p rows V us ls w) (hl : 1 ≤ ls.length) (s : Int) (v : Value) (zs : List Int) (hv : SliceI w v zs) (hm : zs.length ≤ maxLen) :
    ∃ g cap, V = .slice (some ⟨g, 0, none⟩) ls.length cap ∧ Calls Try.prog 7 #[.pointer (some ⟨p, 0, none⟩), .int .i64 s, v] w fun e w' => e = .returned (.int .i64 (Front.hear rows s zs).1) ∧ GotW w0 p (Front.hear rows s zs).2 g ls w' := by
  obtain ⟨rb, rc, vs, h1, h2, h3, h4, h5, h6, h7, h8⟩ := h
  have h4' := h4
  rcases h4.2 with ⟨_, h0⟩ | ⟨g, cap, cur, hV, _, hc, hcap, _, hcur, htk⟩
  · omega
  · subst hV
    refine ⟨g, cap, by rw [h5], (front_Hear h1 s v zs hv hm).mono fun e w' ⟨k1, vs', k2, k3⟩ => ⟨k1, ⟨rb, rc, vs', k2, h2, h3.trans (k3.below h3.size (fun i e => by have e : i = rb := e; rw [e]; exact h2))⟩, ?_, fun i hi => ?_⟩⟩
    · exact Nat.lt_of_lt_of_le (Array.getElem?_eq_some_iff.1 hc).1 k3.size
    · have hgl := (Array.getElem?_eq_some_iff.1 hc).1
      have hne : ¬ Just rb g := fun e => (RowsW.apart h1 h4' (g := g) rfl).2 (Eq.symm e)
      have hi' : i < us.length := by omega
      refine ⟨us[i], ?_, (h6 i hi hi').keep k3 (fun g' hg' e => (h6 i hi hi').no_row (h7 _ (List.getElem_mem hi)) h1.row h1.slices (hg'.trans (congrArg some e)))⟩
      rw [k3.cell hgl hne, cell_of_row w g i cur 30 (0, 0) hc]
      have h9 : ∀ u, us[i]? = some u → cur[i]? = some u := fun u hu => by
        rw [← htk, List.getElem?_take_of_lt (by omega)] at hu
        simpa using hu
      exact h9 _ (List.getElem?_eq_getElem hi')

/-- What is heard of a site is that site's row; the others stay. -/
theorem Front.hear_one {rows : List (List Int)} (hok : Front.Ok rows) (s : Int) (v : List Int) (q : Int × List (List Int)) (hq : Front.hear rows s v = q) : (∀ i (h : i < q.2.length) (h' : i < rows.length), ((i : Int) ≠ s ∨ q.1 ≠ 0) → q.2[i] = rows[i]) ∧ (q.1 = 0 → ∃ k : Nat, s = k ∧ v.length = rows.length ∧ ∃ h : k < q.2.length, Vecs.below v q.2[k] = true) := by
  unfold Front.hear at hq
  split at hq
  · rename_i hc
    split at hq
    · subst hq
      exact ⟨fun i h h' _ => rfl, fun h => by cases h⟩
    · obtain ⟨k, rfl⟩ : ∃ k : Nat, s = k := ⟨s.toNat, by omega⟩
      have hk : k < rows.length := by omega
      rw [Int.toNat_natCast, List.getD_eq_getElem?_getD, List.getElem?_eq_getElem hk] at hq
      subst hq
      refine ⟨fun i h h' hor => ?_, fun _ => ⟨k, rfl, hc.2.2.2, by show k < (rows.set k _).length; rw [List.length_set]; exact hk, ?_⟩⟩
      · rcases hor with hor | hor
        · show (rows.set k _)[i]'_ = rows[i]
          rw [List.getElem_set_ne (by omega)]
        · exact absurd rfl hor
      · show Vecs.below v ((rows.set k (Vecs.join rows[k] v))[k]'_) = true
        rw [List.getElem_set_self]
        exact Front.join_r (by rw [Front.rl hok hk, hc.2.2.2])
  · subst hq
    exact ⟨fun i h h' _ => rfl, fun h => by cases h⟩
end Go.Proofs.Ytgbikhpmicddkaa
