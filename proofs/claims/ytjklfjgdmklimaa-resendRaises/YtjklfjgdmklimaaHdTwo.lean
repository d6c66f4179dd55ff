/- Two holds side by side. -/
import Derived.Test.YtjklfjgdmklimaaHdMix
namespace Go.Proofs.Ytjklfjgdmklimaa
open Go.RowKit Go.Maps
set_option linter.unusedVariables false

/-- Two holds that the call made, since w0. -/
def Two (w0 : World) (p q : Nat) (sa sb : Hold.St) (w : World) : Prop := ∃ Fa Fb, IsHold w Fa p sa ∧ IsHold w Fb q sb ∧ sa.l.length ≤ sa.room ∧ sb.l.length ≤ sb.room ∧ (∀ b, Fa b → w0.heap.size ≤ b) ∧ (∀ b, Fb b → w0.heap.size ≤ b) ∧ Below w0.heap.size w0 w ∧ ∀ b, Fa b → ¬ Fb b
theorem Two.bel {w0 w : World} {p q : Nat} {sa sb : Hold.St} (h : Two w0 p q sa sb w) : Below w0.heap.size w0 w := by
  obtain ⟨_, _, _, _, _, _, _, _, h, _⟩ := h
  exact h
theorem Two.turn {w0 w : World} {p q : Nat} {sa sb : Hold.St} (h : Two w0 p q sa sb w) : Two w0 q p sb sa w := by
  obtain ⟨Fa, Fb, h1, h2, h3, h4, h5, h6, h7, h8⟩ := h
  exact ⟨Fb, Fa, h2, h1, h4, h3, h6, h5, h7, fun b hb ha => h8 b ha hb⟩
theorem Two.keep {w0 w w' : World} {p q : Nat} {sa sb : Hold.St} (h : Two w0 p q sa sb w) {g : Nat} (hk : Keep (Just g) w w') (hg : w0.heap.size ≤ g) (hn : w.heap.size ≤ g) : Two w0 p q sa sb w' := by
  obtain ⟨Fa, Fb, h1, h2, h3, h4, h5, h6, h7, h8⟩ := h
  exact ⟨Fa, Fb, h1.keep hk (fun b hb e => by have e : b = g := e; have := h1.lt b hb; omega), h2.keep hk (fun b hb e => by have e : b = g := e; have := h2.lt b hb; omega), h3, h4, h5, h6, h7.trans (hk.below h7.size (fun i e => by have e : i = g := e; rw [e]; exact hg)), h8⟩
theorem Two.grew {w0 w w' : World} {p q : Nat} {sa sb : Hold.St} (h : Two w0 p q sa sb w) (hb : Below w.heap.size w w') : Two w0 p q sa sb w' := by
  obtain ⟨Fa, Fb, h1, h2, h3, h4, h5, h6, h7, h8⟩ := h
  exact ⟨Fa, Fb, h1.below hb, h2.below hb, h3, h4, h5, h6, Go.Proofs.Ytjklfjgdmklimaa.grew h7 hb, h8⟩
theorem two_New (n r : Nat) (w0 w : World) (h0 : Below w0.heap.size w0 w) (hn : 1 ≤ n ∧ n ≤ 16) (hr : r ≤ 1000) {p : Nat} {s : Hold.St} {F : Nat → Prop} (h : IsHold w F p s) (hl : s.l.length ≤ s.room) (hF : ∀ b, F b → w0.heap.size ≤ b) :
    Calls Try.prog 10 #[.int .i64 (n : Int), .int .i64 (r : Int)] w fun e w' => ∃ q, e = .returned (.tuple #[.pointer (some ⟨q, 0, none⟩), .int .i64 0]) ∧ Two w0 p q s (Hold.new n r) w' :=
  (hold_New_yes n r w hn hr).mono fun e w' ⟨q, G, h1, h2, h3, h4⟩ => ⟨q, h1, F, G, h.below h4, h2, hl, Nat.zero_le _, hF, fun b hb => Nat.le_trans h0.size (h3 b hb), Go.Proofs.Ytjklfjgdmklimaa.grew h0 h4, fun b hb hg => by have := h.lt b hb; have := h3 b hg; omega⟩
theorem two_PutA {w0 w : World} {p q : Nat} {sa sb : Hold.St} (h : Two w0 p q sa sb w) (m : Mesg.Msg) (v : Value) (hv : SliceI w v m.know) (hm : m.know.length ≤ 1000000000) :
    Calls Try.prog 12 #[.pointer (some ⟨p, 0, none⟩), msgV m v] w fun e w' => ∃ T c, e = .returned (.tuple #[.slice T (Hold.put sa m).1.length c, .int .i64 (Hold.put sa m).2.1]) ∧ Two w0 p q (Hold.put sa m).2.2 sb w' := by
  obtain ⟨Fa, Fb, h1, h2, h3, h4, h5, h6, h7, h8⟩ := h
  refine (hold_Put h1 h3 m v hv hm).mono ?_
  rintro e w' ⟨r, rfl, T, xs, F', rfl, k1, k2, k3, k4, k5, k6, k7, k8⟩
  have hlen : xs.length = (Hold.put sa m).1.length := by rw [← k2, List.length_map]
  obtain ⟨ta, tc, e⟩ : ∃ a c, T = .slice a xs.length c := k1.form
  subst e
  rw [hlen]
  refine ⟨ta, tc, rfl, F', Fb, k5, h2.keep k6 (fun b hb ha => h8 b ha hb), k8, h4, fun b hb => ?_, h6, h7.trans (k6.below h7.size h5), fun b hb hg => ?_⟩
  · rcases k7 b hb with k | k
    · exact h5 b k
    · exact Nat.le_trans h7.size k
  · rcases k7 b hb with k | k
    · exact h8 b k hg
    · have := h2.lt b hg
      omega
theorem two_PutB {w0 w : World} {p q : Nat} {sa sb : Hold.St} (h : Two w0 p q sa sb w) (m : Mesg.Msg) (v : Value) (hv : SliceI w v m.know) (hm : m.know.length ≤ 1000000000) :
    Calls Try.prog 12 #[.pointer (some ⟨q, 0, none⟩), msgV m v] w fun e w' => ∃ T c, e = .returned (.tuple #[.slice T (Hold.put sb m).1.length c, .int .i64 (Hold.put sb m).2.1]) ∧ Two w0 p q sa (Hold.put sb m).2.2 w' :=
  (two_PutA h.turn m v hv hm).mono fun e w' ⟨T, c, h1, h2⟩ => ⟨T, c, h1, h2.turn⟩

theorem ref06_Zero_own2 (n : Nat) (w : World) (hn : n ≤ 1000000) :
    Calls Try.prog 20 #[.int .i64 (n : Int)] w fun e w' => ∃ r, e = .returned r ∧ OwnsI w' w.heap.size r (List.replicate n 0) ∧ Below w.heap.size w w' := by
  go_enter Try.func20, Try.ntmps20
  go_wp2
  go_loopw [3, 4] (fun r i wr => ∃ k : Nat, k ≤ n ∧ i = .int .i64 k ∧ OwnsI wr w.heap.size r (List.replicate k 0) ∧ Below w.heap.size w wr) (fun _ i _ => n - (intOf i).toNat)
  case atStart => exact ⟨0, by omega, rfl, OwnsI.nil _ _, Below.refl _ _⟩
  case round =>
    obtain ⟨k, hk, rfl, hown, hbel⟩ := hrel
    have HO := Lib.hid hown
    have HB := Lib.hid hbel
    clear hown hbel
    by_cases hlt : k < n
    · have hdk : decide ((k : Int) < (n : Int)) = true := decide_eq_true (by omega)
      have hdn : decide (k < n) = true := decide_eq_true hlt
      go_wp2_with (at_builtin; refine wp_append_int rfl (.tmp 10) (.tmp 11) rfl w.heap.size _ _ _ rfl rfl HO.out HB.out.size (by rw [List.length_replicate]; omega) ?_; intro v1 w1 ho1 hk1)
      go_roundw
      case rel => exact ⟨k + 1, by omega, by go_num, by rw [List.replicate_succ']; exact ho1, HB.out.trans hk1⟩
      case measure => simp [intOf]; omega
    · have hdk : decide ((k : Int) < (n : Int)) = false := decide_eq_false (by omega)
      have hdn : decide (k < n) = false := decide_eq_false hlt
      obtain rfl : k = n := by omega
      go_wp2
      go_ret
      exact ⟨_, rfl, HO.out, HB.out⟩
/-- A number put into a list of the call's own. -/
theorem OwnsI.put {w : World} {base : Nat} {r : Value} {zs : List Int} (h : OwnsI w base r zs) {c : Nat} (hc : c < zs.length) : ∃ g cap, r = .slice (some ⟨g, 0, none⟩) zs.length cap ∧ base ≤ g ∧ g < w.heap.size ∧ w.cell? ⟨g, c, none⟩ = some (.int .i64 zs[c]) ∧ w.frozen? ⟨g, c, none⟩ = false ∧ ∀ v : Int, SliceI (w.setCell ⟨g, c, none⟩ (.int .i64 v)) r (zs.set c v) := by
  have hs := h.slice
  rcases h.2 with ⟨_, h0⟩ | ⟨g, cap, cur, rfl, hb, hg, hn, hm, hcs, ht⟩
  · omega
  · obtain ⟨a', cap', e, hcap, hr⟩ := hs
    injection e with e1 e2 e3
    subst e1
    subst e3
    rcases hr with hr | ⟨b, off, e, hlt, hcell⟩
    · rw [hr] at hc; simp at hc
    · injection e with e
      injection e with e1 e2
      subst e1
      subst e2
      have hcc := hcell c hc
      rw [Nat.zero_add] at hcc
      refine ⟨g, cap, rfl, hb, hlt, hcc, by unfold World.frozen?; rw [hg]; simp, fun v => ⟨_, cap, by rw [List.length_set], by rw [List.length_set]; exact hcap, .inr ⟨g, 0, rfl, by simpa [World.setCell] using hlt, fun i hi => ?_⟩⟩⟩
      rw [List.length_set] at hi
      rw [Nat.zero_add, List.getElem_set]
      by_cases e : c = i
      · subst e
        rw [if_pos rfl]
        exact World.cell?_setCell_same' _ _ _ (by rw [hcc]; rfl)
      · rw [if_neg e, World.cell?_setCell_other _ _ _ _ (fun h => e (congrArg Addr.off h))]
        have := hcell i hi
        rwa [Nat.zero_add] at this
end Go.Proofs.Ytjklfjgdmklimaa
