/- All lines of a log; whether one list begins another one. -/
import Derived.Test.YtcmdfjeiefgmhaaPaLog
import Derived.ArgAppend
import Derived.Laws.AppendOwnNone
import Derived.StillTailTactics
import Derived.Deep.QuietTactic
import Derived.BigQuiet
namespace Go.Proofs.Ytcmdfjeiefgmhaa
open Go.RowKit
set_option linter.unusedVariables false

set_option maxRecDepth 100000 in
set_option maxHeartbeats 1000000 in
theorem past_All {p : Nat} {L : List ByteArray} {w : World} {F : Nat → Prop} (h : LogV 121 p L w F) (hL : L.length ≤ 10000) :
    Calls Try.prog 42 #[.pointer (some ⟨p, 0, none⟩)] w fun r w' => ∃ v G, r = .returned v ∧ TextsV v L w' G ∧ (∀ k, G k → w.heap.size ≤ k) ∧ Below w.heap.size w w' := by
  obtain ⟨v, g1, g2, g3, g4, g5⟩ := h
  have c0 := g1.cell 0 (by simp)
  simp only [List.getElem_cons_zero] at c0
  obtain ⟨i0, hi, hz0, hz1, hz2⟩ := info_parts info_str
  have HI := Lib.hid (And.intro hi (And.intro hz0 (And.intro hz1 hz2)))
  clear hi hz0 hz1 hz2
  rcases g2.2 with ⟨rfl, h0⟩ | ⟨g, cap, cur, rfl, hb, hg, hn, hm, hc, ht⟩
  · obtain rfl : L = [] := List.eq_nil_of_length_eq_zero h0
    clear g1 g2 g3 g4 g5 h0
    go_enter Try.func42, Try.ntmps42
    go_wp2
    go_still_tail 9, (by kernel_rfl)
    change wpList _ _ _ _ _ (World.drew _)
    go_wp2_with (at_builtin; refine wpList_append_own_none (P := Try.prog) rfl (.tmp 9) (.tmp 13) 63 rfl 0 9 i0 1 Try.underlying63 HI.out.1 (.slice none 0 0) 0 [] rfl (World.ownsRow_nil _ _ _ _) rfl ?_)
    go_ret
    exact ⟨_, Non, rfl, ⟨none, 0, rfl, Nat.le_refl _, .inl rfl, fun k hk => hk.elim⟩, fun k hk => hk.elim, grew_drew w⟩
  · have hne : L ≠ [] := fun e => by
      have := g4 e
      cases this
    have HO := Lib.hid g2
    have hlen : 0 < L.length := List.length_pos_iff.2 hne
    have hcl : (0 : Int) ≤ (cap : Int) := by omega
    have HSRC : Hid (∀ j u, (L.map Value.string)[j]? = some u → w.drew.cell? ((⟨g, 0, none⟩ : Addr).add j) = some u) := Lib.hid (World.ownsRow.cells g2 (g := g) rfl)
    have HONE : Hid (∀ u ∈ L.map Value.string, u.oneCell' = true) := Lib.hid (fun u hu => by
      obtain ⟨c, _, rfl⟩ := List.mem_map.1 hu
      rfl)
    have HLEN : Hid (L.length ≤ 10000 ∧ 0 < L.length) := Lib.hid ⟨hL, hlen⟩
    clear g1 g2 g3 g4 g5 hb hg hn hm hc ht hne hL hlen
    go_enter Try.func42, Try.ntmps42
    go_wp2
    go_still_tail 9, (by kernel_rfl)
    change wpList _ _ _ _ _ (World.drew _)
    go_wp2_with (at_builtin; refine wpList_append_grows (P := Try.prog) _ rfl (.tmp 9) (.tmp 13) 63 rfl 9 i0 (.string ⟨#[]⟩) 1 16 Try.underlying63 HI.out.1 HI.out.2.1 HI.out.2.2.1 HI.out.2.2.2 rfl (by decide) (some ⟨g, 0, none⟩) 0 0 [] rfl (by intro e; cases e) rfl (by intro b _ j u hj; simp at hj) ⟨g, 0, none⟩ L.length cap (L.map Value.string) rfl (by simp) HSRC.out HONE.out (by have := HLEN.out; omega) (by have := HLEN.out; unfold maxLen; omega) (by have := HLEN.out; omega) ?_; intro v1 w1 ho1 hg1; have HO1 := Lib.hid ho1; have HG1 := Lib.hid hg1; clear ho1 hg1)
    have HO2 : Hid (OwnS w1 v1 L) := Lib.hid (by
      have h1 : w1.ownsRow w.heap.size 9 1 v1 (0 + L.length) ([] ++ L.map Value.string) := HO1.out
      rw [Nat.zero_add, List.nil_append] at h1
      obtain ⟨k1, k2⟩ := h1
      refine ⟨k1, ?_⟩
      rcases k2 with k2 | ⟨g', c', cur', e1, _, r⟩
      · exact .inl k2
      · exact .inr ⟨g', c', cur', e1, Nat.zero_le _, r⟩)
    have HN1 : Hid (∀ k, At v1 k → w.heap.size ≤ k) := Lib.hid (fun k hk => (World.ownsRow.lt HO1.out k hk).1)
    go_ret
    exact ⟨v1, At v1, rfl, TextsV.of HO2.out, HN1.out, (grew_drew w).trans ((Keep.of_grown HG1.out).below (Nat.le_refl _) (fun i hi => by cases hi))⟩
end Go.Proofs.Ytcmdfjeiefgmhaa
