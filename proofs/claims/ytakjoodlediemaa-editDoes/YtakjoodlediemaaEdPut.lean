/- A rune is put by a key. -/
import Derived.Test.YtakjoodlediemaaEdMem
import Derived.Test.YtakjoodlediemaaStepApp
import Derived.Deep.RegionWith
import Derived.StillTailTactics
namespace Go.Proofs.Ytakjoodlediemaa
open Go.RowKit
set_option linter.unusedVariables false

/-- What a turn's method leaves. -/
def TnStep (w0 w' : World) (g : Nat) (t : Tn) (lv : Value) : Prop := ∃ kv av, IsTn w0 w' g t lv kv av

set_option maxRecDepth 100000 in
set_option maxHeartbeats 4000000 in
theorem turn_put {w0 w : World} {g : Nat} {t : Tn} {lv kv av : Value} (h : IsTn w0 w g t lv kv av) (hl : t.long ≤ 1000000) (ha : t.at' ≤ 1000000) (hn : t.acts.length ≤ 1000000) (r : Int) :
    Calls Try.prog 52 #[.pointer (some ⟨g, 0, none⟩), .int .i64 r] w fun e w' => e = .returned (.bool (Ed.put t r).2) ∧ ∃ av', IsTn w0 w' g (Ed.put t r).1 lv kv av' := by
  have HT := Lib.hid h
  clear h
  obtain ⟨c0, c1, c2, c3, c4, c5⟩ := HT.out.cells
  have HRu := Lib.hid (fun W => mesg_Rune r W)
  by_cases hok : Mesg.rune r = true ∧ t.long < 1000
  · have HE : Hid (Ed.put t r = ({ t with acts := t.acts ++ [⟨1, t.at', r⟩], at' := t.at' + 1, long := t.long + 1 }, true)) := Lib.hid (by unfold Ed.put; rw [if_pos hok])
    have d1 : decide ((1000 : Int) ≤ (t.long : Int)) = false := decide_eq_false (by omega)
    rw [hok.1] at HRu
    rw [HE.out]
    clear hok
    obtain ⟨aa, ac, rfl⟩ := HT.out.acts.shape
    have HOW : Hid (Owns w 70 3 (.slice aa t.acts.length ac) t.acts.length (actCells t.acts)) := Lib.hid HT.out.acts
    have HN := Lib.hid hn
    clear hn
    have HX : Hid (∀ O, (w.alloc O).cell? ⟨g, 5, none⟩ = some (.slice aa t.acts.length ac) ∧ (w.alloc O).cell? ⟨g, 1, none⟩ = some (.int .i64 t.at')) := Lib.hid (fun O => by
      obtain ⟨_, b1, _, _, _, b5⟩ := (HT.out.grew (grew_alloc w O)).cells
      exact ⟨b5, b1⟩)
    have x5 := (HX.out (.cells #[.int .i64 1, .int .i64 t.at', .int .i64 r] 70)).1
    have x1 := (HX.out (.cells #[.int .i64 1, .int .i64 t.at', .int .i64 r] 70)).2
    have HX6 : Hid (∀ w6, Keep (At (.slice aa t.acts.length ac)) w w6 → w6.cell? ⟨g, 5, none⟩ = some (.slice aa t.acts.length ac) ∧ w6.frozen? ⟨g, 5, none⟩ = false) := Lib.hid (fun w6 hk => by
      have hh := HT.out.box.keep hk (fun e => (HT.out.apart g e).2 rfl)
      exact ⟨hh.cell 5 (by simp [tnL]), hh.frozen 5⟩)
    have HONE : Hid (∀ u ∈ [Value.int .i64 1, .int .i64 t.at', .int .i64 r], u.oneCell' = true) := Lib.hid (by intro u hu; simp at hu; rcases hu with rfl | rfl | rfl <;> rfl)
    go_enter Try.func52, Try.ntmps52
    go_wp2_with fail
    refine (HRu.out _).mono ?_
    rintro e w1 ⟨rfl, rfl⟩
    go_wp2_with fail
    go_region_law ((refine step_append_lit (w := w) rfl (.tmp 19) (.tmp 26) rfl Try.underlying30 info_act rfl (by decide) (by decide) (.slice aa t.acts.length ac) t.acts.length (actCells t.acts) rfl HOW.out 1 [.int .i64 1, .int .i64 t.at', .int .i64 r] _ rfl rfl rfl HONE.out (by have := HN.out; omega) ?_; intro va2 cap2 w6 ho2 hk2 hn2; have HM6 := Lib.hid (And.intro ho2 (And.intro hk2 hn2)); obtain ⟨y5, yf⟩ := HX6.out w6 hk2; clear ho2 hk2 hn2))
    all_goals
      have HT7 := Lib.hid (HT.out.more (a := ⟨1, t.at', r⟩) (t' := { t with acts := t.acts ++ [⟨1, t.at', r⟩] }) HM6.out.1 HM6.out.2.1 HM6.out.2.2 rfl)
      have HT8 := Lib.hid (HT7.out.set (t' := { t with acts := t.acts ++ [⟨1, t.at', r⟩], at' := t.at' + 1 }) (kv' := kv) 1 (.int .i64 ((t.at' : Int) + 1)) (by omega) (by simp [tnL]) rfl HT7.out.kill rfl)
      have HT9 := Lib.hid (HT8.out.set (t' := { t with acts := t.acts ++ [⟨1, t.at', r⟩], at' := t.at' + 1, long := t.long + 1 }) (kv' := kv) 2 (.int .i64 ((t.long : Int) + 1)) (by omega) (by simp [tnL]) rfl HT8.out.kill rfl)
      clear x5 x1 y5 yf c0 c1 c2 c3 c4 c5
      obtain ⟨_, c1, _, _, _, _⟩ := HT7.out.cells
      obtain ⟨_, _, c2, _, _, _⟩ := HT8.out.cells
      have f1 := HT7.out.frozen 1
      have f2 := HT8.out.frozen 2
      simp only at c1 c2
      go_wp2
      go_ret
      exact ⟨rfl, _, HT9.out⟩
  · have HE : Hid (Ed.put t r = (t, false)) := Lib.hid (by unfold Ed.put; rw [if_neg hok])
    rw [HE.out]
    clear HE
    cases hr : Mesg.rune r with
    | false =>
      rw [hr] at HRu
      clear hok hr
      go_enter Try.func52, Try.ntmps52
      go_wp2_with fail
      refine (HRu.out _).mono ?_
      rintro e w1 ⟨rfl, rfl⟩
      go_wp2
      go_ret
      exact ⟨rfl, _, HT.out⟩
    | true =>
      have d1 : decide ((1000 : Int) ≤ (t.long : Int)) = true := decide_eq_true (by by_cases q : t.long < 1000; exact absurd ⟨hr, q⟩ hok; omega)
      rw [hr] at HRu
      clear hok hr
      go_enter Try.func52, Try.ntmps52
      go_wp2_with fail
      refine (HRu.out _).mono ?_
      rintro e w1 ⟨rfl, rfl⟩
      go_wp2
      go_ret
      exact ⟨rfl, _, HT.out⟩
end Go.Proofs.Ytakjoodlediemaa
