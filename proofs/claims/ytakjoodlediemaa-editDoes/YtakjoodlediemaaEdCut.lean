/- Runes are cut by a key. -/
import Derived.Test.YtakjoodlediemaaEdPut
import Derived.Test.YtakjoodlediemaaEdWord
namespace Go.Proofs.Ytakjoodlediemaa
open Go.RowKit
set_option linter.unusedVariables false

set_option maxRecDepth 100000 in
set_option maxHeartbeats 4000000 in
theorem turn_cut {w0 w : World} {g : Nat} {t : Tn} {lv kv av : Value} (h : IsTn w0 w g t lv kv av) (a b : Nat) (h1 : a ≤ b) (h2 : b ≤ t.line.length) (hb : b - a ≤ t.long) (hl : t.line.length ≤ 1000000) (hlo : t.long ≤ 1000000) (hn : t.acts.length ≤ 1000000) :
    Calls Try.prog 53 #[.pointer (some ⟨g, 0, none⟩), .int .i64 a, .int .i64 b] w fun e w' => e = .returned (.tuple #[]) ∧ ∃ av', IsTn w0 w' g (Ed.cut t a b) lv kv av' := by
  have HT := Lib.hid h
  clear h
  obtain ⟨va, vc, hlv⟩ := HT.out.line.shape
  subst hlv
  have hcap : t.line.length ≤ vc := by
    obtain ⟨_, _, e, hc, _⟩ := HT.out.line
    injection e with _ _ e
    omega
  obtain ⟨c0, c1, c2, c3, c4, c5⟩ := HT.out.cells
  obtain ⟨C, hC⟩ : ∃ C, (t.line.take b).drop a = C := ⟨_, rfl⟩
  have hCL : C.length = b - a := by rw [← hC]; exact Ed.slice_length h1 h2
  have HC := Lib.hid hC
  have HCL := Lib.hid hCL
  by_cases hva : vc = a
  · have hva2 : a = vc := hva.symm
    clear hva
    subst hva2
    have HAD : Hid (∀ k (hk : k < C.length), ∃ b0 off, va = some ⟨b0, off, none⟩ ∧ b0 < w0.heap.size ∧ w0.cell? ⟨b0, off + k, none⟩ = some (.int .i64 C[k])) := Lib.hid (fun k hk => by omega)
    clear hC hCL
    go_enter Try.func53, Try.ntmps53
    go_wp2_with fail
    go_loopw [7, 16] (fun s7 i wr => ∃ k : Nat, k ≤ C.length ∧ i = .int .i64 k ∧ ∃ av', IsTn w0 wr g { t with acts := t.acts ++ Ed.cutActs a (C.take k) } (.slice va t.line.length a) kv av') (fun _ i _ => C.length - (intOf i).toNat)
    case atStart => exact ⟨0, by omega, rfl, av, by rw [List.take_zero]; unfold Ed.cutActs; rw [List.map_nil, List.append_nil]; exact HT.out⟩
    case round =>
      obtain ⟨k, hk, rfl, av1, hT1⟩ := hrel
      have HT1 := Lib.hid hT1
      clear hT1 c0 c1 c2 c3 c4 c5
      by_cases hlt : k < C.length
      · exfalso; have := HCL.out; omega
      · have d1 : decide ((k : Int) < ((b - a : Nat) : Int)) = false := decide_eq_false (by have := HCL.out; omega)
        have dn : decide (k < b - a) = false := decide_eq_false (by have := HCL.out; omega)
        have hke : C.take k = C := List.take_of_length_le (by omega)
        rw [hke] at HT1
        have HT8 := Lib.hid (HT1.out.set (t' := { t with acts := t.acts ++ Ed.cutActs a C, at' := a }) (kv' := kv) 1 (.int .i64 a) (by omega) (by simp [tnL]) rfl HT1.out.kill rfl)
        have hcast : (((t.long - (b - a) : Nat)) : Int) = (t.long : Int) - ((b : Int) - (a : Int)) := by omega
        have HT9 := Lib.hid (HT8.out.set (t' := { t with acts := t.acts ++ Ed.cutActs a C, at' := a, long := t.long - (b - a) }) (kv' := kv) 2 (.int .i64 ((t.long : Int) - ((b : Int) - (a : Int)))) (by omega) (by unfold tnL; simp only [List.set_cons_succ, List.set_cons_zero]; rw [hcast]) rfl HT8.out.kill rfl)
        clear hke hcast
        obtain ⟨_, c1, _, _, _, _⟩ := HT1.out.cells
        obtain ⟨_, _, c2, _, _, _⟩ := HT8.out.cells
        have f1 := HT1.out.frozen 1
        have f2 := HT8.out.frozen 2
        simp only at c1 c2
        go_wp2
        first | go_end0 | skip
        have HF : Ed.cut t a b = { t with acts := t.acts ++ Ed.cutActs a C, at' := a, long := t.long - (b - a) } := by unfold Ed.cut; rw [HC.out]
        rw [HF]
        exact ⟨rfl, av1, HT9.out⟩
  · have HAD : Hid (∀ k (hk : k < C.length), ∃ b0 off, Option.map (fun x : Addr => x.add a) va = some ⟨b0, off, none⟩ ∧ b0 < w0.heap.size ∧ w0.cell? ⟨b0, off + k, none⟩ = some (.int .i64 C[k])) := Lib.hid (fun k hk => by
      obtain ⟨b0, off, e, hb0, hc⟩ := slice_cell HT.out.line (k := a + k) (by omega)
      refine ⟨b0, off + a, by rw [e]; rw [Option.map_some]; congr 1; unfold Addr.add; split <;> simp_all, hb0, ?_⟩
      rw [Nat.add_assoc, hc]
      congr 2
      subst hC
      rw [List.getElem_drop, List.getElem_take])
    clear hC hCL
    go_enter Try.func53, Try.ntmps53
    go_wp2_with fail
    go_loopw [7, 16] (fun s7 i wr => ∃ k : Nat, k ≤ C.length ∧ i = .int .i64 k ∧ ∃ av', IsTn w0 wr g { t with acts := t.acts ++ Ed.cutActs a (C.take k) } (.slice va t.line.length vc) kv av') (fun _ i _ => C.length - (intOf i).toNat)
    case atStart => exact ⟨0, by omega, rfl, av, by rw [List.take_zero]; unfold Ed.cutActs; rw [List.map_nil, List.append_nil]; exact HT.out⟩
    case round =>
      obtain ⟨k, hk, rfl, av1, hT1⟩ := hrel
      have HT1 := Lib.hid hT1
      clear hT1 c0 c1 c2 c3 c4 c5
      by_cases hlt : k < C.length
      · have d1 : decide ((k : Int) < ((b - a : Nat) : Int)) = true := decide_eq_true (by have := HCL.out; omega)
        have hia : (k : Int) < ((b - a : Nat) : Int) := by have := HCL.out; omega
        have dn : decide (k < b - a) = true := decide_eq_true (by have := HCL.out; omega)
        have hkl : k ≤ 1000000 := by have := HCL.out; omega
        have HKL := Lib.hid hlt
        obtain ⟨b0, off, e3, hb0, hc⟩ := HAD.out k hlt
        have HTK : Hid (Ed.cutActs a (C.take (k + 1)) = Ed.cutActs a (C.take k) ++ [⟨2, a, C[k]⟩]) := Lib.hid (by unfold Ed.cutActs; rw [List.take_succ_eq_append_getElem hlt, List.map_append]; rfl)
        have hc1 : wr.cell? ⟨b0, off + k, none⟩ = some (.int .i64 C[k]) := (HT1.out.bel.cell (p := ⟨b0, off + k, none⟩) hb0).trans hc
        clear hc hlt
        generalize C[k] = r at hc1 HTK
        rw [e3]
        obtain ⟨aa, ac, rfl⟩ := HT1.out.acts.shape
        simp only at HT1
        have hN : (t.acts ++ Ed.cutActs a (C.take k)).length ≤ 2000000 := by
          rw [List.length_append]
          unfold Ed.cutActs
          rw [List.length_map, List.length_take]
          omega
        have HTF : Hid (t.acts ++ Ed.cutActs a (C.take (k + 1)) = (t.acts ++ Ed.cutActs a (C.take k)) ++ [⟨2, a, r⟩]) := Lib.hid (by rw [HTK.out, List.append_assoc])
        generalize t.acts ++ Ed.cutActs a (C.take k) = A at HT1 hN HTF ⊢
        have HN := Lib.hid hN
        clear hN
        have HOW : Hid (Owns wr 70 3 (.slice aa A.length ac) A.length (actCells A)) := Lib.hid HT1.out.acts
        obtain ⟨c0, c1, c2, c3, c4, c5⟩ := HT1.out.cells
        simp only at c0 c1 c2 c3 c4 c5
        have x5 : (wr.alloc (.cells #[.int .i64 2, .int .i64 a, .int .i64 r] 70)).cell? ⟨g, 5, none⟩ = some (.slice aa A.length ac) := (HT1.out.grew (grew_alloc wr _)).cells.2.2.2.2.2
        have HX6 : Hid (∀ w6, Keep (At (.slice aa A.length ac)) wr w6 → w6.cell? ⟨g, 5, none⟩ = some (.slice aa A.length ac) ∧ w6.frozen? ⟨g, 5, none⟩ = false) := Lib.hid (fun w6 hk => by
          have hh := HT1.out.box.keep hk (fun e => (HT1.out.apart g e).2 rfl)
          exact ⟨hh.cell 5 (by simp [tnL]), hh.frozen 5⟩)
        have HONE : Hid (∀ u ∈ [Value.int .i64 2, .int .i64 a, .int .i64 r], u.oneCell' = true) := Lib.hid (by intro u hu; simp at hu; rcases hu with rfl | rfl | rfl <;> rfl)
        go_wp2_with ((at_builtin; refine wp_append_lit rfl (.tmp 24) (.tmp 28) rfl Try.underlying30 info_act rfl (by decide) (by decide) (.slice aa A.length ac) A.length (actCells A) rfl HOW.out 1 [.int .i64 2, .int .i64 a, .int .i64 r] _ rfl rfl rfl HONE.out (by have := HN.out; omega) ?_; intro v' w6 ho2 hk2 hn2; obtain ⟨ua, uc, e5⟩ := owns_form ho2; subst e5; have HM6 := Lib.hid (And.intro ho2 (And.intro hk2 hn2)); obtain ⟨y5, yf⟩ := HX6.out w6 hk2; clear ho2 hk2 hn2))
        have HT7 := Lib.hid (HT1.out.more (a := ⟨2, a, r⟩) (t' := { t with acts := A ++ [⟨2, a, r⟩] }) HM6.out.1 HM6.out.2.1 HM6.out.2.2 rfl)
        go_wp2
        go_roundw
        case rel => exact ⟨k + 1, by have := HKL.out; omega, by go_num, _, by rw [HTF.out]; exact HT7.out⟩
        case measure => simp [intOf]; have := HKL.out; omega
      · have d1 : decide ((k : Int) < ((b - a : Nat) : Int)) = false := decide_eq_false (by have := HCL.out; omega)
        have dn : decide (k < b - a) = false := decide_eq_false (by have := HCL.out; omega)
        have hke : C.take k = C := List.take_of_length_le (by omega)
        rw [hke] at HT1
        have HT8 := Lib.hid (HT1.out.set (t' := { t with acts := t.acts ++ Ed.cutActs a C, at' := a }) (kv' := kv) 1 (.int .i64 a) (by omega) (by simp [tnL]) rfl HT1.out.kill rfl)
        have hcast : (((t.long - (b - a) : Nat)) : Int) = (t.long : Int) - ((b : Int) - (a : Int)) := by omega
        have HT9 := Lib.hid (HT8.out.set (t' := { t with acts := t.acts ++ Ed.cutActs a C, at' := a, long := t.long - (b - a) }) (kv' := kv) 2 (.int .i64 ((t.long : Int) - ((b : Int) - (a : Int)))) (by omega) (by unfold tnL; simp only [List.set_cons_succ, List.set_cons_zero]; rw [hcast]) rfl HT8.out.kill rfl)
        clear hke hcast
        obtain ⟨_, c1, _, _, _, _⟩ := HT1.out.cells
        obtain ⟨_, _, c2, _, _, _⟩ := HT8.out.cells
        have f1 := HT1.out.frozen 1
        have f2 := HT8.out.frozen 2
        simp only at c1 c2
        go_wp2
        first | go_end0 | skip
        have HF : Ed.cut t a b = { t with acts := t.acts ++ Ed.cutActs a C, at' := a, long := t.long - (b - a) } := by unfold Ed.cut; rw [HC.out]
        rw [HF]
        exact ⟨rfl, av1, HT9.out⟩
end Go.Proofs.Ytakjoodlediemaa
