/- A new front. -/
import Derived.Test.YtgbikhpmicddkaaFrNew
namespace Go.Proofs.Ytgbikhpmicddkaa
open Go.RowKit
set_option linter.unusedVariables false

theorem info_vec : (Try.prog.info? 37).map (fun i => (i.zero, i.size, i.bytes)) = some (some (.slice none 0 0), 1, 24) := by kernel_rfl
theorem vecs_made (n : Nat) (w : World) (hn : n ≤ 1000) :
    ∃ W, (Instr.makeSlice 45 (.int .i64 (n : Int)) (.int .i64 (n : Int))).run Try.prog w = .ok (.slice (some ⟨w.heap.size, 0, none⟩) n n) W
    ∧ Holds W w.heap.size (List.replicate n (.slice none 0 0)) 37 ∧ Below w.heap.size w W ∧ W.heap.size = w.heap.size + 1 := by
  obtain ⟨i0, hi, hz0, hz1, hz2⟩ := info_parts info_vec
  have h := run_make (P := Try.prog) w 45 37 i0 (.slice none 0 0) Try.underlying45 hi hz0 .i64 .i64 (n : Int) (n : Int) (by omega) (by omega) (by rw [hz2]; omega) (by omega)
  rw [Int.toNat_natCast] at h
  refine ⟨_, h, ?_, grew_alloc _ _, Array.size_push _⟩
  have e : madeCells (Value.slice none 0 0).cells (n * i0.size) = (List.replicate n (Value.slice none 0 0)).toArray := by
    rw [hz1, Nat.mul_one, ← toList_madeCells_one]
    rfl
  rw [e]
  exact Holds.new w _ _

/-- Where New's loop stands. -/
def NewF (w : World) (p rb n k : Nat) (wr : World) : Prop := ∃ vs : List Value, ∃ hl : vs.length = n, Holds wr rb vs 37 ∧ (∀ u ∈ vs, ∃ a n c, u = .slice a n c) ∧ (∀ i (h : i < n), i < k → SliceI wr (vs[i]'(by omega)) (List.replicate n 0)) ∧ Holds wr p [.slice (some ⟨rb, 0, none⟩) n n] 47 ∧ Below w.heap.size w wr
theorem NewF.step {w wr wi : World} {p rb n k : Nat} (h : NewF w p rb n k wr) (hb : Below wr.heap.size wr wi) (hk : k < n) {v : Value} (hv : SliceI wi v (List.replicate n 0)) (hp : p ≠ rb) (hr : w.heap.size ≤ rb) : NewF w p rb n (k + 1) (wi.setCell ⟨rb, k, none⟩ v) := by
  obtain ⟨vs, hl, h1, h2, h3, h4, h5⟩ := h
  have h1 := h1.keep (Keep.of_grew hb Non) (fun h => h)
  have h4 := h4.keep (Keep.of_grew hb Non) (fun h => h)
  have hkp : Keep (Just rb) wi (wi.setCell ⟨rb, k, none⟩ v) := Keep.setCell wi rb k v
  have hle : 1 ≤ (List.replicate n (0 : Int)).length := by rw [List.length_replicate]; omega
  refine ⟨vs.set k v, by rw [List.length_set]; exact hl, h1.set k v (by omega), fun u hu => ?_, fun i hi hik => ?_, h4.keep hkp (fun e => hp e), (grew h5 hb).trans (hkp.below (grew h5 hb).size (fun i e => by have e : i = rb := e; rw [e]; exact hr))⟩
  · rcases List.mem_or_eq_of_mem_set hu with hu | rfl
    · exact h2 u hu
    · obtain ⟨a, c, e⟩ := hv.shape
      exact ⟨a, _, c, e⟩
  · rw [List.getElem_set]
    split
    · exact hv.keep hkp (fun g hg e => hv.no_row hle h1 h2 (hg.trans (congrArg some e)))
    · have hv2 := (h3 i hi (by omega)).below hb
      exact hv2.keep hkp (fun g hg e => hv2.no_row hle h1 h2 (hg.trans (congrArg some e)))
theorem NewF.front {w wr : World} {p rb n : Nat} (h : NewF w p rb n n wr) (hn : 1 ≤ n ∧ n ≤ 16) : ∃ vs, IsFrontW wr p rb n vs (List.replicate n (List.replicate n 0)) := by
  obtain ⟨vs, hl, h1, h2, h3, h4, h5⟩ := h
  refine ⟨vs, ⟨by rw [List.length_replicate]; exact h4, h1, by rw [List.length_replicate]; exact hl, fun i hi => ?_, fun r hr => ?_, by rw [List.length_replicate]; exact hn⟩⟩
  · rw [List.length_replicate] at hi
    rw [List.getElem_replicate]
    exact h3 i hi hi
  · rw [List.eq_of_mem_replicate hr, List.length_replicate, List.length_replicate]
    refine ⟨Vecs.may_of (by rw [List.length_replicate]; exact hn.1) (by rw [List.length_replicate]; exact hn.2) (fun k hk => ?_), rfl⟩
    rw [List.getElem_replicate]
    decide

set_option maxRecDepth 100000 in
set_option maxHeartbeats 2000000 in
theorem front_New_yes (n : Nat) (w : World) (hn : 1 ≤ n ∧ n ≤ 16) : Calls Try.prog 4 #[.int .i64 n] w fun e w' => ∃ p rb vs, e = .returned (.tuple #[.pointer (some ⟨p, 0, none⟩), .int .i64 0]) ∧ IsFrontW w' p rb n vs (List.replicate n (List.replicate n 0)) ∧ (w.heap.size ≤ p ∧ w.heap.size ≤ rb) ∧ Below w.heap.size w w' := by
  have HN : Hid (∀ W, Calls Try.prog 18 #[.int .i64 n] W fun e w' => ∃ r, e = .returned r ∧ OutI w' r (List.replicate n 0, 0) ∧ Below W.heap.size W w') := Lib.hid (fun W => by
    have := vec_New (n : Int) W
    rwa [show newR (n : Int) = (List.replicate n 0, 0) from by unfold newR; rw [if_pos (by omega)]; rfl] at this)
  have HNN := Lib.hid hn
  go_enter Try.func4, Try.ntmps4
  go_wp2_with fail
  refine (HN.out _).mono ?_
  rintro e w1 ⟨r, rfl, ⟨v, rfl, hs⟩, hb⟩
  obtain ⟨va, vc, e⟩ := hs.shape
  subst e
  have HB := Lib.hid hb
  clear hs hb
  obtain ⟨W, hmake, hrow, hbw, hsz⟩ := vecs_made n w1 (by omega)
  have HR := Lib.hid hrow
  have HBW := Lib.hid hbw
  have HSZ := Lib.hid hsz
  clear hrow hbw hsz
  have HP := Lib.hid (Holds.new W [.slice (some ⟨w1.heap.size, 0, none⟩) n n] 47)
  have HL : Hid (NewF w W.heap.size w1.heap.size n 0 (W.alloc (.cells #[.slice (some ⟨w1.heap.size, 0, none⟩) n n] 47))) := Lib.hid ⟨List.replicate n (.slice none 0 0), List.length_replicate, HR.out.keep (Keep.alloc Non W _) (fun h => h), fun u hu => ⟨none, 0, 0, List.eq_of_mem_replicate hu⟩, fun i _ h => by omega, HP.out, grew (grew HB.out HBW.out) (grew_alloc _ _)⟩
  have HPR : Hid (W.heap.size ≠ w1.heap.size ∧ w.heap.size ≤ w1.heap.size ∧ w.heap.size ≤ W.heap.size) := Lib.hid ⟨by have := HSZ.out; omega, HB.out.size, by have := HSZ.out; have := HB.out.size; omega⟩
  have c0 := HP.out.cell 0 (by simp)
  simp only [List.getElem_cons_zero] at c0
  go_wp2_with fail
  clear hmake c0
  generalize W.alloc (.cells #[.slice (some ⟨w1.heap.size, 0, none⟩) n n] 47) = W3 at *
  generalize W.heap.size = p at *
  generalize w1.heap.size = rb at *
  go_loopw [24] (fun i wr => ∃ k : Nat, k ≤ n ∧ i = .int .i64 k ∧ NewF w p rb n k wr) (fun i _ => n - (intOf i).toNat)
  case atStart => exact ⟨0, by omega, rfl, HL.out⟩
  case round =>
    obtain ⟨k, hk, rfl, hF⟩ := hrel
    have HF := Lib.hid hF
    clear hF
    by_cases hlt : k < n
    · have d1 : decide ((k : Int) < (n : Int)) = true := decide_eq_true (by omega)
      have hia : (k : Int) < (n : Int) := by omega
      obtain ⟨vs, hl, h1, h2, h3, h4, h5⟩ := HF.out
      have c0 := h4.cell 0 (by simp)
      simp only [List.getElem_cons_zero] at c0
      have HH1 := Lib.hid h1
      have HH4 := Lib.hid h4
      have HL2 := Lib.hid hl
      clear h1 h2 h3 h4 h5 hl
      go_wp2_with fail
      go_region_held3 (fun w' => w'.cell? ⟨p, 0, none⟩ = some (.slice (some ⟨rb, 0, none⟩) n n))
        (first | exact c0 | exact c5 | exact (World.cell?_setCell_other _ _ _ _ (fun h => HPR.out.1 (congrArg Addr.block h).symm)).trans c5)
        (first
          | (go_at_call 18; refine (HN.out _).mono ?_; rintro e wi ⟨r5, rfl, ⟨v5, rfl, hs5⟩, hb5⟩; have HB5 := Lib.hid (grew (grew_drew _) hb5); have HS5 := Lib.hid hs5; obtain ⟨va5, vc5, e5⟩ := hs5.shape; subst e5; have c5 : wi.cell? ⟨p, 0, none⟩ = some (.slice (some ⟨rb, 0, none⟩) n n) := (HB5.out.cell (p := ⟨p, 0, none⟩) HH4.out.lt).trans c0; have hk5 := HH1.out.keep (Keep.of_grew HB5.out Non) (fun h => h); have c6 := hk5.cell k (by rw [HL2.out]; exact hlt); have f6 := hk5.frozen k; clear hk5 hs5 hb5))
      have HF2 := Lib.hid (HF.out.step HB5.out hlt HS5.out HPR.out.1 HPR.out.2.1)
      rw [List.length_replicate] at HF2
      go_wp2
      go_roundw
      case rel => exact ⟨k + 1, by omega, by go_num, HF2.out⟩
      case measure => simp [intOf]; omega
    · have d1 : decide ((k : Int) < (n : Int)) = false := decide_eq_false (by omega)
      obtain rfl : k = n := by omega
      go_wp2
      go_ret2
      obtain ⟨vs, hf⟩ := HF.out.front HNN.out
      obtain ⟨_, _, _, _, _, _, hb⟩ := HF.out
      exact ⟨p, rb, vs, rfl, hf, ⟨HPR.out.2.2, HPR.out.2.1⟩, hb⟩
end Go.Proofs.Ytgbikhpmicddkaa
