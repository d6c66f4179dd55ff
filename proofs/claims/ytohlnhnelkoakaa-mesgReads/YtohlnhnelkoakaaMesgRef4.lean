/- What the reference's reader tells. -/
import Derived.Test.YtohlnhnelkoakaaMesgRef
import Derived.Test.YtohlnhnelkoakaaPackRef3
namespace Go.Proofs.Ytohlnhnelkoakaa
open Go.RowKit
set_option linter.unusedVariables false

/-- The reference's reader at g: what is not read yet, and the first error. -/
def Rd (w : World) (g : Nat) (l : List UInt8) (e : Nat) : Prop := Holds w g [.string (str l), .int .i64 (e : Int)] 64

theorem Rd.cells {w : World} {g : Nat} {l : List UInt8} {e : Nat} (h : Rd w g l e) : w.cell? ⟨g, 0, none⟩ = some (.string (str l)) ∧ w.cell? ⟨g, 1, none⟩ = some (.int .i64 (e : Int)) ∧ w.frozen? ⟨g, 0, none⟩ = false ∧ w.frozen? ⟨g, 1, none⟩ = false :=
  ⟨Holds.cell h 0 (by simp), Holds.cell h 1 (by simp), Holds.frozen h 0, Holds.frozen h 1⟩
theorem Rd.keep {S : Nat → Prop} {a b : World} {g : Nat} {l : List UInt8} {e : Nat} (h : Rd a g l e) (hk : Keep S a b) (hn : ¬ S g) : Rd b g l e := Holds.keep h hk hn
theorem Rd.sets {w : World} {g : Nat} {l : List UInt8} {e : Nat} (h : Rd w g l e) (l' : List UInt8) (e' : Nat) : Rd ((w.setCell ⟨g, 0, none⟩ (.string (str l'))).setCell ⟨g, 1, none⟩ (.int .i64 (e' : Int))) g l' e' :=
  (Holds.set h 0 (.string (str l')) (by simp)).set 1 (.int .i64 (e' : Int)) (by simp)

/-- What the reader's next number is, what is left, and the error. -/
def rnum (l : List UInt8) (e : Nat) : Nat × List UInt8 × Nat := if e = 0 then Pack.take l else (0, l, e)

set_option maxRecDepth 100000 in
set_option maxHeartbeats 1000000 in
theorem ref04_num (w : World) (g : Nat) (l : List UInt8) (e : Nat) (h : Rd w g l e) (hl : l.length ≤ 1000000000) :
    Calls Try.prog 39 #[.pointer (some ⟨g, 0, none⟩)] w fun e' w' => e' = .returned (.int .i64 ((rnum l e).1 : Int)) ∧ Rd w' g (rnum l e).2.1 (rnum l e).2.2 ∧ Keep (Just g) w w' := by
  have HR := Lib.hid h
  clear h
  obtain ⟨c0, c1, f0, f1⟩ := HR.out.cells
  by_cases he : e = 0
  · subst he
    have HE : Hid (rnum l 0 = Pack.take l) := Lib.hid (by unfold rnum; rw [if_pos rfl])
    go_enter Try.func39, Try.ntmps39
    go_wp2_with fail
    refine (ref01_Take (str l) _ (by rw [str_size]; exact hl)).mono ?_
    rintro e w1 ⟨rfl, hb1⟩
    clear c0 c1 f0 f1
    rw [show (str l).data.toList = l from rfl, ← HE.out]
    have HR := Lib.hid (HR.out.keep (Keep.of_grew hb1 Non) (fun h => h))
    have HG : Hid (Keep (Just g) w w1) := Lib.hid (Keep.of_grew hb1 _)
    clear hb1
    obtain ⟨c0, c1, f0, f1⟩ := HR.out.cells
    generalize hr : rnum l 0 = r
    have HRR := Lib.hid hr
    clear hr
    obtain ⟨r1, r2, r3⟩ := r
    unfold takeV
    go_wp2
    go_ret
    rw [HRR.out]
    exact ⟨rfl, HR.out.sets r2 r3, (HG.out.trans (Keep.setCell _ _ _ _) (fun _ _ h => h)).trans (Keep.setCell _ _ _ _) (fun _ _ h => h)⟩
  · have HE : Hid (rnum l e = (0, l, e)) := Lib.hid (by unfold rnum; rw [if_neg he])
    have hne : ((e : Int) == 0) = false := by rw [beq_eq_false_iff_ne]; omega
    have hne2 : decide ((e : Int) = 0) = false := by simp; exact he
    go_enter Try.func39, Try.ntmps39
    go_wp2
    go_ret
    rw [HE.out]
    exact ⟨rfl, HR.out, Keep.refl _ _⟩

def rid2 (l : List UInt8) (e : Nat) : Mesg.Id × List UInt8 × Nat := (⟨((rnum l e).1 : Int), ((rnum (rnum l e).2.1 (rnum l e).2.2).1 : Int)⟩, (rnum (rnum l e).2.1 (rnum l e).2.2).2.1, (rnum (rnum l e).2.1 (rnum l e).2.2).2.2)

theorem rnum_len (l : List UInt8) (e : Nat) : (rnum l e).2.1.length ≤ l.length := by
  unfold rnum
  by_cases h : e = 0
  · rw [if_pos h]
    rcases Pack.take_cases l with ⟨n, t, ht, hn, hl⟩ | ⟨x, ht, he⟩
    · rw [ht, hl]; simp
    · rw [ht]; simp
  · rw [if_neg h]; exact Nat.le_refl _

set_option maxRecDepth 100000 in
set_option maxHeartbeats 1000000 in
theorem ref04_id (w : World) (g : Nat) (l : List UInt8) (e : Nat) (h : Rd w g l e) (hl : l.length ≤ 1000000000) :
    Calls Try.prog 41 #[.pointer (some ⟨g, 0, none⟩)] w fun e' w' => e' = .returned (idV (rid2 l e).1) ∧ Rd w' g (rid2 l e).2.1 (rid2 l e).2.2 ∧ Keep (Just g) w w' := by
  have hg := Holds.lt h
  have HR := Lib.hid (h.keep (Keep.of_grew (grew_alloc w (.cells #[.int .i64 0, .int .i64 0] 24)) Non) (fun h => h))
  have HK : Hid (Keep (Just g) w (w.alloc (.cells #[.int .i64 0, .int .i64 0] 24))) := Lib.hid (Keep.alloc _ _ _)
  have HZ := Lib.hid (Holds.new w [.int .i64 0, .int .i64 0] 24)
  have HL2 := Lib.hid (Nat.le_trans (rnum_len l e) hl)
  clear h
  unfold rid2 idV
  go_enter Try.func41, Try.ntmps41
  go_wp2_with fail
  refine (ref04_num _ g l e HR.out hl).mono ?_
  rintro e' w1 ⟨rfl, hr1, hk1⟩
  have HR := Lib.hid hr1
  have HZ := Lib.hid (HZ.out.keep hk1 (fun e => by have e : w.heap.size = g := e; omega))
  have HK := Lib.hid (HK.out.trans hk1 (fun _ _ h => h))
  clear hr1 hk1
  go_wp2_with fail
  refine (ref04_num _ g _ _ HR.out HL2.out).mono ?_
  rintro e' w2 ⟨rfl, hr2, hk2⟩
  have HRL := Lib.hid hr2
  have HZ := Lib.hid (HZ.out.keep hk2 (fun e => by have e : w.heap.size = g := e; omega))
  have HK := Lib.hid (HK.out.trans hk2 (fun _ _ h => h))
  clear hr2 hk2
  obtain ⟨z0, z1⟩ := id_cells HZ.out
  have f0 := HZ.out.frozen 0
  have f1 := HZ.out.frozen 1
  generalize hr2 : rnum (rnum l e).2.1 (rnum l e).2.2 = r2 at *
  generalize hr1 : rnum l e = r1 at *
  have HE1 := Lib.hid hr1
  have HE2 := Lib.hid hr2
  clear hr1 hr2
  have HZ3 := Lib.hid ((HZ.out.set 0 (.int .i64 (r1.1 : Int)) (by simp)).set 1 (.int .i64 (r2.1 : Int)) (by simp))
  obtain ⟨t0, t1⟩ := id_cells HZ3.out
  go_wp2
  refine bodyPost_ret (v := .agg #[.int .i64 (r1.1 : Int), .int .i64 (r2.1 : Int)]) (by simp [results, Try.results41, go_sem, t0, t1]) rfl ?_
  have q2 : Keep (Just w.heap.size) w2 ((w2.setCell ⟨w.heap.size, 0, none⟩ (.int .i64 (r1.1 : Int))).setCell ⟨w.heap.size, 1, none⟩ (.int .i64 (r2.1 : Int))) := (Keep.setCell _ _ _ _).trans (Keep.setCell _ _ _ _) (fun _ _ h => h)
  rw [HE1.out]
  rw [HE2.out]
  exact ⟨rfl, HRL.out.keep q2 (fun h => by have h : g = w.heap.size := h; omega), HK.out.trans q2 (fun i hi h => by have h : i = w.heap.size := h; omega)⟩
end Go.Proofs.Ytohlnhnelkoakaa
