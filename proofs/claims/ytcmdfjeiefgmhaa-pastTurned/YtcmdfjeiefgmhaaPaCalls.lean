/- Calls on logs and on what knows where carets are, all of these the call's own. -/
import Derived.Test.YtcmdfjeiefgmhaaPaPre
import Derived.Test.YtcmdfjeiefgmhaaPwMove2
namespace Go.Proofs.Ytcmdfjeiefgmhaa
open Go.RowKit Carets
set_option linter.unusedVariables false

abbrev PLog (p : Nat) (L : List ByteArray) : Th := LogV 121 p L

theorem m_New {Ts : List Th} {w0 w : World} (h : Mine Ts w0 w) : Calls Try.prog 35 #[] w fun e w' => ∃ p, e = .returned (.pointer (some ⟨p, 0, none⟩)) ∧ Mine (PLog p [] :: Ts) w0 w' :=
  (past_New w).mono fun e w' ⟨k1, k2, k3⟩ => ⟨_, k1, h.new (LogV.good _ _ _) k2 (fun k hk => Nat.le_of_eq hk.symm) k3⟩
theorem m_Add {Ts : List Th} {w0 w : World} {p : Nat} {L : List ByteArray} (h : Mine (PLog p L :: Ts) w0 w) (hL : L.length ≤ 10000) (e : Int) (s : ByteArray) :
    Calls Try.prog 37 #[.pointer (some ⟨p, 0, none⟩), .int .i64 e, .string s] w fun r w' => r = .returned (.int .i64 (Past.add L e s).1) ∧ Mine (PLog p (Past.add L e s).2 :: Ts) w0 w' :=
  h.call (LogV.good _ _ _) (fun F hF => past_Add hF hL e s)
theorem m_Get {Ts : List Th} {w0 w : World} {p : Nat} {L : List ByteArray} (h : Mine (PLog p L :: Ts) w0 w) (e : Int) :
    Calls Try.prog 39 #[.pointer (some ⟨p, 0, none⟩), .int .i64 e] w fun r w' => r = .returned (.tuple #[.string (Past.line L e), .bool (Past.has L e)]) ∧ w = w' := by
  obtain ⟨F, hF, _⟩ := h.first
  exact past_Get hF e
theorem m_All {Ts : List Th} {w0 w : World} {p : Nat} {L : List ByteArray} (h : Mine (PLog p L :: Ts) w0 w) (hL : L.length ≤ 10000) :
    Calls Try.prog 42 #[.pointer (some ⟨p, 0, none⟩)] w fun r w' => ∃ v, r = .returned v ∧ Mine (TextsV v L :: PLog p L :: Ts) w0 w' ∧ Below w.heap.size w w' := by
  obtain ⟨F, hF, _⟩ := h.first
  exact (past_All hF hL).mono fun r w' ⟨v, G, k1, k2, k3, k4⟩ => ⟨v, k1, h.new (TextsV.good _ _) k2 k3 k4, k4⟩
theorem Mine.texts {Ts : List Th} {w0 w : World} {v : Value} {L : List ByteArray} (h : Mine (TextsV v L :: Ts) w0 w) : SliceS w v L := by
  obtain ⟨F, hF, _⟩ := h.first
  exact hF.slice
theorem m_Nowhere {Ts : List Th} {w0 w : World} (h : Mine Ts w0 w) (n : Nat) (hn : 1 ≤ n ∧ n ≤ 16) : Calls Try.prog 45 #[.int .i64 n] w fun e w' => ∃ q, e = .returned (.tuple #[.pointer (some ⟨q, 0, none⟩), .int .i64 0]) ∧ Mine (WhereV q (List.replicate n noCar) :: Ts) w0 w' :=
  (past_Nowhere_yes n hn w).mono fun e w' ⟨k1, k2, k3⟩ => ⟨_, k1, h.new (WhereV.good _ _) k2 (fun k hk => Nat.le_of_eq hk.symm) k3⟩
theorem m_Move {Ts : List Th} {w0 w : World} {q : Nat} {L : List Car} (h : Mine (WhereV q L :: Ts) w0 w) (m : Mesg.Msg) (v : Value) (hv : SliceI w v m.know) (hm : m.know.length ≤ 1000000000) :
    Calls Try.prog 47 #[.pointer (some ⟨q, 0, none⟩), msgV m v] w fun e w' => e = .returned (.int .i64 (Carets.move L m).1) ∧ Mine (WhereV q (Carets.move L m).2 :: Ts) w0 w' :=
  h.call (WhereV.good _ _) (fun F hF => past_Move hF m v hv hm)
theorem m_At {Ts : List Th} {w0 w : World} {q : Nat} {L : List Car} (h : Mine (WhereV q L :: Ts) w0 w) (s e : Int) :
    Calls Try.prog 49 #[.pointer (some ⟨q, 0, none⟩), .int .i64 s, .int .i64 e] w fun r w' => r = .returned (.tuple #[.agg #[.int .i64 (atRef L s e).1, .int .i64 (atRef L s e).2], .bool (isAt L s e)]) ∧ Mine (WhereV q L :: Ts) w0 w' ∧ Below w.heap.size w w' := by
  obtain ⟨F, hF, _⟩ := h.first
  exact (past_At hF s e).mono fun r w' ⟨k1, k2⟩ => ⟨k1, h.grew k2, k2⟩
theorem m_Sites {Ts : List Th} {w0 w : World} {q : Nat} {L : List Car} (h : Mine (WhereV q L :: Ts) w0 w) (e : Int) :
    Calls Try.prog 51 #[.pointer (some ⟨q, 0, none⟩), .int .i64 e] w fun r w' => ∃ v, r = .returned v ∧ SliceI w' v (sitesK L e L.length) ∧ Mine (WhereV q L :: Ts) w0 w' ∧ Below w.heap.size w w' := by
  obtain ⟨F, hF, _⟩ := h.first
  exact (past_Sites hF e).mono fun r w' ⟨v, k1, k2, k3⟩ => ⟨v, k1, k2, h.grew k3, k3⟩
theorem text2 (w : World) (a b : ByteArray) : SliceS (w.alloc (.cells #[.string a, .string b] 9)) (.slice (some ⟨w.heap.size, 0, none⟩) 2 2) [a, b] :=
  ⟨_, 2, rfl, by simp, .inr ⟨w.heap.size, 0, rfl, by simp, fun i hi => by
    rw [cell_of_row _ _ _ _ _ _ (heap_alloc_new _ _)]
    have hi2 : i < 2 := by simpa using hi
    rcases (by omega : i = 0 ∨ i = 1) with rfl | rfl <;> rfl⟩⟩
theorem text1 (w : World) (a : ByteArray) : SliceS (w.alloc (.cells #[.string a] 9)) (.slice (some ⟨w.heap.size, 0, none⟩) 1 1) [a] :=
  ⟨_, 1, rfl, by simp, .inr ⟨w.heap.size, 0, rfl, by simp, fun i hi => by
    rw [cell_of_row _ _ _ _ _ _ (heap_alloc_new _ _)]
    have hi2 : i < 1 := by simpa using hi
    obtain rfl : i = 0 := by omega
    rfl⟩⟩
theorem int1 (w : World) (x : Int) : SliceI (w.alloc (.cells #[.int .i64 x] 3)) (.slice (some ⟨w.heap.size, 0, none⟩) 1 1) [x] :=
  ⟨_, 1, rfl, by simp, .inr ⟨w.heap.size, 0, rfl, by simp, fun i hi => by
    rw [cell_of_row _ _ _ _ _ _ (heap_alloc_new _ _)]
    have hi2 : i < 1 := by simpa using hi
    obtain rfl : i = 0 := by omega
    rfl⟩⟩
end Go.Proofs.Ytcmdfjeiefgmhaa
