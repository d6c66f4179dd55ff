/- A line with room at one place. -/
import Derived.Test.YtakjoodlediemaaEdMem
import Derived.Deep.RegionWith
import Derived.StillTailTactics
import Derived.Laws.CopyRow
namespace Go.Proofs.Ytakjoodlediemaa
open Go.RowKit
set_option linter.unusedVariables false

/-- 'copy' into a row, of elements of whatever size. -/
theorem run_copy_num (w : World) (ty : TypeId) (g o dLen dCap : Nat) (a : Addr) (sLen sCap : Nat) (cur : Array Value) (cs : List Value)
    (hg : w.heap[g]? = some (.cells cur 3 (0, 0))) (hn : cs.length = Nat.min sLen dLen)
    (hsrc : ∀ j v, cs[j]? = some v → w.cell? (a.add j) = some v) (hfit : o + cs.length ≤ cur.size) (h1 : ∀ v ∈ cs, v.oneCell' = true) :
    (Builtin.copy_ #[22, 22] ty #[.slice (some ⟨g, o, none⟩) dLen dCap, .slice (some a) sLen sCap]).run Try.prog w =
      .ok (goInt (Nat.min sLen dLen)) (w.setRow g (cur.toList.take o ++ cs ++ cur.toList.drop (o + cs.length)).toArray) := by
  have hl := run_loadCells_list (P := Try.prog) w a cs hsrc
  have hst := run_storeCells_at Try.prog g o 3 cs 0 cur w hg (by simpa using hfit) h1
  obtain ⟨i0, hi, hz0, hz1, hz2⟩ := info_parts info_i64
  simp [Builtin.copy_, run_underlying Try.underlying22, Builtin.lenOf, Builtin.firstCells, sizeOf, typeInfo, hi, hz1, ← hn, hl, hst]
theorem holds_row {w : World} {g : Nat} {cs : List Value} {t : TypeId} (h : Holds w g cs t) (ds : List Value) : Holds (w.setRow g ds.toArray) g ds t ∧ Keep (Just g) w (w.setRow g ds.toArray) := by
  have h1 := setRow_heap w g cs.toArray ds.toArray t (0, 0) h
  refine ⟨h1, rfl, rfl, rfl, by simp [World.setRow], fun k hk hn => ?_⟩
  have hn : k ≠ g := hn
  simp [World.setRow, Array.getElem?_modify, Ne.symm hn]

/-- A gap at g since w0, its row at r. -/
structure IsGap (w0 w : World) (g r : Nat) (R : List Int) (a b n : Nat) : Prop where
  box : Holds w g [.slice (some ⟨r, 0, none⟩) n n, .int .i64 a, .int .i64 b] 77
  row : Holds w r (intCells R) 3
  len : R.length = n
  ab : a ≤ b
  bn : b ≤ n
  ne : g ≠ r
  newg : w0.heap.size ≤ g
  newr : w0.heap.size ≤ r
  bel : Below w0.heap.size w0 w
theorem IsGap.grew {w0 w w' : World} {g r : Nat} {R : List Int} {a b n : Nat} (h : IsGap w0 w g r R a b n) (hb : Below w.heap.size w w') : IsGap w0 w' g r R a b n :=
  ⟨h.box.keep (Keep.of_grew hb Non) (fun h => h), h.row.keep (Keep.of_grew hb Non) (fun h => h), h.len, h.ab, h.bn, h.ne, h.newg, h.newr, h.bel.trans (Below.mono hb h.bel.size)⟩
/-- A place is set, and what is there is the same. -/
theorem IsGap.set {w0 w : World} {g r : Nat} {R : List Int} {a b n a' b' : Nat} (h : IsGap w0 w g r R a b n) (W : World) (hW : Holds W g [.slice (some ⟨r, 0, none⟩) n n, .int .i64 a', .int .i64 b'] 77) (hk : Keep (Just g) w W) (hab : a' ≤ b') (hbn : b' ≤ n) : IsGap w0 W g r R a' b' n :=
  ⟨hW, h.row.keep hk (fun e => h.ne (Eq.symm e)), h.len, hab, hbn, h.ne, h.newg, h.newr, h.bel.trans (hk.below h.bel.size (fun i e => by have e : i = g := e; rw [e]; exact h.newg))⟩
theorem IsGap.cells {w0 w : World} {g r : Nat} {R : List Int} {a b n : Nat} (h : IsGap w0 w g r R a b n) : w.cell? ⟨g, 0, none⟩ = some (.slice (some ⟨r, 0, none⟩) n n) ∧ w.cell? ⟨g, 1, none⟩ = some (.int .i64 a) ∧ w.cell? ⟨g, 2, none⟩ = some (.int .i64 b) ∧ w.frozen? ⟨g, 1, none⟩ = false ∧ w.frozen? ⟨g, 2, none⟩ = false :=
  ⟨h.box.cell 0 (by simp), h.box.cell 1 (by simp), h.box.cell 2 (by simp), h.box.frozen 1, h.box.frozen 2⟩
/-- The numbers of a part of the row. -/
theorem IsGap.src {w0 w : World} {g r : Nat} {R : List Int} {a b n : Nat} (h : IsGap w0 w g r R a b n) (o k : Nat) (ho : o + k ≤ n) : ∀ j v, (intCells ((R.take (o + k)).drop o))[j]? = some v → w.cell? ((⟨r, o, none⟩ : Addr).add j) = some v := by
  intro j v hv
  have hl : ((R.take (o + k)).drop o).length = k := by rw [List.length_drop, List.length_take, h.len]; omega
  have hj : j < k := by
    have := (List.getElem?_eq_some_iff.1 hv).1
    rw [intCells_len, hl] at this
    exact this
  rw [show (⟨r, o, none⟩ : Addr).add j = ⟨r, o + j, none⟩ from by unfold Addr.add; split <;> simp_all]
  rw [h.row.cell (o + j) (by rw [intCells_len, h.len]; omega)]
  rw [← hv]
  unfold intCells
  rw [List.getElem?_map, List.getElem?_drop, List.getElem?_take, if_pos (by omega), List.getElem_map, List.getElem?_eq_getElem (by rw [h.len]; omega)]
  rfl

def GR (g r : Nat) : Nat → Prop := fun i => i = g ∨ i = r
theorem gap_copy {w0 w : World} {g r : Nat} {R : List Int} {a b n : Nat} (h : IsGap w0 w g r R a b n) (o p k : Nat) (ho : o + k ≤ n) (hp : p + k ≤ n) :
    ∃ W1 u, (∀ ty dc sc, (Builtin.copy_ #[22, 22] ty #[.slice (some ⟨r, o, none⟩) k dc, .slice (some ⟨r, p, none⟩) k sc]).run Try.prog w.drew = .ok u W1) ∧ u = .int .i64 k ∧ IsGap w0 W1 g r (R.take o ++ ((R.take (p + k)).drop p ++ R.drop (o + k))) a b n ∧ Keep (GR g r) w W1 := by
  have hcs : (intCells ((R.take (p + k)).drop p)).length = k := by rw [intCells_len, List.length_drop, List.length_take, h.len]; omega
  have hd : IsGap w0 w.drew g r R a b n := h.grew (grew_drew w)
  refine ⟨_, _, fun ty dc sc => run_copy_num w.drew ty r o k dc ⟨r, p, none⟩ k sc (intCells R).toArray (intCells ((R.take (p + k)).drop p)) hd.row (by rw [hcs]; simp) (fun j v hv => hd.src p k hp j v hv) (by rw [hcs]; simp [intCells]; have := h.len; omega) (intCells_one _), by rw [show Nat.min k k = k from Nat.min_self k]; rfl, ?_⟩
  have e : (intCells R).toArray.toList.take o ++ intCells ((R.take (p + k)).drop p) ++ (intCells R).toArray.toList.drop (o + (intCells ((R.take (p + k)).drop p)).length) = intCells (R.take o ++ ((R.take (p + k)).drop p ++ R.drop (o + k))) := by
    rw [hcs]
    unfold intCells
    simp [List.map_take, List.map_drop]
  rw [e]
  obtain ⟨h1, h2⟩ := holds_row (w := w.drew) hd.row (intCells (R.take o ++ ((R.take (p + k)).drop p ++ R.drop (o + k))))
  refine ⟨⟨hd.box.keep h2 h.ne, h1, ?_, h.ab, h.bn, h.ne, h.newg, h.newr, hd.bel.trans (h2.below hd.bel.size (fun i e => by have e : i = r := e; rw [e]; exact h.newr))⟩, (Keep.of_grew (grew_drew w) (GR g r)).trans (h2.more (fun i _ e => Or.inr e)) (fun i _ e => e)⟩
  simp only [List.length_append, List.length_take, List.length_drop, h.len]
  omega
/-- What region four leaves. -/
theorem IsGap.moved {w0 w : World} {g r : Nat} {R : List Int} {a b n a' b' : Nat} (h : IsGap w0 w g r R a b n) {x y : Int} (hx : x = (a' : Int)) (hy : y = (b' : Int)) (hab : a' ≤ b') (hbn : b' ≤ n) : IsGap w0 ((w.setCell ⟨g, 1, none⟩ (.int .i64 x)).setCell ⟨g, 2, none⟩ (.int .i64 y)) g r R a' b' n := by
  subst hx
  subst hy
  refine h.set _ ?_ ((Keep.setCell w g 1 _).trans (Keep.setCell _ g 2 _) (fun i _ e => e)) hab hbn
  exact (h.box.set 1 (.int .i64 (a' : Int)) (by simp)).set 2 (.int .i64 (b' : Int)) (by simp)

set_option maxRecDepth 100000 in
set_option maxHeartbeats 4000000 in
theorem gap_move_back {w0 w : World} {g r : Nat} {R : List Int} {a b n : Nat} (h : IsGap w0 w g r R a b n) (hn : n ≤ 10000000) (p k : Nat) (hk : 0 < k) (ha : a = p + k) :
    Calls Try.prog 51 #[.pointer (some ⟨g, 0, none⟩), .int .i64 p] w fun e w' => e = .returned (.tuple #[]) ∧ ∃ R', IsGap w0 w' g r R' p (p + (b - a)) n ∧ R'.take p ++ R'.drop (p + (b - a)) = R.take a ++ R.drop b ∧ Keep (GR g r) w w' := by
  have HG := Lib.hid h
  clear h
  have hab := HG.out.ab
  have hbn := HG.out.bn
  have hlen := HG.out.len
  obtain ⟨d, hd⟩ : ∃ d, b = d + k := ⟨b - k, by omega⟩
  obtain ⟨c0, c1, c2, f1, f2⟩ := HG.out.cells
  have d1 : decide ((p : Int) - (a : Int) < 0) = true := decide_eq_true (by omega)
  have s1 : IntKind.i64.wrap ((b : Int) + ((p : Int) - (a : Int))) = (d : Int) := by rw [show (b : Int) + ((p : Int) - (a : Int)) = d from by omega]; exact IntWalk.i64_in _ (by omega)
  have q1 : (d : Int) ≤ (b : Int) := by omega
  have q2 : (b : Int) ≤ (n : Int) := by omega
  have q3 : (p : Int) ≤ (a : Int) := by omega
  have q4 : (a : Int) ≤ (n : Int) := by omega
  have q5 : ¬ n = d := by omega
  have q6 : ¬ n = p := by omega
  have q7 : b - d = k := by omega
  have q8 : a - p = k := by omega
  obtain ⟨W1, u, hcp, hu, hG1, hKW⟩ := gap_copy HG.out d p k (by omega) (by omega)
  subst hu
  have HG1 := Lib.hid hG1
  clear hG1
  have HN1 := Lib.hid (HG1.out.moved (a' := p) (b' := p + (b - a)) (x := (p : Int)) (y := (d : Int)) rfl (by omega) (by omega) (by omega))
  have HKZ : Hid (Keep (GR g r) w ((W1.setCell ⟨g, 1, none⟩ (.int .i64 (p : Int))).setCell ⟨g, 2, none⟩ (.int .i64 (d : Int)))) := Lib.hid (hKW.trans (((Keep.setCell _ g 1 _).trans (Keep.setCell _ g 2 _) (fun i _ e => e)).more (fun i _ e => Or.inl e)) (fun i _ e => e))
  have hx2 : (W1.setCell ⟨g, 1, none⟩ (.int .i64 (p : Int))).cell? ⟨g, 2, none⟩ = some (.int .i64 b) := (HG1.out.box.set 1 (.int .i64 (p : Int)) (by simp)).cell 2 (by simp)
  have hf2 : (W1.setCell ⟨g, 1, none⟩ (.int .i64 (p : Int))).frozen? ⟨g, 2, none⟩ = false := (HG1.out.box.set 1 (.int .i64 (p : Int)) (by simp)).frozen 2
  obtain ⟨x0, x1, x2, g1, g2⟩ := HG1.out.cells
  have HL : Hid (∃ R', IsGap w0 ((W1.setCell ⟨g, 1, none⟩ (.int .i64 (p : Int))).setCell ⟨g, 2, none⟩ (.int .i64 (d : Int))) g r R' p (p + (b - a)) n ∧ R'.take p ++ R'.drop (p + (b - a)) = R.take a ++ R.drop b ∧ Keep (GR g r) w ((W1.setCell ⟨g, 1, none⟩ (.int .i64 (p : Int))).setCell ⟨g, 2, none⟩ (.int .i64 (d : Int)))) := Lib.hid ⟨_, HN1.out, ⟨by
    rw [show p + (b - a) = d from by omega]
    have e1 : (R.take d ++ ((R.take (p + k)).drop p ++ R.drop (d + k))).take p = R.take p := by
      rw [List.take_append_of_le_length (by rw [List.length_take]; omega), List.take_take]
      congr 1
      omega
    have e2 : (R.take d ++ ((R.take (p + k)).drop p ++ R.drop (d + k))).drop d = (R.take (p + k)).drop p ++ R.drop (d + k) := by
      rw [List.drop_append_of_le_length (by rw [List.length_take]; omega), List.drop_eq_nil_of_le (by rw [List.length_take]; omega), List.nil_append]
    rw [e1, e2, ← ha, ← hd, ← List.append_assoc]
    congr 1
    have : R.take p = (R.take a).take p := by rw [List.take_take]; congr 1; omega
    rw [this, List.take_append_drop], HKZ.out⟩⟩
  have HA := Lib.hid ha
  have HD := Lib.hid hd
  clear ha hd hab hbn hlen
  go_enter Try.func51, Try.ntmps51
  go_wp2_with fail
  go_still_tail 25, (by kernel_rfl)
  change wpList _ _ _ _ _ w.drew
  go_wp2
  go_end0
  exact ⟨rfl, HL.out⟩
set_option maxRecDepth 100000 in
set_option maxHeartbeats 4000000 in
theorem gap_move_on {w0 w : World} {g r : Nat} {R : List Int} {a b n : Nat} (h : IsGap w0 w g r R a b n) (hn : n ≤ 10000000) (p k : Nat) (hp : p = a + k) (hk : b + k ≤ n) (hk1 : 0 < k) :
    Calls Try.prog 51 #[.pointer (some ⟨g, 0, none⟩), .int .i64 p] w fun e w' => e = .returned (.tuple #[]) ∧ ∃ R', IsGap w0 w' g r R' p (p + (b - a)) n ∧ R'.take p ++ R'.drop (p + (b - a)) = R.take a ++ R.drop b ∧ Keep (GR g r) w w' := by
  have HG := Lib.hid h
  clear h
  have hab := HG.out.ab
  have hbn := HG.out.bn
  have hlen := HG.out.len
  obtain ⟨d, hd⟩ : ∃ d, d = b + k := ⟨_, rfl⟩
  obtain ⟨c0, c1, c2, f1, f2⟩ := HG.out.cells
  have d1 : decide ((p : Int) - (a : Int) < 0) = false := decide_eq_false (by omega)
  have s1 : IntKind.i64.wrap ((b : Int) + ((p : Int) - (a : Int))) = (d : Int) := by rw [show (b : Int) + ((p : Int) - (a : Int)) = d from by omega]; exact IntWalk.i64_in _ (by omega)
  have q1 : (a : Int) ≤ (p : Int) := by omega
  have q2 : (p : Int) ≤ (n : Int) := by omega
  have q3 : (b : Int) ≤ (d : Int) := by omega
  have q4 : (d : Int) ≤ (n : Int) := by omega
  have q5 : ¬ n = a := by omega
  have q6 : ¬ n = b := by omega
  have q7 : p - a = k := by omega
  have q8 : d - b = k := by omega
  obtain ⟨W1, u, hcp, hu, hG1, hKW⟩ := gap_copy HG.out a b k (by omega) (by omega)
  subst hu
  have HG1 := Lib.hid hG1
  clear hG1
  have HN1 := Lib.hid (HG1.out.moved (a' := p) (b' := p + (b - a)) (x := (p : Int)) (y := (d : Int)) rfl (by omega) (by omega) (by omega))
  have HKZ : Hid (Keep (GR g r) w ((W1.setCell ⟨g, 1, none⟩ (.int .i64 (p : Int))).setCell ⟨g, 2, none⟩ (.int .i64 (d : Int)))) := Lib.hid (hKW.trans (((Keep.setCell _ g 1 _).trans (Keep.setCell _ g 2 _) (fun i _ e => e)).more (fun i _ e => Or.inl e)) (fun i _ e => e))
  have hx2 : (W1.setCell ⟨g, 1, none⟩ (.int .i64 (p : Int))).cell? ⟨g, 2, none⟩ = some (.int .i64 b) := (HG1.out.box.set 1 (.int .i64 (p : Int)) (by simp)).cell 2 (by simp)
  have hf2 : (W1.setCell ⟨g, 1, none⟩ (.int .i64 (p : Int))).frozen? ⟨g, 2, none⟩ = false := (HG1.out.box.set 1 (.int .i64 (p : Int)) (by simp)).frozen 2
  obtain ⟨x0, x1, x2, g1, g2⟩ := HG1.out.cells
  have HL : Hid (∃ R', IsGap w0 ((W1.setCell ⟨g, 1, none⟩ (.int .i64 (p : Int))).setCell ⟨g, 2, none⟩ (.int .i64 (d : Int))) g r R' p (p + (b - a)) n ∧ R'.take p ++ R'.drop (p + (b - a)) = R.take a ++ R.drop b ∧ Keep (GR g r) w ((W1.setCell ⟨g, 1, none⟩ (.int .i64 (p : Int))).setCell ⟨g, 2, none⟩ (.int .i64 (d : Int)))) := Lib.hid ⟨_, HN1.out, ⟨by
    rw [show p + (b - a) = b + k from by omega]
    have e1 : (R.take a ++ ((R.take (b + k)).drop b ++ R.drop (a + k))).take p = R.take a ++ (R.take (b + k)).drop b := by
      rw [← List.append_assoc, List.take_append_of_le_length (by rw [List.length_append, List.length_drop, List.length_take, List.length_take]; omega), List.take_of_length_le (by rw [List.length_append, List.length_drop, List.length_take, List.length_take]; omega)]
    have e2 : (R.take a ++ ((R.take (b + k)).drop b ++ R.drop (a + k))).drop (b + k) = R.drop (b + k) := by
      rw [← List.append_assoc, List.drop_append, List.drop_eq_nil_of_le (by rw [List.length_append, List.length_drop, List.length_take, List.length_take]; omega), List.nil_append, List.drop_drop, List.length_append, List.length_drop, List.length_take, List.length_take]
      congr 1
      omega
    rw [e1, e2, List.append_assoc]
    congr 1
    have : R.drop (b + k) = (R.drop b).drop k := by rw [List.drop_drop]
    rw [this]
    have : (R.take (b + k)).drop b = (R.drop b).take k := by rw [List.drop_take]; congr 1; omega
    rw [this, List.take_append_drop], HKZ.out⟩⟩
  have HA := Lib.hid hp
  have HD := Lib.hid hd
  have HK := Lib.hid hk
  clear hp hd hk hab hbn hlen
  go_enter Try.func51, Try.ntmps51
  go_wp2_with fail
  go_still_tail 25, (by kernel_rfl)
  change wpList _ _ _ _ _ w.drew
  go_wp2
  go_end0
  exact ⟨rfl, HL.out⟩
set_option maxRecDepth 100000 in
set_option maxHeartbeats 4000000 in
theorem gap_stay1 {w0 w : World} {g r : Nat} {R : List Int} {a b n : Nat} (h : IsGap w0 w g r R a b n) (hn : n ≤ 10000000) (q5 : ¬ n = a) (q6 : ¬ n = b) :
    Calls Try.prog 51 #[.pointer (some ⟨g, 0, none⟩), .int .i64 a] w fun e w' => e = .returned (.tuple #[]) ∧ ∃ R', IsGap w0 w' g r R' a (a + (b - a)) n ∧ R'.take a ++ R'.drop (a + (b - a)) = R.take a ++ R.drop b ∧ Keep (GR g r) w w' := by
  have HG := Lib.hid h
  clear h
  have hab := HG.out.ab
  have hbn := HG.out.bn
  have hlen := HG.out.len
  obtain ⟨c0, c1, c2, f1, f2⟩ := HG.out.cells
  have q1 : (a : Int) ≤ (n : Int) := by omega
  have q2 : (b : Int) ≤ (n : Int) := by omega
  have sb : IntKind.i64.wrap (b : Int) = (b : Int) := IntWalk.i64_in _ (by omega)
  obtain ⟨W1, u, hcp, hu, hG1, hKW⟩ := gap_copy HG.out a b 0 (by omega) (by omega)
  subst hu
  have HG1 := Lib.hid hG1
  clear hG1
  have HN1 := Lib.hid (HG1.out.moved (a' := a) (b' := b) (x := (a : Int)) (y := (b : Int)) rfl rfl (by omega) (by omega))
  have hx2 : (W1.setCell ⟨g, 1, none⟩ (.int .i64 (a : Int))).cell? ⟨g, 2, none⟩ = some (.int .i64 b) := (HG1.out.box.set 1 (.int .i64 (a : Int)) (by simp)).cell 2 (by simp)
  have hf2 : (W1.setCell ⟨g, 1, none⟩ (.int .i64 (a : Int))).frozen? ⟨g, 2, none⟩ = false := (HG1.out.box.set 1 (.int .i64 (a : Int)) (by simp)).frozen 2
  obtain ⟨x0, x1, x2, g1, g2⟩ := HG1.out.cells
  have HL : Hid (∃ R', IsGap w0 ((W1.setCell ⟨g, 1, none⟩ (.int .i64 (a : Int))).setCell ⟨g, 2, none⟩ (.int .i64 (b : Int))) g r R' a (a + (b - a)) n ∧ R'.take a ++ R'.drop (a + (b - a)) = R.take a ++ R.drop b ∧ Keep (GR g r) w ((W1.setCell ⟨g, 1, none⟩ (.int .i64 (a : Int))).setCell ⟨g, 2, none⟩ (.int .i64 (b : Int)))) := Lib.hid ⟨R, by
    have e1 : ∀ o q, R.take o ++ ((R.take (q + 0)).drop q ++ R.drop (o + 0)) = R := fun o q => by
      rw [Nat.add_zero, Nat.add_zero, List.drop_eq_nil_of_le (by rw [List.length_take]; omega), List.nil_append, List.take_append_drop]
    have := HN1.out
    rw [e1] at this
    rw [show a + (b - a) = b from by omega]
    exact ⟨this, rfl, hKW.trans (((Keep.setCell _ g 1 _).trans (Keep.setCell _ g 2 _) (fun i _ e => e)).more (fun i _ e => Or.inl e)) (fun i _ e => e)⟩⟩
  clear hab hbn hlen
  go_enter Try.func51, Try.ntmps51
  go_wp2_with fail
  go_still_tail 25, (by kernel_rfl)
  change wpList _ _ _ _ _ w.drew
  go_wp2
  go_end0
  exact ⟨rfl, HL.out⟩
set_option maxRecDepth 100000 in
set_option maxHeartbeats 4000000 in
theorem gap_stay2 {w0 w : World} {g r : Nat} {R : List Int} {a n : Nat} (h : IsGap w0 w g r R a n n) (hn : n ≤ 10000000) (q5 : ¬ n = a)  :
    Calls Try.prog 51 #[.pointer (some ⟨g, 0, none⟩), .int .i64 a] w fun e w' => e = .returned (.tuple #[]) ∧ ∃ R', IsGap w0 w' g r R' a (a + (n - a)) n ∧ R'.take a ++ R'.drop (a + (n - a)) = R.take a ++ R.drop n ∧ Keep (GR g r) w w' := by
  have HG := Lib.hid h
  clear h
  have hab := HG.out.ab
  have hbn := HG.out.bn
  have hlen := HG.out.len
  obtain ⟨c0, c1, c2, f1, f2⟩ := HG.out.cells
  have q1 : (a : Int) ≤ (n : Int) := by omega
  have q2 : (n : Int) ≤ (n : Int) := by omega
  have sb : IntKind.i64.wrap (n : Int) = (n : Int) := IntWalk.i64_in _ (by omega)
  obtain ⟨W1, u, hcp, hu, hG1, hKW⟩ := gap_copy HG.out a 0 0 (by omega) (by omega)
  subst hu
  have HG1 := Lib.hid hG1
  clear hG1
  have HN1 := Lib.hid (HG1.out.moved (a' := a) (b' := n) (x := (a : Int)) (y := (n : Int)) rfl rfl (by omega) (by omega))
  have hx2 : (W1.setCell ⟨g, 1, none⟩ (.int .i64 (a : Int))).cell? ⟨g, 2, none⟩ = some (.int .i64 n) := (HG1.out.box.set 1 (.int .i64 (a : Int)) (by simp)).cell 2 (by simp)
  have hf2 : (W1.setCell ⟨g, 1, none⟩ (.int .i64 (a : Int))).frozen? ⟨g, 2, none⟩ = false := (HG1.out.box.set 1 (.int .i64 (a : Int)) (by simp)).frozen 2
  obtain ⟨x0, x1, x2, g1, g2⟩ := HG1.out.cells
  have HL : Hid (∃ R', IsGap w0 ((W1.setCell ⟨g, 1, none⟩ (.int .i64 (a : Int))).setCell ⟨g, 2, none⟩ (.int .i64 (n : Int))) g r R' a (a + (n - a)) n ∧ R'.take a ++ R'.drop (a + (n - a)) = R.take a ++ R.drop n ∧ Keep (GR g r) w ((W1.setCell ⟨g, 1, none⟩ (.int .i64 (a : Int))).setCell ⟨g, 2, none⟩ (.int .i64 (n : Int)))) := Lib.hid ⟨R, by
    have e1 : ∀ o q, R.take o ++ ((R.take (q + 0)).drop q ++ R.drop (o + 0)) = R := fun o q => by
      rw [Nat.add_zero, Nat.add_zero, List.drop_eq_nil_of_le (by rw [List.length_take]; omega), List.nil_append, List.take_append_drop]
    have := HN1.out
    rw [e1] at this
    rw [show a + (n - a) = n from by omega]
    exact ⟨this, rfl, hKW.trans (((Keep.setCell _ g 1 _).trans (Keep.setCell _ g 2 _) (fun i _ e => e)).more (fun i _ e => Or.inl e)) (fun i _ e => e)⟩⟩
  clear hab hbn hlen
  go_enter Try.func51, Try.ntmps51
  go_wp2_with fail
  go_still_tail 25, (by kernel_rfl)
  change wpList _ _ _ _ _ w.drew
  go_wp2
  go_end0
  exact ⟨rfl, HL.out⟩
set_option maxRecDepth 100000 in
set_option maxHeartbeats 4000000 in
theorem gap_stay3 {w0 w : World} {g r : Nat} {R : List Int} {n : Nat} (h : IsGap w0 w g r R n n n) (hn : n ≤ 10000000)   :
    Calls Try.prog 51 #[.pointer (some ⟨g, 0, none⟩), .int .i64 n] w fun e w' => e = .returned (.tuple #[]) ∧ ∃ R', IsGap w0 w' g r R' n (n + (n - n)) n ∧ R'.take n ++ R'.drop (n + (n - n)) = R.take n ++ R.drop n ∧ Keep (GR g r) w w' := by
  have HG := Lib.hid h
  clear h
  have hab := HG.out.ab
  have hbn := HG.out.bn
  have hlen := HG.out.len
  obtain ⟨c0, c1, c2, f1, f2⟩ := HG.out.cells
  have q1 : (n : Int) ≤ (n : Int) := by omega
  have q2 : (n : Int) ≤ (n : Int) := by omega
  have sb : IntKind.i64.wrap (n : Int) = (n : Int) := IntWalk.i64_in _ (by omega)
  obtain ⟨W1, u, hcp, hu, hG1, hKW⟩ := gap_copy HG.out 0 0 0 (by omega) (by omega)
  subst hu
  have HG1 := Lib.hid hG1
  clear hG1
  have HN1 := Lib.hid (HG1.out.moved (a' := n) (b' := n) (x := (n : Int)) (y := (n : Int)) rfl rfl (by omega) (by omega))
  have hx2 : (W1.setCell ⟨g, 1, none⟩ (.int .i64 (n : Int))).cell? ⟨g, 2, none⟩ = some (.int .i64 n) := (HG1.out.box.set 1 (.int .i64 (n : Int)) (by simp)).cell 2 (by simp)
  have hf2 : (W1.setCell ⟨g, 1, none⟩ (.int .i64 (n : Int))).frozen? ⟨g, 2, none⟩ = false := (HG1.out.box.set 1 (.int .i64 (n : Int)) (by simp)).frozen 2
  obtain ⟨x0, x1, x2, g1, g2⟩ := HG1.out.cells
  have HL : Hid (∃ R', IsGap w0 ((W1.setCell ⟨g, 1, none⟩ (.int .i64 (n : Int))).setCell ⟨g, 2, none⟩ (.int .i64 (n : Int))) g r R' n (n + (n - n)) n ∧ R'.take n ++ R'.drop (n + (n - n)) = R.take n ++ R.drop n ∧ Keep (GR g r) w ((W1.setCell ⟨g, 1, none⟩ (.int .i64 (n : Int))).setCell ⟨g, 2, none⟩ (.int .i64 (n : Int)))) := Lib.hid ⟨R, by
    have e1 : ∀ o q, R.take o ++ ((R.take (q + 0)).drop q ++ R.drop (o + 0)) = R := fun o q => by
      rw [Nat.add_zero, Nat.add_zero, List.drop_eq_nil_of_le (by rw [List.length_take]; omega), List.nil_append, List.take_append_drop]
    have := HN1.out
    rw [e1] at this
    rw [show n + (n - n) = n from by omega]
    exact ⟨this, rfl, hKW.trans (((Keep.setCell _ g 1 _).trans (Keep.setCell _ g 2 _) (fun i _ e => e)).more (fun i _ e => Or.inl e)) (fun i _ e => e)⟩⟩
  clear hab hbn hlen
  go_enter Try.func51, Try.ntmps51
  go_wp2_with fail
  go_still_tail 25, (by kernel_rfl)
  change wpList _ _ _ _ _ w.drew
  go_wp2
  go_end0
  exact ⟨rfl, HL.out⟩

theorem gap_move {w0 w : World} {g r : Nat} {R : List Int} {a b n : Nat} (h : IsGap w0 w g r R a b n) (hn : n ≤ 10000000) (p : Nat) (hp : p ≤ a + (n - b)) :
    Calls Try.prog 51 #[.pointer (some ⟨g, 0, none⟩), .int .i64 p] w fun e w' => e = .returned (.tuple #[]) ∧ ∃ R', IsGap w0 w' g r R' p (p + (b - a)) n ∧ R'.take p ++ R'.drop (p + (b - a)) = R.take a ++ R.drop b ∧ Keep (GR g r) w w' := by
  have hab := h.ab
  have hbn := h.bn
  by_cases h1 : p < a
  · exact gap_move_back h hn p (a - p) (by omega) (by omega)
  · by_cases h2 : p = a
    · subst h2
      by_cases h3 : n = p
      · obtain rfl : n = b := by omega
        subst h3
        exact gap_stay3 h hn
      · by_cases h4 : n = b
        · subst h4
          exact gap_stay2 h hn h3
        · exact gap_stay1 h hn h3 h4
    · exact gap_move_on h hn p (p - a) (by omega) (by omega) (by omega)
end Go.Proofs.Ytakjoodlediemaa
