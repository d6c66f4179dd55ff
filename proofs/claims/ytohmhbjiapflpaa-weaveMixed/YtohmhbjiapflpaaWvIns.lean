/- slices.Insert at Ids: one put among others. -/
import Derived.Test.YtohmhbjiapflpaaIdOrder
import Derived.Test.YtohmhbjiapflpaaWvMath
import Derived.Lib.Overlaps
import Derived.Lib.AppendZerosOnto
import Derived.Laws.Externs
import Derived.Laws.CopyRow
import Derived.Shelf.Spec.SlicesInsert
import Derived.Deep.RegionLaw
namespace Go.Proofs.Ytohmhbjiapflpaa
open Go.RowKit Go.Shelf
set_option linter.unusedVariables false

/-- 'copy' into a row, of elements of whatever size. -/
theorem run_copy_rowk {P : Program} (w : World) (dT sT ty elem : TypeId) (size g o dLen dCap : Nat) (a : Addr) (sLen sCap : Nat) (cur : Array Value) (t : TypeId) (cs : List Value)
    (hu : P.underlying dT = some (.slice elem)) (hs : (P.info? elem).map (·.size) = some size)
    (hg : w.heap[g]? = some (.cells cur t (0, 0))) (hn : cs.length = Nat.min sLen dLen * size)
    (hsrc : ∀ j v, cs[j]? = some v → w.cell? (a.add j) = some v) (hfit : o + cs.length ≤ cur.size) (h1 : ∀ v ∈ cs, v.oneCell' = true) :
    (Builtin.copy_ #[dT, sT] ty #[.slice (some ⟨g, o, none⟩) dLen dCap, .slice (some a) sLen sCap]).run P w =
      .ok (goInt (Nat.min sLen dLen)) (w.setRow g (cur.toList.take o ++ cs ++ cur.toList.drop (o + cs.length)).toArray) := by
  have hl := run_loadCells_list (P := P) w a cs hsrc
  have hst := run_storeCells_at P g o t cs 0 cur w hg (by simpa using hfit) h1
  cases hq : P.info? elem with
  | none => simp [hq] at hs
  | some i =>
    have hi : i.size = size := by simpa [hq] using hs
    simp [Builtin.copy_, run_underlying hu, Builtin.lenOf, Builtin.firstCells, sizeOf, typeInfo, hq, hi, ← hn, hl, hst]
theorem holds_setRow {w : World} {g : Nat} {cs : List Value} {t : TypeId} (h : Holds w g cs t) (ds : List Value) : Holds (w.setRow g ds.toArray) g ds t ∧ Keep (Just g) w (w.setRow g ds.toArray) := by
  have h1 := setRow_heap w g cs.toArray ds.toArray t (0, 0) h
  refine ⟨h1, rfl, rfl, rfl, by simp [World.setRow], fun k hk hn => ?_⟩
  have hn : k ≠ g := hn
  simp [World.setRow, Array.getElem?_modify, Ne.symm hn]
theorem idCells_app : ∀ (xs ys : List (Int × Int)), idCells (xs ++ ys) = idCells xs ++ idCells ys
  | [], _ => rfl
  | x :: xs, ys => by simp [idCells, idCells_app xs ys]
theorem idCells_take : ∀ (xs : List (Int × Int)) (k : Nat), idCells (xs.take k) = (idCells xs).take (k * 2)
  | [], k => by simp [idCells]
  | x :: xs, 0 => by simp [idCells]
  | x :: xs, k + 1 => by
    rw [List.take_succ_cons, idCells, idCells, idCells_take xs k, show (k + 1) * 2 = k * 2 + 1 + 1 from by omega, List.take_succ_cons, List.take_succ_cons]
theorem idCells_drop : ∀ (xs : List (Int × Int)) (k : Nat), idCells (xs.drop k) = (idCells xs).drop (k * 2)
  | [], k => by simp [idCells]
  | x :: xs, 0 => by simp [idCells]
  | x :: xs, k + 1 => by
    rw [List.drop_succ_cons, idCells, idCells_drop xs k, show (k + 1) * 2 = k * 2 + 1 + 1 from by omega, List.drop_succ_cons, List.drop_succ_cons]
theorem shape_holds {w : World} {g : Nat} {cs : List Value} {t : TypeId} (h : Holds w g cs t) : w.shape? g = some (t, cs.length) := by
  unfold World.shape?
  rw [show w.heap[g]? = _ from h]
  simp

theorem overlaps_apart (w : World) (b o ub : Nat) (lb cb : Nat) {t t2 : TypeId} {cs ds : List Value} (h : Holds w b cs t) (hu : Holds w ub ds t2) (hne : ub ≠ b) (h0 : cs.length ≠ 0) :
    (callFunc 86 #[.slice (some ⟨ub, 0, none⟩) 1 1, .slice (some ⟨b, o, none⟩) lb cb]).run Try.prog w = .ok (.value (.bool false)) w := by
  rw [run_callFunc_extern (P := Try.prog) (f := 86) Try.func86 (by kernel_rfl) (by kernel_rfl) (by kernel_rfl) (e := Extern.SlicesOverlaps.overlaps #[41, 41] #[4]) (by kernel_rfl)]
  obtain ⟨i0, hi, _, hz1, _⟩ := info_parts info_id
  have hsz : ∀ w, (Go.sizeOf 24).run Try.prog w = .ok 2 w := fun w => by simp [Go.sizeOf, typeInfo, hi, hz1]
  rw [Lib.run_overlaps_apart w 41 4 24 Try.underlying41 2 hsz ⟨ub, 0, none⟩ ⟨b, o, none⟩ 1 1 lb cb hne t2 t ds.length cs.length (shape_holds hu) (shape_holds h) h0 (hu.frozen 0) (hu.frozen _)]
  rfl

set_option maxRecDepth 100000 in
set_option maxHeartbeats 4000000 in
theorem ids_Insert_room (w : World) (b c i ub : Nat) (cur : List Value) (ys : List (Int × Int)) (x : Int × Int) (hb : Holds w b cur 24) (ht : cur.take (ys.length * 2) = idCells ys) (hl : cur.length = c * 2) (hc : ys.length + 1 ≤ c) (hi : i < ys.length) (hm : ys.length ≤ 1000000) (hu : Holds w ub (idL x) 24) (hne : ub ≠ b) :
    Calls Try.prog 75 #[.slice (some ⟨b, 0, none⟩) ys.length c, .int .i64 (i : Nat), .slice (some ⟨ub, 0, none⟩) 1 1] w fun e w' => e = .returned (.slice (some ⟨b, 0, none⟩) (ys.length + 1) c) ∧ ∃ cur', Holds w' b cur' 24 ∧ cur'.take ((ys.length + 1) * 2) = idCells (ys.take i ++ x :: ys.drop i) ∧ cur'.length = c * 2 ∧ Keep (Just b) w w' := by
  have HOV := Lib.hid (fun o lb cb => overlaps_apart w b o ub lb cb hb hu hne (by omega))
  have hov := fun o lb cb => HOV.out o lb cb
  have hyl := idCells_len ys
  have hD : (idCells (ys.drop i)).length = (ys.length - i) * 2 := by rw [idCells_len, List.length_drop]
  have hDe : idCells (ys.drop i) = (idCells ys).drop (i * 2) := idCells_drop ys i
  obtain ⟨cur1, hc1⟩ : ∃ cur1, cur1 = cur.take ((i + 1) * 2) ++ idCells (ys.drop i) ++ cur.drop ((i + 1) * 2 + (idCells (ys.drop i)).length) := ⟨_, rfl⟩
  have hdr : Holds w.drew b cur 24 := hb.keep (Keep.of_grew (grew_drew w) Non) (fun h => h)
  obtain ⟨h1, k1⟩ := holds_setRow hdr cur1
  have hl1 : cur1.length = c * 2 := by
    rw [hc1, List.length_append, List.length_append, List.length_take, List.length_drop, hD, hl]
    omega
  have hcell : ∀ j v, (idCells (ys.drop i))[j]? = some v → w.drew.cell? ((⟨b, i * 2, none⟩ : Addr).add j) = some v := fun j v hv => by
    rw [show (⟨b, i * 2, none⟩ : Addr).add j = ⟨b, i * 2 + j, none⟩ from by unfold Addr.add; split <;> simp_all]
    have hj : j < (ys.length - i) * 2 := by rw [← hD]; exact (List.getElem?_eq_some_iff.1 hv).1
    rw [hdr.cell (i * 2 + j) (by rw [hl]; omega)]
    rw [hDe, List.getElem?_drop, ← ht, List.getElem?_take, if_pos (by omega)] at hv
    obtain ⟨_, e⟩ := List.getElem?_eq_some_iff.1 hv
    rw [e]
  have HCP1 := Lib.hid (fun ty dc sc => run_copy_rowk (P := Try.prog) w.drew 41 41 ty 24 2 b ((i + 1) * 2) (ys.length - i) dc ⟨b, i * 2, none⟩ (ys.length + 1 - i) sc cur.toArray 24 (idCells (ys.drop i)) Try.underlying41 (by kernel_rfl) hdr (by rw [hD]; congr 1; simp only [Nat.min_def]; split <;> omega) hcell (by simp only [List.size_toArray, hl, hD]; omega) (idCells_one _))
  simp only [← hc1] at HCP1
  have hmin1 : Nat.min (ys.length + 1 - i) (ys.length - i) = ys.length - i := by simp only [Nat.min_def]; split <;> omega
  rw [hmin1] at HCP1
  obtain ⟨W1, hW1⟩ : ∃ W1, w.drew.setRow b cur1.toArray = W1 := ⟨_, rfl⟩
  rw [hW1] at HCP1 h1 k1
  have hu1 : Holds W1 ub (idL x) 24 := (hu.keep (Keep.of_grew (grew_drew w) Non) (fun h => h)).keep k1 (fun e => hne e)
  obtain ⟨cur2, hc2⟩ : ∃ cur2, cur2 = cur1.take (i * 2) ++ idL x ++ cur1.drop (i * 2 + (idL x).length) := ⟨_, rfl⟩
  obtain ⟨h2, k2⟩ := holds_setRow h1 cur2
  have hmin2 : Nat.min 1 (ys.length + 1 - i) = 1 := by simp only [Nat.min_def]; split <;> omega
  have HCP2 := Lib.hid (fun ty dc sc => run_copy_rowk (P := Try.prog) W1 41 41 ty 24 2 b (i * 2) (ys.length + 1 - i) dc ⟨ub, 0, none⟩ 1 sc cur1.toArray 24 (idL x) Try.underlying41 (by kernel_rfl) h1 (by rw [hmin2]; rfl) (fun j v hv => by
      rw [show (⟨ub, 0, none⟩ : Addr).add j = ⟨ub, j, none⟩ from by unfold Addr.add; split <;> simp_all]
      obtain ⟨hj, e⟩ := List.getElem?_eq_some_iff.1 hv
      rw [hu1.cell j hj, e]) (by simp only [List.size_toArray, hl1]; show i * 2 + 2 ≤ _; omega) (by intro v hv; simp only [idL, List.mem_cons, List.not_mem_nil, or_false] at hv; rcases hv with rfl | rfl <;> rfl))
  simp only [← hc2] at HCP2
  rw [hmin2] at HCP2
  have HFIN : Hid (Holds (W1.setRow b cur2.toArray) b cur2 24 ∧ cur2.take ((ys.length + 1) * 2) = idCells (ys.take i ++ x :: ys.drop i) ∧ cur2.length = c * 2 ∧ Keep (Just b) w (W1.setRow b cur2.toArray)) := Lib.hid (by
    have e1 : cur1.take (i * 2) = idCells (ys.take i) := by
      rw [idCells_take, ← ht, hc1, List.take_take, List.append_assoc, List.take_append_of_le_length (by rw [List.length_take, hl]; omega), List.take_take]
      congr 1
      omega
    have e2 : cur1.drop (i * 2 + (idL x).length) = idCells (ys.drop i) ++ cur.drop ((i + 1) * 2 + (idCells (ys.drop i)).length) := by
      rw [hc1, List.append_assoc, show i * 2 + (idL x).length = (cur.take ((i + 1) * 2)).length from by rw [List.length_take, hl]; show i * 2 + 2 = _; omega, List.drop_left]
    refine ⟨h2, ?_, ?_, ((Keep.of_grew (grew_drew w) (Just b)).trans k1 (fun _ _ h => h)).trans k2 (fun _ _ h => h)⟩
    · rw [hc2, e1, e2, ← List.append_assoc, idCells_app, idCells]
      have : (idCells (ys.take i) ++ idL x ++ idCells (ys.drop i)).length = (ys.length + 1) * 2 := by
        rw [List.length_append, List.length_append, idCells_len, idCells_len, List.length_take, List.length_drop]
        show _ + 2 + _ = _
        omega
      rw [List.take_append_of_le_length (by omega), List.take_of_length_le (by omega), List.append_assoc]
      rfl
    · rw [hc2, List.length_append, List.length_append, List.length_take, List.length_drop, hl1]
      show _ + 2 + _ = _
      have : (idL x).length = 2 := rfl
      omega)
  clear hcell hDe hD hc1 hc2 k1 k2 hdr hl1 hmin1 hmin2 h1 h2 hu1 ht hyl
  have d1 : ¬ ((i : Int) = (ys.length : Int)) := by omega
  have e1 : ((i : Int) == (ys.length : Int)) = false := by simp; omega
  have e2 : decide ((c : Int) < (ys.length : Int) + 1) = false := decide_eq_false (by omega)
  have hw1 : IntKind.i64.wrap ((i : Int) + 1) = (i : Int) + 1 := by rw [IntKind.wrap_i64]; omega
  have hw2 : IntKind.i64.wrap ((ys.length : Int) + 1) = (ys.length : Int) + 1 := by rw [IntKind.wrap_i64]; omega
  have htn : ((i : Int) + 1).toNat = i + 1 := by omega
  have hin : i ≤ ys.length := by omega
  have hnc : ¬ (c = i) := by omega
  have hnc1 : ¬ (c = i + 1) := by omega
  have hb1 : (0 : Int) ≤ (i : Int) + 1 := by omega
  have hb3 : (i : Int) ≤ (ys.length : Int) + 1 := by omega
  have hb5 : (i : Int) ≤ (ys.length : Int) := by omega
  have hb6 : (i : Int) + 1 ≤ (ys.length : Int) + 1 := by omega
  have hb7 : i ≤ ys.length + 1 := by omega
  have hb8 : (i : Int) + 1 ≤ ((ys.length + 1 : Nat) : Int) := by omega
  have hov := fun o lb cb => HOV.out o lb cb
  go_enter Try.func75, Try.ntmps75
  go_wp2_with fail
  have hcp1 := fun ty dc sc => HCP1.out ty dc sc
  have hcp2 := fun ty dc sc => HCP2.out ty dc sc
  go_region
  all_goals
    go_wp2_with fail
    go_ret
    exact ⟨rfl, _, HFIN.out⟩

theorem idL_one (x : Int × Int) : ∀ v ∈ idL x, v.oneCell' = true := by
  intro v hv
  simp only [idL, List.mem_cons, List.not_mem_nil, or_false] at hv
  rcases hv with rfl | rfl <;> rfl
theorem idL_src {w : World} {ub : Nat} {x : Int × Int} (hu : Holds w ub (idL x) 24) : ∀ j u, (idL x)[j]? = some u → w.cell? ((⟨ub, 0, none⟩ : Addr).add j) = some u := fun j v hv => by
  rw [show (⟨ub, 0, none⟩ : Addr).add j = ⟨ub, j, none⟩ from by unfold Addr.add; split <;> simp_all]
  obtain ⟨hj, e⟩ := List.getElem?_eq_some_iff.1 hv
  rw [hu.cell j hj, e]

/-- What Insert leaves. -/
def InsOut (w : World) (v : Value) (n : Nat) (zs : List (Int × Int)) (e : Ending) (w' : World) : Prop :=
  ∃ b c, e = .returned (.slice (some ⟨b, 0, none⟩) (n + 1) c) ∧ Owns w' 24 2 (.slice (some ⟨b, 0, none⟩) (n + 1) c) (n + 1) (idCells zs) ∧ Keep (At v) w w' ∧ Near w v (.slice (some ⟨b, 0, none⟩) (n + 1) c)

set_option maxRecDepth 100000 in
set_option maxHeartbeats 4000000 in
theorem ids_Insert_end (w : World) (va : Option Addr) (c ub : Nat) (ys : List (Int × Int)) (x : Int × Int) (ho : Owns w 24 2 (.slice va ys.length c) ys.length (idCells ys)) (hm : ys.length ≤ 1000000) (hu : Holds w ub (idL x) 24) :
    Calls Try.prog 75 #[.slice va ys.length c, .int .i64 (ys.length : Nat), .slice (some ⟨ub, 0, none⟩) 1 1] w (InsOut w (.slice va ys.length c) ys.length (ys ++ [x])) := by
  have HO := Lib.hid ho
  have HU := Lib.hid (idL_src hu)
  have HC : Hid (idCells ys ++ idL x = idCells (ys ++ [x])) := Lib.hid (by rw [idCells_app]; rfl)
  have e1 : ((ys.length : Int) == (ys.length : Int)) = true := by simp
  obtain ⟨w1, hw1⟩ : ∃ w1, w1 = w := ⟨_, rfl⟩
  have fin : ∀ v' w', Owns w' 24 2 v' (ys.length + 1) (idCells ys ++ idL x) → Keep (At (.slice va ys.length c)) w w' → Near w (.slice va ys.length c) v' → InsOut w (.slice va ys.length c) ys.length (ys ++ [x]) (.returned v') w' := by
    intro v' w' k1 k2 k3
    rw [HC.out] at k1
    have k1' := k1
    rcases k1.2 with ⟨_, h0⟩ | ⟨g, cap, cur, rfl, _⟩
    · omega
    · exact ⟨g, cap, rfl, k1', k2, k3⟩
  have FIN := Lib.hid fin
  clear fin
  rcases ho.2 with ⟨e, h0⟩ | ⟨g, cap, cur, e, _, _, hnc, _⟩
  · injection e with ea _ ec
    subst ea ec
    obtain rfl : ys = [] := List.eq_nil_of_length_eq_zero h0
    go_enter Try.func75, Try.ntmps75
    go_wp2_with (at_builtin; refine wp_append_any rfl (.tmp 23) (.tmp 24) rfl Try.underlying41 info_id rfl (by decide) (by decide) _ _ _ rfl HO.out ⟨ub, 0, none⟩ 1 1 (idL x) rfl rfl HU.out (idL_one x) (by simp) ?_; intro v2 w2 k1 k2 k3; have HF := Lib.hid (FIN.out _ _ k1 k2 k3); obtain ⟨b2, c2, e2, _⟩ := HF.out; injection e2 with e2; subst e2; clear k1 k2 k3)
    go_ret
    exact HF.out
  · injection e with ea _ ec
    subst ea ec
    by_cases hcn : c = ys.length
    · subst hcn
      go_enter Try.func75, Try.ntmps75
      go_wp2_with (at_builtin; refine wp_append_any rfl (.tmp 23) (.tmp 24) rfl Try.underlying41 info_id rfl (by decide) (by decide) _ _ _ rfl HO.out ⟨ub, 0, none⟩ 1 1 (idL x) rfl rfl HU.out (idL_one x) (by omega) ?_; intro v2 w2 k1 k2 k3; have HF := Lib.hid (FIN.out _ _ k1 k2 k3); obtain ⟨b2, c2, e2, _⟩ := HF.out; injection e2 with e2; subst e2; clear k1 k2 k3)
      go_ret
      exact HF.out
    · go_enter Try.func75, Try.ntmps75
      go_wp2_with (at_builtin; refine wp_append_any rfl (.tmp 23) (.tmp 24) rfl Try.underlying41 info_id rfl (by decide) (by decide) _ _ _ rfl HO.out ⟨ub, 0, none⟩ 1 1 (idL x) rfl rfl HU.out (idL_one x) (by omega) ?_; intro v2 w2 k1 k2 k3; have HF := Lib.hid (FIN.out _ _ k1 k2 k3); obtain ⟨b2, c2, e2, _⟩ := HF.out; injection e2 with e2; subst e2; clear k1 k2 k3)
      go_ret
      exact HF.out

set_option maxRecDepth 100000 in
set_option maxHeartbeats 4000000 in
theorem ids_Insert_grow (w : World) (b c i ub : Nat) (cur : List Value) (ys : List (Int × Int)) (x : Int × Int) (hb : Holds w b cur 24) (ht : cur.take (ys.length * 2) = idCells ys) (hl : cur.length = c * 2) (hnc : ys.length ≤ c) (hc : c < ys.length + 1) (hi : i < ys.length) (hm : ys.length ≤ 1000000) (hu : Holds w ub (idL x) 24) :
    Calls Try.prog 75 #[.slice (some ⟨b, 0, none⟩) ys.length c, .int .i64 (i : Nat), .slice (some ⟨ub, 0, none⟩) 1 1] w (InsOut w (.slice (some ⟨b, 0, none⟩) ys.length c) ys.length (ys.take i ++ x :: ys.drop i)) := by
  obtain ⟨i0, hi0, hz0, hzs, hzb⟩ := info_parts info_id
  have hD : (idCells (ys.drop i)).length = (ys.length - i) * 2 := by rw [idCells_len, List.length_drop]
  have hDe : idCells (ys.drop i) = (idCells ys).drop (i * 2) := idCells_drop ys i
  have hTl : (idCells (ys.take i)).length = i * 2 := by rw [idCells_len, List.length_take]; omega
  have hik : i + (ys.length + 1 - i) = ys.length + 1 := by omega
  have hkk : (ys.length : Int) + 1 - (i : Int) = ((ys.length + 1 - i : Nat) : Int) := by omega
  have hdr : Holds w.drew b cur 24 := hb.keep (Keep.of_grew (grew_drew w) Non) (fun h => h)
  have hold : (Builtin.firstCells i0.size i (.slice (some ⟨b, 0, none⟩) i c)).run Try.prog w.drew = .ok (idCells (ys.take i)).toArray w.drew := by
    rw [hzs]
    refine run_firstCells_some w.drew 2 i ⟨b, 0, none⟩ i c (idCells (ys.take i)) hTl (fun j v hj => ?_)
    rw [show (⟨b, 0, none⟩ : Addr).add j = ⟨b, j, none⟩ from by unfold Addr.add; split <;> simp_all]
    have hjl : j < i * 2 := by rw [← hTl]; exact (List.getElem?_eq_some_iff.1 hj).1
    rw [idCells_take, List.getElem?_take, if_pos hjl, ← ht, List.getElem?_take, if_pos (by omega)] at hj
    obtain ⟨hj2, e⟩ := List.getElem?_eq_some_iff.1 hj
    rw [hdr.cell j hj2, e]
  obtain ⟨G, hG⟩ : ∃ G, G = grownCap w (ys.length + 1) c 24 := ⟨_, rfl⟩
  obtain ⟨ROW, hROW⟩ : ∃ ROW : Array Value, ROW = (idCells (ys.take i)).toArray ++ Builtin.zeroCells (Value.agg #[.int .i64 0, .int .i64 0]).cells (ys.length + 1 - i) ++ Builtin.zeroCells (Value.agg #[.int .i64 0, .int .i64 0]).cells (G - (ys.length + 1)) := ⟨_, rfl⟩
  have hGn : ys.length + 1 ≤ G := by rw [hG]; exact grownCap_ge w _ _ _
  have hGm : G ≤ maxLen := by rw [hG]; exact grownCap_le_maxLen w _ _ _ (by unfold maxLen; omega)
  obtain ⟨W1, hW1⟩ : ∃ W1, w.drew.alloc (.cells ROW 24) = W1 := ⟨_, rfl⟩
  have HRZ : Hid (∀ ty, (Builtin.append_ #[41, 3] ty #[.slice (some ⟨b, 0, none⟩) i c, .int .i64 ((ys.length : Int) + 1 - (i : Int))]).run Try.prog w = .ok (.slice (some ⟨w.heap.size, 0, none⟩) (ys.length + 1) G) W1) := Lib.hid (fun ty => by
    have h := Lib.run_append_grow_zeros (P := Try.prog) w 41 3 ty 24 i0 _ .i64 .i64 Try.underlying41 Try.underlying3 hi0 hz0 (some ⟨b, 0, none⟩) i c (idCells (ys.take i)) hold (ys.length + 1 - i) (by omega) (by omega) (by omega) (by omega) (by rw [hzb]; omega) (by rw [hzb, hik]; exact growslice_fits hc (by omega))
    rw [hik, ← hG, ← hROW, hW1] at h
    rw [hkk]
    exact h)
  have hRl : ROW.toList.length = G * 2 := by
    rw [hROW]
    simp [Builtin.zeroCells, Value.cells, hTl]
    omega
  have hRt : ROW.toList.take (i * 2) = idCells (ys.take i) := by
    rw [hROW, Array.toList_append, Array.toList_append, List.append_assoc, List.take_append_of_le_length (by simp [hTl]), List.toList_toArray, List.take_of_length_le (by omega)]
  have hN : Holds W1 w.heap.size ROW.toList 24 := by
    have := Holds.new w.drew ROW.toList 24
    rw [Array.toArray_toList, hW1] at this
    exact this
  have k1 : Keep Non w W1 := by
    have := (Keep.of_grew (grew_drew w) Non).trans (Keep.alloc Non w.drew (.cells ROW 24)) (fun _ _ h => h)
    rwa [hW1] at this
  have hbw := hb.lt
  have hb1 := hb.keep k1 (fun h => h)
  have hu1 := hu.keep k1 (fun h => h)
  obtain ⟨cur1, hc1⟩ : ∃ cur1, cur1 = ROW.toList.take (i * 2) ++ idL x ++ ROW.toList.drop (i * 2 + (idL x).length) := ⟨_, rfl⟩
  obtain ⟨h2, k2⟩ := holds_setRow hN cur1
  have hmin1 : Nat.min 1 (ys.length + 1 - i) = 1 := by simp only [Nat.min_def]; split <;> omega
  have HCP1 := Lib.hid (fun ty dc => run_copy_rowk (P := Try.prog) W1 41 41 ty 24 2 w.heap.size (i * 2) (ys.length + 1 - i) dc ⟨ub, 0, none⟩ 1 1 ROW 24 (idL x) Try.underlying41 (by kernel_rfl) (by have h := hN; unfold Holds at h; rwa [Array.toArray_toList] at h) (by rw [hmin1]; rfl) (idL_src hu1) (by rw [← Array.length_toList, hRl]; show i * 2 + 2 ≤ _; omega) (idL_one x))
  rw [hmin1] at HCP1
  simp only [← hc1] at HCP1
  obtain ⟨W2, hW2⟩ : ∃ W2, W1.setRow w.heap.size cur1.toArray = W2 := ⟨_, rfl⟩
  rw [hW2] at HCP1 h2 k2
  have hl1 : cur1.length = G * 2 := by
    rw [hc1, List.length_append, List.length_append, List.length_take, List.length_drop, hRl]
    have : (idL x).length = 2 := rfl
    omega
  have k3 := Keep.of_grew (grew_drew W2) Non
  have h3 := h2.keep k3 (fun h => h)
  have hb3 := (hb1.keep k2 (fun e => by have e : b = w.heap.size := e; omega)).keep k3 (fun h => h)
  obtain ⟨cur2, hc2⟩ : ∃ cur2, cur2 = cur1.take ((i + 1) * 2) ++ idCells (ys.drop i) ++ cur1.drop ((i + 1) * 2 + (idCells (ys.drop i)).length) := ⟨_, rfl⟩
  obtain ⟨h4, k4⟩ := holds_setRow h3 cur2
  have hmin2 : Nat.min (ys.length - i) (ys.length - i) = ys.length - i := by simp only [Nat.min_def]; split <;> omega
  have hcell : ∀ j v, (idCells (ys.drop i))[j]? = some v → W2.drew.cell? ((⟨b, i * 2, none⟩ : Addr).add j) = some v := fun j v hv => by
    rw [show (⟨b, i * 2, none⟩ : Addr).add j = ⟨b, i * 2 + j, none⟩ from by unfold Addr.add; split <;> simp_all]
    have hj : j < (ys.length - i) * 2 := by rw [← hD]; exact (List.getElem?_eq_some_iff.1 hv).1
    rw [hb3.cell (i * 2 + j) (by rw [hl]; omega)]
    rw [hDe, List.getElem?_drop, ← ht, List.getElem?_take, if_pos (by omega)] at hv
    obtain ⟨_, e⟩ := List.getElem?_eq_some_iff.1 hv
    rw [e]
  have HCP2 := Lib.hid (fun ty dc sc => run_copy_rowk (P := Try.prog) W2.drew 41 41 ty 24 2 w.heap.size ((i + 1) * 2) (ys.length - i) dc ⟨b, i * 2, none⟩ (ys.length - i) sc cur1.toArray 24 (idCells (ys.drop i)) Try.underlying41 (by kernel_rfl) h3 (by rw [hD, hmin2]) hcell (by simp only [List.size_toArray, hl1, hD]; omega) (idCells_one _))
  rw [hmin2] at HCP2
  simp only [← hc2] at HCP2
  obtain ⟨W3, hW3⟩ : ∃ W3, W2.drew.setRow w.heap.size cur2.toArray = W3 := ⟨_, rfl⟩
  rw [hW3] at HCP2 h4 k4
  have HFIN : Hid (InsOut w (.slice (some ⟨b, 0, none⟩) ys.length c) ys.length (ys.take i ++ x :: ys.drop i) (.returned (.slice (some ⟨w.heap.size, 0, none⟩) (ys.length + 1) G)) W3) := Lib.hid (by
    have hkk : Keep Non w W3 := by
      have q2 : Keep Non w W2 := k1.trans k2 (fun k hk e => by have e : k = w.heap.size := e; omega)
      exact (q2.trans k3 (fun _ _ h => h)).trans k4 (fun k hk e => by have e : k = w.heap.size := e; omega)
    have e1 : cur1.take ((i + 1) * 2) = idCells (ys.take i) ++ idL x := by
      rw [hc1, hRt, List.append_assoc, List.take_append, hTl, List.take_of_length_le (by omega), show (i + 1) * 2 - i * 2 = (idL x).length from by show _ = 2; omega, List.take_left]
    have e2 : cur2.take ((ys.length + 1) * 2) = idCells (ys.take i ++ x :: ys.drop i) := by
      rw [hc2, e1, idCells_app, idCells]
      have : (idCells (ys.take i) ++ idL x ++ idCells (ys.drop i)).length = (ys.length + 1) * 2 := by
        rw [List.length_append, List.length_append, hTl, hD]
        show _ + 2 + _ = _
        omega
      rw [List.take_append_of_le_length (by omega), List.take_of_length_le (by omega), List.append_assoc]
      rfl
    refine ⟨w.heap.size, G, rfl, ⟨?_, .inr ⟨w.heap.size, G, cur2.toArray, rfl, Nat.zero_le _, h4, hGn, hGm, ?_, by rw [List.toList_toArray]; exact e2⟩⟩, hkk.more (fun _ _ h => h.elim), fun g hg => .inr (by have hg : some w.heap.size = some g := hg; injection hg with hg; omega)⟩
    · rw [← e2, List.length_take, hc2, List.length_append, List.length_append, List.length_take, List.length_drop, hl1]
      omega
    · rw [List.size_toArray, hc2, List.length_append, List.length_append, List.length_take, List.length_drop, hl1]
      omega)
  clear hold hROW hW1 hW2 hW3 hRl hRt hN k1 k2 k3 k4 h2 h3 h4 hb1 hb3 hu1 hcell hc1 hc2 hl1 hDe hD hTl hdr hmin1 hmin2 ht hl hi0 hz0 hzs hzb hkk hik hG
  unfold maxLen at hGm
  have d1 : ¬ ((i : Int) = (ys.length : Int)) := by omega
  have e1 : ((i : Int) == (ys.length : Int)) = false := by simp; omega
  have e2 : decide ((c : Int) < (ys.length : Int) + 1) = true := decide_eq_true (by omega)
  have hw1 : IntKind.i64.wrap ((i : Int) + 1) = (i : Int) + 1 := by rw [IntKind.wrap_i64]; omega
  have hw2 : IntKind.i64.wrap ((ys.length : Int) + 1) = (ys.length : Int) + 1 := by rw [IntKind.wrap_i64]; omega
  have hw3 : IntKind.i64.wrap ((ys.length : Int) + 1 - (i : Int)) = (ys.length : Int) + 1 - (i : Int) := by rw [IntKind.wrap_i64]; omega
  have htn : ((i : Int) + 1).toNat = i + 1 := by omega
  have hin : i ≤ ys.length := by omega
  have hnc0 : ¬ (c = i) := by omega
  have hGi : ¬ (G = i) := by omega
  have hGi1 : ¬ (G = i + 1) := by omega
  have hq1 : (0 : Int) ≤ (i : Int) + 1 := by omega
  have hq3 : (i : Int) ≤ (ys.length : Int) + 1 := by omega
  have hq5 : (i : Int) ≤ (ys.length : Int) := by omega
  have hq6 : (i : Int) + 1 ≤ (ys.length : Int) + 1 := by omega
  have hq7 : i ≤ ys.length + 1 := by omega
  have hq8 : (i : Int) + 1 ≤ ((ys.length + 1 : Nat) : Int) := by omega
  have hq9 : i ≤ c := by omega
  have hrz := HRZ.out
  have hcp1 := HCP1.out
  have hcp2 := HCP2.out
  go_enter Try.func75, Try.ntmps75
  go_wp2_with (at_builtin; refine Lib.wpList_append_run _ rfl _ _ _ _ rfl _ _ rfl rfl _ _ (hrz _) ?_)
  go_region
  all_goals
    go_wp2_with fail
    go_ret
    exact HFIN.out

theorem ids_Insert (w : World) (v : Value) (ub i : Nat) (ys : List (Int × Int)) (x : Int × Int) (ho : Owns w 24 2 v ys.length (idCells ys)) (hi : i ≤ ys.length) (hm : ys.length ≤ 1000000) (hu : Holds w ub (idL x) 24) (hne : ∀ g, v.ownBlock = some g → ub ≠ g) :
    Calls Try.prog 75 #[v, .int .i64 (i : Nat), .slice (some ⟨ub, 0, none⟩) 1 1] w (InsOut w v ys.length (ys.take i ++ x :: ys.drop i)) := by
  by_cases hin : i = ys.length
  · subst hin
    rw [List.take_length, List.drop_length]
    rcases ho.2 with ⟨rfl, h0⟩ | ⟨g, c, cur, rfl, _⟩
    · obtain rfl : ys = [] := List.eq_nil_of_length_eq_zero h0
      exact ids_Insert_end w none 0 ub [] x ho hm hu
    · exact ids_Insert_end w _ c ub ys x ho hm hu
  · rcases ho.2 with ⟨_, h0⟩ | ⟨g, c, cur, rfl, _, hg, hnc, hcm, hcs, ht⟩
    · omega
    · have hb : Holds w g cur.toList 24 := by unfold Holds; rw [Array.toArray_toList]; exact hg
      have hl : cur.toList.length = c * 2 := by rw [Array.length_toList]; exact hcs
      by_cases hroom : ys.length + 1 ≤ c
      · refine (ids_Insert_room w g c i ub cur.toList ys x hb ht hl hroom (by omega) hm hu (hne g rfl)).mono ?_
        rintro e w' ⟨rfl, cur2, h1, h2, h3, h4⟩
        refine ⟨g, c, rfl, ⟨?_, .inr ⟨g, c, cur2.toArray, rfl, Nat.zero_le _, h1, hroom, hcm, by rw [List.size_toArray, h3], by rw [List.toList_toArray]; exact h2⟩⟩, h4.more (fun k _ e => by have e : k = g := e; rw [e]; rfl), fun g' hg' => .inl hg'⟩
        rw [idCells_len, List.length_append, List.length_cons, List.length_take, List.length_drop]
        omega
      · exact ids_Insert_grow w g c i ub cur.toList ys x hb ht hl hnc (by omega) (by omega) hm hu
end Go.Proofs.Ytohmhbjiapflpaa
