/- slices.Delete of one Id. -/
import Derived.Test.YtohmhbjiapflpaaWvIns
import Derived.Test.YtohmhbjiapflpaaIdCompact
import Derived.Shelf.RegionOpenPlain
namespace Go.Proofs.Ytohmhbjiapflpaa
open Go.RowKit Go.Maps
set_option linter.unusedVariables false

theorem holds_setCells {T : TypeId} {b : Nat} : ∀ (news : List Value) (o : Nat) {w : World} {cur : List Value}, Holds w b cur T → o + news.length ≤ cur.length →
    Holds (w.setCells b o news) b (cur.take o ++ news ++ cur.drop (o + news.length)) T ∧ Keep (Just b) w (w.setCells b o news)
  | [], o, w, cur, h, hl => by
    refine ⟨?_, Keep.refl _ _⟩
    rw [List.append_nil, List.length_nil, Nat.add_zero, List.take_append_drop]
    exact h
  | v :: news, o, w, cur, h, hl => by
    rw [List.length_cons] at hl
    obtain ⟨h1, h2⟩ := holds_setCells news (o + 1) (h.set o v (by omega)) (by rw [List.length_set]; omega)
    refine ⟨?_, (Keep.setCell w b o v).trans h2 (fun _ _ h => h)⟩
    have e : (cur.set o v).take (o + 1) ++ news ++ (cur.set o v).drop (o + 1 + news.length) = cur.take o ++ v :: news ++ cur.drop (o + (v :: news).length) := by
      rw [List.take_set, List.drop_set_of_lt (by omega), List.length_cons, show o + (news.length + 1) = o + 1 + news.length from by omega]
      congr 1
      rw [← List.take_append_getElem (by omega : o < cur.length), List.set_append_right _ _ (by rw [List.length_take]; omega), List.length_take, Nat.min_eq_left (by omega), Nat.sub_self]
      simp
    rw [e] at h1
    exact h1

set_option maxRecDepth 100000 in
set_option maxHeartbeats 4000000 in
theorem ids_Delete_at (w : World) (b c i m : Nat) (cur : List Value) (ys : List (Int × Int)) (hb : Holds w b cur 24) (hn : ys.length = i + 1 + m) (ht : cur.take (ys.length * 2) = idCells ys) (hl : cur.length = c * 2) (hc : i + 1 + m ≤ c) (hm : i + 1 + m ≤ 1000000) :
    Calls Try.prog 74 #[.slice (some ⟨b, 0, none⟩) (i + 1 + m) c, .int .i64 i, .int .i64 ((i : Int) + 1)] w fun e w' => e = .returned (.slice (some ⟨b, 0, none⟩) (i + m) c) ∧ ∃ cur', Holds w' b cur' 24 ∧ cur'.take ((i + m) * 2) = idCells (ys.take i ++ ys.drop (i + 1)) ∧ cur'.length = c * 2 ∧ Keep (Just b) w w' := by
  obtain ⟨i0, hi0, hz0, hzs, hzb⟩ := info_parts info_id
  have hdl : (idCells (ys.drop (i + 1))).length = m * 2 := by rw [idCells_len, List.length_drop]; omega
  have hdr : Holds w.drew b cur 24 := hb.keep (Keep.of_grew (grew_drew w) Non) (fun h => h)
  obtain ⟨cur1, hc1⟩ : ∃ cur1, cur1 = cur.take (0 + i * 2) ++ idCells (ys.drop (i + 1)) ++ cur.drop (0 + i * 2 + (idCells (ys.drop (i + 1))).length) := ⟨_, rfl⟩
  obtain ⟨h1, k1⟩ := holds_setCells (idCells (ys.drop (i + 1))) (0 + i * 2) hdr (by rw [hdl, hl]; omega)
  rw [← hc1] at h1
  have hl1 : cur1.length = c * 2 := by
    rw [hc1, List.length_append, List.length_append, List.length_take, List.length_drop, hdl, hl]
    omega
  obtain ⟨W1, hW1⟩ : ∃ W1, w.drew.setCells b (0 + i * 2) (idCells (ys.drop (i + 1))) = W1 := ⟨_, rfl⟩
  rw [hW1] at h1 k1
  have HCL : Hid (∀ ty, (Builtin.clear_ #[41] ty #[.slice (some ⟨b, (i + m) * 2, none⟩) 1 (c - (i + m))]).run Try.prog W1 = .ok (.tuple #[]) (W1.setCells b ((i + m) * 2) (List.replicate (1 * 2) (.int .i64 0)))) := Lib.hid (fun ty => run_clear_ids W1 ty b ((i + m) * 2) 1 (c - (i + m)) (by omega) (fun j hj => by rw [h1.cell _ (by rw [hl1]; omega)]; rfl) (fun j hj => h1.frozen _))
  obtain ⟨h2, k2⟩ := holds_setCells (List.replicate (1 * 2) (.int .i64 0)) ((i + m) * 2) h1 (by rw [hl1]; simp; omega)
  have HFIN : Hid (∃ cur', Holds (W1.setCells b ((i + m) * 2) (List.replicate (1 * 2) (.int .i64 0))) b cur' 24 ∧ cur'.take ((i + m) * 2) = idCells (ys.take i ++ ys.drop (i + 1)) ∧ cur'.length = c * 2 ∧ Keep (Just b) w (W1.setCells b ((i + m) * 2) (List.replicate (1 * 2) (.int .i64 0)))) := Lib.hid (by
    refine ⟨_, h2, ?_, ?_, ((Keep.of_grew (grew_drew w) (Just b)).trans k1 (fun _ _ h => h)).trans k2 (fun _ _ h => h)⟩
    · rw [List.append_assoc, List.take_append_of_le_length (by rw [List.length_take, hl1]; omega), List.take_take, Nat.min_self, hc1, idCells_app, idCells_take, ← ht, List.take_take, Nat.zero_add, Nat.min_eq_left (by omega)]
      have e : (cur.take (i * 2) ++ idCells (ys.drop (i + 1))).length = (i + m) * 2 := by
        rw [List.length_append, List.length_take, hdl, hl]
        omega
      rw [List.take_append_of_le_length (by omega), List.take_of_length_le (by omega)]
    · rw [List.length_append, List.length_append, List.length_take, List.length_drop, hl1]
      simp
      omega)
  have HSP : Hid (∀ j, j < (idCells (ys.drop (i + 1))).length → (w.drew.cell? ⟨b, 0 + i * 2 + j, none⟩).isSome = true ∧ w.drew.frozen? ⟨b, 0 + i * 2 + j, none⟩ = false) := Lib.hid (fun j hj => by
    rw [hdl] at hj
    exact ⟨by rw [hdr.cell _ (by rw [hl]; omega)]; rfl, hdr.frozen _⟩)
  have HSRC : Hid (∀ j u, (idCells (ys.drop (i + 1)))[j]? = some u → w.drew.cell? ((⟨b, (i + 1) * 2, none⟩ : Addr).add j) = some u) := Lib.hid (fun j v hv => by
    rw [show (⟨b, (i + 1) * 2, none⟩ : Addr).add j = ⟨b, (i + 1) * 2 + j, none⟩ from by unfold Addr.add; split <;> simp_all]
    have hj : j < m * 2 := by rw [← hdl]; exact (List.getElem?_eq_some_iff.1 hv).1
    rw [hdr.cell _ (by rw [hl]; omega)]
    rw [idCells_drop, List.getElem?_drop, ← ht, List.getElem?_take, if_pos (by omega)] at hv
    obtain ⟨_, e⟩ := List.getElem?_eq_some_iff.1 hv
    rw [e])
  have HDL := Lib.hid hdl
  have HI0 := Lib.hid (And.intro hi0 hzs)
  clear h1 h2 k1 k2 hl1 hdr hdl hb ht hl hc1 hi0 hz0 hzs hzb
  have hq1 : ((i : Int) + 1).toNat = i + 1 := by omega
  have hq2 : (i : Int) ≤ (i : Int) + 1 := by omega
  have hq3 : (i : Int) + 1 ≤ ((i + 1 + m : Nat) : Int) := by omega
  have hq4 : ¬ ((i : Int) = (i : Int) + 1) := by omega
  have hq5 : ((i : Int) == (i : Int) + 1) = false := by simp; omega
  have hq6 : i + 1 + m ≤ c := hc
  have hq7 : i ≤ c := by omega
  have hq8 : i + 1 ≤ c := by omega
  have hq9 : (0 : Int) ≤ (i : Int) + 1 := by omega
  go_enter Try.func74, Try.ntmps74
  go_wp2_with fail
  have hr1 : i + 1 + m - (i + 1) = m := by omega
  have hr2 : ((i : Int) + (m : Int)).toNat = i + m := by omega
  have hr3 : (i : Int) + (m : Int) ≤ ((i + 1 + m : Nat) : Int) := by omega
  have hr4 : i + 1 + m - (i + m) = 1 := by omega
  have hcl := HCL.out
  have hr5 : (i : Int) + 1 ≤ (i : Int) + 1 + (m : Int) := by omega
  have hr6 : (i : Int) + (m : Int) ≤ (i : Int) + 1 + (m : Int) := by omega
  have hr7 : ((i : Int) + 1 + (m : Int)).toNat = i + 1 + m := by omega
  by_cases hci : c = i + 1
  · subst hci
    have HSRC0 : Hid (∀ j u, (idCells (ys.drop (i + 1)))[j]? = some u → w.drew.cell? ((⟨b, 0, none⟩ : Addr).add j) = some u) := Lib.hid (fun j v hv => by
      have h1 := (List.getElem?_eq_some_iff.1 hv).1
      have h2 := HDL.out
      omega)
    go_region_law (refine step_append_room rfl (.tmp 22) (.tmp 25) 41 rfl 24 i0 2 Try.underlying41 HI0.out.1 HI0.out.2 b 0 i (i + 1) rfl ⟨b, 0, none⟩ m 0 (idCells (ys.drop (i + 1))) rfl HDL.out HSRC0.out (idCells_one _) (by omega) HSP.out ?_; rw [hW1])
    go_wp2_with fail
    go_ret
    exact ⟨rfl, HFIN.out⟩
  · have hci2 : ¬ (i + 1 = c) := fun e => hci e.symm
    have hci3 : ¬ (c = i + m) := by omega
    have hci4 : ¬ (i + m = c) := by omega
    go_region_law (refine step_append_room rfl (.tmp 22) (.tmp 25) 41 rfl 24 i0 2 Try.underlying41 HI0.out.1 HI0.out.2 b 0 i c rfl ⟨b, (i + 1) * 2, none⟩ m (c - (i + 1)) (idCells (ys.drop (i + 1))) rfl HDL.out HSRC.out (idCells_one _) (by omega) HSP.out ?_; rw [hW1])
    go_wp2_with fail
    go_ret
    exact ⟨rfl, HFIN.out⟩
end Go.Proofs.Ytohmhbjiapflpaa
