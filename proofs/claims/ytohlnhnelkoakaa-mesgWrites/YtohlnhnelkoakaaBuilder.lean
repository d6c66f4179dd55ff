/- A strings.Builder of the call's own: what WriteString and String come to. -/
import Derived.Shelf.Strings.Builder1
import Derived.Test.YtohlnhnelkoakaaKeep
namespace Go.Proofs.Ytohlnhnelkoakaa
open Go.RowKit Go.Shelf
set_option linter.unusedVariables false

theorem bld_info : (Try.prog.info? 46).map (fun i => i.size) = some 2 := by kernel_rfl
theorem bld_lies : liesAt Try.prog Try.prog.depth 46 (2 / Try.prog.cellsOf 46) 0 46 1 = true := by kernel_rfl

/-- The builder in the block b holds the bytes l; what is its own lies from the block B on. -/
def Bld (w : World) (B b : Nat) (l : List UInt8) : Prop := Lib.IsBuilder 46 5 B b (Lib.byteCells l) w

set_option maxRecDepth 100000 in
set_option maxHeartbeats 400000 in
theorem bld_used (b : Nat) (w : World) (h0 : w.cell? ⟨b, 0, none⟩ = some (.pointer (some ⟨b, 0, none⟩))) :
    Calls Try.prog 44 #[.pointer (some ⟨b, 0, none⟩)] w fun e w' => e = .returned (.tuple #[]) ∧ w = w' := by
  obtain ⟨j, hj, _⟩ := Option.map_eq_some_iff.1 bld_info
  go_enter Try.func44, Try.ntmps44
  go_wp2
  rw [Lib.run_neq_ptr_same w _ Try.underlying43 hj]
  go_wp2
  go_end0
  exact ⟨rfl, rfl⟩

set_option maxRecDepth 100000 in
set_option maxHeartbeats 400000 in
theorem bld_fresh (b : Nat) (w : World) (h0 : w.cell? ⟨b, 0, none⟩ = some (.pointer none)) (hsh : w.shape? b = some (46, 2)) (hfz : w.frozen? ⟨b, 0, none⟩ = false) :
    Calls Try.prog 44 #[.pointer (some ⟨b, 0, none⟩)] w fun e w' => e = .returned (.tuple #[]) ∧ w.setCell ⟨b, 0, none⟩ (.pointer (some ⟨b, 0, none⟩)) = w' := by
  obtain ⟨j, hj, hjs⟩ := Option.map_eq_some_iff.1 bld_info
  have e1 := Lib.run_to_unsafe (P := Try.prog) w ⟨b, 0, none⟩ Try.underlying43 Try.underlying78 hj (by rw [hjs]; decide) hsh (Nat.zero_lt_succ 1)
  have e2 := Lib.run_from_unsafe (P := Try.prog) w ⟨b, 0, none⟩ Try.underlying78 Try.underlying43 hj hsh bld_lies
  go_enter Try.func44, Try.ntmps44
  go_wp2
  rw [run_callFunc_extern Try.func56 (by kernel_rfl) (by kernel_rfl) (by kernel_rfl) (e := Extern.AbiNoEscape.same) (by kernel_rfl)]
  rw [Lib.run_noEscape]
  simp only [Result.andThen]
  rw [Oper.upon_value]
  go_wp2
  go_end0
  exact ⟨rfl, rfl⟩

theorem bld_check (B b : Nat) (bs : List Value) (w : World) (h : Lib.IsBuilder 46 5 B b bs w) :
    Calls Try.prog 44 #[.pointer (some ⟨b, 0, none⟩)] w fun e w' => e = .returned (.tuple #[]) ∧ Lib.BuilderAt 46 5 B b (.pointer (some ⟨b, 0, none⟩)) bs w' ∧ Below B w w' := by
  rcases h with h | h
  · exact (bld_fresh b w h.cell0 h.shape h.frozen0).mono fun e w' ⟨h1, h2⟩ => ⟨h1, h2 ▸ h.used _, h2 ▸ (Below.refl B w).setCell (p := ⟨b, 0, none⟩) h.1 _⟩
  · exact (bld_used b w h.cell0).mono fun e w' ⟨h1, h2⟩ => ⟨h1, h2 ▸ h, h2 ▸ Below.refl _ _⟩

theorem bld_info_u8 : (Try.prog.info? 5).map (fun i => (i.zero, i.size, i.bytes)) = some (some (.int .u8 0), 1, 1) := by kernel_rfl

theorem strCells_of (s : ByteArray) : Lib.strCells s = Lib.byteCells s.data.toList := by simp [Lib.strCells, Lib.byteCells]

set_option maxRecDepth 100000 in
set_option maxHeartbeats 1000000 in
theorem bld_WriteString (B b : Nat) (l : List UInt8) (s : ByteArray) (w : World) (h : Bld w B b l) (hlen : l.length + s.size ≤ 1000000000) (hBw : B ≤ w.heap.size) :
    Calls Try.prog 21 #[.pointer (some ⟨b, 0, none⟩), .string s] w fun e w' => e = .returned (.tuple #[.int .i64 s.size, .nilIface]) ∧ Bld w' B b (l ++ s.data.toList) ∧ Below B w w' := by
  obtain ⟨i0, hi, hz0, hz1, hz2⟩ := info_parts bld_info_u8
  have HH := Lib.hid h
  clear h
  have hbl : (Lib.byteCells l).length = l.length := by simp [Lib.byteCells]
  have HBL := Lib.hid hbl
  clear hbl
  go_enter Try.func21, Try.ntmps21
  go_wp2_with fail
  refine (bld_check B b _ w HH.out).mono ?_
  rintro e w1 ⟨rfl, h1, hb1⟩
  obtain ⟨hB, v, hbk, hown, hne⟩ := h1
  have HBK : Hid (Holds w1 b [.pointer (some ⟨b, 0, none⟩), v] 46) := Lib.hid hbk
  have HOWN := Lib.hid hown
  have HNE := Lib.hid hne
  have c0 := HBK.out.cell 0 (by simp)
  have c1 := HBK.out.cell 1 (by simp)
  simp only [List.getElem_cons_succ, List.getElem_cons_zero] at c0 c1
  have hs1 := hb1.size
  clear hbk hown hne
  go_wp2_with (at_builtin; refine Lib.wpList_append_own_string _ rfl _ _ 44 9 rfl B 5 i0 Try.underlying44 Try.underlying9 hi hz0 hz1 hz2 v _ _ rfl HOWN.out s rfl (by rw [HBL.out]; unfold maxLen; omega) (by rw [HBL.out]; omega) (by omega) ?_; intro v2 w2 hown2 hgrow2 _; have HG2 : Hid (Keep (At v) w1 w2) := Lib.hid ((Keep.of_grown hgrow2).more (fun i _ hi => hi.symm)); have HBK2 : Hid (Holds w2 b [.pointer (some ⟨b, 0, none⟩), v] 46) := Lib.hid (HBK.out.keep HG2.out (fun e => HNE.out e)); have HOWN2 := Lib.hid hown2; have c2 := HBK2.out.cell 1 (by simp); have f2 := HBK2.out.frozen 1; simp only [List.getElem_cons_succ, List.getElem_cons_zero] at c2; obtain ⟨a2, m2, cap2, rfl⟩ : ∃ a m cap, v2 = .slice a m cap := (by
    rcases hown2.2 with ⟨hv, _⟩ | ⟨g, cap, cur, hv, _⟩
    · exact ⟨_, _, _, hv⟩
    · exact ⟨_, _, _, hv⟩); clear hown2 hgrow2)
  go_ret2
  refine ⟨rfl, .inr ?_, ?_⟩
  · have := Lib.BuilderAt.put (T := 46) (e := 5) (bs' := Lib.byteCells (l ++ s.data.toList)) hB HBK2.out (by
      have h2 := HOWN2.out
      rw [strCells_of] at h2
      have e1 : Lib.byteCells (l ++ s.data.toList) = Lib.byteCells l ++ Lib.byteCells s.data.toList := by simp [Lib.byteCells]
      rw [e1, List.length_append]
      have e2 : (Lib.byteCells s.data.toList).length = s.size := by simp [Lib.byteCells]
      rw [e2]
      exact h2) (by decide)
    exact this
  · exact (hb1.trans (HG2.out.below (Nat.le_trans hBw hs1) (fun i hi => (World.ownsRow.lt HOWN.out i hi).1))).setCell (p := ⟨b, 1, none⟩) hB _

def bldRen : Go.Shelf.Ren := ⟨fun | 169 => 26 | n => n, fun | 70 => 43 | 9 => 9 | 0 => 0 | 72 => 46 | 37 => 44 | 127 => 70 | 3 => 3 | 5 => 5 | n => n, fun | n => n⟩
theorem bldLays : Go.Proofs.Lays.n169 Try.prog bldRen := {
  mixed := by kernel_rfl
  f169 := Try.func26.trans (congrArg some (by kernel_rfl))
  t0 := Try.underlying0
  a0 := Try.isAgg0
  z0 := Try.sizeOf0
  v0 := Try.zeroValue0
  t3 := Try.underlying3
  a3 := Try.isAgg3
  z3 := Try.sizeOf3
  v3 := Try.zeroValue3
  t9 := Try.underlying9
  a9 := Try.isAgg9
  z9 := Try.sizeOf9
  v9 := Try.zeroValue9
  t37 := Try.underlying44
  a37 := Try.isAgg44
  z37 := Try.sizeOf44
  v37 := Try.zeroValue44
  t70 := Try.underlying43
  a70 := Try.isAgg43
  z70 := Try.sizeOf43
  v70 := Try.zeroValue43
  t72 := Try.underlying46
  a72 := Try.isAgg46
  z72 := Try.sizeOf46
  v72 := Try.zeroValue46
  t127 := Try.underlying70
  a127 := Try.isAgg70
  z127 := Try.sizeOf70
  v127 := Try.zeroValue70 }
theorem bldExtra : Builder.Extra Try.prog bldRen := {
  sizeBuilder := by kernel_rfl
  liesBuilder := by kernel_rfl
  t5 := Try.underlying5
  a5 := Try.isAgg5
  z5 := Try.sizeOf5
  v5 := Try.zeroValue5
  infoByte := by kernel_rfl
  cellsByte := by kernel_rfl
  sizeByte := by kernel_rfl
  neB5 := by decide }
theorem bld_String (B b : Nat) (l : List UInt8) (w : World) (h : Bld w B b l) (hBw : B ≤ w.heap.size) :
    Calls Try.prog 26 #[.pointer (some ⟨b, 0, none⟩)] w fun e w' => e = .returned (.string ⟨l.toArray⟩) ∧ Below B w w' := Any.Builder_String_any bldLays bldExtra B b l w h hBw

/-- 'var b strings.Builder'. -/
theorem Bld.new (w : World) : Bld (w.alloc (.cells #[.pointer none, .slice none 0 0] 46)) w.heap.size w.heap.size [] :=
  .inl ⟨Nat.le_refl _, .slice none 0 0, heap_alloc_new w _, World.ownsRow_nil _ _ _ _, by simp [Value.ownBlock]⟩
theorem Bld.below {w w' : World} {B b : Nat} {l : List UInt8} (h : Bld w B b l) (hb : Below w.heap.size w w') : Bld w' B b l := by
  have step : ∀ p, Lib.BuilderAt 46 5 B b p (Lib.byteCells l) w → Lib.BuilderAt 46 5 B b p (Lib.byteCells l) w' := fun p hp => by
    have hlt := hp.lt
    obtain ⟨h1, v, h2, h3, h4⟩ := hp
    exact ⟨h1, v, by rw [hb.block b hlt]; exact h2, (Keep.of_grew hb Non).ownsRow h3 (fun _ _ h => h), h4⟩
  rcases h with h | h
  · exact .inl (step _ h)
  · exact .inr (step _ h)
theorem Bld.drop {w : World} {B B' b : Nat} {l : List UInt8} (h : Bld w B b l) (hB : B' ≤ B) : Bld w B' b l := by
  have step : ∀ p, Lib.BuilderAt 46 5 B b p (Lib.byteCells l) w → Lib.BuilderAt 46 5 B' b p (Lib.byteCells l) w := fun p hp => by
    obtain ⟨h1, v, h2, ⟨h3, h5⟩, h4⟩ := hp
    refine ⟨Nat.le_trans hB h1, v, h2, ⟨h3, ?_⟩, h4⟩
    rcases h5 with h5 | ⟨g, cap, cur, hv, hb, r⟩
    · exact .inl h5
    · exact .inr ⟨g, cap, cur, hv, Nat.le_trans hB hb, r⟩
  rcases h with h | h
  · exact .inl (step _ h)
  · exact .inr (step _ h)
end Go.Proofs.Ytohlnhnelkoakaa
