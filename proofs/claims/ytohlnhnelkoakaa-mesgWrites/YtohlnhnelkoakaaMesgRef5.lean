/- What duetref04.nums comes to. -/
import Derived.Test.YtohlnhnelkoakaaMesgEnc
import Derived.Test.YtohlnhnelkoakaaPackRef
namespace Go.Proofs.Ytohlnhnelkoakaa
open Go.RowKit
set_option linter.unusedVariables false

theorem numsI_step (zs : List Int) (k : Nat) (h : k < zs.length) : str (Mesg.numsI (zs.take k)) ++ str (Pack.num zs[k].toNat) = str (Mesg.numsI (zs.take (k + 1))) := by
  have e : ∀ xs ys : List Int, Mesg.numsI (xs ++ ys) = Mesg.numsI xs ++ Mesg.numsI ys := fun xs ys => by simp [Mesg.numsI, Pack.nums]
  have e2 : Mesg.numsI [zs[k]] = Pack.num zs[k].toNat := by simp [Mesg.numsI, Pack.nums]
  rw [str_append, List.take_succ_eq_append_getElem h, e, e2]

set_option maxRecDepth 100000 in
set_option maxHeartbeats 1000000 in
theorem ref04_nums (v : Value) (zs : List Int) (w : World) (hv : SliceI w v zs) (hm : zs.length ≤ 1000) (hf : ∀ z ∈ zs, Mesg.Fit z) :
    Calls Try.prog 28 #[v] w fun e w' => e = .returned (.string (str (Mesg.numsI zs))) ∧ Below w.heap.size w w' := by
  obtain ⟨a, cap, rfl, hcap, hrow⟩ := hv
  have HROW := Lib.hid hrow
  have HF := Lib.hid hf
  clear hrow hf
  go_enter Try.func28, Try.ntmps28
  go_wp2
  go_loopw [3, 4] (fun out i W => ∃ k : Nat, k ≤ zs.length ∧ i = .int .i64 k ∧ out = .string (str (Mesg.numsI (zs.take k))) ∧ Below w.heap.size w W) (fun out i _ => zs.length - (intOf i).toNat)
  case atStart => exact ⟨0, by omega, rfl, rfl, Below.refl _ _⟩
  case round =>
    obtain ⟨k, hk, rfl, rfl, hb⟩ := hrel
    have HB := Lib.hid hb
    clear hb
    by_cases hlt : k < zs.length
    · have hdk : decide ((k : Int) < (zs.length : Int)) = true := by simp; omega
      have hdn : decide (k < zs.length) = true := by simpa using hlt
      have hik : (k : Int) < (zs.length : Int) := by omega
      rcases HROW.out with h | ⟨blk, off, rfl, hblk, hcells⟩
      · rw [h] at hlt; simp at hlt
      · have hcell : wr.cell? ⟨blk, off + k, none⟩ = some (.int .i64 zs[k]) := (HB.out.cell (p := ⟨blk, off + k, none⟩) hblk).trans (hcells k hlt)
        clear hcells
        obtain ⟨z, hz⟩ : ∃ z : Nat, zs[k] = (z : Int) := ⟨zs[k].toNat, by have := (HF.out zs[k] (List.getElem_mem hlt)).1; omega⟩
        have hz2 : z < 4294967296 := by have := (HF.out zs[k] (List.getElem_mem hlt)).2; omega
        have HS := Lib.hid (numsI_step zs k hlt)
        rw [hz] at hcell HS
        rw [Int.toNat_natCast] at HS
        clear hz
        go_wp2_with fail
        refine (ref01_Num_yes z _ hz2).mono ?_
        rintro e w1 ⟨rfl, hb1⟩
        have HB := Lib.hid (grew HB.out hb1)
        clear hb1
        have hs1 : (str (Mesg.numsI (zs.take k))).size ≤ 5000 := by
          have : (str (Mesg.numsI (zs.take k))).size = (Mesg.numsI (zs.take k)).length := rfl
          have h5 := numsI_len (zs.take k)
          rw [List.length_take] at h5
          omega
        have hs2 : (str (Pack.num z)).size ≤ 5 := by
          have : (str (Pack.num z)).size = (Pack.num z).length := rfl
          have := (Pack.num_len_le z).2
          omega
        go_wp2
        rw [HS.out]
        go_roundw
        case rel => exact ⟨k + 1, by omega, by go_num, rfl, HB.out⟩
        case measure => simp [intOf]; omega
    · have hdn : decide (k < zs.length) = false := by simpa using hlt
      have HE : Hid (zs.take k = zs) := Lib.hid (List.take_of_length_le (by omega))
      go_wp2
      go_ret
      rw [HE.out]
      exact ⟨rfl, HB.out⟩
end Go.Proofs.Ytohlnhnelkoakaa
