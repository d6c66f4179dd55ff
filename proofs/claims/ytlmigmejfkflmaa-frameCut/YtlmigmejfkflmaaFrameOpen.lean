/- What frame.unstuff and frame.open come to. -/
import Derived.Test.YtlmigmejfkflmaaFrameUnst
import Derived.BigQuiet
import Derived.Deep.QuietTactic
namespace Go.Proofs.Ytlmigmejfkflmaa
open Go.RowKit
set_option linter.unusedVariables false

theorem run_snoc (l : List UInt8) (k : Nat) (h : k < l.length) : Frame.run (l.take (k + 1)) = Frame.step (Frame.run (l.take k)) l[k] := by
  rw [List.take_succ_eq_append_getElem h, Frame.run_append]
  rfl

/-- What unstuff answers. -/
def UnstV (l : List UInt8) (w' : World) (e : Ending) : Prop :=
  ∃ v, e = .returned (.tuple #[v, .bool (decide ((Frame.run l).1 = .plain))]) ∧ ((Frame.run l).1 = .plain → OwnB w' v (Frame.run l).2)

theorem heap_push (w : World) (o : Obj) (k : Nat) : (w.alloc o).heap[k]? = if k = w.heap.size then some o else w.heap[k]? := Array.getElem?_push
theorem heap_push_size (w : World) (o : Obj) : (w.alloc o).heap.size = w.heap.size + 1 := Array.size_push _

theorem unst_start (w : World) : Unst ((((((w.alloc (.cells #[.slice none 0 0] 39)).alloc (.cells #[.bool true] 4)).alloc (.cells #[plainF w.heap.size] 45)).alloc (.cells #[plainF w.heap.size] 45)).alloc (.cells #[signedF w.heap.size] 45)).alloc (.cells #[spoiltF] 45)) w.heap.size (Frame.run []) (.slice none 0 0) := by
  refine ⟨?_, OwnB.nil _, fun g hg => by simp [Value.ownBlock] at hg, ?_, ?_, ?_, ?_, ?_⟩ <;> (unfold Holds; simp only [heap_push, heap_push_size])
  · rw [if_neg (by omega), if_neg (by omega), if_neg (by omega), if_neg (by omega), if_neg (by omega), if_pos trivial]
  · rw [if_neg (by omega), if_neg (by omega), if_neg (by omega), if_neg (by omega), if_pos trivial]; rfl
  · rw [if_neg (by omega), if_neg (by omega), if_neg (by omega), if_pos trivial]; rfl
  · rw [if_neg (by omega), if_neg (by omega), if_pos trivial]
  · rw [if_neg (by omega), if_pos trivial]
  · rw [if_pos trivial]

theorem step_lens (s : Frame.At × List UInt8) (b : UInt8) : (Frame.step s b).2.length ≤ s.2.length + 1 := by
  obtain ⟨a, t⟩ := s
  cases a
  · by_cases h : b = 125 <;> simp [Frame.step, h]
  · by_cases h : b = 94
    · simp [Frame.step, h]
    · by_cases g : b = 93 <;> simp [Frame.step, h, g]
  · simp [Frame.step]
theorem run_lens : ∀ (l : List UInt8) (s : Frame.At × List UInt8), (Frame.runs s l).2.length ≤ s.2.length + l.length
  | [], s => by simp [Frame.runs]
  | c :: l, s => by
    have h1 := step_lens s c
    have h2 := run_lens l (Frame.step s c)
    rw [Frame.runs_cons, List.length_cons]
    omega

set_option maxHeartbeats 2000000 in
theorem frame_unstuff (v : Value) (l : List UInt8) (w : World) (hv : SliceB w v l) (hl : l.length ≤ 100000) :
    Calls Try.prog 33 #[v] w fun e w' => UnstV l w' e ∧ Below w.heap.size w w' := by
  obtain ⟨a, cap, rfl, hcap, hrow⟩ := hv
  have HROW := Lib.hid hrow
  clear hrow
  go_enter Try.func33, Try.ntmps33
  go_wp2
  go_loopw [17] (fun i wr => ∃ k : Nat, k ≤ l.length ∧ i = .int .i64 k ∧ (∃ v, Unst wr w.heap.size (Frame.run (l.take k)) v) ∧ Below w.heap.size w wr) (fun i _ => l.length - (intOf i).toNat)
  case atStart =>
    exact ⟨0, by omega, rfl, ⟨_, unst_start w⟩, (((((((Below.refl _ _).alloc (Nat.le_refl _) _).alloc (by simp) _).alloc (by simp; omega) _).alloc (by simp; omega) _).alloc (by simp; omega) _).alloc (by simp; omega) _)⟩
  case round =>
    obtain ⟨k, hk, rfl, ⟨v, hun⟩, hbel⟩ := hrel
    have HU := Lib.hid hun
    have HB := Lib.hid hbel
    have hlen : (Frame.run (l.take k)).2.length ≤ 100000 := by
      have := run_lens (l.take k) (.plain, [])
      rw [List.length_take] at this
      show (Frame.runs _ _).2.length ≤ _
      simp only [List.length_nil] at this
      omega
    have HL := Lib.hid hlen
    clear hun hbel hlen
    by_cases hlt : k < l.length
    · have hdk : decide ((k : Int) < (l.length : Int)) = true := by simp; omega
      have hdn : decide (k < l.length) = true := by simpa using hlt
      have hik : (k : Int) < (l.length : Int) := by omega
      have HS := Lib.hid (run_snoc l k hlt)
      rcases HROW.out with h | ⟨blk, off, rfl, hblk, hcells⟩
      · subst h; simp at hlt
      · have hcell : wr.cell? ⟨blk, off + k, none⟩ = some (.int .u8 (l[k].toNat : Int)) := by
          rw [HB.out.cell (p := ⟨blk, off + k, none⟩) hblk]; exact hcells k hlt
        clear hcells
        generalize hst : Frame.run (l.take k) = st at *
        have HST := Lib.hid hst
        clear hst
        obtain ⟨at_, t⟩ := st
        obtain ⟨cn, fn⟩ := HU.out.now.one
        cases at_
        · rw [show nowF w.heap.size (Frame.At.plain) = .func (.func 37) #[] #[ptr (w.heap.size + 4), ptr (w.heap.size + 2), ptr (w.heap.size + 1), ptr w.heap.size] from rfl] at cn
          go_wp2_with fail
          refine (unst_plain w.heap.size t v l[k] wr HU.out HL.out).mono ?_
          rintro e w1 ⟨rfl, hun1, hb1⟩
          go_wp2
          go_roundw
          case rel => exact ⟨k + 1, by omega, by go_num, by rw [HS.out]; exact hun1, HB.out.trans hb1⟩
          case measure => simp [intOf]; omega
        · rw [show nowF w.heap.size (Frame.At.signed) = .func (.func 39) #[] #[ptr w.heap.size, ptr (w.heap.size + 5), ptr (w.heap.size + 2), ptr (w.heap.size + 3), ptr (w.heap.size + 1)] from rfl] at cn
          go_wp2_with fail
          refine (unst_signed w.heap.size t v l[k] wr HU.out HL.out).mono ?_
          rintro e w1 ⟨rfl, hun1, hb1⟩
          go_wp2
          go_roundw
          case rel => exact ⟨k + 1, by omega, by go_num, by rw [HS.out]; exact hun1, HB.out.trans hb1⟩
          case measure => simp [intOf]; omega
        · rw [show nowF w.heap.size (Frame.At.spoilt) = .func (.func 38) #[] #[] from rfl] at cn
          go_wp2_with fail
          refine (unst_spoilt w.heap.size t v l[k] wr HU.out).mono ?_
          rintro e w1 ⟨rfl, hun1, hb1⟩
          go_wp2
          go_roundw
          case rel => exact ⟨k + 1, by omega, by go_num, by rw [HS.out]; exact hun1, HB.out.trans hb1⟩
          case measure => simp [intOf]; omega
    · have hdn : decide (k < l.length) = false := by simpa using hlt
      have e1 : l.take k = l := List.take_of_length_le (by omega)
      rw [e1] at HU
      clear e1 HL
      obtain ⟨cw, fw⟩ := HU.out.whole.one
      obtain ⟨ct, ft⟩ := HU.out.text.one
      by_cases hp : (Frame.run l).1 = .plain
      · have hdp : decide ((Frame.run l).1 = .plain) = true := by simpa using hp
        have HP := Lib.hid hp
        have HV : Hid (UnstV l wr (.returned (.tuple #[v, .bool true]))) := Lib.hid ⟨v, by rw [hdp], fun _ => HU.out.own⟩
        rw [hdp] at cw
        clear hp hdp
        go_wp2
        go_ret2
        exact ⟨HV.out, HB.out⟩
      · have hdp : decide ((Frame.run l).1 = .plain) = false := by simpa using hp
        have HP := Lib.hid hp
        have HV : Hid (UnstV l wr (.returned (.tuple #[.slice none 0 0, .bool false]))) := Lib.hid ⟨_, by rw [hdp], fun h => absurd h HP.out⟩
        rw [hdp] at cw
        clear hp hdp
        go_wp2
        go_ret2
        exact ⟨HV.out, HB.out⟩

/-- What open answers. -/
def openV (o : Option (List UInt8)) : Value := match o with
  | some t => .tuple #[.string ⟨t.toArray⟩, .bool true]
  | none => .tuple #[.string ⟨#[]⟩, .bool false]

set_option maxHeartbeats 1000000 in
theorem frame_open (v : Value) (l : List UInt8) (w : World) (hv : SliceB w v l) (hl : l.length ≤ 100000) :
    Calls Try.prog 30 #[v] w fun e w' => e = .returned (openV (Frame.opened l)) ∧ Below w.heap.size w w' := by
  have HV := Lib.hid hv
  clear hv
  have hlen := run_lens l (.plain, [])
  have er : Frame.runs (.plain, []) l = Frame.run l := rfl
  rw [er] at hlen
  simp only [List.length_nil, Nat.zero_add] at hlen
  by_cases h1 : (Frame.run l).1 = .plain
  · have hd1 : decide ((Frame.run l).1 = .plain) = true := by simpa using h1
    have H1 := Lib.hid h1
    have HD1 := Lib.hid hd1
    have hsz : (ByteArray.mk (Frame.run l).2.toArray).size = (Frame.run l).2.length := by rw [← size_list]
    have HSZ := Lib.hid hsz
    clear hsz hd1 er
    by_cases h3 : (Frame.run l).2.length < 3
    · have HO : Hid (Frame.opened l = none) := Lib.hid (by unfold Frame.opened; rw [if_neg]; rintro ⟨_, h, _⟩; omega)
      clear h1
      go_enter Try.func30, Try.ntmps30
      go_wp2_with fail
      refine (frame_unstuff v l w HV.out hl).mono ?_
      rintro e w1 ⟨⟨v1, rfl, ho1⟩, hb1⟩
      rw [HD1.out]
      have hcv := (ho1 H1.out).to.text
      clear ho1
      go_wp2_with fail
      refine (crcs_Open_short _ _ (by rw [HSZ.out]; exact h3)).mono ?_
      rintro e w2 ⟨rfl, hb2⟩
      go_wp2
      go_ret2
      exact ⟨by rw [HO.out]; rfl, grew hb1 hb2⟩
    · by_cases hz : Crc.sum (Frame.run l).2 = 0#24
      · have HZ : Hid (Crc.sum (ByteArray.mk (Frame.run l).2.toArray).data.toList = 0#24) := Lib.hid (by simpa using hz)
        have hext : (ByteArray.mk (Frame.run l).2.toArray).extract 0 ((ByteArray.mk (Frame.run l).2.toArray).size - 3) = ⟨((Frame.run l).2.take ((Frame.run l).2.length - 3)).toArray⟩ := by
          apply str_ext
          rw [Lib.extract_data, HSZ.out]
          simp
        have HEX := Lib.hid hext
        have hts : (ByteArray.mk ((Frame.run l).2.take ((Frame.run l).2.length - 3)).toArray).size = (Frame.run l).2.length - 3 := by
          rw [← size_list]; simp
        have HTS := Lib.hid hts
        by_cases h4 : (Frame.run l).2.length ≤ 2003
        · have HO : Hid (Frame.opened l = some ((Frame.run l).2.take ((Frame.run l).2.length - 3))) := Lib.hid (by unfold Frame.opened; rw [if_pos ⟨h1, by omega, hz, h4⟩])
          clear h1 hz hext hts
          go_enter Try.func30, Try.ntmps30
          go_wp2_with fail
          refine (frame_unstuff v l w HV.out hl).mono ?_
          rintro e w1 ⟨⟨v1, rfl, ho1⟩, hb1⟩
          rw [HD1.out]
          have hcv := (ho1 H1.out).to.text
          clear ho1
          go_wp2_with fail
          refine (crcs_Open_ok _ _ (by rw [HSZ.out]; omega) (by rw [HSZ.out]; omega) HZ.out).mono ?_
          rintro e w2 ⟨rfl, hb2⟩
          rw [HEX.out]
          have hts := HTS.out
          generalize hT : ((Frame.run l).2.take ((Frame.run l).2.length - 3)) = T at *
          clear hT
          have hd4 : decide ((2000 : Int) < (T.length : Int)) = false := by
            have e : (ByteArray.mk T.toArray).size = T.length := by rw [← size_list]
            rw [e] at hts; rw [hts]; simp; omega
          clear hts
          go_wp2
          go_ret2
          exact ⟨by rw [HO.out]; rfl, grew hb1 hb2⟩
        · have HO : Hid (Frame.opened l = none) := Lib.hid (by unfold Frame.opened; rw [if_neg]; rintro ⟨_, _, _, h⟩; omega)
          clear h1 hz hext hts
          go_enter Try.func30, Try.ntmps30
          go_wp2_with fail
          refine (frame_unstuff v l w HV.out hl).mono ?_
          rintro e w1 ⟨⟨v1, rfl, ho1⟩, hb1⟩
          rw [HD1.out]
          have hcv := (ho1 H1.out).to.text
          clear ho1
          go_wp2_with fail
          refine (crcs_Open_ok _ _ (by rw [HSZ.out]; omega) (by rw [HSZ.out]; omega) HZ.out).mono ?_
          rintro e w2 ⟨rfl, hb2⟩
          rw [HEX.out]
          have hts := HTS.out
          generalize hT : ((Frame.run l).2.take ((Frame.run l).2.length - 3)) = T at *
          clear hT
          have hd4 : decide ((2000 : Int) < (T.length : Int)) = true := by
            have e : (ByteArray.mk T.toArray).size = T.length := by rw [← size_list]
            rw [e] at hts; rw [hts]; simp; omega
          clear hts
          go_wp2
          go_ret2
          exact ⟨by rw [HO.out]; rfl, grew hb1 hb2⟩
      · have HO : Hid (Frame.opened l = none) := Lib.hid (by unfold Frame.opened; rw [if_neg]; rintro ⟨_, _, h, _⟩; exact hz h)
        have HZ : Hid (Crc.sum (ByteArray.mk (Frame.run l).2.toArray).data.toList ≠ 0#24) := Lib.hid (by simpa using hz)
        clear h1 hz
        go_enter Try.func30, Try.ntmps30
        go_wp2_with fail
        refine (frame_unstuff v l w HV.out hl).mono ?_
        rintro e w1 ⟨⟨v1, rfl, ho1⟩, hb1⟩
        rw [HD1.out]
        have hcv := (ho1 H1.out).to.text
        clear ho1
        go_wp2_with fail
        refine (crcs_Open_bad _ _ (by rw [HSZ.out]; omega) (by rw [HSZ.out]; omega) HZ.out).mono ?_
        rintro e w2 ⟨rfl, hb2⟩
        go_wp2
        go_ret2
        exact ⟨by rw [HO.out]; rfl, grew hb1 hb2⟩
  · have hd1 : decide ((Frame.run l).1 = .plain) = false := by simpa using h1
    have HD1 := Lib.hid hd1
    have HO : Hid (Frame.opened l = none) := Lib.hid (by unfold Frame.opened; rw [if_neg]; rintro ⟨h, _⟩; exact h1 h)
    clear h1 hd1 er hlen
    go_enter Try.func30, Try.ntmps30
    go_wp2_with fail
    refine (frame_unstuff v l w HV.out hl).mono ?_
    rintro e w1 ⟨⟨v1, rfl, ho1⟩, hb1⟩
    rw [HD1.out]
    clear ho1
    go_wp2
    go_ret2
    exact ⟨by rw [HO.out]; rfl, hb1⟩
end Go.Proofs.Ytlmigmejfkflmaa
