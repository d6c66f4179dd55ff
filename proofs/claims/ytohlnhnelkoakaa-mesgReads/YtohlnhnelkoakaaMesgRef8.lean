/- The reference's Decode, one way behind the other. -/
import Derived.Test.YtohlnhnelkoakaaMesgRef7
import Derived.RegionTactic
import Derived.ChangeAlike
namespace Go.Proofs.Ytohlnhnelkoakaa
open Go.RowKit
set_option linter.unusedVariables false

set_option maxRecDepth 100000 in
set_option maxHeartbeats 8000000 in
theorem rdec_0 (s : ByteArray) (a b : Nat) (l1 l2 : List UInt8) (e1 : Nat) (w : World) (hs : s.size ≤ 1000000) (q1 : rnum s.data.toList 0 = (a, l1, e1)) (e2 : Nat) (q2 : rnum l1 e1 = (b, l2, e2)) (he : e2 ≠ 0) :
    Calls Try.prog 19 #[.string s] w fun e w' => decV (.error e2) w' e ∧ Below w.heap.size w w' := by
  have D0 := Lib.hid (ref_start w s)
  have hl0 : s.data.toList.length ≤ 1000000000 := by rw [size_list]; omega
  have hl1 := rnum_short q1 hl0
  have hl2 := rnum_short q2 hl1
  have hd : ((e2 : Int) == 0) = false := by rw [beq_eq_false_iff_ne]; omega
  have hd' : ((e2 : Int) != 0) = true := by simpa using he
  have HE := Lib.hid he
  have Q1 := Lib.hid q1
  have Q2 := Lib.hid q2
  clear q1 q2
  clear he
  go_enter Try.func19, Try.ntmps19
  go_wp2_with fail
  refine (num_as Q1.out D0.out.rd hl0).mono ?_
  rintro e' w1 ⟨rfl, hr, hk⟩
  have D1 := Lib.hid (D0.out.gets hr hk)
  clear hr hk
  obtain ⟨⟨c0, c1, c2⟩, c3, c4, c5, c6, c7, c8, c9⟩ := msg_cells D1.out.msg
  have q0 := D1.out.msg.frozen 0
  have q1 := D1.out.msg.frozen 1
  have q2 := D1.out.msg.frozen 2
  have q3 := D1.out.msg.frozen 3
  have q4 := D1.out.msg.frozen 4
  have q5 := D1.out.msg.frozen 5
  have q6 := D1.out.msg.frozen 6
  have q7 := D1.out.msg.frozen 7
  have q8 := D1.out.msg.frozen 8
  have q9 := D1.out.msg.frozen 9
  obtain ⟨r0, r1, g0, g1⟩ := D1.out.rd.cells
  simp only [Mesg.none, Mesg.noOp, Mesg.zero] at c0 c1 c2 c3 c4 c5 c6 c7 c8 c9
  have E1 := Lib.hid ((D1.out).put 0 (.int .i64 (a : Int)) (by omega) (m' := ⟨(a : Int), 0, [], ⟨0, 0, ⟨0, 0⟩, ⟨0, 0⟩, 0⟩⟩) rfl rfl)
  go_wp2_with fail
  refine (num_as Q2.out E1.out.rd hl1).mono ?_
  rintro e' w2 ⟨rfl, hr, hk⟩
  clear c0 c1 c2 c3 c4 c5 c6 c7 c8 c9 q0 q1 q2 q3 q4 q5 q6 q7 q8 q9 r0 r1 g0 g1
  have D2 := Lib.hid (E1.out.gets hr hk)
  clear hr hk
  obtain ⟨⟨c0, c1, c2⟩, c3, c4, c5, c6, c7, c8, c9⟩ := msg_cells D2.out.msg
  have q0 := D2.out.msg.frozen 0
  have q1 := D2.out.msg.frozen 1
  have q2 := D2.out.msg.frozen 2
  have q3 := D2.out.msg.frozen 3
  have q4 := D2.out.msg.frozen 4
  have q5 := D2.out.msg.frozen 5
  have q6 := D2.out.msg.frozen 6
  have q7 := D2.out.msg.frozen 7
  have q8 := D2.out.msg.frozen 8
  have q9 := D2.out.msg.frozen 9
  obtain ⟨r0, r1, g0, g1⟩ := D2.out.rd.cells
  simp only at c0 c1 c2 c3 c4 c5 c6 c7 c8 c9
  have E2 := Lib.hid ((D2.out).put 1 (.int .i64 (b : Int)) (by omega) (m' := ⟨(a : Int), (b : Int), [], ⟨0, 0, ⟨0, 0⟩, ⟨0, 0⟩, 0⟩⟩) rfl rfl)
  go_wp2_with fail
  refine (num_bad HE.out E2.out.rd hl2).mono ?_
  rintro e' w3 ⟨rfl, hr, hk⟩
  clear c0 c1 c2 c3 c4 c5 c6 c7 c8 c9 q0 q1 q2 q3 q4 q5 q6 q7 q8 q9 r0 r1 g0 g1
  have D3 := Lib.hid (E2.out.gets hr hk)
  clear hr hk
  obtain ⟨⟨c0, c1, c2⟩, c3, c4, c5, c6, c7, c8, c9⟩ := msg_cells D3.out.msg
  have q0 := D3.out.msg.frozen 0
  have q1 := D3.out.msg.frozen 1
  have q2 := D3.out.msg.frozen 2
  have q3 := D3.out.msg.frozen 3
  have q4 := D3.out.msg.frozen 4
  have q5 := D3.out.msg.frozen 5
  have q6 := D3.out.msg.frozen 6
  have q7 := D3.out.msg.frozen 7
  have q8 := D3.out.msg.frozen 8
  have q9 := D3.out.msg.frozen 9
  obtain ⟨r0, r1, g0, g1⟩ := D3.out.rd.cells
  simp only at c0 c1 c2 c3 c4 c5 c6 c7 c8 c9
  have E3 := Lib.hid ((D3.out).put 3 (.int .i64 0) (by omega) (m' := ⟨(a : Int), (b : Int), [], ⟨0, 0, ⟨0, 0⟩, ⟨0, 0⟩, 0⟩⟩) rfl rfl)
  go_wp2_with fail
  refine (num_bad HE.out E3.out.rd hl2).mono ?_
  rintro e' w4 ⟨rfl, hr, hk⟩
  clear c0 c1 c2 c3 c4 c5 c6 c7 c8 c9 q0 q1 q2 q3 q4 q5 q6 q7 q8 q9 r0 r1 g0 g1
  have D4 := Lib.hid (E3.out.gets hr hk)
  clear hr hk
  obtain ⟨⟨c0, c1, c2⟩, c3, c4, c5, c6, c7, c8, c9⟩ := msg_cells D4.out.msg
  have q0 := D4.out.msg.frozen 0
  have q1 := D4.out.msg.frozen 1
  have q2 := D4.out.msg.frozen 2
  have q3 := D4.out.msg.frozen 3
  have q4 := D4.out.msg.frozen 4
  have q5 := D4.out.msg.frozen 5
  have q6 := D4.out.msg.frozen 6
  have q7 := D4.out.msg.frozen 7
  have q8 := D4.out.msg.frozen 8
  have q9 := D4.out.msg.frozen 9
  obtain ⟨r0, r1, g0, g1⟩ := D4.out.rd.cells
  simp only at c0 c1 c2 c3 c4 c5 c6 c7 c8 c9
  have E4 := Lib.hid ((D4.out).put 4 (.int .i64 0) (by omega) (m' := ⟨(a : Int), (b : Int), [], ⟨0, 0, ⟨0, 0⟩, ⟨0, 0⟩, 0⟩⟩) rfl rfl)
  go_wp2_with fail
  refine (id_bad HE.out E4.out.rd hl2).mono ?_
  rintro e' w5 ⟨rfl, hr, hk⟩
  clear c0 c1 c2 c3 c4 c5 c6 c7 c8 c9 q0 q1 q2 q3 q4 q5 q6 q7 q8 q9 r0 r1 g0 g1
  have D5 := Lib.hid (E4.out.gets hr hk)
  clear hr hk
  obtain ⟨⟨c0, c1, c2⟩, c3, c4, c5, c6, c7, c8, c9⟩ := msg_cells D5.out.msg
  have q0 := D5.out.msg.frozen 0
  have q1 := D5.out.msg.frozen 1
  have q2 := D5.out.msg.frozen 2
  have q3 := D5.out.msg.frozen 3
  have q4 := D5.out.msg.frozen 4
  have q5 := D5.out.msg.frozen 5
  have q6 := D5.out.msg.frozen 6
  have q7 := D5.out.msg.frozen 7
  have q8 := D5.out.msg.frozen 8
  have q9 := D5.out.msg.frozen 9
  obtain ⟨r0, r1, g0, g1⟩ := D5.out.rd.cells
  simp only at c0 c1 c2 c3 c4 c5 c6 c7 c8 c9
  have E5 := Lib.hid (((D5.out).put 7 (.int .i64 0) (by omega) (m' := ⟨(a : Int), (b : Int), [], ⟨0, 0, ⟨0, 0⟩, ⟨0, 0⟩, 0⟩⟩) rfl rfl).put 8 (.int .i64 0) (by omega) (m' := ⟨(a : Int), (b : Int), [], ⟨0, 0, ⟨0, 0⟩, ⟨0, 0⟩, 0⟩⟩) rfl rfl)
  go_wp2_with fail
  clear c0 c1 c2 c3 c4 c5 c6 c7 c8 c9 q0 q1 q2 q3 q4 q5 q6 q7 q8 q9 r0 r1 g0 g1
  obtain ⟨⟨d0, d1, d2⟩, d3, d4, d5, d6, d7, d8, d9⟩ := msg_cells E5.out.res
  have f0 := E5.out.res.frozen 0
  have f1 := E5.out.res.frozen 1
  have f2 := E5.out.res.frozen 2
  have f3 := E5.out.res.frozen 3
  have f4 := E5.out.res.frozen 4
  have f5 := E5.out.res.frozen 5
  have f6 := E5.out.res.frozen 6
  have f7 := E5.out.res.frozen 7
  have f8 := E5.out.res.frozen 8
  have f9 := E5.out.res.frozen 9
  obtain ⟨r0, r1, g0, g1⟩ := E5.out.rd.cells
  simp only [Mesg.none, Mesg.noOp, Mesg.zero] at d0 d1 d2 d3 d4 d5 d6 d7 d8 d9
  go_region
  go_wp2
  have HF := setMsg_holds E5.out.res Mesg.none (.slice none 0 0)
  have HK := setMsg_keep _ w.heap.size Mesg.none (.slice none 0 0) |>.below E5.out.below.size (fun i e => by have e : i = w.heap.size := e; omega)
  exact bodyPost_ret (v := .tuple #[msgV Mesg.none (.slice none 0 0), .int .i64 (e2 : Int)]) (rdec_res _ Mesg.none (.slice none 0 0) (e2 : Int) _ w (holds_drew HF) rfl rfl) rfl ⟨rfl, (E5.out.below.trans HK).drew⟩

set_option maxRecDepth 100000 in
set_option maxHeartbeats 8000000 in
theorem rdec_1 (s : ByteArray) (a b : Nat) (l1 l2 : List UInt8) (e1 : Nat) (w : World) (hs : s.size ≤ 1000000) (q1 : rnum s.data.toList 0 = (a, l1, e1)) (q2 : rnum l1 e1 = (b, l2, 0)) (kn : List Nat) (l3 : List UInt8) (e3 : Nat) (q3 : Pack.each l2 = (kn, l3, e3)) (he : e3 ≠ 0) :
    Calls Try.prog 19 #[.string s] w fun e w' => decV (.error e3) w' e ∧ Below w.heap.size w w' := by
  have D0 := Lib.hid (ref_start w s)
  have hl0 : s.data.toList.length ≤ 1000000000 := by rw [size_list]; omega
  have hl1 := rnum_short q1 hl0
  have hl2 := rnum_short q2 hl1
  have hl3 := (each_short q3 hl2).1
  have hd : ((e3 : Int) == 0) = false := by rw [beq_eq_false_iff_ne]; omega
  have hd' : ((e3 : Int) != 0) = true := by simpa using he
  have HE := Lib.hid he
  have Q1 := Lib.hid q1
  have Q2 := Lib.hid q2
  have Q3 := Lib.hid q3
  clear q1 q2 q3
  clear he
  go_enter Try.func19, Try.ntmps19
  go_wp2_with fail
  refine (num_as Q1.out D0.out.rd hl0).mono ?_
  rintro e' w1 ⟨rfl, hr, hk⟩
  have D1 := Lib.hid (D0.out.gets hr hk)
  clear hr hk
  obtain ⟨⟨c0, c1, c2⟩, c3, c4, c5, c6, c7, c8, c9⟩ := msg_cells D1.out.msg
  have q0 := D1.out.msg.frozen 0
  have q1 := D1.out.msg.frozen 1
  have q2 := D1.out.msg.frozen 2
  have q3 := D1.out.msg.frozen 3
  have q4 := D1.out.msg.frozen 4
  have q5 := D1.out.msg.frozen 5
  have q6 := D1.out.msg.frozen 6
  have q7 := D1.out.msg.frozen 7
  have q8 := D1.out.msg.frozen 8
  have q9 := D1.out.msg.frozen 9
  obtain ⟨r0, r1, g0, g1⟩ := D1.out.rd.cells
  simp only [Mesg.none, Mesg.noOp, Mesg.zero] at c0 c1 c2 c3 c4 c5 c6 c7 c8 c9
  have E1 := Lib.hid ((D1.out).put 0 (.int .i64 (a : Int)) (by omega) (m' := ⟨(a : Int), 0, [], ⟨0, 0, ⟨0, 0⟩, ⟨0, 0⟩, 0⟩⟩) rfl rfl)
  go_wp2_with fail
  refine (num_as Q2.out E1.out.rd hl1).mono ?_
  rintro e' w2 ⟨rfl, hr, hk⟩
  clear c0 c1 c2 c3 c4 c5 c6 c7 c8 c9 q0 q1 q2 q3 q4 q5 q6 q7 q8 q9 r0 r1 g0 g1
  have D2 := Lib.hid (E1.out.gets hr hk)
  clear hr hk
  obtain ⟨⟨c0, c1, c2⟩, c3, c4, c5, c6, c7, c8, c9⟩ := msg_cells D2.out.msg
  have q0 := D2.out.msg.frozen 0
  have q1 := D2.out.msg.frozen 1
  have q2 := D2.out.msg.frozen 2
  have q3 := D2.out.msg.frozen 3
  have q4 := D2.out.msg.frozen 4
  have q5 := D2.out.msg.frozen 5
  have q6 := D2.out.msg.frozen 6
  have q7 := D2.out.msg.frozen 7
  have q8 := D2.out.msg.frozen 8
  have q9 := D2.out.msg.frozen 9
  obtain ⟨r0, r1, g0, g1⟩ := D2.out.rd.cells
  simp only at c0 c1 c2 c3 c4 c5 c6 c7 c8 c9
  have E2 := Lib.hid ((D2.out).put 1 (.int .i64 (b : Int)) (by omega) (m' := ⟨(a : Int), (b : Int), [], ⟨0, 0, ⟨0, 0⟩, ⟨0, 0⟩, 0⟩⟩) rfl rfl)
  go_wp2_with fail
  refine (each_as Q3.out hl2).mono ?_
  rintro e' w3 ⟨⟨v3, rfl, hsl3, hfar3⟩, hb3⟩
  clear c0 c1 c2 c3 c4 c5 c6 c7 c8 c9 q0 q1 q2 q3 q4 q5 q6 q7 q8 q9 r0 r1 g0 g1
  have D3 := Lib.hid (E2.out.grew hb3)
  have HFAR : Hid (∀ g, v3.ownBlock = some g → w.heap.size + 1 + 1 < g) := Lib.hid (fun g hg => Nat.lt_of_lt_of_le E2.out.msg.lt (hfar3 g hg))
  have HSL : Hid (SliceI w3 v3 (natI kn)) := Lib.hid hsl3
  obtain ⟨a3, p3, rfl, _, _⟩ := HSL.out
  clear hsl3 hfar3 hb3
  obtain ⟨⟨c0, c1, c2⟩, c3, c4, c5, c6, c7, c8, c9⟩ := msg_cells D3.out.msg
  have q0 := D3.out.msg.frozen 0
  have q1 := D3.out.msg.frozen 1
  have q2 := D3.out.msg.frozen 2
  have q3 := D3.out.msg.frozen 3
  have q4 := D3.out.msg.frozen 4
  have q5 := D3.out.msg.frozen 5
  have q6 := D3.out.msg.frozen 6
  have q7 := D3.out.msg.frozen 7
  have q8 := D3.out.msg.frozen 8
  have q9 := D3.out.msg.frozen 9
  obtain ⟨r0, r1, g0, g1⟩ := D3.out.rd.cells
  simp only at c0 c1 c2 c3 c4 c5 c6 c7 c8 c9
  have E3 := Lib.hid ((D3.out.set 2 (.slice a3 (natI kn).length p3) (by omega) (m' := ⟨(a : Int), (b : Int), natI kn, ⟨0, 0, ⟨0, 0⟩, ⟨0, 0⟩, 0⟩⟩) (v' := (.slice a3 (natI kn).length p3)) rfl HSL.out HFAR.out).rests l3 e3)
  go_wp2_with fail
  refine (num_bad HE.out E3.out.rd hl3).mono ?_
  rintro e' w4 ⟨rfl, hr, hk⟩
  clear c0 c1 c2 c3 c4 c5 c6 c7 c8 c9 q0 q1 q2 q3 q4 q5 q6 q7 q8 q9 r0 r1 g0 g1
  have D4 := Lib.hid (E3.out.gets hr hk)
  clear hr hk
  obtain ⟨⟨c0, c1, c2⟩, c3, c4, c5, c6, c7, c8, c9⟩ := msg_cells D4.out.msg
  have q0 := D4.out.msg.frozen 0
  have q1 := D4.out.msg.frozen 1
  have q2 := D4.out.msg.frozen 2
  have q3 := D4.out.msg.frozen 3
  have q4 := D4.out.msg.frozen 4
  have q5 := D4.out.msg.frozen 5
  have q6 := D4.out.msg.frozen 6
  have q7 := D4.out.msg.frozen 7
  have q8 := D4.out.msg.frozen 8
  have q9 := D4.out.msg.frozen 9
  obtain ⟨r0, r1, g0, g1⟩ := D4.out.rd.cells
  simp only at c0 c1 c2 c3 c4 c5 c6 c7 c8 c9
  have E4 := Lib.hid ((D4.out).put 3 (.int .i64 0) (by omega) (m' := ⟨(a : Int), (b : Int), natI kn, ⟨0, 0, ⟨0, 0⟩, ⟨0, 0⟩, 0⟩⟩) rfl rfl)
  go_wp2_with fail
  refine (num_bad HE.out E4.out.rd hl3).mono ?_
  rintro e' w5 ⟨rfl, hr, hk⟩
  clear c0 c1 c2 c3 c4 c5 c6 c7 c8 c9 q0 q1 q2 q3 q4 q5 q6 q7 q8 q9 r0 r1 g0 g1
  have D5 := Lib.hid (E4.out.gets hr hk)
  clear hr hk
  obtain ⟨⟨c0, c1, c2⟩, c3, c4, c5, c6, c7, c8, c9⟩ := msg_cells D5.out.msg
  have q0 := D5.out.msg.frozen 0
  have q1 := D5.out.msg.frozen 1
  have q2 := D5.out.msg.frozen 2
  have q3 := D5.out.msg.frozen 3
  have q4 := D5.out.msg.frozen 4
  have q5 := D5.out.msg.frozen 5
  have q6 := D5.out.msg.frozen 6
  have q7 := D5.out.msg.frozen 7
  have q8 := D5.out.msg.frozen 8
  have q9 := D5.out.msg.frozen 9
  obtain ⟨r0, r1, g0, g1⟩ := D5.out.rd.cells
  simp only at c0 c1 c2 c3 c4 c5 c6 c7 c8 c9
  have E5 := Lib.hid ((D5.out).put 4 (.int .i64 0) (by omega) (m' := ⟨(a : Int), (b : Int), natI kn, ⟨0, 0, ⟨0, 0⟩, ⟨0, 0⟩, 0⟩⟩) rfl rfl)
  go_wp2_with fail
  refine (id_bad HE.out E5.out.rd hl3).mono ?_
  rintro e' w6 ⟨rfl, hr, hk⟩
  clear c0 c1 c2 c3 c4 c5 c6 c7 c8 c9 q0 q1 q2 q3 q4 q5 q6 q7 q8 q9 r0 r1 g0 g1
  have D6 := Lib.hid (E5.out.gets hr hk)
  clear hr hk
  obtain ⟨⟨c0, c1, c2⟩, c3, c4, c5, c6, c7, c8, c9⟩ := msg_cells D6.out.msg
  have q0 := D6.out.msg.frozen 0
  have q1 := D6.out.msg.frozen 1
  have q2 := D6.out.msg.frozen 2
  have q3 := D6.out.msg.frozen 3
  have q4 := D6.out.msg.frozen 4
  have q5 := D6.out.msg.frozen 5
  have q6 := D6.out.msg.frozen 6
  have q7 := D6.out.msg.frozen 7
  have q8 := D6.out.msg.frozen 8
  have q9 := D6.out.msg.frozen 9
  obtain ⟨r0, r1, g0, g1⟩ := D6.out.rd.cells
  simp only at c0 c1 c2 c3 c4 c5 c6 c7 c8 c9
  have E6 := Lib.hid (((D6.out).put 7 (.int .i64 0) (by omega) (m' := ⟨(a : Int), (b : Int), natI kn, ⟨0, 0, ⟨0, 0⟩, ⟨0, 0⟩, 0⟩⟩) rfl rfl).put 8 (.int .i64 0) (by omega) (m' := ⟨(a : Int), (b : Int), natI kn, ⟨0, 0, ⟨0, 0⟩, ⟨0, 0⟩, 0⟩⟩) rfl rfl)
  go_wp2_with fail
  clear c0 c1 c2 c3 c4 c5 c6 c7 c8 c9 q0 q1 q2 q3 q4 q5 q6 q7 q8 q9 r0 r1 g0 g1
  obtain ⟨⟨d0, d1, d2⟩, d3, d4, d5, d6, d7, d8, d9⟩ := msg_cells E6.out.res
  have f0 := E6.out.res.frozen 0
  have f1 := E6.out.res.frozen 1
  have f2 := E6.out.res.frozen 2
  have f3 := E6.out.res.frozen 3
  have f4 := E6.out.res.frozen 4
  have f5 := E6.out.res.frozen 5
  have f6 := E6.out.res.frozen 6
  have f7 := E6.out.res.frozen 7
  have f8 := E6.out.res.frozen 8
  have f9 := E6.out.res.frozen 9
  obtain ⟨r0, r1, g0, g1⟩ := E6.out.rd.cells
  simp only [Mesg.none, Mesg.noOp, Mesg.zero] at d0 d1 d2 d3 d4 d5 d6 d7 d8 d9
  go_region
  go_wp2
  have HF := setMsg_holds E6.out.res Mesg.none (.slice none 0 0)
  have HK := setMsg_keep _ w.heap.size Mesg.none (.slice none 0 0) |>.below E6.out.below.size (fun i e => by have e : i = w.heap.size := e; omega)
  exact bodyPost_ret (v := .tuple #[msgV Mesg.none (.slice none 0 0), .int .i64 (e3 : Int)]) (rdec_res _ Mesg.none (.slice none 0 0) (e3 : Int) _ w (holds_drew HF) rfl rfl) rfl ⟨rfl, (E6.out.below.trans HK).drew⟩

set_option maxRecDepth 100000 in
set_option maxHeartbeats 8000000 in
theorem rdec_2 (s : ByteArray) (a b : Nat) (l1 l2 : List UInt8) (e1 : Nat) (w : World) (hs : s.size ≤ 1000000) (q1 : rnum s.data.toList 0 = (a, l1, e1)) (q2 : rnum l1 e1 = (b, l2, 0)) (kn : List Nat) (l3 : List UInt8) (q3 : Pack.each l2 = (kn, l3, 0)) (l4 : List UInt8) (e4 : Nat) (q4 : rnum l3 0 = (0, l4, e4)) (he : e4 ≠ 0) :
    Calls Try.prog 19 #[.string s] w fun e w' => decV (.error e4) w' e ∧ Below w.heap.size w w' := by
  have D0 := Lib.hid (ref_start w s)
  have hl0 : s.data.toList.length ≤ 1000000000 := by rw [size_list]; omega
  have hl1 := rnum_short q1 hl0
  have hl2 := rnum_short q2 hl1
  have hl3 := (each_short q3 hl2).1
  have hl4 := rnum_short q4 hl3
  have hd : ((e4 : Int) == 0) = false := by rw [beq_eq_false_iff_ne]; omega
  have hd' : ((e4 : Int) != 0) = true := by simpa using he
  have HE := Lib.hid he
  have Q1 := Lib.hid q1
  have Q2 := Lib.hid q2
  have Q3 := Lib.hid q3
  have Q4 := Lib.hid q4
  clear q1 q2 q3 q4
  clear he
  go_enter Try.func19, Try.ntmps19
  go_wp2_with fail
  refine (num_as Q1.out D0.out.rd hl0).mono ?_
  rintro e' w1 ⟨rfl, hr, hk⟩
  have D1 := Lib.hid (D0.out.gets hr hk)
  clear hr hk
  obtain ⟨⟨c0, c1, c2⟩, c3, c4, c5, c6, c7, c8, c9⟩ := msg_cells D1.out.msg
  have q0 := D1.out.msg.frozen 0
  have q1 := D1.out.msg.frozen 1
  have q2 := D1.out.msg.frozen 2
  have q3 := D1.out.msg.frozen 3
  have q4 := D1.out.msg.frozen 4
  have q5 := D1.out.msg.frozen 5
  have q6 := D1.out.msg.frozen 6
  have q7 := D1.out.msg.frozen 7
  have q8 := D1.out.msg.frozen 8
  have q9 := D1.out.msg.frozen 9
  obtain ⟨r0, r1, g0, g1⟩ := D1.out.rd.cells
  simp only [Mesg.none, Mesg.noOp, Mesg.zero] at c0 c1 c2 c3 c4 c5 c6 c7 c8 c9
  have E1 := Lib.hid ((D1.out).put 0 (.int .i64 (a : Int)) (by omega) (m' := ⟨(a : Int), 0, [], ⟨0, 0, ⟨0, 0⟩, ⟨0, 0⟩, 0⟩⟩) rfl rfl)
  go_wp2_with fail
  refine (num_as Q2.out E1.out.rd hl1).mono ?_
  rintro e' w2 ⟨rfl, hr, hk⟩
  clear c0 c1 c2 c3 c4 c5 c6 c7 c8 c9 q0 q1 q2 q3 q4 q5 q6 q7 q8 q9 r0 r1 g0 g1
  have D2 := Lib.hid (E1.out.gets hr hk)
  clear hr hk
  obtain ⟨⟨c0, c1, c2⟩, c3, c4, c5, c6, c7, c8, c9⟩ := msg_cells D2.out.msg
  have q0 := D2.out.msg.frozen 0
  have q1 := D2.out.msg.frozen 1
  have q2 := D2.out.msg.frozen 2
  have q3 := D2.out.msg.frozen 3
  have q4 := D2.out.msg.frozen 4
  have q5 := D2.out.msg.frozen 5
  have q6 := D2.out.msg.frozen 6
  have q7 := D2.out.msg.frozen 7
  have q8 := D2.out.msg.frozen 8
  have q9 := D2.out.msg.frozen 9
  obtain ⟨r0, r1, g0, g1⟩ := D2.out.rd.cells
  simp only at c0 c1 c2 c3 c4 c5 c6 c7 c8 c9
  have E2 := Lib.hid ((D2.out).put 1 (.int .i64 (b : Int)) (by omega) (m' := ⟨(a : Int), (b : Int), [], ⟨0, 0, ⟨0, 0⟩, ⟨0, 0⟩, 0⟩⟩) rfl rfl)
  go_wp2_with fail
  refine (each_as Q3.out hl2).mono ?_
  rintro e' w3 ⟨⟨v3, rfl, hsl3, hfar3⟩, hb3⟩
  clear c0 c1 c2 c3 c4 c5 c6 c7 c8 c9 q0 q1 q2 q3 q4 q5 q6 q7 q8 q9 r0 r1 g0 g1
  have D3 := Lib.hid (E2.out.grew hb3)
  have HFAR : Hid (∀ g, v3.ownBlock = some g → w.heap.size + 1 + 1 < g) := Lib.hid (fun g hg => Nat.lt_of_lt_of_le E2.out.msg.lt (hfar3 g hg))
  have HSL : Hid (SliceI w3 v3 (natI kn)) := Lib.hid hsl3
  obtain ⟨a3, p3, rfl, _, _⟩ := HSL.out
  clear hsl3 hfar3 hb3
  obtain ⟨⟨c0, c1, c2⟩, c3, c4, c5, c6, c7, c8, c9⟩ := msg_cells D3.out.msg
  have q0 := D3.out.msg.frozen 0
  have q1 := D3.out.msg.frozen 1
  have q2 := D3.out.msg.frozen 2
  have q3 := D3.out.msg.frozen 3
  have q4 := D3.out.msg.frozen 4
  have q5 := D3.out.msg.frozen 5
  have q6 := D3.out.msg.frozen 6
  have q7 := D3.out.msg.frozen 7
  have q8 := D3.out.msg.frozen 8
  have q9 := D3.out.msg.frozen 9
  obtain ⟨r0, r1, g0, g1⟩ := D3.out.rd.cells
  simp only at c0 c1 c2 c3 c4 c5 c6 c7 c8 c9
  have E3 := Lib.hid ((D3.out.set 2 (.slice a3 (natI kn).length p3) (by omega) (m' := ⟨(a : Int), (b : Int), natI kn, ⟨0, 0, ⟨0, 0⟩, ⟨0, 0⟩, 0⟩⟩) (v' := (.slice a3 (natI kn).length p3)) rfl HSL.out HFAR.out).rests l3 0)
  go_wp2_with fail
  refine (num_is (z := 0) Q4.out rfl E3.out.rd hl3).mono ?_
  rintro e' w4 ⟨rfl, hr, hk⟩
  clear c0 c1 c2 c3 c4 c5 c6 c7 c8 c9 q0 q1 q2 q3 q4 q5 q6 q7 q8 q9 r0 r1 g0 g1
  have D4 := Lib.hid (E3.out.gets hr hk)
  clear hr hk
  obtain ⟨⟨c0, c1, c2⟩, c3, c4, c5, c6, c7, c8, c9⟩ := msg_cells D4.out.msg
  have q0 := D4.out.msg.frozen 0
  have q1 := D4.out.msg.frozen 1
  have q2 := D4.out.msg.frozen 2
  have q3 := D4.out.msg.frozen 3
  have q4 := D4.out.msg.frozen 4
  have q5 := D4.out.msg.frozen 5
  have q6 := D4.out.msg.frozen 6
  have q7 := D4.out.msg.frozen 7
  have q8 := D4.out.msg.frozen 8
  have q9 := D4.out.msg.frozen 9
  obtain ⟨r0, r1, g0, g1⟩ := D4.out.rd.cells
  simp only at c0 c1 c2 c3 c4 c5 c6 c7 c8 c9
  have E4 := Lib.hid ((D4.out).put 3 (.int .i64 0) (by omega) (m' := ⟨(a : Int), (b : Int), natI kn, ⟨0, 0, ⟨0, 0⟩, ⟨0, 0⟩, 0⟩⟩) rfl rfl)
  go_wp2_with fail
  refine (num_bad HE.out E4.out.rd hl4).mono ?_
  rintro e' w5 ⟨rfl, hr, hk⟩
  clear c0 c1 c2 c3 c4 c5 c6 c7 c8 c9 q0 q1 q2 q3 q4 q5 q6 q7 q8 q9 r0 r1 g0 g1
  have D5 := Lib.hid (E4.out.gets hr hk)
  clear hr hk
  obtain ⟨⟨c0, c1, c2⟩, c3, c4, c5, c6, c7, c8, c9⟩ := msg_cells D5.out.msg
  have q0 := D5.out.msg.frozen 0
  have q1 := D5.out.msg.frozen 1
  have q2 := D5.out.msg.frozen 2
  have q3 := D5.out.msg.frozen 3
  have q4 := D5.out.msg.frozen 4
  have q5 := D5.out.msg.frozen 5
  have q6 := D5.out.msg.frozen 6
  have q7 := D5.out.msg.frozen 7
  have q8 := D5.out.msg.frozen 8
  have q9 := D5.out.msg.frozen 9
  obtain ⟨r0, r1, g0, g1⟩ := D5.out.rd.cells
  simp only at c0 c1 c2 c3 c4 c5 c6 c7 c8 c9
  have E5 := Lib.hid ((D5.out).put 4 (.int .i64 0) (by omega) (m' := ⟨(a : Int), (b : Int), natI kn, ⟨0, 0, ⟨0, 0⟩, ⟨0, 0⟩, 0⟩⟩) rfl rfl)
  go_wp2_with fail
  refine (id_bad HE.out E5.out.rd hl4).mono ?_
  rintro e' w6 ⟨rfl, hr, hk⟩
  clear c0 c1 c2 c3 c4 c5 c6 c7 c8 c9 q0 q1 q2 q3 q4 q5 q6 q7 q8 q9 r0 r1 g0 g1
  have D6 := Lib.hid (E5.out.gets hr hk)
  clear hr hk
  obtain ⟨⟨c0, c1, c2⟩, c3, c4, c5, c6, c7, c8, c9⟩ := msg_cells D6.out.msg
  have q0 := D6.out.msg.frozen 0
  have q1 := D6.out.msg.frozen 1
  have q2 := D6.out.msg.frozen 2
  have q3 := D6.out.msg.frozen 3
  have q4 := D6.out.msg.frozen 4
  have q5 := D6.out.msg.frozen 5
  have q6 := D6.out.msg.frozen 6
  have q7 := D6.out.msg.frozen 7
  have q8 := D6.out.msg.frozen 8
  have q9 := D6.out.msg.frozen 9
  obtain ⟨r0, r1, g0, g1⟩ := D6.out.rd.cells
  simp only at c0 c1 c2 c3 c4 c5 c6 c7 c8 c9
  have E6 := Lib.hid (((D6.out).put 7 (.int .i64 0) (by omega) (m' := ⟨(a : Int), (b : Int), natI kn, ⟨0, 0, ⟨0, 0⟩, ⟨0, 0⟩, 0⟩⟩) rfl rfl).put 8 (.int .i64 0) (by omega) (m' := ⟨(a : Int), (b : Int), natI kn, ⟨0, 0, ⟨0, 0⟩, ⟨0, 0⟩, 0⟩⟩) rfl rfl)
  go_wp2_with fail
  clear c0 c1 c2 c3 c4 c5 c6 c7 c8 c9 q0 q1 q2 q3 q4 q5 q6 q7 q8 q9 r0 r1 g0 g1
  obtain ⟨⟨d0, d1, d2⟩, d3, d4, d5, d6, d7, d8, d9⟩ := msg_cells E6.out.res
  have f0 := E6.out.res.frozen 0
  have f1 := E6.out.res.frozen 1
  have f2 := E6.out.res.frozen 2
  have f3 := E6.out.res.frozen 3
  have f4 := E6.out.res.frozen 4
  have f5 := E6.out.res.frozen 5
  have f6 := E6.out.res.frozen 6
  have f7 := E6.out.res.frozen 7
  have f8 := E6.out.res.frozen 8
  have f9 := E6.out.res.frozen 9
  obtain ⟨r0, r1, g0, g1⟩ := E6.out.rd.cells
  simp only [Mesg.none, Mesg.noOp, Mesg.zero] at d0 d1 d2 d3 d4 d5 d6 d7 d8 d9
  go_region
  go_wp2
  have HF := setMsg_holds E6.out.res Mesg.none (.slice none 0 0)
  have HK := setMsg_keep _ w.heap.size Mesg.none (.slice none 0 0) |>.below E6.out.below.size (fun i e => by have e : i = w.heap.size := e; omega)
  exact bodyPost_ret (v := .tuple #[msgV Mesg.none (.slice none 0 0), .int .i64 (e4 : Int)]) (rdec_res _ Mesg.none (.slice none 0 0) (e4 : Int) _ w (holds_drew HF) rfl rfl) rfl ⟨rfl, (E6.out.below.trans HK).drew⟩

set_option maxRecDepth 100000 in
set_option maxHeartbeats 8000000 in
theorem rdec_3a (s : ByteArray) (a b : Nat) (l1 l2 : List UInt8) (e1 : Nat) (w : World) (hs : s.size ≤ 1000000) (q1 : rnum s.data.toList 0 = (a, l1, e1)) (q2 : rnum l1 e1 = (b, l2, 0)) (kn : List Nat) (l3 : List UInt8) (q3 : Pack.each l2 = (kn, l3, 0)) (l4 : List UInt8) (z : Int) (k : Nat) (hz : (k : Int) = z) (q4 : rnum l3 0 = (k, l4, 0)) (h1 : z < 1) :
    Calls Try.prog 19 #[.string s] w fun e w' => decV (.error 2) w' e ∧ Below w.heap.size w w' := by
  have D0 := Lib.hid (ref_start w s)
  have hl0 : s.data.toList.length ≤ 1000000000 := by rw [size_list]; omega
  have hl1 := rnum_short q1 hl0
  have hl2 := rnum_short q2 hl1
  have hl3 := (each_short q3 hl2).1
  have hl4 := rnum_short q4 hl3
  have hk1 : decide (z < 1) = true := decide_eq_true h1
  have hn1 : (z == 1) = false := by rw [beq_eq_false_iff_ne]; omega
  have hn6 : (z == 6) = false := by rw [beq_eq_false_iff_ne]; omega
  have hn6' : (z != 6) = true := by simp; omega
  have Q1 := Lib.hid q1
  have Q2 := Lib.hid q2
  have Q3 := Lib.hid q3
  have Q4 := Lib.hid q4
  clear q1 q2 q3 q4
  have HZ := Lib.hid hz
  clear hz
  clear h1
  go_enter Try.func19, Try.ntmps19
  go_wp2_with fail
  refine (num_as Q1.out D0.out.rd hl0).mono ?_
  rintro e' w1 ⟨rfl, hr, hk⟩
  have D1 := Lib.hid (D0.out.gets hr hk)
  clear hr hk
  obtain ⟨⟨c0, c1, c2⟩, c3, c4, c5, c6, c7, c8, c9⟩ := msg_cells D1.out.msg
  have q0 := D1.out.msg.frozen 0
  have q1 := D1.out.msg.frozen 1
  have q2 := D1.out.msg.frozen 2
  have q3 := D1.out.msg.frozen 3
  have q4 := D1.out.msg.frozen 4
  have q5 := D1.out.msg.frozen 5
  have q6 := D1.out.msg.frozen 6
  have q7 := D1.out.msg.frozen 7
  have q8 := D1.out.msg.frozen 8
  have q9 := D1.out.msg.frozen 9
  obtain ⟨r0, r1, g0, g1⟩ := D1.out.rd.cells
  simp only [Mesg.none, Mesg.noOp, Mesg.zero] at c0 c1 c2 c3 c4 c5 c6 c7 c8 c9
  have E1 := Lib.hid ((D1.out).put 0 (.int .i64 (a : Int)) (by omega) (m' := ⟨(a : Int), 0, [], ⟨0, 0, ⟨0, 0⟩, ⟨0, 0⟩, 0⟩⟩) rfl rfl)
  go_wp2_with fail
  refine (num_as Q2.out E1.out.rd hl1).mono ?_
  rintro e' w2 ⟨rfl, hr, hk⟩
  clear c0 c1 c2 c3 c4 c5 c6 c7 c8 c9 q0 q1 q2 q3 q4 q5 q6 q7 q8 q9 r0 r1 g0 g1
  have D2 := Lib.hid (E1.out.gets hr hk)
  clear hr hk
  obtain ⟨⟨c0, c1, c2⟩, c3, c4, c5, c6, c7, c8, c9⟩ := msg_cells D2.out.msg
  have q0 := D2.out.msg.frozen 0
  have q1 := D2.out.msg.frozen 1
  have q2 := D2.out.msg.frozen 2
  have q3 := D2.out.msg.frozen 3
  have q4 := D2.out.msg.frozen 4
  have q5 := D2.out.msg.frozen 5
  have q6 := D2.out.msg.frozen 6
  have q7 := D2.out.msg.frozen 7
  have q8 := D2.out.msg.frozen 8
  have q9 := D2.out.msg.frozen 9
  obtain ⟨r0, r1, g0, g1⟩ := D2.out.rd.cells
  simp only at c0 c1 c2 c3 c4 c5 c6 c7 c8 c9
  have E2 := Lib.hid ((D2.out).put 1 (.int .i64 (b : Int)) (by omega) (m' := ⟨(a : Int), (b : Int), [], ⟨0, 0, ⟨0, 0⟩, ⟨0, 0⟩, 0⟩⟩) rfl rfl)
  go_wp2_with fail
  refine (each_as Q3.out hl2).mono ?_
  rintro e' w3 ⟨⟨v3, rfl, hsl3, hfar3⟩, hb3⟩
  clear c0 c1 c2 c3 c4 c5 c6 c7 c8 c9 q0 q1 q2 q3 q4 q5 q6 q7 q8 q9 r0 r1 g0 g1
  have D3 := Lib.hid (E2.out.grew hb3)
  have HFAR : Hid (∀ g, v3.ownBlock = some g → w.heap.size + 1 + 1 < g) := Lib.hid (fun g hg => Nat.lt_of_lt_of_le E2.out.msg.lt (hfar3 g hg))
  have HSL : Hid (SliceI w3 v3 (natI kn)) := Lib.hid hsl3
  obtain ⟨a3, p3, rfl, _, _⟩ := HSL.out
  clear hsl3 hfar3 hb3
  obtain ⟨⟨c0, c1, c2⟩, c3, c4, c5, c6, c7, c8, c9⟩ := msg_cells D3.out.msg
  have q0 := D3.out.msg.frozen 0
  have q1 := D3.out.msg.frozen 1
  have q2 := D3.out.msg.frozen 2
  have q3 := D3.out.msg.frozen 3
  have q4 := D3.out.msg.frozen 4
  have q5 := D3.out.msg.frozen 5
  have q6 := D3.out.msg.frozen 6
  have q7 := D3.out.msg.frozen 7
  have q8 := D3.out.msg.frozen 8
  have q9 := D3.out.msg.frozen 9
  obtain ⟨r0, r1, g0, g1⟩ := D3.out.rd.cells
  simp only at c0 c1 c2 c3 c4 c5 c6 c7 c8 c9
  have E3 := Lib.hid ((D3.out.set 2 (.slice a3 (natI kn).length p3) (by omega) (m' := ⟨(a : Int), (b : Int), natI kn, ⟨0, 0, ⟨0, 0⟩, ⟨0, 0⟩, 0⟩⟩) (v' := (.slice a3 (natI kn).length p3)) rfl HSL.out HFAR.out).rests l3 0)
  go_wp2_with fail
  refine (num_is (z := z) Q4.out HZ.out E3.out.rd hl3).mono ?_
  rintro e' w4 ⟨rfl, hr, hk⟩
  clear c0 c1 c2 c3 c4 c5 c6 c7 c8 c9 q0 q1 q2 q3 q4 q5 q6 q7 q8 q9 r0 r1 g0 g1
  have D4 := Lib.hid (E3.out.gets hr hk)
  clear hr hk
  obtain ⟨⟨c0, c1, c2⟩, c3, c4, c5, c6, c7, c8, c9⟩ := msg_cells D4.out.msg
  have q0 := D4.out.msg.frozen 0
  have q1 := D4.out.msg.frozen 1
  have q2 := D4.out.msg.frozen 2
  have q3 := D4.out.msg.frozen 3
  have q4 := D4.out.msg.frozen 4
  have q5 := D4.out.msg.frozen 5
  have q6 := D4.out.msg.frozen 6
  have q7 := D4.out.msg.frozen 7
  have q8 := D4.out.msg.frozen 8
  have q9 := D4.out.msg.frozen 9
  obtain ⟨r0, r1, g0, g1⟩ := D4.out.rd.cells
  simp only at c0 c1 c2 c3 c4 c5 c6 c7 c8 c9
  have E4 := Lib.hid ((D4.out).put 3 (.int .i64 z) (by omega) (m' := ⟨(a : Int), (b : Int), natI kn, ⟨z, 0, ⟨0, 0⟩, ⟨0, 0⟩, 0⟩⟩) rfl rfl)
  have F4 := Lib.hid E4.out.errs2
  go_wp2_with fail
  refine (num_bad (by decide) F4.out.rd hl4).mono ?_
  rintro e' w5 ⟨rfl, hr, hk⟩
  clear c0 c1 c2 c3 c4 c5 c6 c7 c8 c9 q0 q1 q2 q3 q4 q5 q6 q7 q8 q9 r0 r1 g0 g1
  have D5 := Lib.hid (F4.out.gets hr hk)
  clear hr hk
  obtain ⟨⟨c0, c1, c2⟩, c3, c4, c5, c6, c7, c8, c9⟩ := msg_cells D5.out.msg
  have q0 := D5.out.msg.frozen 0
  have q1 := D5.out.msg.frozen 1
  have q2 := D5.out.msg.frozen 2
  have q3 := D5.out.msg.frozen 3
  have q4 := D5.out.msg.frozen 4
  have q5 := D5.out.msg.frozen 5
  have q6 := D5.out.msg.frozen 6
  have q7 := D5.out.msg.frozen 7
  have q8 := D5.out.msg.frozen 8
  have q9 := D5.out.msg.frozen 9
  obtain ⟨r0, r1, g0, g1⟩ := D5.out.rd.cells
  simp only at c0 c1 c2 c3 c4 c5 c6 c7 c8 c9
  have E5 := Lib.hid ((D5.out).put 4 (.int .i64 0) (by omega) (m' := ⟨(a : Int), (b : Int), natI kn, ⟨z, 0, ⟨0, 0⟩, ⟨0, 0⟩, 0⟩⟩) rfl rfl)
  go_wp2_with fail
  refine (id_bad (by decide) E5.out.rd hl4).mono ?_
  rintro e' w6 ⟨rfl, hr, hk⟩
  clear c0 c1 c2 c3 c4 c5 c6 c7 c8 c9 q0 q1 q2 q3 q4 q5 q6 q7 q8 q9 r0 r1 g0 g1
  have D6 := Lib.hid (E5.out.gets hr hk)
  clear hr hk
  obtain ⟨⟨c0, c1, c2⟩, c3, c4, c5, c6, c7, c8, c9⟩ := msg_cells D6.out.msg
  have q0 := D6.out.msg.frozen 0
  have q1 := D6.out.msg.frozen 1
  have q2 := D6.out.msg.frozen 2
  have q3 := D6.out.msg.frozen 3
  have q4 := D6.out.msg.frozen 4
  have q5 := D6.out.msg.frozen 5
  have q6 := D6.out.msg.frozen 6
  have q7 := D6.out.msg.frozen 7
  have q8 := D6.out.msg.frozen 8
  have q9 := D6.out.msg.frozen 9
  obtain ⟨r0, r1, g0, g1⟩ := D6.out.rd.cells
  simp only at c0 c1 c2 c3 c4 c5 c6 c7 c8 c9
  have E6 := Lib.hid (((D6.out).put 7 (.int .i64 0) (by omega) (m' := ⟨(a : Int), (b : Int), natI kn, ⟨z, 0, ⟨0, 0⟩, ⟨0, 0⟩, 0⟩⟩) rfl rfl).put 8 (.int .i64 0) (by omega) (m' := ⟨(a : Int), (b : Int), natI kn, ⟨z, 0, ⟨0, 0⟩, ⟨0, 0⟩, 0⟩⟩) rfl rfl)
  go_wp2_with fail
  clear c0 c1 c2 c3 c4 c5 c6 c7 c8 c9 q0 q1 q2 q3 q4 q5 q6 q7 q8 q9 r0 r1 g0 g1
  obtain ⟨⟨d0, d1, d2⟩, d3, d4, d5, d6, d7, d8, d9⟩ := msg_cells E6.out.res
  have f0 := E6.out.res.frozen 0
  have f1 := E6.out.res.frozen 1
  have f2 := E6.out.res.frozen 2
  have f3 := E6.out.res.frozen 3
  have f4 := E6.out.res.frozen 4
  have f5 := E6.out.res.frozen 5
  have f6 := E6.out.res.frozen 6
  have f7 := E6.out.res.frozen 7
  have f8 := E6.out.res.frozen 8
  have f9 := E6.out.res.frozen 9
  obtain ⟨r0, r1, g0, g1⟩ := E6.out.rd.cells
  simp only [Mesg.none, Mesg.noOp, Mesg.zero] at d0 d1 d2 d3 d4 d5 d6 d7 d8 d9
  go_region
  go_wp2
  have HF := setMsg_holds E6.out.res Mesg.none (.slice none 0 0)
  have HK := setMsg_keep _ w.heap.size Mesg.none (.slice none 0 0) |>.below E6.out.below.size (fun i e => by have e : i = w.heap.size := e; omega)
  exact bodyPost_ret (v := .tuple #[msgV Mesg.none (.slice none 0 0), .int .i64 (2 : Int)]) (rdec_res _ Mesg.none (.slice none 0 0) (2 : Int) _ w (holds_drew HF) rfl rfl) rfl ⟨rfl, (E6.out.below.trans HK).drew⟩

set_option maxRecDepth 100000 in
set_option maxHeartbeats 8000000 in
theorem rdec_3b (s : ByteArray) (a b : Nat) (l1 l2 : List UInt8) (e1 : Nat) (w : World) (hs : s.size ≤ 1000000) (q1 : rnum s.data.toList 0 = (a, l1, e1)) (q2 : rnum l1 e1 = (b, l2, 0)) (kn : List Nat) (l3 : List UInt8) (q3 : Pack.each l2 = (kn, l3, 0)) (l4 : List UInt8) (z : Int) (k : Nat) (hz : (k : Int) = z) (q4 : rnum l3 0 = (k, l4, 0)) (h1 : 8 < z) :
    Calls Try.prog 19 #[.string s] w fun e w' => decV (.error 2) w' e ∧ Below w.heap.size w w' := by
  have D0 := Lib.hid (ref_start w s)
  have hl0 : s.data.toList.length ≤ 1000000000 := by rw [size_list]; omega
  have hl1 := rnum_short q1 hl0
  have hl2 := rnum_short q2 hl1
  have hl3 := (each_short q3 hl2).1
  have hl4 := rnum_short q4 hl3
  have hk1 : decide (z < 1) = false := decide_eq_false (by omega)
  have hk8 : decide (8 < z) = true := decide_eq_true h1
  have hn1 : (z == 1) = false := by rw [beq_eq_false_iff_ne]; omega
  have hn6 : (z == 6) = false := by rw [beq_eq_false_iff_ne]; omega
  have hn6' : (z != 6) = true := by simp; omega
  have Q1 := Lib.hid q1
  have Q2 := Lib.hid q2
  have Q3 := Lib.hid q3
  have Q4 := Lib.hid q4
  clear q1 q2 q3 q4
  have HZ := Lib.hid hz
  clear hz
  clear h1
  go_enter Try.func19, Try.ntmps19
  go_wp2_with fail
  refine (num_as Q1.out D0.out.rd hl0).mono ?_
  rintro e' w1 ⟨rfl, hr, hk⟩
  have D1 := Lib.hid (D0.out.gets hr hk)
  clear hr hk
  obtain ⟨⟨c0, c1, c2⟩, c3, c4, c5, c6, c7, c8, c9⟩ := msg_cells D1.out.msg
  have q0 := D1.out.msg.frozen 0
  have q1 := D1.out.msg.frozen 1
  have q2 := D1.out.msg.frozen 2
  have q3 := D1.out.msg.frozen 3
  have q4 := D1.out.msg.frozen 4
  have q5 := D1.out.msg.frozen 5
  have q6 := D1.out.msg.frozen 6
  have q7 := D1.out.msg.frozen 7
  have q8 := D1.out.msg.frozen 8
  have q9 := D1.out.msg.frozen 9
  obtain ⟨r0, r1, g0, g1⟩ := D1.out.rd.cells
  simp only [Mesg.none, Mesg.noOp, Mesg.zero] at c0 c1 c2 c3 c4 c5 c6 c7 c8 c9
  have E1 := Lib.hid ((D1.out).put 0 (.int .i64 (a : Int)) (by omega) (m' := ⟨(a : Int), 0, [], ⟨0, 0, ⟨0, 0⟩, ⟨0, 0⟩, 0⟩⟩) rfl rfl)
  go_wp2_with fail
  refine (num_as Q2.out E1.out.rd hl1).mono ?_
  rintro e' w2 ⟨rfl, hr, hk⟩
  clear c0 c1 c2 c3 c4 c5 c6 c7 c8 c9 q0 q1 q2 q3 q4 q5 q6 q7 q8 q9 r0 r1 g0 g1
  have D2 := Lib.hid (E1.out.gets hr hk)
  clear hr hk
  obtain ⟨⟨c0, c1, c2⟩, c3, c4, c5, c6, c7, c8, c9⟩ := msg_cells D2.out.msg
  have q0 := D2.out.msg.frozen 0
  have q1 := D2.out.msg.frozen 1
  have q2 := D2.out.msg.frozen 2
  have q3 := D2.out.msg.frozen 3
  have q4 := D2.out.msg.frozen 4
  have q5 := D2.out.msg.frozen 5
  have q6 := D2.out.msg.frozen 6
  have q7 := D2.out.msg.frozen 7
  have q8 := D2.out.msg.frozen 8
  have q9 := D2.out.msg.frozen 9
  obtain ⟨r0, r1, g0, g1⟩ := D2.out.rd.cells
  simp only at c0 c1 c2 c3 c4 c5 c6 c7 c8 c9
  have E2 := Lib.hid ((D2.out).put 1 (.int .i64 (b : Int)) (by omega) (m' := ⟨(a : Int), (b : Int), [], ⟨0, 0, ⟨0, 0⟩, ⟨0, 0⟩, 0⟩⟩) rfl rfl)
  go_wp2_with fail
  refine (each_as Q3.out hl2).mono ?_
  rintro e' w3 ⟨⟨v3, rfl, hsl3, hfar3⟩, hb3⟩
  clear c0 c1 c2 c3 c4 c5 c6 c7 c8 c9 q0 q1 q2 q3 q4 q5 q6 q7 q8 q9 r0 r1 g0 g1
  have D3 := Lib.hid (E2.out.grew hb3)
  have HFAR : Hid (∀ g, v3.ownBlock = some g → w.heap.size + 1 + 1 < g) := Lib.hid (fun g hg => Nat.lt_of_lt_of_le E2.out.msg.lt (hfar3 g hg))
  have HSL : Hid (SliceI w3 v3 (natI kn)) := Lib.hid hsl3
  obtain ⟨a3, p3, rfl, _, _⟩ := HSL.out
  clear hsl3 hfar3 hb3
  obtain ⟨⟨c0, c1, c2⟩, c3, c4, c5, c6, c7, c8, c9⟩ := msg_cells D3.out.msg
  have q0 := D3.out.msg.frozen 0
  have q1 := D3.out.msg.frozen 1
  have q2 := D3.out.msg.frozen 2
  have q3 := D3.out.msg.frozen 3
  have q4 := D3.out.msg.frozen 4
  have q5 := D3.out.msg.frozen 5
  have q6 := D3.out.msg.frozen 6
  have q7 := D3.out.msg.frozen 7
  have q8 := D3.out.msg.frozen 8
  have q9 := D3.out.msg.frozen 9
  obtain ⟨r0, r1, g0, g1⟩ := D3.out.rd.cells
  simp only at c0 c1 c2 c3 c4 c5 c6 c7 c8 c9
  have E3 := Lib.hid ((D3.out.set 2 (.slice a3 (natI kn).length p3) (by omega) (m' := ⟨(a : Int), (b : Int), natI kn, ⟨0, 0, ⟨0, 0⟩, ⟨0, 0⟩, 0⟩⟩) (v' := (.slice a3 (natI kn).length p3)) rfl HSL.out HFAR.out).rests l3 0)
  go_wp2_with fail
  refine (num_is (z := z) Q4.out HZ.out E3.out.rd hl3).mono ?_
  rintro e' w4 ⟨rfl, hr, hk⟩
  clear c0 c1 c2 c3 c4 c5 c6 c7 c8 c9 q0 q1 q2 q3 q4 q5 q6 q7 q8 q9 r0 r1 g0 g1
  have D4 := Lib.hid (E3.out.gets hr hk)
  clear hr hk
  obtain ⟨⟨c0, c1, c2⟩, c3, c4, c5, c6, c7, c8, c9⟩ := msg_cells D4.out.msg
  have q0 := D4.out.msg.frozen 0
  have q1 := D4.out.msg.frozen 1
  have q2 := D4.out.msg.frozen 2
  have q3 := D4.out.msg.frozen 3
  have q4 := D4.out.msg.frozen 4
  have q5 := D4.out.msg.frozen 5
  have q6 := D4.out.msg.frozen 6
  have q7 := D4.out.msg.frozen 7
  have q8 := D4.out.msg.frozen 8
  have q9 := D4.out.msg.frozen 9
  obtain ⟨r0, r1, g0, g1⟩ := D4.out.rd.cells
  simp only at c0 c1 c2 c3 c4 c5 c6 c7 c8 c9
  have E4 := Lib.hid ((D4.out).put 3 (.int .i64 z) (by omega) (m' := ⟨(a : Int), (b : Int), natI kn, ⟨z, 0, ⟨0, 0⟩, ⟨0, 0⟩, 0⟩⟩) rfl rfl)
  have F4 := Lib.hid E4.out.errs2
  go_wp2_with fail
  refine (num_bad (by decide) F4.out.rd hl4).mono ?_
  rintro e' w5 ⟨rfl, hr, hk⟩
  clear c0 c1 c2 c3 c4 c5 c6 c7 c8 c9 q0 q1 q2 q3 q4 q5 q6 q7 q8 q9 r0 r1 g0 g1
  have D5 := Lib.hid (F4.out.gets hr hk)
  clear hr hk
  obtain ⟨⟨c0, c1, c2⟩, c3, c4, c5, c6, c7, c8, c9⟩ := msg_cells D5.out.msg
  have q0 := D5.out.msg.frozen 0
  have q1 := D5.out.msg.frozen 1
  have q2 := D5.out.msg.frozen 2
  have q3 := D5.out.msg.frozen 3
  have q4 := D5.out.msg.frozen 4
  have q5 := D5.out.msg.frozen 5
  have q6 := D5.out.msg.frozen 6
  have q7 := D5.out.msg.frozen 7
  have q8 := D5.out.msg.frozen 8
  have q9 := D5.out.msg.frozen 9
  obtain ⟨r0, r1, g0, g1⟩ := D5.out.rd.cells
  simp only at c0 c1 c2 c3 c4 c5 c6 c7 c8 c9
  have E5 := Lib.hid ((D5.out).put 4 (.int .i64 0) (by omega) (m' := ⟨(a : Int), (b : Int), natI kn, ⟨z, 0, ⟨0, 0⟩, ⟨0, 0⟩, 0⟩⟩) rfl rfl)
  go_wp2_with fail
  refine (id_bad (by decide) E5.out.rd hl4).mono ?_
  rintro e' w6 ⟨rfl, hr, hk⟩
  clear c0 c1 c2 c3 c4 c5 c6 c7 c8 c9 q0 q1 q2 q3 q4 q5 q6 q7 q8 q9 r0 r1 g0 g1
  have D6 := Lib.hid (E5.out.gets hr hk)
  clear hr hk
  obtain ⟨⟨c0, c1, c2⟩, c3, c4, c5, c6, c7, c8, c9⟩ := msg_cells D6.out.msg
  have q0 := D6.out.msg.frozen 0
  have q1 := D6.out.msg.frozen 1
  have q2 := D6.out.msg.frozen 2
  have q3 := D6.out.msg.frozen 3
  have q4 := D6.out.msg.frozen 4
  have q5 := D6.out.msg.frozen 5
  have q6 := D6.out.msg.frozen 6
  have q7 := D6.out.msg.frozen 7
  have q8 := D6.out.msg.frozen 8
  have q9 := D6.out.msg.frozen 9
  obtain ⟨r0, r1, g0, g1⟩ := D6.out.rd.cells
  simp only at c0 c1 c2 c3 c4 c5 c6 c7 c8 c9
  have E6 := Lib.hid (((D6.out).put 7 (.int .i64 0) (by omega) (m' := ⟨(a : Int), (b : Int), natI kn, ⟨z, 0, ⟨0, 0⟩, ⟨0, 0⟩, 0⟩⟩) rfl rfl).put 8 (.int .i64 0) (by omega) (m' := ⟨(a : Int), (b : Int), natI kn, ⟨z, 0, ⟨0, 0⟩, ⟨0, 0⟩, 0⟩⟩) rfl rfl)
  go_wp2_with fail
  clear c0 c1 c2 c3 c4 c5 c6 c7 c8 c9 q0 q1 q2 q3 q4 q5 q6 q7 q8 q9 r0 r1 g0 g1
  obtain ⟨⟨d0, d1, d2⟩, d3, d4, d5, d6, d7, d8, d9⟩ := msg_cells E6.out.res
  have f0 := E6.out.res.frozen 0
  have f1 := E6.out.res.frozen 1
  have f2 := E6.out.res.frozen 2
  have f3 := E6.out.res.frozen 3
  have f4 := E6.out.res.frozen 4
  have f5 := E6.out.res.frozen 5
  have f6 := E6.out.res.frozen 6
  have f7 := E6.out.res.frozen 7
  have f8 := E6.out.res.frozen 8
  have f9 := E6.out.res.frozen 9
  obtain ⟨r0, r1, g0, g1⟩ := E6.out.rd.cells
  simp only [Mesg.none, Mesg.noOp, Mesg.zero] at d0 d1 d2 d3 d4 d5 d6 d7 d8 d9
  go_region
  go_wp2
  have HF := setMsg_holds E6.out.res Mesg.none (.slice none 0 0)
  have HK := setMsg_keep _ w.heap.size Mesg.none (.slice none 0 0) |>.below E6.out.below.size (fun i e => by have e : i = w.heap.size := e; omega)
  exact bodyPost_ret (v := .tuple #[msgV Mesg.none (.slice none 0 0), .int .i64 (2 : Int)]) (rdec_res _ Mesg.none (.slice none 0 0) (2 : Int) _ w (holds_drew HF) rfl rfl) rfl ⟨rfl, (E6.out.below.trans HK).drew⟩

end Go.Proofs.Ytohlnhnelkoakaa
