/- The reference's Decode: a Propose. -/
import Derived.Test.YtohlnhnelkoakaaMesgRef7
import Derived.RegionTactic
import Derived.ChangeAlike
namespace Go.Proofs.Ytohlnhnelkoakaa
open Go.RowKit
set_option linter.unusedVariables false

set_option maxRecDepth 100000 in
set_option maxHeartbeats 8000000 in
theorem rdec_5 (s : ByteArray) (a b : Nat) (l1 l2 : List UInt8) (e1 : Nat) (w : World) (hs : s.size ≤ 1000000) (q1 : rnum s.data.toList 0 = (a, l1, e1)) (q2 : rnum l1 e1 = (b, l2, 0)) (kn : List Nat) (l3 : List UInt8) (q3 : Pack.each l2 = (kn, l3, 0)) (l4 : List UInt8) (q4 : rnum l3 0 = (6, l4, 0)) (ep : Nat) (l5 : List UInt8) (e5 : Nat) (q5 : rnum l4 0 = (ep, l5, e5)) (x : Mesg.Id) (l6 : List UInt8) (e6 : Nat) (q6 : rid2 l5 e5 = (x, l6, e6)) :
    Calls Try.prog 19 #[.string s] w fun e w' => decV (Mesg.endR ⟨(a : Int), (b : Int), natI kn, ⟨6, (ep : Int), ⟨x.time, x.site⟩, ⟨0, 0⟩, 0⟩⟩ l6 e6) w' e ∧ Below w.heap.size w w' := by
  have D0 := Lib.hid (ref_start w s)
  have hl0 : s.data.toList.length ≤ 1000000000 := by rw [size_list]; omega
  have hl1 := rnum_short q1 hl0
  have hl2 := rnum_short q2 hl1
  have hl3 := (each_short q3 hl2).1
  have hl4 := rnum_short q4 hl3
  have hl5 := rnum_short q5 hl4
  have hkn := (each_short q3 hl2).2
  have Q1 := Lib.hid q1
  have Q2 := Lib.hid q2
  have Q3 := Lib.hid q3
  have Q4 := Lib.hid q4
  have Q5 := Lib.hid q5
  have Q6 := Lib.hid q6
  clear q1 q2 q3 q4 q5 q6
  go_enter Try.func19, Try.ntmps19
  go_wp2_with fail
  refine (num_as Q1.out D0.out.rd hl0).mono ?_
  rintro e' w1 ⟨rfl, hr, hk⟩
  have D1 := Lib.hid (D0.out.gets hr hk)
  clear hr hk
  obtain ⟨⟨c0, c1, c2⟩, c3, c4, c5, c6, c7, c8, c9⟩ := msg_cells D1.out.msg
  have q0 := D1.out.msg.frozen 0
  have q1 := D1.out.msg.frozen 1
  have q2 := D1.out.msg.frozen 2
  have q3 := D1.out.msg.frozen 3
  have q4 := D1.out.msg.frozen 4
  have q5 := D1.out.msg.frozen 5
  have q6 := D1.out.msg.frozen 6
  have q7 := D1.out.msg.frozen 7
  have q8 := D1.out.msg.frozen 8
  have q9 := D1.out.msg.frozen 9
  obtain ⟨r0, r1, g0, g1⟩ := D1.out.rd.cells
  simp only [Mesg.none, Mesg.noOp, Mesg.zero] at c0 c1 c2 c3 c4 c5 c6 c7 c8 c9
  have E1 := Lib.hid ((D1.out).put 0 (.int .i64 (a : Int)) (by omega) (m' := ⟨(a : Int), 0, [], ⟨0, 0, ⟨0, 0⟩, ⟨0, 0⟩, 0⟩⟩) rfl rfl)
  go_wp2_with fail
  refine (num_as Q2.out E1.out.rd hl1).mono ?_
  rintro e' w2 ⟨rfl, hr, hk⟩
  clear c0 c1 c2 c3 c4 c5 c6 c7 c8 c9 q0 q1 q2 q3 q4 q5 q6 q7 q8 q9 r0 r1 g0 g1
  have D2 := Lib.hid (E1.out.gets hr hk)
  clear hr hk
  obtain ⟨⟨c0, c1, c2⟩, c3, c4, c5, c6, c7, c8, c9⟩ := msg_cells D2.out.msg
  have q0 := D2.out.msg.frozen 0
  have q1 := D2.out.msg.frozen 1
  have q2 := D2.out.msg.frozen 2
  have q3 := D2.out.msg.frozen 3
  have q4 := D2.out.msg.frozen 4
  have q5 := D2.out.msg.frozen 5
  have q6 := D2.out.msg.frozen 6
  have q7 := D2.out.msg.frozen 7
  have q8 := D2.out.msg.frozen 8
  have q9 := D2.out.msg.frozen 9
  obtain ⟨r0, r1, g0, g1⟩ := D2.out.rd.cells
  simp only at c0 c1 c2 c3 c4 c5 c6 c7 c8 c9
  have E2 := Lib.hid ((D2.out).put 1 (.int .i64 (b : Int)) (by omega) (m' := ⟨(a : Int), (b : Int), [], ⟨0, 0, ⟨0, 0⟩, ⟨0, 0⟩, 0⟩⟩) rfl rfl)
  go_wp2_with fail
  refine (each_as Q3.out hl2).mono ?_
  rintro e' w3 ⟨⟨v3, rfl, hsl3, hfar3⟩, hb3⟩
  clear c0 c1 c2 c3 c4 c5 c6 c7 c8 c9 q0 q1 q2 q3 q4 q5 q6 q7 q8 q9 r0 r1 g0 g1
  have D3 := Lib.hid (E2.out.grew hb3)
  have HFAR : Hid (∀ g, v3.ownBlock = some g → w.heap.size + 1 + 1 < g) := Lib.hid (fun g hg => Nat.lt_of_lt_of_le E2.out.msg.lt (hfar3 g hg))
  have HSL : Hid (SliceI w3 v3 (natI kn)) := Lib.hid hsl3
  obtain ⟨a3, p3, rfl, _, _⟩ := HSL.out
  clear hsl3 hfar3 hb3
  obtain ⟨⟨c0, c1, c2⟩, c3, c4, c5, c6, c7, c8, c9⟩ := msg_cells D3.out.msg
  have q0 := D3.out.msg.frozen 0
  have q1 := D3.out.msg.frozen 1
  have q2 := D3.out.msg.frozen 2
  have q3 := D3.out.msg.frozen 3
  have q4 := D3.out.msg.frozen 4
  have q5 := D3.out.msg.frozen 5
  have q6 := D3.out.msg.frozen 6
  have q7 := D3.out.msg.frozen 7
  have q8 := D3.out.msg.frozen 8
  have q9 := D3.out.msg.frozen 9
  obtain ⟨r0, r1, g0, g1⟩ := D3.out.rd.cells
  simp only at c0 c1 c2 c3 c4 c5 c6 c7 c8 c9
  have E3 := Lib.hid ((D3.out.set 2 (.slice a3 (natI kn).length p3) (by omega) (m' := ⟨(a : Int), (b : Int), natI kn, ⟨0, 0, ⟨0, 0⟩, ⟨0, 0⟩, 0⟩⟩) (v' := (.slice a3 (natI kn).length p3)) rfl HSL.out HFAR.out).rests l3 0)
  go_wp2_with fail
  refine (num_is (z := 6) Q4.out rfl E3.out.rd hl3).mono ?_
  rintro e' w4 ⟨rfl, hr, hk⟩
  clear c0 c1 c2 c3 c4 c5 c6 c7 c8 c9 q0 q1 q2 q3 q4 q5 q6 q7 q8 q9 r0 r1 g0 g1
  have D4 := Lib.hid (E3.out.gets hr hk)
  clear hr hk
  obtain ⟨⟨c0, c1, c2⟩, c3, c4, c5, c6, c7, c8, c9⟩ := msg_cells D4.out.msg
  have q0 := D4.out.msg.frozen 0
  have q1 := D4.out.msg.frozen 1
  have q2 := D4.out.msg.frozen 2
  have q3 := D4.out.msg.frozen 3
  have q4 := D4.out.msg.frozen 4
  have q5 := D4.out.msg.frozen 5
  have q6 := D4.out.msg.frozen 6
  have q7 := D4.out.msg.frozen 7
  have q8 := D4.out.msg.frozen 8
  have q9 := D4.out.msg.frozen 9
  obtain ⟨r0, r1, g0, g1⟩ := D4.out.rd.cells
  simp only at c0 c1 c2 c3 c4 c5 c6 c7 c8 c9
  have E4 := Lib.hid ((D4.out).put 3 (.int .i64 6) (by omega) (m' := ⟨(a : Int), (b : Int), natI kn, ⟨6, 0, ⟨0, 0⟩, ⟨0, 0⟩, 0⟩⟩) rfl rfl)
  go_wp2_with fail
  refine (num_as Q5.out E4.out.rd hl4).mono ?_
  rintro e' w5 ⟨rfl, hr, hk⟩
  clear c0 c1 c2 c3 c4 c5 c6 c7 c8 c9 q0 q1 q2 q3 q4 q5 q6 q7 q8 q9 r0 r1 g0 g1
  have D5 := Lib.hid (E4.out.gets hr hk)
  clear hr hk
  obtain ⟨⟨c0, c1, c2⟩, c3, c4, c5, c6, c7, c8, c9⟩ := msg_cells D5.out.msg
  have q0 := D5.out.msg.frozen 0
  have q1 := D5.out.msg.frozen 1
  have q2 := D5.out.msg.frozen 2
  have q3 := D5.out.msg.frozen 3
  have q4 := D5.out.msg.frozen 4
  have q5 := D5.out.msg.frozen 5
  have q6 := D5.out.msg.frozen 6
  have q7 := D5.out.msg.frozen 7
  have q8 := D5.out.msg.frozen 8
  have q9 := D5.out.msg.frozen 9
  obtain ⟨r0, r1, g0, g1⟩ := D5.out.rd.cells
  simp only at c0 c1 c2 c3 c4 c5 c6 c7 c8 c9
  have E5 := Lib.hid ((D5.out).put 4 (.int .i64 (ep : Int)) (by omega) (m' := ⟨(a : Int), (b : Int), natI kn, ⟨6, (ep : Int), ⟨0, 0⟩, ⟨0, 0⟩, 0⟩⟩) rfl rfl)
  go_wp2_with fail
  refine (id_as Q6.out E5.out.rd hl5).mono ?_
  rintro e' w6 ⟨rfl, hr, hk⟩
  clear c0 c1 c2 c3 c4 c5 c6 c7 c8 c9 q0 q1 q2 q3 q4 q5 q6 q7 q8 q9 r0 r1 g0 g1
  have D6 := Lib.hid (E5.out.gets hr hk)
  clear hr hk
  obtain ⟨⟨c0, c1, c2⟩, c3, c4, c5, c6, c7, c8, c9⟩ := msg_cells D6.out.msg
  have q0 := D6.out.msg.frozen 0
  have q1 := D6.out.msg.frozen 1
  have q2 := D6.out.msg.frozen 2
  have q3 := D6.out.msg.frozen 3
  have q4 := D6.out.msg.frozen 4
  have q5 := D6.out.msg.frozen 5
  have q6 := D6.out.msg.frozen 6
  have q7 := D6.out.msg.frozen 7
  have q8 := D6.out.msg.frozen 8
  have q9 := D6.out.msg.frozen 9
  obtain ⟨r0, r1, g0, g1⟩ := D6.out.rd.cells
  simp only at c0 c1 c2 c3 c4 c5 c6 c7 c8 c9
  have E6 := Lib.hid (((D6.out).put 5 (.int .i64 x.time) (by omega) (m' := ⟨(a : Int), (b : Int), natI kn, ⟨6, (ep : Int), ⟨x.time, 0⟩, ⟨0, 0⟩, 0⟩⟩) rfl rfl).put 6 (.int .i64 x.site) (by omega) (m' := ⟨(a : Int), (b : Int), natI kn, ⟨6, (ep : Int), ⟨x.time, x.site⟩, ⟨0, 0⟩, 0⟩⟩) rfl rfl)
  by_cases he : e6 = 0
  · subst he
    by_cases hlf : l6 = []
    · subst hlf
      have hem := str_empty (s := str []) (by rw [str_size]; rfl)
      obtain ⟨⟨d0, d1, d2⟩, d3, d4, d5, d6, d7, d8, d9⟩ := msg_cells E6.out.res
      have f0 := E6.out.res.frozen 0
      have f1 := E6.out.res.frozen 1
      have f2 := E6.out.res.frozen 2
      have f3 := E6.out.res.frozen 3
      have f4 := E6.out.res.frozen 4
      have f5 := E6.out.res.frozen 5
      have f6 := E6.out.res.frozen 6
      have f7 := E6.out.res.frozen 7
      have f8 := E6.out.res.frozen 8
      have f9 := E6.out.res.frozen 9
      obtain ⟨s0, s1, h0, h1⟩ := E6.out.rd.cells
      simp only [Mesg.none, Mesg.noOp, Mesg.zero] at d0 d1 d2 d3 d4 d5 d6 d7 d8 d9
      obtain ⟨⟨m0, m1, m2⟩, m3, m4, m5, m6, m7, m8, m9⟩ := msg_cells E6.out.msg
      simp only at m0 m1 m2 m3 m4 m5 m6 m7 m8 m9
      go_wp2_with fail
      refine (ref04_Check ⟨(a : Int), (b : Int), natI kn, ⟨6, (ep : Int), ⟨x.time, x.site⟩, ⟨0, 0⟩, 0⟩⟩ (.slice a3 (natI kn).length p3) _ E6.out.know (by show (natI kn).length ≤ _; unfold natI; rw [List.length_map]; omega)).mono ?_
      rintro e' wc ⟨rfl, hbc⟩
      clear c0 c1 c2 c3 c4 c5 c6 c7 c8 c9 q0 q1 q2 q3 q4 q5 q6 q7 q8 q9 r0 r1 g0 g1 m0 m1 m2 m3 m4 m5 m6 m7 m8 m9 d0 d1 d2 d3 d4 d5 d6 d7 d8 d9 f0 f1 f2 f3 f4 f5 f6 f7 f8 f9 s0 s1 h0 h1 hem
      have G := Lib.hid (E6.out.grew hbc)
      clear hbc
      cases hm : Mesg.may ⟨(a : Int), (b : Int), natI kn, ⟨6, (ep : Int), ⟨x.time, x.site⟩, ⟨0, 0⟩, 0⟩⟩ with
      | false =>
        have HR : Hid (Mesg.endR ⟨(a : Int), (b : Int), natI kn, ⟨6, (ep : Int), ⟨x.time, x.site⟩, ⟨0, 0⟩, 0⟩⟩ [] 0 = .error 2) := Lib.hid (by unfold Mesg.endR; rw [hm]; rfl)
        rw [show checkN ⟨(a : Int), (b : Int), natI kn, ⟨6, (ep : Int), ⟨x.time, x.site⟩, ⟨0, 0⟩, 0⟩⟩ = 1 from by unfold checkN; rw [hm]; rfl]
        clear hm
        obtain ⟨⟨d0, d1, d2⟩, d3, d4, d5, d6, d7, d8, d9⟩ := msg_cells G.out.res
        have f0 := G.out.res.frozen 0
        have f1 := G.out.res.frozen 1
        have f2 := G.out.res.frozen 2
        have f3 := G.out.res.frozen 3
        have f4 := G.out.res.frozen 4
        have f5 := G.out.res.frozen 5
        have f6 := G.out.res.frozen 6
        have f7 := G.out.res.frozen 7
        have f8 := G.out.res.frozen 8
        have f9 := G.out.res.frozen 9
        obtain ⟨s0, s1, h0, h1⟩ := G.out.rd.cells
        simp only [Mesg.none, Mesg.noOp, Mesg.zero] at d0 d1 d2 d3 d4 d5 d6 d7 d8 d9
        go_wp2
        have HF := setMsg_holds G.out.res Mesg.none (.slice none 0 0)
        have HK := setMsg_keep _ w.heap.size Mesg.none (.slice none 0 0) |>.below G.out.below.size (fun i e => by have e : i = w.heap.size := e; omega)
        exact bodyPost_ret (v := .tuple #[msgV Mesg.none (.slice none 0 0), .int .i64 (2 : Int)]) (rdec_res _ Mesg.none (.slice none 0 0) (2 : Int) _ w HF rfl rfl) rfl ⟨by rw [HR.out]; rfl, G.out.below.trans HK⟩
      | true =>
        have HR : Hid (Mesg.endR ⟨(a : Int), (b : Int), natI kn, ⟨6, (ep : Int), ⟨x.time, x.site⟩, ⟨0, 0⟩, 0⟩⟩ [] 0 = .ok ⟨(a : Int), (b : Int), natI kn, ⟨6, (ep : Int), ⟨x.time, x.site⟩, ⟨0, 0⟩, 0⟩⟩ []) := Lib.hid (by unfold Mesg.endR; rw [hm]; rfl)
        rw [show checkN ⟨(a : Int), (b : Int), natI kn, ⟨6, (ep : Int), ⟨x.time, x.site⟩, ⟨0, 0⟩, 0⟩⟩ = 0 from by unfold checkN; rw [hm]; rfl]
        clear hm
        obtain ⟨⟨d0, d1, d2⟩, d3, d4, d5, d6, d7, d8, d9⟩ := msg_cells G.out.res
        have f0 := G.out.res.frozen 0
        have f1 := G.out.res.frozen 1
        have f2 := G.out.res.frozen 2
        have f3 := G.out.res.frozen 3
        have f4 := G.out.res.frozen 4
        have f5 := G.out.res.frozen 5
        have f6 := G.out.res.frozen 6
        have f7 := G.out.res.frozen 7
        have f8 := G.out.res.frozen 8
        have f9 := G.out.res.frozen 9
        obtain ⟨s0, s1, h0, h1⟩ := G.out.rd.cells
        simp only [Mesg.none, Mesg.noOp, Mesg.zero] at d0 d1 d2 d3 d4 d5 d6 d7 d8 d9
        obtain ⟨⟨c0, c1, c2⟩, c3, c4, c5, c6, c7, c8, c9⟩ := msg_cells G.out.msg
        simp only at c0 c1 c2 c3 c4 c5 c6 c7 c8 c9
        go_wp2
        have HF := setMsg_holds G.out.res ⟨(a : Int), (b : Int), natI kn, ⟨6, (ep : Int), ⟨x.time, x.site⟩, ⟨0, 0⟩, 0⟩⟩ (.slice a3 (natI kn).length p3)
        have HK := setMsg_keep wc w.heap.size ⟨(a : Int), (b : Int), natI kn, ⟨6, (ep : Int), ⟨x.time, x.site⟩, ⟨0, 0⟩, 0⟩⟩ (.slice a3 (natI kn).length p3)
        have HK2 := HK.below G.out.below.size (fun i e => by have e : i = w.heap.size := e; omega)
        exact bodyPost_ret (v := .tuple #[msgV ⟨(a : Int), (b : Int), natI kn, ⟨6, (ep : Int), ⟨x.time, x.site⟩, ⟨0, 0⟩, 0⟩⟩ (.slice a3 (natI kn).length p3), .int .i64 (0 : Int)]) (rdec_res _ ⟨(a : Int), (b : Int), natI kn, ⟨6, (ep : Int), ⟨x.time, x.site⟩, ⟨0, 0⟩, 0⟩⟩ (.slice a3 (natI kn).length p3) (0 : Int) _ w HF rfl rfl) rfl ⟨by rw [HR.out]; exact ⟨_, rfl, G.out.know.keep HK (fun g hg e => by have e : g = w.heap.size := e; have := G.out.far g hg; omega)⟩, G.out.below.trans HK2⟩
    · have HR : Hid (Mesg.endR ⟨(a : Int), (b : Int), natI kn, ⟨6, (ep : Int), ⟨x.time, x.site⟩, ⟨0, 0⟩, 0⟩⟩ l6 0 = .error 2) := Lib.hid (by unfold Mesg.endR; rw [if_neg (by simp), if_pos hlf])
      have hem := str_full (s := str l6) (by rw [str_size]; exact List.length_pos_iff.2 hlf)
      clear hlf
      obtain ⟨⟨d0, d1, d2⟩, d3, d4, d5, d6, d7, d8, d9⟩ := msg_cells E6.out.res
      have f0 := E6.out.res.frozen 0
      have f1 := E6.out.res.frozen 1
      have f2 := E6.out.res.frozen 2
      have f3 := E6.out.res.frozen 3
      have f4 := E6.out.res.frozen 4
      have f5 := E6.out.res.frozen 5
      have f6 := E6.out.res.frozen 6
      have f7 := E6.out.res.frozen 7
      have f8 := E6.out.res.frozen 8
      have f9 := E6.out.res.frozen 9
      obtain ⟨s0, s1, h0, h1⟩ := E6.out.rd.cells
      simp only [Mesg.none, Mesg.noOp, Mesg.zero] at d0 d1 d2 d3 d4 d5 d6 d7 d8 d9
      go_wp2
      have HF := setMsg_holds E6.out.res Mesg.none (.slice none 0 0)
      have HK := setMsg_keep _ w.heap.size Mesg.none (.slice none 0 0) |>.below E6.out.below.size (fun i e => by have e : i = w.heap.size := e; omega)
      exact bodyPost_ret (v := .tuple #[msgV Mesg.none (.slice none 0 0), .int .i64 (2 : Int)]) (rdec_res _ Mesg.none (.slice none 0 0) (2 : Int) _ w HF rfl rfl) rfl ⟨by rw [HR.out]; rfl, E6.out.below.trans HK⟩
  · have HR : Hid (Mesg.endR ⟨(a : Int), (b : Int), natI kn, ⟨6, (ep : Int), ⟨x.time, x.site⟩, ⟨0, 0⟩, 0⟩⟩ l6 e6 = .error e6) := Lib.hid (by unfold Mesg.endR; rw [if_pos he])
    have hd : ((e6 : Int) == 0) = false := by rw [beq_eq_false_iff_ne]; omega
    have hd' : ((e6 : Int) != 0) = true := by simpa using he
    clear he
    obtain ⟨⟨d0, d1, d2⟩, d3, d4, d5, d6, d7, d8, d9⟩ := msg_cells E6.out.res
    have f0 := E6.out.res.frozen 0
    have f1 := E6.out.res.frozen 1
    have f2 := E6.out.res.frozen 2
    have f3 := E6.out.res.frozen 3
    have f4 := E6.out.res.frozen 4
    have f5 := E6.out.res.frozen 5
    have f6 := E6.out.res.frozen 6
    have f7 := E6.out.res.frozen 7
    have f8 := E6.out.res.frozen 8
    have f9 := E6.out.res.frozen 9
    obtain ⟨s0, s1, h0, h1⟩ := E6.out.rd.cells
    simp only [Mesg.none, Mesg.noOp, Mesg.zero] at d0 d1 d2 d3 d4 d5 d6 d7 d8 d9
    go_wp2_with fail
    go_region
    go_wp2
    have HF := setMsg_holds E6.out.res Mesg.none (.slice none 0 0)
    have HK := setMsg_keep _ w.heap.size Mesg.none (.slice none 0 0) |>.below E6.out.below.size (fun i e => by have e : i = w.heap.size := e; omega)
    exact bodyPost_ret (v := .tuple #[msgV Mesg.none (.slice none 0 0), .int .i64 (e6 : Int)]) (rdec_res _ Mesg.none (.slice none 0 0) (e6 : Int) _ w (holds_drew HF) rfl rfl) rfl ⟨by rw [HR.out]; rfl, (E6.out.below.trans HK).drew⟩

end Go.Proofs.Ytohlnhnelkoakaa
