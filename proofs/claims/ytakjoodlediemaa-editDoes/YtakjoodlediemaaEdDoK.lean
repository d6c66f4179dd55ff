/- What a key does. -/
import Derived.Test.YtakjoodlediemaaEdKey
import Derived.Test.YtakjoodlediemaaEdApply
import Derived.Deep.RegionHeld3
namespace Go.Proofs.Ytakjoodlediemaa
open Go.RowKit Go.Shelf
set_option linter.unusedVariables false

theorem IsDoings.look {w : World} {m : Nat} (h : IsDoings w m) (k r : Int) (hk : I64 (Ed.name k r).1) (hr : I64 (Ed.name k r).2) :
    (Instr.lookup 57 (.map (some m)) (keyV (Ed.name k r)) true).run Try.prog w = .ok (.tuple #[fnV (Ed.deed k r), .bool (Ed.deed k r).isSome]) w := by
  obtain ⟨es, hP, he⟩ := h
  have h1 := PMap.look key_key hP doings_map (z := none) fn_zero (a := (Ed.name k r).1) (b := (Ed.name k r).2) hk hr
  rw [he] at h1
  have h2 := atP_deed k r
  have e : ((Ed.name k r).1, (Ed.name k r).2) = Ed.name k r := rfl
  rw [e, h2.1, h2.2] at h1
  exact h1
theorem IsDoings.grew {w w' : World} {m : Nat} (h : IsDoings w m) (hb : Below w.heap.size w w') : IsDoings w' m := by
  obtain ⟨es, hP, he⟩ := h
  exact ⟨es, hP.keep (Keep.of_grew hb Non) (fun h => h), he⟩
theorem Ed.put_line (t : Tn) (r : Int) : (Ed.put t r).1.line = t.line := by unfold Ed.put; split <;> rfl
theorem Ed.yank_line : ∀ (l : List Int) (t : Tn), (Ed.yank t l).line = t.line
  | [], t => rfl
  | r :: l, t => by
    unfold Ed.yank
    split
    · rw [Ed.yank_line l, Ed.put_line]
    · rw [Ed.put_line]
theorem Ed.run_line (d : Ed.Deed) (t : Tn) : (d.run t).line = t.line := by
  cases d <;> simp only [Ed.Deed.run]
  case typeRune => exact Ed.put_line _ _
  case cutAhead => rfl
  case cutHere => rfl
  case killToEnd => unfold Ed.killed; split <;> rfl
  case killToBegin => unfold Ed.killed; split <;> rfl
  case killWordBack => unfold Ed.killed; split <;> rfl
  case killWordOn => unfold Ed.killed; split <;> rfl
  case yank => exact Ed.yank_line _ _
  case swap =>
    unfold Ed.swap
    split
    · rfl
    · split
      · rw [Ed.put_line]; rfl
      · rfl
theorem Ed.turned_line (l : List Int) (z : Int) (kl : List Int) (k r : Int) : (Ed.turned l z kl k r).line = l := by
  unfold Ed.turned
  split
  · rfl
  · rw [Ed.run_line]; rfl
def stateL (lv kv : Value) (z : Int) : List Value := [lv, .int .i64 z, kv]
def stateV (lv kv : Value) (z : Int) : Value := .agg #[lv, .int .i64 z, kv]

set_option maxRecDepth 100000 in
set_option maxHeartbeats 8000000 in
theorem edit_Do (lv kv : Value) (l kl : List Int) (z k r : Int) (w : World) (hv : SliceI w lv l) (hkv : SliceI w kv kl) (hl : l.length ≤ 100000) (hkl : kl.length ≤ 100000) (hk : I64 k) (hr : I64 r) :
    Calls Try.prog 7 #[stateV lv kv z, .agg #[.int .i64 k, .int .i64 r]] w fun e w' => ∃ LV KV AV, e = .returned (.tuple #[stateV LV KV ((Ed.turned l z kl k r).at' : Nat), AV]) ∧ SliceI w' LV ((Ed.apply l (Ed.turned l z kl k r).acts).getD []) ∧ SliceI w' KV (Ed.turned l z kl k r).kill ∧ SliceG 3 EAct.cells w' AV (Ed.turned l z kl k r).acts ∧ (∀ q, LV.ownBlock = some q ∨ KV.ownBlock = some q ∨ AV.ownBlock = some q → w.heap.size ≤ q) ∧ Below w.heap.size w w' := by
  have HV := Lib.hid hv
  have HK := Lib.hid hkv
  obtain ⟨va, vc, rfl⟩ := hv.shape
  obtain ⟨ka, kc, rfl⟩ := hkv.shape
  clear hv hkv
  have HNM : Hid (I64 (Ed.name k r).1 ∧ I64 (Ed.name k r).2) := Lib.hid (by
    unfold Ed.name
    split
    · exact ⟨hk, ⟨by simp, by simp⟩⟩
    · exact ⟨hk, hr⟩)
  unfold stateV
  have HT : Hid (Ed.begun l z kl r = ⟨l, Ed.caret l z, l.length, kl, r, []⟩) := Lib.hid rfl
  have HCL := Lib.hid (Ed.caret_le l z)
  have HSM := Lib.hid (Ed.turned_small l z kl k r)
  have HTL := Lib.hid (Ed.turned_line l z kl k r)
  obtain ⟨T, hT⟩ : ∃ T, Ed.turned l z kl k r = T := ⟨_, rfl⟩
  have HTT := Lib.hid hT
  rw [hT] at HSM HTL
  rw [hT]
  clear hT
  have HCa := Lib.hid (fun W => edit_caret va vc l z W)
  have HB3 : Hid (Below w.heap.size w (((w.alloc (.cells #[.slice va l.length vc, .int .i64 z, .slice ka kl.length kc] 29)).alloc (.cells #[.int .i64 k, .int .i64 r] 33)).alloc (.cells #[.slice none 0 0, .int .i64 0, .slice none 0 0] 29))) := Lib.hid (grew (grew (grew_alloc w _) (grew_alloc _ _)) (grew_alloc _ _))
  have HS3 : Hid (Holds (((w.alloc (.cells #[.slice va l.length vc, .int .i64 z, .slice ka kl.length kc] 29)).alloc (.cells #[.int .i64 k, .int .i64 r] 33)).alloc (.cells #[.slice none 0 0, .int .i64 0, .slice none 0 0] 29)) w.heap.size [.slice va l.length vc, .int .i64 z, .slice ka kl.length kc] 29) := Lib.hid (((Holds.new w [.slice va l.length vc, .int .i64 z, .slice ka kl.length kc] 29).keep (Keep.alloc Non _ _) (fun h => h)).keep (Keep.alloc Non _ _) (fun h => h))
  have HKB : Hid (Holds (((w.alloc (.cells #[.slice va l.length vc, .int .i64 z, .slice ka kl.length kc] 29)).alloc (.cells #[.int .i64 k, .int .i64 r] 33)).alloc (.cells #[.slice none 0 0, .int .i64 0, .slice none 0 0] 29)) (w.heap.size + 1) [.int .i64 k, .int .i64 r] 33) := Lib.hid (by
    have := (Holds.new (w.alloc (.cells #[.slice va l.length vc, .int .i64 z, .slice ka kl.length kc] 29)) [.int .i64 k, .int .i64 r] 33).keep (Keep.alloc Non _ (.cells #[.slice none 0 0, .int .i64 0, .slice none 0 0] 29)) (fun h => h)
    simpa using this)
  have HRB : Hid (Holds (((w.alloc (.cells #[.slice va l.length vc, .int .i64 z, .slice ka kl.length kc] 29)).alloc (.cells #[.int .i64 k, .int .i64 r] 33)).alloc (.cells #[.slice none 0 0, .int .i64 0, .slice none 0 0] 29)) (w.heap.size + 1 + 1) [.slice none 0 0, .int .i64 0, .slice none 0 0] 29) := Lib.hid (by
    have := Holds.new ((w.alloc (.cells #[.slice va l.length vc, .int .i64 z, .slice ka kl.length kc] 29)).alloc (.cells #[.int .i64 k, .int .i64 r] 33)) [.slice none 0 0, .int .i64 0, .slice none 0 0] 29
    simpa using this)
  go_enter Try.func7, Try.ntmps7
  go_wp2_with fail
  generalize (((w.alloc (.cells #[.slice va l.length vc, .int .i64 z, .slice ka kl.length kc] 29)).alloc (.cells #[.int .i64 k, .int .i64 r] 33)).alloc (.cells #[.slice none 0 0, .int .i64 0, .slice none 0 0] 29)) = W3 at *
  obtain ⟨sb, hsb⟩ : ∃ sb, w.heap.size = sb := ⟨_, rfl⟩
  obtain ⟨kb, hkb⟩ : ∃ kb, sb + 1 = kb := ⟨_, rfl⟩
  obtain ⟨rb, hrb⟩ : ∃ rb, kb + 1 = rb := ⟨_, rfl⟩
  rw [hsb] at HS3 HKB HRB ⊢
  rw [hkb] at HKB HRB ⊢
  rw [hrb] at HRB ⊢
  have s0 := HS3.out.cell 0 (by simp)
  have s1 := HS3.out.cell 1 (by simp)
  have s2 := HS3.out.cell 2 (by simp)
  have k0 := HKB.out.cell 0 (by simp)
  have k1 := HKB.out.cell 1 (by simp)
  simp only [List.getElem_cons_zero, List.getElem_cons_succ] at s0 s1 s2 k0 k1
  have HZ : Hid (∀ O, (W3.alloc O).cell? ⟨sb, 0, none⟩ = some (.slice va l.length vc) ∧ (W3.alloc O).cell? ⟨sb, 1, none⟩ = some (.int .i64 z) ∧ (W3.alloc O).cell? ⟨sb, 2, none⟩ = some (.slice ka kl.length kc) ∧ (W3.alloc O).cell? ⟨kb, 0, none⟩ = some (.int .i64 k) ∧ (W3.alloc O).cell? ⟨kb, 1, none⟩ = some (.int .i64 r)) := Lib.hid (fun O => by
    have h1 := HS3.out.keep (Keep.alloc Non W3 O) (fun h => h)
    have h2 := HKB.out.keep (Keep.alloc Non W3 O) (fun h => h)
    exact ⟨h1.cell 0 (by simp), h1.cell 1 (by simp), h1.cell 2 (by simp), h2.cell 0 (by simp), h2.cell 1 (by simp)⟩)
  obtain ⟨z0, z1, z2, z3, z4⟩ := HZ.out (.cells #[.slice none 0 0, .int .i64 0, .int .i64 0, .slice none 0 0, .int .i64 0, .slice none 0 0] 54)
  obtain ⟨y0, y1, y2, y3, y4⟩ := HZ.out (.cells #[.slice va l.length vc, .int .i64 (Ed.caret l z : Nat), .int .i64 (l.length : Nat), .slice ka kl.length kc, .int .i64 r, .slice none 0 0] 54)
  have HT4 : Hid (IsTn W3 ((W3.alloc (.cells #[.slice va l.length vc, .int .i64 (Ed.caret l z : Nat), .int .i64 (l.length : Nat), .slice ka kl.length kc, .int .i64 r, .slice none 0 0] 54)).drew) W3.heap.size (Ed.begun l z kl r) (.slice va l.length vc) (.slice ka kl.length kc) (.slice none 0 0)) := Lib.hid
    ⟨(Holds.new W3 (tnL (Ed.begun l z kl r) (.slice va l.length vc) (.slice ka kl.length kc) (.slice none 0 0)) 54).keep (Keep.of_grew (grew_drew _) Non) (fun h => h), Nat.le_refl _, HV.out.below HB3.out, HK.out.below HB3.out, OwnAct.nil _, (by intro b hb; cases hb), grew (grew_alloc W3 _) (grew_drew _)⟩
  have HB4 : Hid (Below W3.heap.size W3 ((W3.alloc (.cells #[.slice va l.length vc, .int .i64 (Ed.caret l z : Nat), .int .i64 (l.length : Nat), .slice ka kl.length kc, .int .i64 r, .slice none 0 0] 54)).drew)) := Lib.hid (grew (grew_alloc W3 _) (grew_drew _))
  go_cut [6] from 11 to 25 (fun s6 wx => s6 = .pointer (some ⟨W3.heap.size, 0, none⟩) ∧ wx = (W3.alloc (.cells #[.slice va l.length vc, .int .i64 (Ed.caret l z : Nat), .int .i64 (l.length : Nat), .slice ka kl.length kc, .int .i64 r, .slice none 0 0] 54)).drew)
  case first =>
    go_region_held3 (fun w' => w'.cell? ⟨sb, 0, none⟩ = some (.slice va l.length vc) ∧ w'.cell? ⟨sb, 1, none⟩ = some (.int .i64 z) ∧ w'.cell? ⟨sb, 2, none⟩ = some (.slice ka kl.length kc) ∧ w'.cell? ⟨kb, 1, none⟩ = some (.int .i64 r))
      (first | exact ⟨s0, s1, s2, k1⟩ | exact ⟨z0, z1, z2, z4⟩ | exact ⟨y0, y1, y2, y4⟩)
      (first
        | (go_at_call 20; refine (HCa.out _).mono ?_; rintro e w1 ⟨rfl, rfl⟩))
    all_goals
      go_wp2
      go_meet
      exact ⟨rfl, rfl⟩
  case rest =>
    obtain ⟨rfl, hw4⟩ := hcut
    obtain ⟨g, hg⟩ : ∃ g, W3.heap.size = g := ⟨_, rfl⟩
    rw [← hw4, hg] at HT4
    rw [← hw4] at HB4
    rw [hg]
    have HSG : Hid (sb ≠ g ∧ kb ≠ g ∧ rb ≠ g) := Lib.hid (by have := HS3.out.lt; have := HKB.out.lt; have := HRB.out.lt; omega)
    have HS4 := Lib.hid (HS3.out.keep (Keep.of_grew HB4.out Non) (fun h => h))
    have HK4 := Lib.hid (HKB.out.keep (Keep.of_grew HB4.out Non) (fun h => h))
    have HWB : Hid (sb < rb ∧ kb < rb ∧ w.heap.size ≤ rb) := Lib.hid (by omega)
    clear s0 s1 s2 k0 k1 HZ z0 z1 z2 z3 z4 y0 y1 y2 y3 y4 hw4 hg HB4 HCa hsb hkb hrb
    generalize wc = W4 at *
    have k0 := HK4.out.cell 0 (by simp)
    have k1 := HK4.out.cell 1 (by simp)
    simp only [List.getElem_cons_zero, List.getElem_cons_succ] at k0 k1
    go_wp2_with fail
    go_cut [7, 8] from 26 to 32 (fun s7 s8 wx => s7 = fnV (Ed.deed k r) ∧ s8 = .bool (Ed.deed k r).isSome ∧ Below W4.heap.size W4 wx)
    case first =>
      go_region_held3 (fun w' => w'.cell? ⟨kb, 0, none⟩ = some (.int .i64 k) ∧ w'.cell? ⟨kb, 1, none⟩ = some (.int .i64 r))
        (first | exact ⟨k0, k1⟩ | exact ⟨m0, m1⟩ | exact ⟨n0, n1⟩ | exact ⟨p0, p1⟩ | exact ⟨q0, q1⟩)
        (first
          | (go_at_call 21; refine (edit_doings _).mono ?_; rintro e w5 ⟨m5, rfl, hD5, hb5⟩
             first
               | (have HB5 := Lib.hid (grew (grew_drew W4) hb5); have HD5 := Lib.hid hD5; have HK5 := Lib.hid (HK4.out.keep (Keep.of_grew HB5.out Non) (fun h => h)); have m0 := HK5.out.cell 0 (by simp); have m1 := HK5.out.cell 1 (by simp); simp only [List.getElem_cons_zero, List.getElem_cons_succ] at m0 m1; clear hD5 hb5)
               | (have HB7 := Lib.hid (grew HB6.out hb5); have HK7 := Lib.hid (HK6.out.keep (Keep.of_grew hb5 Non) (fun h => h)); have q0 := HK7.out.cell 0 (by simp); have q1 := HK7.out.cell 1 (by simp); simp only [List.getElem_cons_zero, List.getElem_cons_succ] at q0 q1; have hlk := hD5.look k r HNM.out.1 HNM.out.2; clear hD5 hb5))
          | (go_at_call 22; refine (edit_name k r _).mono ?_; rintro e w6 ⟨rfl, hb6⟩
             first
               | (have HB7 := Lib.hid (grew HB5.out hb6); have HK7 := Lib.hid (HK5.out.keep (Keep.of_grew hb6 Non) (fun h => h)); have p0 := HK7.out.cell 0 (by simp); have p1 := HK7.out.cell 1 (by simp); simp only [List.getElem_cons_zero, List.getElem_cons_succ] at p0 p1; have hlk := (HD5.out.grew hb6).look k r HNM.out.1 HNM.out.2; clear hb6)
               | (have HB6 := Lib.hid (grew (grew_drew W4) hb6); have HK6 := Lib.hid (HK4.out.keep (Keep.of_grew HB6.out Non) (fun h => h)); have n0 := HK6.out.cell 0 (by simp); have n1 := HK6.out.cell 1 (by simp); simp only [List.getElem_cons_zero, List.getElem_cons_succ] at n0 n1; clear hb6)))
      all_goals
        go_wp2
        go_meet
        exact ⟨rfl, rfl, HB7.out⟩
    case rest =>
      obtain ⟨rfl, rfl, hb5⟩ := hcut
      have HT5 := Lib.hid (HT4.out.grew hb5)
      clear hb5 k0 k1 HT4 HS4 HK4
      generalize wc = W5 at *
      go_upto_if 33 with fail
      go_cut [7, 8, 33] from 34 to 35 (fun s7 s8 s33 wx => ∃ kv6 av6, IsTn W3 wx g T (.slice va l.length vc) kv6 av6)
      case first =>
        cases hd : Ed.deed k r with
        | none =>
          have hE : T = Ed.begun l z kl r := by rw [← HTT.out]; unfold Ed.turned; rw [hd]
          simp only [Option.isSome_none, fnV]
          go_wp2
          go_meet
          exact ⟨_, _, by rw [hE]; exact HT5.out⟩
        | some d =>
          have hE : T = d.run (Ed.begun l z kl r) := by rw [← HTT.out]; unfold Ed.turned; rw [hd]
          have HRUN := Lib.hid (deed_runs d HT5.out HCL.out hl hkl rfl rfl)
          have eg := deed_enters d
          simp only [Option.isSome_some, fnV]
          generalize d.fn = F at HRUN eg
          go_wp2_with fail
          refine HRUN.out.mono ?_
          rintro e w6 ⟨rfl, kv6, av6, hT6⟩
          have HT6 := Lib.hid hT6
          clear hT6
          go_wp2
          go_meet
          exact ⟨_, _, by rw [hE]; exact HT6.out⟩
      case rest =>
        obtain ⟨kv6, av6, hT6⟩ := hcut
        have HT6 := Lib.hid hT6
        clear hT6 HT5
        generalize wc = W6 at *
        have hrl : sb < W3.heap.size ∧ rb < W3.heap.size := ⟨HS3.out.lt, HRB.out.lt⟩
        have HS6 := Lib.hid (HS3.out.keep (Keep.of_grew HT6.out.bel Non) (fun h => h))
        have HR6 := Lib.hid (HRB.out.keep (Keep.of_grew HT6.out.bel Non) (fun h => h))
        obtain ⟨aa, ac, rfl⟩ := HT6.out.acts.shape
        obtain ⟨ka6, kc6, hkv6⟩ := HT6.out.kill.shape
        subst hkv6
        have s0 := HS6.out.cell 0 (by simp)
        simp only [List.getElem_cons_zero] at s0
        obtain ⟨c0, c1, c2, c3, c4, c5⟩ := HT6.out.cells
        have HW63 : Hid (Below w.heap.size w W6) := Lib.hid (HB3.out.trans (Below.mono HT6.out.bel HB3.out.size))
        go_wp2_with fail
        refine (edit_Apply (.slice va l.length vc) (.slice aa T.acts.length ac) l T.acts W6 (HV.out.below HW63.out) HT6.out.acts.slice (by omega) (by have := HSM.out; omega)).mono ?_
        rintro e w7 ⟨V, rfl, hV, hVn, hb7⟩
        have HVO := Lib.hid hV
        have HVN := Lib.hid hVn
        have HB7 := Lib.hid hb7
        have HT7 := Lib.hid (HT6.out.grew hb7)
        have HR7 := Lib.hid (HR6.out.keep (Keep.of_grew hb7 Non) (fun h => h))
        have HRL : Hid (rb < W3.heap.size ∧ W3.heap.size ≤ W6.heap.size ∧ w.heap.size ≤ rb) := Lib.hid ⟨hrl.2, HT6.out.bel.size, by have := HWB.out; omega⟩
        clear hV hVn hb7 s0 c0 c1 c2 c3 c4 c5 hrl
        obtain ⟨Va, Vc, rfl⟩ := HVO.out.slice.shape
        obtain ⟨c0, c1, c2, c3, c4, c5⟩ := HT7.out.cells
        have HCLN := Lib.hid (fun W (hb : Below W6.heap.size W6 W) => slices_CloneInts _ T.kill W ((HT6.out.kill.below HT6.out.bel).below hb) (by have := HSM.out; omega))
        go_wp2_with fail
        go_cut [5] from 44 to 52 (fun s5 wx => s5 = .slice aa T.acts.length ac ∧ ∃ W8 K8, Below w7.heap.size w7 W8 ∧ OwnI W8 K8 T.kill ∧ (∀ q, K8.ownBlock = some q → w7.heap.size ≤ q) ∧ wx = ((W8.setCell ⟨rb, 0, none⟩ (.slice Va ((Ed.apply l T.acts).getD []).length Vc)).setCell ⟨rb, 1, none⟩ (.int .i64 (T.at' : Nat))).setCell ⟨rb, 2, none⟩ K8)
        case first =>
          have r0 := HR7.out.cell 0 (by simp)
          have r1 := HR7.out.cell 1 (by simp)
          have r2 := HR7.out.cell 2 (by simp)
          have rf0 := HR7.out.frozen 0
          have rf1 := HR7.out.frozen 1
          have rf2 := HR7.out.frozen 2
          simp only [List.getElem_cons_zero, List.getElem_cons_succ] at r0 r1 r2
          go_region_held3 (fun w' => w'.cell? ⟨g, 1, none⟩ = some (.int .i64 (T.at' : Nat)) ∧ w'.cell? ⟨g, 3, none⟩ = some (.slice ka6 T.kill.length kc6) ∧ w'.cell? ⟨g, 5, none⟩ = some (.slice aa T.acts.length ac))
            (first | exact ⟨c1, c3, c5⟩ | exact ⟨d1, d3, d5⟩ | exact ⟨e1, e3, e5⟩)
            (first
              | (go_at_call 23; refine (HCLN.out _ (grew HB7.out (grew_drew _))).mono ?_; rintro e w8 ⟨K8, rfl, hK8, hKn, hb8⟩
                 have HB8 := Lib.hid (grew (grew_drew w7) hb8)
                 have HK8 := Lib.hid hK8
                 have HKN := Lib.hid hKn
                 have HT8 := Lib.hid (HT7.out.grew HB8.out)
                 have HR8 := Lib.hid (HR7.out.keep (Keep.of_grew HB8.out Non) (fun h => h))
                 obtain ⟨Ka, Kc, hKs⟩ := hK8.slice.shape
                 subst hKs
                 obtain ⟨d0, d1, d2, d3, d4, d5⟩ := HT8.out.cells
                 have HR81 := Lib.hid (HR8.out.set 0 (.slice Va ((Ed.apply l T.acts).getD []).length Vc) (by simp))
                 have HR82 := Lib.hid (HR81.out.set 1 (.int .i64 (T.at' : Nat)) (by simp))
                 have t0 := HR8.out.cell 0 (by simp)
                 have t1 := HR81.out.cell 1 (by simp)
                 have t2 := HR82.out.cell 2 (by simp)
                 have tf0 := HR8.out.frozen 0
                 have tf1 := HR81.out.frozen 1
                 have tf2 := HR82.out.frozen 2
                 simp only [List.set_cons_zero, List.set_cons_succ, List.getElem_cons_zero, List.getElem_cons_succ] at t0 t1 t2
                 have hG9 := ((HT8.out.box.keep (Keep.setCell w8 rb 0 (.slice Va ((Ed.apply l T.acts).getD []).length Vc)) (fun e => HSG.out.2.2 (Eq.symm e))).keep (Keep.setCell _ rb 1 (.int .i64 (T.at' : Nat))) (fun e => HSG.out.2.2 (Eq.symm e))).keep (Keep.setCell _ rb 2 (.slice Ka T.kill.length Kc)) (fun e => HSG.out.2.2 (Eq.symm e))
                 have e1 := hG9.cell 1 (by simp [tnL])
                 have e3 := hG9.cell 3 (by simp [tnL])
                 have e5 := hG9.cell 5 (by simp [tnL])
                 simp only [tnL, List.getElem_cons_zero, List.getElem_cons_succ] at e1 e3 e5
                 clear hK8 hKn hb8 hG9))
          all_goals
            go_wp2
            go_meet
            exact ⟨rfl, w8, _, HB8.out, HK8.out, HKN.out, rfl⟩
        case rest =>
          obtain ⟨rfl, W8, K8, hb8, hK8, hKn, hw9⟩ := hcut
          have HT8 := Lib.hid (HT7.out.grew hb8)
          have HR8 := Lib.hid (HR7.out.keep (Keep.of_grew hb8 Non) (fun h => h))
          have hset := ((HR8.out.set 0 (.slice Va ((Ed.apply l T.acts).getD []).length Vc) (by simp)).set 1 (.int .i64 (T.at' : Nat)) (by simp)).set 2 K8 (by simp)
          have hkeep : Keep (Just rb) W8 wc := by
            rw [hw9]
            exact (((Keep.setCell W8 rb 0 _).trans (Keep.setCell _ rb 1 _) (fun i _ e => e)).trans (Keep.setCell _ rb 2 _) (fun i _ e => e))
          rw [← hw9] at hset
          have u0 := hset.cell 0 (by simp)
          have u1 := hset.cell 1 (by simp)
          have u2 := hset.cell 2 (by simp)
          simp only [List.set_cons_zero, List.set_cons_succ, List.getElem_cons_zero, List.getElem_cons_succ] at u0 u1 u2
          have HF1 : Hid (SliceI wc (.slice Va ((Ed.apply l T.acts).getD []).length Vc) ((Ed.apply l T.acts).getD [])) := Lib.hid (((HVO.out.below hb8).keep hkeep (fun q hq e => by
            have h1 := HVN.out q hq
            have h2 := HRL.out
            have e : q = rb := e
            omega)).slice)
          have HF2 : Hid (SliceI wc K8 T.kill) := Lib.hid ((hK8.keep hkeep (fun q hq e => by
            have h1 := hKn q hq
            have h2 := HRL.out
            have h3 := HB7.out.size
            have e : q = rb := e
            omega)).slice)
          have HF3 : Hid (SliceG 3 EAct.cells wc (.slice aa T.acts.length ac) T.acts) := Lib.hid (owns_actg (Owns.keep HT8.out.acts hkeep (fun q hq e => by
            have h1 := (HT8.out.apart q hq).1
            have h2 := HRL.out
            have e : q = rb := e
            omega)))
          have HF4 : Hid (Below w.heap.size w wc) := Lib.hid (((HW63.out.trans (Below.mono (grew HB7.out hb8) HW63.out.size))).trans (hkeep.below ((HW63.out.trans (Below.mono (grew HB7.out hb8) HW63.out.size))).size (fun i e => by have e : i = rb := e; have h2 := HRL.out; omega)))
          have HNEW : Hid (∀ q, (Value.slice Va ((Ed.apply l T.acts).getD []).length Vc).ownBlock = some q ∨ K8.ownBlock = some q ∨ (Value.slice aa T.acts.length ac).ownBlock = some q → w.heap.size ≤ q) := Lib.hid (fun q hq => by
            have a1 := HB3.out.size
            have a2 := HRL.out
            have a3 := HB7.out.size
            rcases hq with e | e | e
            · have := HVN.out q e; omega
            · have := hKn q e; omega
            · have := (HT8.out.apart q e).1; omega)
          clear hset hkeep hw9 hK8 hKn hb8
          go_wp2
          refine bodyPost_ret (v := .tuple #[.agg #[.slice Va ((Ed.apply l T.acts).getD []).length Vc, .int .i64 (T.at' : Nat), K8], .slice aa T.acts.length ac]) (by simp [results, Try.results7, go_sem, u0, u1, u2]) rfl ?_
          exact ⟨_, _, _, rfl, HF1.out, HF2.out, HF3.out, HNEW.out, HF4.out⟩
end Go.Proofs.Ytakjoodlediemaa
