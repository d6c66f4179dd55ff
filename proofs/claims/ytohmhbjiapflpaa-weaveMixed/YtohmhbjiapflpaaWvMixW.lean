/- What grows of a set of elements, whatever order they come in: the walk of WeaveMixed. -/
import Derived.Test.YtohmhbjiapflpaaWvThings
import Derived.Test.YtohmhbjiapflpaaWvMixM
import Derived.Test.YtohmhbjiapflpaaWvWNil
import Derived.Test.YtohmhbjiapflpaaIdEq
import Derived.Deep.QuietTactic
import Derived.BigQuiet
import Derived.StillTailTactics
import Derived.IntWalk
namespace Go.Proofs.Ytohmhbjiapflpaa
open Go.RowKit Go.Maps Go.ChangeShapes Go.WideShapes Go.ChangeAt Go.Joins Go.Deep
set_option linter.unusedVariables false

/-- An element as it is handed over: what it is, and a slice of its users. -/
structure Ue where
  e : Wel
  a : Option Addr
  n : Nat
  c : Nat
def Ue.cells (o : Ue) : List Value := [.int .i64 o.e.id.1, .int .i64 o.e.id.2, .int .i64 o.e.ref.1, .int .i64 o.e.ref.2, .int .i64 o.e.rune, .slice o.a o.n o.c]

section
variable {H : Type} {enc : TypeId × Value → H} {W : World} {n : Nat}
set_option maxRecDepth 100000 in
theorem trod_ue {cs : List Value} {y : DataW H × List MemPlace} (h : DataW.trod enc Try.prog W 0 (fun _ => true) true n 49 cs = some y) (hl : cs.length = 6) : ∃ o : Ue, cs = o.cells ∧ True := by
  have hI : Try.prog.cellsOf 3 = 1 := by kernel_rfl
  have hS : Try.prog.cellsOf 47 = 1 := by kernel_rfl
  have hD : Try.prog.cellsOf 24 = 2 := by kernel_rfl
  match cs, hl with
  | [c0, c1, c2, c3, c4, c5], _ =>
    obtain ⟨z0, z1, z2, z3, k', _, _, g0, g1, g2, g3⟩ := trod_struct4 Try.underlying49 h
    have e1 : (List.drop 0 [c0, c1, c2, c3, c4, c5]).take (Try.prog.cellsOf 24) = [c0, c1] := by rw [hD]; rfl
    have e2 : (List.drop 2 [c0, c1, c2, c3, c4, c5]).take (Try.prog.cellsOf 24) = [c2, c3] := by rw [hD]; rfl
    rw [e1] at g0
    rw [e2] at g1
    obtain ⟨x, hx, x1, x2⟩ := trod_id g0 rfl
    obtain ⟨r, hr, r1, r2⟩ := trod_id g1 rfl
    obtain ⟨xr, rfl, _⟩ := trod_numi g2 (c := c4) (by show (List.drop 4 [c0, c1, c2, c3, c4, c5]).take (Try.prog.cellsOf 3) = _; rw [hI]; rfl)
    have e3 : (List.drop 5 [c0, c1, c2, c3, Value.int .i64 xr, c5]).take (Try.prog.cellsOf 47) = [c5] := by rw [hS]; rfl
    rw [e3] at g3
    have hc : ∃ a n k, c5 = .slice a n k := by
      rcases open_slice Try.underlying47 g3 with ⟨h0, _⟩ | ⟨b, l, cp, m, n, D, Pl, hcs, _⟩
      · simp at h0
        exact ⟨_, _, _, h0⟩
      · simp at hcs
        exact ⟨_, _, _, hcs⟩
    obtain ⟨a, k, c, rfl⟩ := hc
    unfold idL at hx hr
    injection hx with hx1 hx
    injection hx with hx2 _
    injection hr with hr1 hr
    injection hr with hr2 _
    subst hx1 hx2 hr1 hr2
    exact ⟨⟨⟨x, r, xr⟩, a, k, c⟩, rfl, trivial⟩
end

theorem Mine.lay {T : Th} {Ts : List Th} {w0 w w' : World} (g : Good T) (h : Mine Ts w0 w) (k : Mine [T] w w') : Mine (T :: Ts) w0 w' := by
  obtain ⟨F, h1, h2⟩ := k.first
  exact h.new g h1 h2 k.bel

set_option maxRecDepth 100000 in
set_option maxHeartbeats 8000000 in
theorem law11_grown (v : Value) (us : List Ue) (off : Nat) (w : World) (hu : SliceG 6 Ue.cells w v us) (hlen : us.length ≤ 40) (hid : (us.map Ue.e).Pairwise fun a b => a.id ≠ b.id) (hoff : off ≤ 1000) :
    Calls Try.prog 32 #[v, .int .i64 (off : Int)] w fun e w' => ∃ p L, e = .returned (.pointer (some ⟨p, 0, none⟩)) ∧ Weave.Of (us.map Ue.e) L ∧ Weave.Full (us.map Ue.e) L ∧ Mine [LineT p L] w w' := by
  have HU := Lib.hid hu
  have HID := Lib.hid hid
  obtain ⟨va, vc, rfl⟩ := hu.shape
  clear hu hid
  go_enter Try.func32, Try.ntmps32
  go_wp2_with fail
  refine (w_New (Mine.nothing w)).mono ?_
  rintro e w1 ⟨p, rfl, h⟩
  have H := Lib.hid h
  clear h
  go_wp2_with fail
  go_loopw [6] (fun i wr => ∃ (r : Nat) (L : List Wel), r ≤ us.length ∧ i = .int .i64 r ∧ Weave.Of (us.map Ue.e) L ∧ r ≤ L.length ∧ Mine [LineT p L] w wr) (fun i _ => us.length - (intOf i).toNat)
  case atStart => exact ⟨0, [], by omega, rfl, Weave.of_nil _, by simp, H.out⟩
  case round =>
    obtain ⟨r, L, hr, rfl, hOf, hrl, hM⟩ := hrel
    have HM := Lib.hid hM
    have HO := Lib.hid hOf
    have HRL := Lib.hid hrl
    clear hM hOf hrl H
    by_cases hlt : r < us.length
    · have e1 : decide ((r : Int) < (us.length : Int)) = true := decide_eq_true (by omega)
      have e2 : decide (r < us.length) = true := decide_eq_true hlt
      go_wp2_with fail
      go_loopw [7, 8] (fun g i wv => ∃ (j : Nat) (gb : Bool) (L' : List Wel), j ≤ us.length ∧ i = .int .i64 j ∧ g = .bool gb ∧ Weave.Of (us.map Ue.e) L' ∧ L.length ≤ L'.length ∧ (gb = true → L.length + 1 ≤ L'.length) ∧ (gb = false → ∀ j' e, j' < j → (us.map Ue.e)[(off + j') % us.length]? = some e → Weave.CanPut L' e → e ∈ L') ∧ Mine [LineT p L'] w wv) (fun _ i _ => us.length - (intOf i).toNat)
      case atStart => exact ⟨0, false, L, by omega, rfl, rfl, HO.out, Nat.le_refl _, by simp, fun _ j' e hj => by omega, HM.out⟩
      case round =>
        obtain ⟨j, gb, L', hj, rfl, rfl, hOf, hl1, hl2, hl3, hM⟩ := hrel
        have HM2 := Lib.hid hM
        have HO2 := Lib.hid hOf
        have HL1 := Lib.hid hl1
        have HL2 := Lib.hid hl2
        have HL3 := Lib.hid hl3
        clear hM hOf hl1 hl2 hl3 HM
        by_cases hjl : j < us.length
        · have g1 : decide ((j : Int) < (us.length : Int)) = true := decide_eq_true (by omega)
          have g2 : decide (j < us.length) = true := decide_eq_true hjl
          have hpos : 0 < us.length := by omega
          have hix : (off + j) % us.length < us.length := Nat.mod_lt _ hpos
          have hz1 : ((us.length : Int) == 0) = false := beq_eq_false_iff_ne.2 (by omega)
          have hz2 : decide ((us.length : Int) = 0) = false := decide_eq_false (by omega)
          have htm : ((off : Int) + (j : Int)).tmod (us.length : Int) = (((off + j) % us.length : Nat) : Int) := rfl
          obtain ⟨b, o', e, hbl, hc⟩ := (HU.out.below HM2.out.bel).at hix
          cases e
          have HG : Hid ((us.map Ue.e)[(off + j) % us.length]? = some us[(off + j) % us.length].e) := Lib.hid (by rw [List.getElem?_map, List.getElem?_eq_getElem hix]; rfl)
          have HE : Hid (us[(off + j) % us.length].e ∈ us.map Ue.e) := Lib.hid (List.mem_map.2 ⟨_, List.getElem_mem hix, rfl⟩)
          generalize us[(off + j) % us.length] = u at hc HG HE
          generalize hii : (off + j) % us.length = ix at *
          obtain ⟨⟨⟨i1, i2⟩, ⟨r1, r2⟩, rn⟩, ua, un, uc⟩ := u
          have c0 := hc 0 _ rfl
          have c1 := hc 1 _ rfl
          have c2 := hc 2 _ rfl
          have c3 := hc 3 _ rfl
          have c4 := hc 4 _ rfl
          have c5 := hc 5 _ rfl
          simp only [Nat.add_zero] at c0
          have hixi : (ix : Int) < (us.length : Int) := by omega
          have HII := Lib.hid hii
          clear hc hii
          have HM3 : Hid (Mine [BoxV wr.heap.size [.int .i64 i1, .int .i64 i2, .int .i64 r1, .int .i64 r2, .int .i64 rn, .slice ua un uc] 49, LineT p L'] w (wr.alloc (.cells #[.int .i64 i1, .int .i64 i2, .int .i64 r1, .int .i64 r2, .int .i64 rn, .slice ua un uc] 49))) := Lib.hid (HM2.out.alloc _ _)
          have m0 := HM3.out.box.cell 0 (by simp)
          have m1 := HM3.out.box.cell 1 (by simp)
          have m2 := HM3.out.box.cell 2 (by simp)
          have m3 := HM3.out.box.cell 3 (by simp)
          have m4 := HM3.out.box.cell 4 (by simp)
          simp only [List.getElem_cons_zero, List.getElem_cons_succ] at m0 m1 m2 m3 m4
          go_wp2_with fail
          refine (w_Insert HM3.out.swap (i1, i2) (r1, r2) rn).mono ?_
          rintro e w5 ⟨rfl, h⟩
          have HP := HO2.out.put HID.out (by rw [List.length_map]; exact hlen) HO2.out.len HE.out
          simp only at HP
          clear m0 m1 m2 m3 m4 c0 c1 c2 c3 c4 c5 HM3 htm hz1 hz2 hixi hix
          rcases HP with ⟨q1, q2, q3, q4⟩ | ⟨q1, q2, q3⟩
          · rw [q2] at h
            have HM5 := Lib.hid h.swap.drop
            have HQ := Lib.hid q3
            rw [q1]
            clear h q1 q2 q3 q4
            go_wp2
            go_roundw
            case rel =>
              have hz := HL1.out
              have hy : (L' ++ [(⟨(i1, i2), (r1, r2), rn⟩ : Wel)]).length = L'.length + 1 := by simp
              exact ⟨j + 1, true, L' ++ [⟨(i1, i2), (r1, r2), rn⟩], by omega, by go_num, rfl, HQ.out, by omega, fun _ => by omega, fun q => (by cases q), HM5.out⟩
            case measure => simp [intOf]; omega
          · rw [q2] at h
            have HM5 := Lib.hid h.swap.drop
            have HQ := Lib.hid q3
            have e0 : ((Weave.insert L' (i1, i2) (r1, r2) rn).1 == 0) = false := beq_eq_false_iff_ne.2 q1
            generalize (Weave.insert L' (i1, i2) (r1, r2) rn).1 = er at e0
            clear h q1 q2 q3
            have HNEW : Hid (gb = false → ∀ j' e, j' < j + 1 → (us.map Ue.e)[(off + j') % us.length]? = some e → Weave.CanPut L' e → e ∈ L') := Lib.hid (fun q j' e hj' he hp => by
              by_cases hjj : j' = j
              · rw [hjj, HII.out, HG.out] at he
                cases he
                exact HQ.out hp
              · exact HL3.out q j' e (by omega) he hp)
            go_wp2
            go_roundw
            case rel =>
              exact ⟨j + 1, gb, L', by omega, by go_num, rfl, HO2.out, HL1.out, HL2.out, HNEW.out, HM5.out⟩
            case measure => simp [intOf]; omega
        · have g1 : decide ((j : Int) < (us.length : Int)) = false := decide_eq_false (by omega)
          have g2 : decide (j < us.length) = false := decide_eq_false hjl
          cases gb with
          | false =>
            have HF : Hid (Weave.Full (us.map Ue.e) L') := Lib.hid (fun e he hp => by
              obtain ⟨i, hi⟩ := List.mem_iff_getElem?.1 he
              have hil : i < us.length := by
                have := (List.getElem?_eq_some_iff.1 hi).1
                rwa [List.length_map] at this
              obtain ⟨j', hj', q⟩ := Weave.round_all (off := off) hil
              exact HL3.out rfl j' e (by omega) (by rw [q]; exact hi) hp)
            clear HL3
            go_wp2
            go_ret
            exact ⟨p, L', rfl, HO2.out, HF.out, HM2.out⟩
          | true =>
            have hz := HL2.out rfl
            have hz2 := HRL.out
            clear HL3
            go_wp2
            go_roundw
            case rel => exact ⟨r + 1, L', by omega, by go_num, HO2.out, by omega, HM2.out⟩
            case measure => simp [intOf]; omega
    · have e1 : decide ((r : Int) < (us.length : Int)) = false := decide_eq_false (by omega)
      have e2 : decide (r < us.length) = false := decide_eq_false hlt
      have HF := Lib.hid (HO.out.all (by rw [List.length_map]; have := HRL.out; omega))
      go_wp2
      go_ret
      exact ⟨p, L, rfl, HO.out, HF.out, HM.out⟩

set_option maxRecDepth 100000 in
set_option maxHeartbeats 8000000 in
theorem walk_WeaveMixed (v : Value) (us : List Ue) (at' : Int) (w : World) (hx : SliceG 6 Ue.cells w v us ∧ us.length ≤ maxLen ∧ ∀ o ∈ us, True) (hat : (Lit.int .i64 at').wf = true) :
    Calls Try.prog 7 #[v, .int .i64 at'] w fun e w' => e = .returned (.bool true) ∧ Below w.heap.size w w' := by
  obtain ⟨hu, hm, _⟩ := hx
  have HU := Lib.hid hu
  obtain ⟨va, vc, rfl⟩ := hu.shape
  unfold maxLen at hm
  have hI : at' ≤ 9223372036854775807 := by simp [Lit.wf] at hat; exact hat.2
  clear hu hat
  go_enter Try.func7, Try.ntmps7
  by_cases h0 : 40 < us.length
  · have d0 : decide (40 < us.length) = true := decide_eq_true h0
    have d0' : decide ((40 : Int) < (us.length : Int)) = true := decide_eq_true (by omega)
    go_wp2_with fail
    refine (law11_live _).mono ?_
    rintro e w6 ⟨rfl, hb⟩
    go_wp2
    go_ret
    exact ⟨rfl, hb⟩
  · have d0 : decide (40 < us.length) = false := decide_eq_false h0
    have d0' : decide ((40 : Int) < (us.length : Int)) = false := decide_eq_false (by omega)
    by_cases h1 : at' < 0
    · have d1 : decide (at' < 0) = true := decide_eq_true h1
      go_wp2_with fail
      refine (law11_live _).mono ?_
      rintro e w6 ⟨rfl, hb⟩
      go_wp2
      go_ret
      exact ⟨rfl, hb⟩
    · have d1 : decide (at' < 0) = false := decide_eq_false h1
      have hlen : us.length ≤ 40 := by omega
      obtain ⟨A, rfl⟩ : ∃ A : Nat, at' = (A : Int) := ⟨at'.toNat, by omega⟩
      clear h0 h1
      go_wp2_with fail
      clear d0 d0' d1
      go_loopw [5] (fun i wr => ∃ k : Nat, k ≤ us.length ∧ i = .int .i64 k ∧ (∀ a b ea eb, b < a → a < k → us[a]? = some ea → us[b]? = some eb → eb.e.id ≠ ea.e.id) ∧ Below w.heap.size w wr) (fun i _ => us.length - (intOf i).toNat)
      case atStart => exact ⟨0, by omega, rfl, fun a b ea eb _ h => by omega, Below.refl _ _⟩
      case round =>
        obtain ⟨k, hk, rfl, hap, hB⟩ := hrel
        have HAP := Lib.hid hap
        have HB := Lib.hid hB
        clear hap hB
        by_cases hlt : k < us.length
        · have e1 : decide ((k : Int) < (us.length : Int)) = true := decide_eq_true (by omega)
          have e2 : decide (k < us.length) = true := decide_eq_true hlt
          have hka : (k : Int) < (us.length : Int) := by omega
          go_wp2_with fail
          go_loopw [6] (fun i wv => ∃ m : Nat, m ≤ k ∧ i = .int .i64 m ∧ (∀ b eb, b < m → us[b]? = some eb → eb.e.id ≠ us[k].e.id) ∧ Below w.heap.size w wv) (fun i _ => k - (intOf i).toNat)
          case atStart => exact ⟨0, by omega, rfl, fun b eb h => by omega, HB.out⟩
          case round =>
            obtain ⟨m, hmk, rfl, hap, hB⟩ := hrel
            have HAP2 := Lib.hid hap
            have HB2 := Lib.hid hB
            clear hap hB
            by_cases hml : m < k
            · have g1 : decide ((m : Int) < (k : Int)) = true := decide_eq_true (by omega)
              have g2 : decide (m < k) = true := decide_eq_true hml
              have hma : (m : Int) < (us.length : Int) := by omega
              have hml2 : m < us.length := by omega
              obtain ⟨b, o', e, hbl, hc⟩ := (HU.out.below HB2.out).at hlt
              cases e
              obtain ⟨b', o'', e, hbl', hc'⟩ := (HU.out.below HB2.out).at hml2
              cases e
              have c0 := hc 0 _ rfl
              have c1 := hc 1 _ rfl
              have c0' := hc' 0 _ rfl
              have c1' := hc' 1 _ rfl
              simp only [Nat.add_zero] at c0 c0'
              clear hc hc' hbl hbl'
              have hgi := guard_id
              have HMM : Hid (us[m]? = some us[m]) := Lib.hid (List.getElem?_eq_getElem hml2)
              by_cases heq : us[m].e.id = us[k].e.id
              · have heql : ∀ W, (binOp .eql 24 (.agg #[.int .i64 us[m].e.id.1, .int .i64 us[m].e.id.2]) (.agg #[.int .i64 us[k].e.id.1, .int .i64 us[k].e.id.2])).run Try.prog W = .ok (.bool true) W := fun W => by rw [eql_id, decide_eq_true (show ((us[m].e.id.1, us[m].e.id.2) : Int × Int) = (us[k].e.id.1, us[k].e.id.2) from heq)]
                clear heq
                generalize us[m].e.id.1 = a1 at c0' heql
                generalize us[m].e.id.2 = a2 at c1' heql
                generalize us[k].e.id.1 = b1 at c0 heql
                generalize us[k].e.id.2 = b2 at c1 heql
                go_wp2_with fail
                go_quiet (fail)
                go_wp2_with fail
                refine (law11_live _).mono ?_
                rintro e w6 ⟨rfl, hb⟩
                go_wp2
                go_ret
                exact ⟨rfl, grew (grew HB2.out (grew_drewN _ _)) hb⟩
              · have heql : ∀ W, (binOp .eql 24 (.agg #[.int .i64 us[m].e.id.1, .int .i64 us[m].e.id.2]) (.agg #[.int .i64 us[k].e.id.1, .int .i64 us[k].e.id.2])).run Try.prog W = .ok (.bool false) W := fun W => by rw [eql_id, decide_eq_false (show ¬ ((us[m].e.id.1, us[m].e.id.2) : Int × Int) = (us[k].e.id.1, us[k].e.id.2) from heq)]
                have HNE := Lib.hid heq
                clear heq
                generalize us[m].e.id.1 = a1 at c0' heql
                generalize us[m].e.id.2 = a2 at c1' heql
                generalize us[k].e.id.1 = b1 at c0 heql
                generalize us[k].e.id.2 = b2 at c1 heql
                have HNEW : Hid (∀ b eb, b < m + 1 → us[b]? = some eb → eb.e.id ≠ us[k].e.id) := Lib.hid (fun b eb hb he => by
                  by_cases hbm : b = m
                  · rw [hbm, HMM.out] at he
                    cases he
                    exact HNE.out
                  · exact HAP2.out b eb (by omega) he)
                go_wp2_with fail
                go_quiet (fail)
                go_wp2
                go_roundw
                case rel => exact ⟨m + 1, by omega, by go_num, HNEW.out, grew HB2.out (grew_drewN _ _)⟩
                case measure => simp [intOf]; omega
            · have g1 : decide ((m : Int) < (k : Int)) = false := decide_eq_false (by omega)
              have g2 : decide (m < k) = false := decide_eq_false hml
              have HNEW : Hid (∀ a b ea eb, b < a → a < k + 1 → us[a]? = some ea → us[b]? = some eb → eb.e.id ≠ ea.e.id) := Lib.hid (fun a b ea eb hba ha h1 h2 => by
                by_cases hak : a = k
                · rw [hak, List.getElem?_eq_getElem hlt] at h1
                  cases h1
                  exact HAP2.out b eb (by omega) h2
                · exact HAP.out a b ea eb hba (by omega) h1 h2)
              go_wp2
              go_roundw
              case rel => exact ⟨k + 1, by omega, by go_num, HNEW.out, HB2.out⟩
              case measure => simp [intOf]; omega
        · have e1 : decide ((k : Int) < (us.length : Int)) = false := decide_eq_false (by omega)
          have e2 : decide (k < us.length) = false := decide_eq_false hlt
          have hid : (us.map Ue.e).Pairwise fun a b => a.id ≠ b.id := List.pairwise_map.2 (List.pairwise_iff_getElem.2 (fun i j hi hj hij => HAP.out j i _ _ hij (by omega) (List.getElem?_eq_getElem hj) (List.getElem?_eq_getElem hi)))
          have HID := Lib.hid hid
          have htm : (A : Int).tmod 1000 = ((A % 1000 : Nat) : Int) := rfl
          have hA : A % 1000 < 1000 := Nat.mod_lt _ (by omega)
          clear hid HAP
          go_wp2_with fail
          refine (law11_grown _ us 0 _ (HU.out.below HB.out) hlen HID.out (by omega)).mono ?_
          rintro e w3 ⟨p, L, rfl, hOf, hF, h⟩
          have HA := Lib.hid (((Mine.nothing w).grew HB.out).lay (LineT.good _ _) h)
          have HO := Lib.hid (And.intro hOf hF)
          clear h hOf hF
          generalize hAA : A % 1000 = B at *
          go_wp2_with fail
          refine (law11_grown _ us B _ (HU.out.below HA.out.bel) hlen HID.out (by omega)).mono ?_
          rintro e w4 ⟨p2, L2, rfl, hOf, hF, h⟩
          have HA2 := Lib.hid (HA.out.lay (LineT.good _ _) h)
          have HS := Lib.hid (Weave.full_same HO.out.1 hOf HO.out.2 hF)
          have HL0 := Lib.hid (Weave.elements_few HO.out.1.ok)
          clear h hOf hF HA htm hAA
          go_wp2_with fail
          refine (w_Elements HA2.out.swap).mono ?_
          rintro e w5 ⟨v5, rfl, h, _⟩
          have HM5 := Lib.hid h
          clear h
          go_wp2_with fail
          refine (w_Elements HM5.out.swap2).mono ?_
          rintro e w6 ⟨v6, rfl, h, _⟩
          rw [← HS.out] at h
          have HM6 := Lib.hid h
          clear h
          go_wp2_with fail
          refine (ref11_Same_same _ _ (Weave.elements L) _ HM6.out.swap2.rowG HM6.out.rowG (by have := HL0.out; omega)).mono ?_
          rintro e w8 ⟨rfl, hb8⟩
          have HM8 := Lib.hid (grew HM6.out.bel hb8)
          clear hb8
          go_wp2_with fail
          refine (law11_live _).mono ?_
          rintro e w9 ⟨rfl, hb9⟩
          have HM9 := Lib.hid (grew HM8.out hb9)
          clear hb9
          go_wp2
          go_ret
          exact ⟨rfl, HM9.out⟩
end Go.Proofs.Ytohmhbjiapflpaa
