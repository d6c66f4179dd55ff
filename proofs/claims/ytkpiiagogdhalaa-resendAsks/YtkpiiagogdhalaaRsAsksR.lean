/- What Asks and Same of the reference's stores come to. -/
import Derived.Test.YtkpiiagogdhalaaRsAsks
namespace Go.Proofs.Ytkpiiagogdhalaa
open Go.RowKit Go.Maps
set_option linter.unusedVariables false

theorem info_askR : (Try.prog.info? 64).map (fun i => (i.zero, i.size, i.bytes)) = some (some (.agg #[.int .i64 0, .int .i64 0]), 2, 16) := by kernel_rfl

/-- Where the loops stand. -/
structure AskRW (w : World) (V : Value) (l : List (Int × Int)) (wr : World) : Prop where
  own : OwnA wr 64 V l
  new : ∀ g, V.ownBlock = some g → w.heap.size ≤ g
  bel : Below w.heap.size w wr
theorem AskRW.more {w w' wr : World} {V V' : Value} {l : List (Int × Int)} {x y : Int} (h : AskRW w V l wr) (ho : Owns w' 64 2 V' (l.length + 1) (askCells l ++ [.int .i64 x, .int .i64 y])) (hk : Keep (At V) wr w') (hn : Near wr V V') : AskRW w V' (l ++ [(x, y)]) w' := by
  refine ⟨?_, fun g hg => ?_, ?_⟩
  · unfold OwnA
    rw [askCells_append, List.length_append]
    exact ho
  · rcases hn g hg with e | e
    · exact h.new g e
    · exact Nat.le_trans h.bel.size e
  · exact h.bel.trans (hk.below h.bel.size (fun i hi => h.new i hi))

theorem AskRW.form {w wr : World} {V : Value} {l : List (Int × Int)} (h : AskRW w V l wr) : ∃ a cap, V = .slice a l.length cap := by
  rcases h.own.2 with ⟨e, h0⟩ | ⟨g, cap, cur, e, _⟩
  · exact ⟨none, 0, by rw [e, h0]⟩
  · exact ⟨_, cap, e⟩

set_option maxRecDepth 100000 in
set_option maxHeartbeats 4000000 in
theorem ref08_Asks (v u : Value) (xs ys : List Int) (most : Int) (w : World) (hv : SliceI w v xs) (hu : SliceI w u ys) (hm : xs.length ≤ 1000000000) (hm2 : ys.length ≤ 1000000000) :
    Calls Try.prog 41 #[v, u, .int .i64 most] w fun e w' => ∃ V, e = .returned (.tuple #[V, .int .i64 (Resend.asks xs ys most).2]) ∧ OwnA w' 64 V (Resend.asks xs ys most).1 ∧ Below w.heap.size w w' := by
  have HC := Lib.hid (ref06_Compare v u xs ys w hv hu (by unfold maxLen; omega) (by unfold maxLen; omega))
  have HV := Lib.hid hv
  have HU := Lib.hid hu
  obtain ⟨va, vc, rfl⟩ := hv.shape
  obtain ⟨ua, uc, rfl⟩ := hu.shape
  clear hv hu hm hm2
  by_cases ht : Vecs.together xs ys = true
  · have HT := Lib.hid (cmpV_yes ht)
    by_cases h1 : most < 0
    · have d1 : decide (most < 0) = true := decide_eq_true h1
      have HR : Hid (Resend.asks xs ys most = ([], 1)) := Lib.hid (by unfold Resend.asks; rw [if_neg (fun h => by omega)])
      clear ht h1
      go_enter Try.func41, Try.ntmps41
      go_wp2_with fail
      refine HC.out.mono ?_
      rintro e w1 ⟨rfl, hb1⟩
      rw [HT.out]
      go_wp2
      go_ret2
      exact ⟨_, by rw [HR.out]; rfl, by rw [HR.out]; exact OwnA.nil _ _, by first | exact hb1 | (rw [← hb1]; exact grew_drewN _ _) | (obtain ⟨n, rfl⟩ := hb1; exact grew_drewN _ _)⟩
    · have d1 : decide (most < 0) = false := decide_eq_false h1
      by_cases h2 : 1000 < most
      · have d2 : decide (1000 < most) = true := decide_eq_true h2
        have HR : Hid (Resend.asks xs ys most = ([], 1)) := Lib.hid (by unfold Resend.asks; rw [if_neg (fun h => by omega)])
        clear ht h1 h2
        go_enter Try.func41, Try.ntmps41
        go_wp2_with fail
        refine HC.out.mono ?_
        rintro e w1 ⟨rfl, hb1⟩
        rw [HT.out]
        go_wp2
        go_ret2
        exact ⟨_, by rw [HR.out]; rfl, by rw [HR.out]; exact OwnA.nil _ _, by first | exact hb1 | (rw [← hb1]; exact grew_drewN _ _) | (obtain ⟨n, rfl⟩ := hb1; exact grew_drewN _ _)⟩
      · have d2 : decide (1000 < most) = false := decide_eq_false h2
        obtain ⟨M, rfl⟩ : ∃ M : Nat, most = M := ⟨most.toNat, by omega⟩
        have HR : Hid (Resend.asks xs ys M = ((Resend.asksUp xs ys xs.length).take M, 0)) := Lib.hid (by unfold Resend.asks; rw [if_pos ⟨ht, by omega, by omega⟩]; rfl)
        obtain ⟨t1, t2, t3⟩ := Vecs.together_iff.1 ht
        have m1 := Vecs.may_iff.1 t1
        have m2 := Vecs.may_iff.1 t2
        have hM : M ≤ 1000 := by omega
        have hlen : xs.length ≤ 16 := m1.2.1
        have HLEN := Lib.hid t3
        have HOK : Hid (∀ k (h : k < xs.length) (h' : k < ys.length), Vecs.Ok xs[k] ∧ Vecs.Ok ys[k]) := Lib.hid (fun k h h' => ⟨m1.2.2 _ (List.getElem_mem h), m2.2.2 _ (List.getElem_mem h')⟩)
        clear ht h1 h2 t1 t2 t3 m1 m2 d1 d2
        have d1 : decide ((M : Int) < 0) = false := decide_eq_false (by omega)
        have d2 : decide ((1000 : Int) < (M : Int)) = false := decide_eq_false (by omega)
        go_enter Try.func41, Try.ntmps41
        go_wp2_with fail
        refine HC.out.mono ?_
        rintro e w1 ⟨rfl, hb1⟩
        rw [HT.out]
        have HB1 : Hid (Below w.heap.size w w1) := Lib.hid (by first | exact hb1 | (rw [← hb1]; exact grew_drewN _ _) | (obtain ⟨n, rfl⟩ := hb1; exact grew_drewN _ _))
        clear hb1
        go_wp2_with fail
        go_loopw [10, 11] (fun V i wr => ∃ k : Nat, k ≤ xs.length ∧ i = .int .i64 k ∧ AskRW w V ((Resend.asksUp xs ys k).take M) wr) (fun _ i _ => xs.length - (intOf i).toNat)
        case atStart => exact ⟨0, by omega, rfl, ⟨by rw [show (Resend.asksUp xs ys 0) = [] from rfl, List.take_nil]; exact OwnA.nil _ _, fun g hg => (by cases hg), HB1.out⟩⟩
        case round =>
          obtain ⟨k, hk, rfl, hA⟩ := hrel
          by_cases hlt : k < xs.length
          · have hdk : decide ((k : Int) < (xs.length : Int)) = true := decide_eq_true (by omega)
            have hdn : decide (k < xs.length) = true := decide_eq_true hlt
            have hik : (k : Int) < (xs.length : Int) := by omega
            have hik2 : (k : Int) < (ys.length : Int) := by have := HLEN.out; omega
            have hlt2 : k < ys.length := by have := HLEN.out; omega
            obtain ⟨bx, ox, rfl, hbx, cx⟩ := slice_at HV.out hlt
            obtain ⟨by_, oy, rfl, hby, cy⟩ := slice_at HU.out hlt2
            have hok := HOK.out k hlt hlt2
            have HUP : Hid (Resend.asksUp xs ys (k + 1) = Resend.asksUp xs ys k ++ Resend.asksOf k xs[k] ys[k]) := Lib.hid (by show _ ++ Resend.asksOf k (xs.getD k 0) (ys.getD k 0) = _; simp [hlt, hlt2])
            have cx' : wr.cell? ⟨bx, ox + k, none⟩ = some (.int .i64 xs[k]) := (hA.bel.cell (p := ⟨bx, ox + k, none⟩) hbx).trans cx
            have HCY := Lib.hid (And.intro hby cy)
            have HCX := Lib.hid (And.intro hbx cx)
            have HA := Lib.hid hA
            obtain ⟨a0, ac, rfl⟩ := hA.form
            generalize hx : xs[k] = x at *
            generalize hy : ys[k] = y at *
            clear hx hy
            have hx1 := hok.1.1
            have hx2 := hok.1.2
            have hy1 := hok.2.1
            have hy2 := hok.2.2
            have hwx : IntKind.i64.wrap (x + 1) = x + 1 := by rw [IntKind.wrap_i64]; omega
            have HXY := Lib.hid (And.intro (And.intro hx1 hx2) (And.intro hy1 hy2))
            clear hok hA cx cy hbx hby hlt hlt2
            go_wp2_with fail
            have hM2 : ((Resend.asksUp xs ys k).take M).length ≤ M := by rw [List.length_take]; omega
            go_loopw [10, 12] (fun V q wr => ∃ j : Nat, (j : Int) ≤ max (y - x) 0 ∧ q = .int .i64 (x + 1 + j) ∧ AskRW w V ((Resend.asksUp xs ys k ++ (Resend.asksOf k x y).take j).take M) wr) (fun _ q _ => (y + 1 - intOf q).toNat)
            case atStart => exact ⟨0, by omega, by rw [Int.natCast_zero, Int.add_zero], by rw [List.take_zero, List.append_nil]; exact HA.out⟩
            case round =>
              obtain ⟨j, hj, rfl, hA⟩ := hrel
              have hyc : wr.cell? ⟨by_, oy + k, none⟩ = some (.int .i64 y) := (hA.bel.cell (p := ⟨by_, oy + k, none⟩) HCY.out.1).trans HCY.out.2
              obtain ⟨a1, ac1, rfl⟩ := hA.form
              have HJ := Lib.hid hj
              obtain ⟨L, hL⟩ : ∃ L, (Resend.asksUp xs ys k ++ (Resend.asksOf k x y).take j).take M = L := ⟨_, rfl⟩
              rw [hL] at hA ⊢
              have hLM : L.length ≤ M := by rw [← hL, List.length_take]; omega
              have HL := Lib.hid hL
              have HA := Lib.hid hA
              clear hL hA
              have hj2 : (j : Int) ≤ 4294967295 := by have := HJ.out; omega
              by_cases c1 : x + 1 + (j : Int) ≤ y
              · have dc1 : decide (x + 1 + (j : Int) ≤ y) = true := decide_eq_true c1
                by_cases c2 : L.length < M
                · have dc2 : decide ((L.length : Int) < (M : Int)) = true := decide_eq_true (by omega)
                  have dc2n : decide (L.length < M) = true := decide_eq_true c2
                  have hwj : IntKind.i64.wrap (x + 1 + (j : Int) + 1) = x + 1 + (j : Int) + 1 := by rw [IntKind.wrap_i64]; omega
                  have HNX : Hid ((Resend.asksUp xs ys k ++ (Resend.asksOf k x y).take (j + 1)).take M = L ++ [((k : Int), x + 1 + (j : Int))]) := Lib.hid (by
                    rw [Resend.asksOf_take k x y (by omega), ← List.append_assoc, Resend.take_more (by rw [HL.out]; exact c2), HL.out])
                  have HC1 := Lib.hid c1
                  clear c1 c2
                  go_wp2_with (at_builtin; refine wp_append_lit rfl (.tmp 54) (.tmp 58) rfl Try.underlying81 info_askR rfl (by decide) (by decide) (.slice a1 L.length ac1) L.length (askCells L) rfl HA.out.own 1 [.int .i64 (k : Int), .int .i64 (x + 1 + (j : Int))] _ rfl rfl rfl (by intro u hu; simp at hu; rcases hu with rfl | rfl <;> rfl) (by omega) ?_; intro V2 w2 ho2 hk2 hn2; have HM2 := Lib.hid (HA.out.more ho2 hk2 hn2); clear ho2 hk2 hn2)
                  go_roundw
                  case rel => exact ⟨j + 1, by have := HC1.out; omega, by first | go_num | (congr 1; omega), by rw [HNX.out]; exact HM2.out⟩
                  case measure => simp [intOf]; have := HC1.out; omega
                · have dc2 : decide ((L.length : Int) < (M : Int)) = false := decide_eq_false (by omega)
                  have dc2n : decide (L.length < M) = false := decide_eq_false c2
                  have HFIN : Hid ((Resend.asksUp xs ys k ++ Resend.asksOf k x y).take M = L) := Lib.hid (by
                    rw [← List.take_append_drop j (Resend.asksOf k x y), ← List.append_assoc, Resend.take_full (by rw [HL.out]; omega), HL.out])
                  clear c1 c2
                  go_wp2
                  go_roundw
                  case rel => exact ⟨k + 1, by omega, by go_num, by rw [HUP.out, HFIN.out]; exact HA.out⟩
                  case measure => simp [intOf]; omega
              · have dc1 : decide (x + 1 + (j : Int) ≤ y) = false := decide_eq_false c1
                have HFIN : Hid ((Resend.asksUp xs ys k ++ Resend.asksOf k x y).take M = L) := Lib.hid (by
                  rw [← HL.out, List.take_of_length_le (l := Resend.asksOf k x y) (by rw [Resend.asksOf_len]; omega)])
                clear c1
                go_wp2
                go_roundw
                case rel => exact ⟨k + 1, by omega, by go_num, by rw [HUP.out, HFIN.out]; exact HA.out⟩
                case measure => simp [intOf]; omega
          · have hdn : decide (k < xs.length) = false := decide_eq_false hlt
            have hdk : decide ((k : Int) < (xs.length : Int)) = false := decide_eq_false (by omega)
            have hke : k = xs.length := by omega
            have HKE := Lib.hid hke
            have HA := Lib.hid hA
            clear hA hke hlt
            go_wp2
            go_ret2
            exact ⟨_, by rw [HR.out]; rfl, by rw [HR.out, ← HKE.out]; exact HA.out.own, HA.out.bel⟩
  · have HT := Lib.hid (cmpV_no (Bool.eq_false_iff.2 ht))
    have HR : Hid (Resend.asks xs ys most = ([], 1)) := Lib.hid (by unfold Resend.asks; rw [if_neg (fun h => ht h.1)])
    clear ht
    go_enter Try.func41, Try.ntmps41
    go_wp2_with fail
    refine HC.out.mono ?_
    rintro e w1 ⟨rfl, hb1⟩
    rw [HT.out]
    go_wp2
    go_ret2
    exact ⟨_, by rw [HR.out]; rfl, by rw [HR.out]; exact OwnA.nil _ _, by first | exact hb1 | (rw [← hb1]; exact grew_drewN _ _) | (obtain ⟨n, rfl⟩ := hb1; exact grew_drewN _ _)⟩

/-- What a slice of Asks of one's own reads as. -/
theorem askCells_get {l : List (Int × Int)} {k : Nat} (hk : k < l.length) : (askCells l)[k * 2]? = some (.int .i64 l[k].1) ∧ (askCells l)[k * 2 + 1]? = some (.int .i64 l[k].2) := by
  induction l generalizing k with
  | nil => simp at hk
  | cons p l ih =>
    cases k with
    | zero => simp [askCells]
    | succ k =>
      have := ih (k := k) (by simpa using hk)
      have e1 : (k + 1) * 2 = k * 2 + 2 := by omega
      rw [e1]
      simpa [askCells] using this
theorem OwnA.read {w : World} {t : TypeId} {V : Value} {l : List (Int × Int)} (h : OwnA w t V l) : ∃ a cap, V = .slice a l.length cap ∧ (l = [] ∨ ∃ b, a = some ⟨b, 0, none⟩ ∧ b < w.heap.size ∧ ∀ k (hk : k < l.length), w.cell? ⟨b, k * 2, none⟩ = some (.int .i64 l[k].1) ∧ w.cell? ⟨b, k * 2 + 1, none⟩ = some (.int .i64 l[k].2)) := by
  rcases h.2 with ⟨e, h0⟩ | ⟨g, cap, cur, e, _⟩
  · exact ⟨none, 0, by rw [e, h0], .inl (List.eq_nil_of_length_eq_zero h0)⟩
  · subst e
    refine ⟨_, cap, rfl, .inr ⟨g, rfl, Owns.lt h rfl, fun k hk => ?_⟩⟩
    have h1 := World.ownsRow.cellAt h (k * 2) (by omega)
    have h2 := World.ownsRow.cellAt h (k * 2 + 1) (by omega)
    exact ⟨h1.trans (askCells_get hk).1, h2.trans (askCells_get hk).2⟩
theorem OwnA.below {w w' : World} {t : TypeId} {V : Value} {l : List (Int × Int)} (h : OwnA w t V l) (hb : Below w.heap.size w w') : OwnA w' t V l := Owns.keep h (Keep.of_grew hb Non) (fun _ _ h => h)

theorem take_extA {xs ys : List (Int × Int)} {k : Nat} (ha : k < xs.length) (hb : k < ys.length) (h : xs.take k = ys.take k) (e : xs[k] = ys[k]) : xs.take (k + 1) = ys.take (k + 1) := by
  rw [List.take_succ_eq_append_getElem ha, List.take_succ_eq_append_getElem hb, h, e]

set_option maxRecDepth 100000 in
set_option maxHeartbeats 4000000 in
theorem ref08_Same (t : TypeId) (V U : Value) (xs ys : List (Int × Int)) (w : World) (hV : OwnA w t V xs) (hU : OwnA w t U ys) (hm : xs.length ≤ 1000000) (hm2 : ys.length ≤ 1000000) :
    Calls Try.prog 42 #[V, U] w fun e w' => e = .returned (.bool (decide (xs = ys))) ∧ Below w.heap.size w w' := by
  obtain ⟨a, cap, rfl, hx⟩ := hV.read
  obtain ⟨b, cup, rfl, hy⟩ := hU.read
  clear hV hU
  by_cases hl : xs.length = ys.length
  · have hd : ((xs.length : Int) != (ys.length : Int)) = false := by rw [hl]; simp
    have HL := Lib.hid hl
    have HX := Lib.hid hx
    have HY := Lib.hid hy
    clear hx hy hl
    go_enter Try.func42, Try.ntmps42
    go_wp2
    go_loopw [5] (fun i wr => ∃ k : Nat, k ≤ xs.length ∧ i = .int .i64 k ∧ xs.take k = ys.take k ∧ Below w.heap.size w wr) (fun i _ => xs.length - (intOf i).toNat)
    case atStart => exact ⟨0, by omega, rfl, by simp, Below.refl _ _⟩
    case round =>
      obtain ⟨k, hk, rfl, htk, hbel⟩ := hrel
      have HT := Lib.hid htk
      have HB := Lib.hid hbel
      clear htk hbel
      by_cases hlt : k < xs.length
      · have hdk : decide ((k : Int) < (xs.length : Int)) = true := decide_eq_true (by omega)
        have hdn : decide (k < xs.length) = true := decide_eq_true hlt
        have hik : (k : Int) < (xs.length : Int) := by omega
        have hlt2 : k < ys.length := by have := HL.out; omega
        have hik2 : (k : Int) < (ys.length : Int) := by omega
        obtain ⟨bx, rfl, hbx, hcx⟩ : ∃ bx, a = some ⟨bx, 0, none⟩ ∧ bx < w.heap.size ∧ ∀ k (hk : k < xs.length), w.cell? ⟨bx, k * 2, none⟩ = some (.int .i64 xs[k].1) ∧ w.cell? ⟨bx, k * 2 + 1, none⟩ = some (.int .i64 xs[k].2) := by
          rcases HX.out with h | h
          · subst h; simp at hlt
          · exact h
        obtain ⟨by_, rfl, hby, hcy⟩ : ∃ bx, b = some ⟨bx, 0, none⟩ ∧ bx < w.heap.size ∧ ∀ k (hk : k < ys.length), w.cell? ⟨bx, k * 2, none⟩ = some (.int .i64 ys[k].1) ∧ w.cell? ⟨bx, k * 2 + 1, none⟩ = some (.int .i64 ys[k].2) := by
          rcases HY.out with h | h
          · subst h; simp at hlt2
          · exact h
        have x0 := (HB.out.cell (p := ⟨bx, k * 2, none⟩) hbx).trans (hcx k hlt).1
        have x1 := (HB.out.cell (p := ⟨bx, k * 2 + 1, none⟩) hbx).trans (hcx k hlt).2
        have y0 := (HB.out.cell (p := ⟨by_, k * 2, none⟩) hby).trans (hcy k hlt2).1
        have y1 := (HB.out.cell (p := ⟨by_, k * 2 + 1, none⟩) hby).trans (hcy k hlt2).2
        have HN : Hid (xs[k] = ys[k] → xs.take (k + 1) = ys.take (k + 1)) := Lib.hid (fun e => take_extA hlt hlt2 HT.out e)
        have HNO : Hid (xs[k] ≠ ys[k] → xs ≠ ys) := Lib.hid (fun h e => h (by subst e; rfl))
        clear hcx hcy hbx hby
        generalize xs[k] = p at *
        generalize ys[k] = q at *
        obtain ⟨p0, p1⟩ := p
        obtain ⟨q0, q1⟩ := q
        simp only at x0 x1 y0 y1
        by_cases h0 : p0 = q0
        · subst h0
          by_cases h1 : p1 = q1
          · subst h1
            have HN2 := Lib.hid (HN.out rfl)
            have b0 : (p0 == p0) = true := by simp
            have b1 : (p1 == p1) = true := by simp
            go_wp2_with fail
            go_quiet (fail)
            go_wp2
            go_roundw
            case rel => exact ⟨k + 1, by omega, by go_num, HN2.out, grew HB.out (grew_drewN _ _)⟩
            case measure => simp [intOf]; omega
          · have b0 : (p0 == p0) = true := by simp
            have b1 : (p1 == q1) = false := by simpa using h1
            have HE : Hid (decide (xs = ys) = false) := Lib.hid (decide_eq_false (HNO.out (by simp [h1])))
            clear h1
            go_wp2_with fail
            go_quiet (fail)
            go_wp2
            go_ret
            exact ⟨by rw [HE.out]; rfl, grew HB.out (grew_drewN _ _)⟩
        · have b0 : (p0 == q0) = false := by simpa using h0
          have HE : Hid (decide (xs = ys) = false) := Lib.hid (decide_eq_false (HNO.out (by simp [h0])))
          clear h0
          go_wp2_with fail
          go_quiet (fail)
          go_wp2
          go_ret
          exact ⟨by rw [HE.out]; rfl, grew HB.out (grew_drewN _ _)⟩
      · have hdn : decide (k < xs.length) = false := decide_eq_false hlt
        have hdk : decide ((k : Int) < (xs.length : Int)) = false := decide_eq_false (by omega)
        have HE : Hid (decide (xs = ys) = true) := Lib.hid (decide_eq_true (by
          have := HT.out
          have hl := HL.out
          rwa [List.take_of_length_le (by omega), List.take_of_length_le (by omega)] at this))
        go_wp2
        go_ret
        exact ⟨by rw [HE.out]; rfl, HB.out⟩
  · have hd : ((xs.length : Int) != (ys.length : Int)) = true := by simp; omega
    have HE : Hid (decide (xs = ys) = false) := Lib.hid (decide_eq_false (fun e => hl (by rw [e])))
    clear hl hx hy
    go_enter Try.func42, Try.ntmps42
    go_wp2
    go_ret
    exact ⟨by rw [HE.out]; rfl, Below.refl _ _⟩
end Go.Proofs.Ytkpiiagogdhalaa
