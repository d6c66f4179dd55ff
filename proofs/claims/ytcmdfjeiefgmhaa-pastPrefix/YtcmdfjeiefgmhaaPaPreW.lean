/- Any two lists: the walk of PastPrefix. -/
import Derived.Test.YtcmdfjeiefgmhaaPaLive
import Derived.Laws.AppendOwnNone
namespace Go.Proofs.Ytcmdfjeiefgmhaa
open Go.RowKit
set_option linter.unusedVariables false

/-- 'l = append(l, ts...)', ts lying wherever. -/
theorem wp_append_sl {ops : Array Oper} {rest : List Oper} {o : Oper} {a : Act} {w : World} {Q : Exit → Act → World → Prop} (hgd : o.guard = none) (s x : Operand)
    (ho : o.op = .call { callee := .builtin .append, args := #[s, x], argTypes := #[63, 63] })
    (v u : Value) (l ns : List ByteArray) (hs : a.eval s = v) (hx : a.eval x = u) (hown : OwnS w v l) (hsrc : SliceS w u ns) (hlen : l.length + ns.length ≤ 1000000000)
    (h : ∀ v' w', OwnS w' v' (l ++ ns) → Keep (At v) w w' → Near w v v' → wpList Try.prog ops Q rest (a.put o.dst v') w') :
    wpList Try.prog ops Q (o :: rest) a w := by
  obtain ⟨ad, cap, rfl, hcap, hrow⟩ := hsrc
  have hrow2 : ad = none ∧ ns = [] ∨ ∃ b, ad = some b ∧ ∀ j u, (ns.map Value.string)[j]? = some u → w.cell? (b.add j) = some u := by
    cases ad with
    | none =>
      rcases hrow with h | ⟨b, off, e, _⟩
      · exact .inl ⟨rfl, h⟩
      · cases e
    | some b =>
      refine .inr ⟨b, rfl, fun j u hu => ?_⟩
      rcases hrow with h | ⟨b', off, e, hb, hc⟩
      · subst h; simp at hu
      · injection e with e
        subst e
        have hj : j < ns.length := by have := (List.getElem?_eq_some_iff.1 hu).1; simpa using this
        have : u = Value.string ns[j] := by simpa [List.getElem?_eq_getElem hj] using hu.symm
        rw [this, show (⟨b', off, none⟩ : Addr).add j = ⟨b', off + j, none⟩ from by unfold Addr.add; split <;> simp_all]
        exact hc j hj
  rcases hrow2 with ⟨rfl, rfl⟩ | ⟨b, rfl, hc⟩
  · obtain ⟨i0, hi, hz0, hz1, hz2⟩ := info_parts info_str
    refine wpList_plain hgd fun K hK => ?_
    have hrun : (Builtin.append_ #[63, 63] o.type #[v, .slice none 0 cap]).run Try.prog w = .ok v w := by
      rcases hown.2 with ⟨rfl, _⟩ | ⟨g, c2, cur, rfl, _, _, hn, _⟩
      · simp [Builtin.append_, run_underlying Try.underlying63, sizeOf, typeInfo, hi, Builtin.lenOf, Builtin.firstCells]
      · simp [Builtin.append_, run_underlying Try.underlying63, sizeOf, typeInfo, hi, Builtin.lenOf, Builtin.firstCells, loadCells, storeCells, hn]
    unfold Oper.wp execOp
    simp only [ho, resolve, invoke, builtin, Sem.run_bind, Sem.run_pure, Result.andThen_ok, List.map_toArray, List.map_cons, List.map_nil, hs, hx, List.length_nil, hrun]
    exact hK _ _ (h v w (by simpa using hown) (Keep.refl _ _) (fun g hg => .inl hg))
  · refine wp_append_any hgd s x ho Try.underlying63 info_str rfl (by decide) (by decide) v l.length (l.map Value.string) hs hown b ns.length cap (ns.map Value.string) hx (by simp) hc ?_ hlen ?_
    · intro u hu
      obtain ⟨c, _, rfl⟩ := List.mem_map.1 hu
      rfl
    · intro v' w' k1 k2 k3
      refine h v' w' ?_ k2 k3
      unfold OwnS
      rw [List.length_append, List.map_append]
      exact k1

set_option maxRecDepth 100000 in
set_option maxHeartbeats 4000000 in
theorem walk_PastPrefix (a : Option Addr) (n c : Nat) (xs : List ByteArray) (a2 : Option Addr) (n2 c2 : Nat) (ys : List ByteArray) (w : World) (hx : IsStrs w a n c xs) (hy : IsStrs w a2 n2 c2 ys) :
    Calls Try.prog 9 #[.slice a n c, .slice a2 n2 c2] w fun e w' => e = .returned (.bool true) ∧ Below w.heap.size w w' := by
  obtain ⟨ts, hs, hm, _⟩ := hx.slice
  obtain ⟨us, hs2, hm2, _⟩ := hy.slice
  clear hx hy
  obtain ⟨a', c', e, _⟩ := hs.shape
  injection e with e1 e2 e3
  subst e1 e2 e3
  obtain ⟨a', c', e, _⟩ := hs2.shape
  injection e with e1 e2 e3
  subst e1 e2 e3
  have HX := Lib.hid hs
  have HY := Lib.hid hs2
  unfold maxLen at hm hm2
  clear hs hs2
  by_cases h1 : 60 < ts.length
  · have d1 : decide ((60 : Int) < (ts.length : Int)) = true := decide_eq_true (by omega)
    clear h1
    go_enter Try.func9, Try.ntmps9
    go_wp2_with fail
    refine (law16_live _).mono ?_
    rintro e w1 ⟨rfl, hb⟩
    go_wp2
    go_ret
    exact ⟨rfl, hb⟩
  · have d1 : decide ((60 : Int) < (ts.length : Int)) = false := decide_eq_false (by omega)
    by_cases h2 : 60 < us.length
    · have d2 : decide ((60 : Int) < (us.length : Int)) = true := decide_eq_true (by omega)
      clear h1 h2
      go_enter Try.func9, Try.ntmps9
      go_wp2_with fail
      refine (law16_live _).mono ?_
      rintro e w1 ⟨rfl, hb⟩
      go_wp2
      go_ret
      exact ⟨rfl, hb⟩
    · have d2 : decide ((60 : Int) < (us.length : Int)) = false := decide_eq_false (by omega)
      have HL : Hid (ts.length ≤ 60 ∧ us.length ≤ 60) := Lib.hid (by omega)
      clear h1 h2 hm hm2
      go_enter Try.func9, Try.ntmps9
      go_wp2
      go_loopw [5] (fun i wr => ∃ k : Nat, k ≤ ts.length ∧ i = .int .i64 k ∧ wr = w) (fun i _ => ts.length - (intOf i).toNat)
      case atStart => exact ⟨0, by omega, rfl, rfl⟩
      case round =>
        obtain ⟨k, hk, rfl, rfl⟩ := hrel
        have hl60 := HL.out.1
        by_cases hlt : k < ts.length
        · have e1 : decide ((k : Int) < (ts.length : Int)) = true := decide_eq_true (by omega)
          have e2 : decide (k < ts.length) = true := decide_eq_true hlt
          have hia : (k : Int) < (ts.length : Int) := by omega
          obtain ⟨b, off, rfl, c0⟩ := texts_at HX.out hlt
          generalize ts[k] = t at c0
          by_cases h3 : 300 < t.size
          · have e3 : decide ((300 : Int) < (t.size : Int)) = true := decide_eq_true (by omega)
            clear h3
            go_wp2_with fail
            refine (law16_live _).mono ?_
            rintro e w1 ⟨rfl, hb⟩
            go_wp2
            go_ret
            exact ⟨rfl, hb⟩
          · have e3 : decide ((300 : Int) < (t.size : Int)) = false := decide_eq_false (by omega)
            clear h3
            go_wp2
            go_roundw
            case rel => exact ⟨k + 1, by omega, by go_num, trivial⟩
            case measure => simp [intOf]; omega
        · have e1 : decide ((k : Int) < (ts.length : Int)) = false := decide_eq_false (by omega)
          have e2 : decide (k < ts.length) = false := decide_eq_false hlt
          clear hlt
          go_wp2_with (first
            | (at_builtin; refine wp_append_sl rfl (.tmp 31) (.tmp 32) rfl (.slice none 0 0) _ [] ts rfl rfl (OwnS.nil _) HX.out (by have := HL.out; simp only [List.length_nil]; omega) ?_; intro v1 w1 ho1 hk1 hn1; have H1 := Lib.hid (And.intro ho1 (hk1.fresh fun i _ hi => by cases hi)); have HN1 := Lib.hid hn1; have HY1 := Lib.hid (HY.out.below H1.out.2); clear ho1 hk1 hn1)
            | (at_builtin; refine wp_append_sl rfl (.tmp 34) (.tmp 35) rfl _ _ ([] ++ ts) us rfl rfl H1.out.1 HY1.out (by have := HL.out; simp only [List.nil_append]; omega) ?_; intro v2 w2 ho2 hk2 hn2; have H2 := Lib.hid (And.intro ho2 (And.intro hk2 hn2)); clear ho2 hk2 hn2))
          have HB : Hid (Below wr.heap.size wr w2) := Lib.hid (by
            refine H1.out.2.trans (H2.out.2.1.below H1.out.2.size (fun i hi => ?_))
            rcases HN1.out i hi with q | q
            · cases q
            · exact q)
          have HM : Hid (SliceS w2 v2 (ts ++ us)) := Lib.hid H2.out.1.slice
          have HX2 := Lib.hid (HX.out.below HB.out)
          have HY2 := Lib.hid (HY.out.below HB.out)
          obtain ⟨ma, mc, em, _⟩ := HM.out.shape
          have HLN : Hid ((ts ++ us).length = ts.length + us.length) := Lib.hid List.length_append
          rw [HLN.out] at em
          subst em
          have hll := HL.out
          have HBOTH := Lib.hid (Past.begins_both ts us)
          have HP1 := Lib.hid (fun W (hb : Below wr.heap.size wr W) => past_Prefix _ _ ts us W (HX.out.below hb) (HY.out.below hb) (by omega) (by omega))
          have HP2 := Lib.hid (fun W (hb : Below wr.heap.size wr W) => past_Prefix _ _ us ts W (HY.out.below hb) (HX.out.below hb) (by omega) (by omega))
          have HP3 := Lib.hid (fun W (hb : Below wr.heap.size wr W) => ref16_Prefix _ _ ts us W (HX.out.below hb) (HY.out.below hb) (by omega) (by omega))
          have HP6 := Lib.hid (fun W (hb : Below wr.heap.size wr W) => ref03_Texts _ _ ts us W (HX.out.below hb) (HY.out.below hb) (by omega) (by unfold maxLen; omega))
          have HSM : Hid (sameS ts us = (Past.begins ts us && Past.begins us ts)) := Lib.hid (by rw [HBOTH.out]; rfl)
          rw [HSM.out] at HP6
          clear HBOTH HSM
          generalize Past.begins ts us = z1 at HP1 HP3 HP6
          generalize Past.begins us ts = z2 at HP2 HP6
          have HP4 := Lib.hid (fun W (hb : Below w2.heap.size w2 W) => past_Prefix _ _ ts (ts ++ us) W (HX2.out.below hb) (HM.out.below hb) (by omega) (by rw [HLN.out]; omega))
          rw [Past.begins_app] at HP4
          have HP5 := Lib.hid (fun W (hb : Below wr.heap.size wr W) => past_Prefix _ _ ts ts W (HX.out.below hb) (HX.out.below hb) (by omega) (by omega))
          rw [Past.begins_self] at HP5
          refine (HP1.out _ HB.out).mono ?_
          rintro e w3 ⟨rfl, hb⟩
          have HB2 := Lib.hid hb
          clear hb
          go_wp2_with fail
          refine (HP2.out _ (grew HB.out HB2.out)).mono ?_
          rintro e w4 ⟨rfl, hb⟩
          have HB3 := Lib.hid (grew HB2.out hb)
          clear hb
          go_wp2_with fail
          refine (HP3.out _ (grew HB.out HB3.out)).mono ?_
          rintro e w5 ⟨rfl, hb⟩
          have HB4 := Lib.hid (grew HB3.out hb)
          clear hb
          have hz1 : (z1 == z1) = true := by cases z1 <;> rfl
          have hz2 : ((z1 && z2) == (z1 && z2)) = true := by cases z1 <;> cases z2 <;> rfl
          go_wp2_with fail
          refine (HP4.out _ HB4.out).mono ?_
          rintro e w6 ⟨rfl, hb⟩
          have HB5 := Lib.hid (grew HB4.out hb)
          clear hb
          go_wp2_with fail
          refine (HP5.out _ (grew HB.out HB5.out)).mono ?_
          rintro e w7 ⟨rfl, hb⟩
          have HB6 := Lib.hid (grew HB5.out hb)
          clear hb
          cases z1
          · go_wp2_with fail
            refine (HP6.out _ (grew HB.out HB6.out)).mono ?_
            rintro e w8 ⟨rfl, hb⟩
            have HB7 := Lib.hid (grew HB6.out hb)
            clear hb
            go_wp2_with fail
            refine (law16_live _).mono ?_
            rintro e w9 ⟨rfl, hb⟩
            go_wp2
            go_ret
            exact ⟨rfl, grew (grew HB.out HB7.out) hb⟩
          · cases z2
            · go_wp2_with fail
              refine (HP6.out _ (grew HB.out HB6.out)).mono ?_
              rintro e w8 ⟨rfl, hb⟩
              have HB7 := Lib.hid (grew HB6.out hb)
              clear hb
              go_wp2_with fail
              refine (law16_live _).mono ?_
              rintro e w9 ⟨rfl, hb⟩
              go_wp2
              go_ret
              exact ⟨rfl, grew (grew HB.out HB7.out) hb⟩
            · go_wp2_with fail
              refine (HP6.out _ (grew HB.out HB6.out)).mono ?_
              rintro e w8 ⟨rfl, hb⟩
              have HB7 := Lib.hid (grew HB6.out hb)
              clear hb
              go_wp2_with fail
              refine (law16_live _).mono ?_
              rintro e w9 ⟨rfl, hb⟩
              go_wp2
              go_ret
              exact ⟨rfl, grew (grew HB.out HB7.out) hb⟩
end Go.Proofs.Ytcmdfjeiefgmhaa
