/- The same messages in two orders: the walk. -/
import Derived.Test.YtjklfjgdmklimaaHdMsgs
import Derived.Test.YtjklfjgdmklimaaHdTwo
import Derived.Test.YtjklfjgdmklimaaHdSame2
import Derived.Test.YtjklfjgdmklimaaHdClk
import Derived.BigQuiet
namespace Go.Proofs.Ytjklfjgdmklimaa
open Go.RowKit Go.Maps
set_option linter.unusedVariables false

theorem SliceG.every {α : Type} {k : Nat} {c : α → List Value} {w : World} {a : Option Addr} {cap : Nat} {os : List α} (h : SliceG k c w (.slice a os.length cap) os) (h0 : 0 < os.length) : ∃ b off, a = some ⟨b, off, none⟩ ∧ b < w.heap.size ∧ ∀ i (hi : i < os.length) j u, (c os[i])[j]? = some u → w.cell? ⟨b, off + i * k + j, none⟩ = some u := by
  obtain ⟨a', cap', e, _, h⟩ := h
  injection e with e1 _ _
  subst e1
  rcases h with h | ⟨b, off, rfl, hlt, hc⟩
  · subst h; simp at h0
  · exact ⟨b, off, rfl, hlt, hc⟩
theorem run_next {N : Nat} {ms : List Mesg.Msg} {i : Nat} (hi : i < ms.length) : (Hold.put (Hold.run N (ms.take i)) ms[i]).2.2 = Hold.run N (ms.take (i + 1)) := by
  rw [← Hold.run_snoc]
  congr 1
  exact List.take_append_getElem hi
/-- No two of the first i messages have one key. -/
def Apart (qs : List (Mesg.Msg × Value)) (i : Nat) : Prop := ∀ a b (ha : a < qs.length) (hb : b < qs.length), a < b → b < i → Hold.key qs[a].1 ≠ Hold.key qs[b].1
def fromA (N : Nat) (qs : List (Mesg.Msg × Value)) (i : Nat) : Hold.St := Hold.run N ((qs.map Prod.fst).take i)
def fromB (N : Nat) (qs : List (Mesg.Msg × Value)) (i : Nat) : Hold.St := Hold.run N ((qs.map Prod.fst).reverse.take i)
theorem fromA_next {N : Nat} {qs : List (Mesg.Msg × Value)} {i : Nat} (hi : i < qs.length) : (Hold.put (fromA N qs i) qs[i].1).2.2 = fromA N qs (i + 1) := by
  have := run_next (N := N) (ms := qs.map Prod.fst) (i := i) (by simpa using hi)
  rw [List.getElem_map] at this
  exact this
theorem fromB_next {N : Nat} {qs : List (Mesg.Msg × Value)} {i r : Nat} (hi : i < qs.length) (hr : r < qs.length) (e : r = qs.length - 1 - i) : (Hold.put (fromB N qs i) qs[r].1).2.2 = fromB N qs (i + 1) := by
  subst e
  have := run_next (N := N) (ms := (qs.map Prod.fst).reverse) (i := i) (by simpa using hi)
  simp only [List.getElem_reverse, List.getElem_map, List.length_map] at this
  exact this
theorem from_same {N : Nat} {qs : List (Mesg.Msg × Value)} (h : Apart qs qs.length) (hl : qs.length ≤ 60) : (fromB N qs qs.length).clock = (fromA N qs qs.length).clock ∧ (fromB N qs qs.length).l.length = (fromA N qs qs.length).l.length ∧ Hold.known (fromB N qs qs.length) = Hold.known (fromA N qs qs.length) := by
  unfold fromA fromB
  rw [List.take_of_length_le (by simp), List.take_of_length_le (by simp)]
  refine Hold.run_same (List.pairwise_iff_getElem.2 fun a b ha hb hab => ?_) (by simp; omega)
  rw [List.length_map] at ha hb
  rw [List.getElem_map, List.getElem_map]
  exact h a b ha hb hab hb

set_option maxRecDepth 100000 in
set_option maxHeartbeats 16000000 in
theorem walk_HoldSame (s0 : Int) (v : Value) (qs : List (Mesg.Msg × Value)) (w : World) (hs : (Lit.int .i64 s0).wf = true) (hx : SliceG 10 msgQ w v qs ∧ qs.length ≤ maxLen ∧ ∀ o ∈ qs, okQ w o) :
    Calls Try.prog 6 #[.int .i64 s0, v] w fun e w' => e = .returned (.bool true) ∧ Below w.heap.size w w' := by
  obtain ⟨hv, hm, hok⟩ := hx
  have HV := Lib.hid hv
  have HOK := Lib.hid hok
  obtain ⟨va, vc, rfl⟩ := hv.shape
  have HFEW := Lib.hid (ref07_Few (.slice va qs.length vc) qs w hv hm hok)
  clear hv hs hok
  go_enter Try.func6, Try.ntmps6
  go_wp2_with fail
  refine HFEW.out.mono ?_
  by_cases hfew : qs.length ≤ 60 ∧ ∀ q ∈ qs, q.1.know.length ≤ 30
  · rintro e w1 ⟨rfl, rfl⟩
    rw [decide_eq_true hfew]
    have h60 := hfew.1
    have HK30 := Lib.hid hfew.2
    clear hfew hm HFEW
    by_cases hn : 1 ≤ s0 ∧ s0 ≤ 16
    · obtain ⟨N, rfl⟩ : ∃ n : Nat, s0 = n := ⟨s0.toNat, by omega⟩
      have hN : 1 ≤ N ∧ N ≤ 16 := by omega
      clear hn
      go_wp2_with fail
      refine (hold_New_yes N 100 _ hN (by omega)).mono ?_
      rintro e w2 ⟨p, F, rfl, h1, h2, h3⟩
      have HA := Lib.hid (And.intro h1 (And.intro h2 h3))
      clear h1 h2 h3
      go_wp2_with fail
      refine (two_New N 100 w1 w2 HA.out.2.2 hN (by omega) HA.out.1 (Nat.zero_le _) HA.out.2.1).mono ?_
      rintro e w3 ⟨q, rfl, h1⟩
      have HT := Lib.hid h1
      clear h1 HA
      go_wp2_with fail
      go_loopw [9] (fun i' wr => ∃ i : Nat, i ≤ qs.length ∧ i' = .int .i64 i ∧ Two w1 p q (fromA N qs i) (fromB N qs i) wr ∧ Apart qs i) (fun i' _ => qs.length - (intOf i').toNat)
      case atStart => exact ⟨0, by omega, rfl, HT.out, fun a b _ _ _ h => by omega⟩
      case round =>
        obtain ⟨i, hi, rfl, hT, hA⟩ := hrel
        have HT := Lib.hid hT
        have HA := Lib.hid hA
        clear hT hA
        by_cases hlt : i < qs.length
        · have e1 : decide ((i : Int) < (qs.length : Int)) = true := decide_eq_true (by omega)
          have hia : (i : Int) < (qs.length : Int) := by omega
          obtain ⟨b, off, e, hbl, hall⟩ := HV.out.every (by omega)
          subst e
          have HALL := Lib.hid hall
          clear hall
          go_wp2_with fail
          go_loopw [10] (fun k' wv => ∃ k : Nat, k ≤ i ∧ k' = .int .i64 k ∧ Two w1 p q (fromA N qs i) (fromB N qs i) wv ∧ ∀ a (ha : a < qs.length), a < k → Hold.key qs[a].1 ≠ Hold.key qs[i].1) (fun k' _ => i - (intOf k').toNat)
          case atStart => exact ⟨0, by omega, rfl, HT.out, fun a _ h => by omega⟩
          case round =>
            obtain ⟨k, hk, rfl, hT, hK⟩ := hrel
            have HT := Lib.hid hT
            have HK := Lib.hid hK
            clear hT hK
            by_cases hki : k < i
            · have e2 : decide ((k : Int) < (i : Int)) = true := decide_eq_true (by omega)
              have hkl : k < qs.length := by omega
              have hka : (k : Int) < (qs.length : Int) := by omega
              have x0 : wr.cell? ⟨b, off + k * 10, none⟩ = some (.int .i64 qs[k].1.site) := by
                rw [HT.out.bel.cell (p := ⟨b, off + k * 10, none⟩) hbl]; exact HALL.out k hkl 0 _ rfl
              have x1 : wr.cell? ⟨b, off + k * 10 + 1, none⟩ = some (.int .i64 qs[k].1.seq) := by
                rw [HT.out.bel.cell (p := ⟨b, off + k * 10 + 1, none⟩) hbl]; exact HALL.out k hkl 1 _ rfl
              have y0 : wr.cell? ⟨b, off + i * 10, none⟩ = some (.int .i64 qs[i].1.site) := by
                rw [HT.out.bel.cell (p := ⟨b, off + i * 10, none⟩) hbl]; exact HALL.out i hlt 0 _ rfl
              have y1 : wr.cell? ⟨b, off + i * 10 + 1, none⟩ = some (.int .i64 qs[i].1.seq) := by
                rw [HT.out.bel.cell (p := ⟨b, off + i * 10 + 1, none⟩) hbl]; exact HALL.out i hlt 1 _ rfl
              have HNX : Hid (Hold.key qs[k].1 ≠ Hold.key qs[i].1 → ∀ a (ha : a < qs.length), a < k + 1 → Hold.key qs[a].1 ≠ Hold.key qs[i].1) := Lib.hid (fun h a ha hak => by
                by_cases e : a = k
                · subst e; exact h
                · exact HK.out a ha (by omega))
              unfold Hold.key at HNX
              generalize qs[k].1.site = ks at x0 HNX
              generalize qs[k].1.seq = kq at x1 HNX
              have HNX2 : Hid ((ks ≠ qs[i].1.site ∨ kq ≠ qs[i].1.seq) → ∀ a (ha : a < qs.length), a < k + 1 → Hold.key qs[a].1 ≠ Hold.key qs[i].1) := Lib.hid (fun h => HNX.out (fun e => by injection e with e1 e2; rcases h with h | h; exact h e1; exact h e2))
              clear HNX
              generalize hgs : qs[i].1.site = is at y0 HNX2
              generalize hgq : qs[i].1.seq = iq at y1 HNX2
              clear hgs hgq
              by_cases g1 : ks = is
              · subst g1
                have f1 : (ks == ks) = true := by simp
                by_cases g2 : kq = iq
                · subst g2
                  have f2 : (kq == kq) = true := by simp
                  go_wp2
                  go_quiet (fail)
                  have HB1 := Lib.hid (grew HT.out.bel (grew_drewN wr nq))
                  go_wp2_with fail
                  refine (law07_live _).mono ?_
                  rintro e w9 ⟨rfl, hb⟩
                  have HBE := Lib.hid (grew HB1.out hb)
                  clear hb
                  go_wp2
                  go_ret
                  exact ⟨rfl, HBE.out⟩
                · have f2 : (kq == iq) = false := by simpa using g2
                  have f2' : decide (kq = iq) = false := decide_eq_false g2
                  have HG := Lib.hid g2
                  clear g2
                  go_wp2
                  go_quiet (fail)
                  go_wp2
                  refine ⟨⟨k + 1, by omega, by go_num, HT.out.grew (grew_drewN _ _), HNX2.out (.inr HG.out)⟩, by simp [intOf]; omega⟩
              · have f1 : (ks == is) = false := by simpa using g1
                have f1' : decide (ks = is) = false := decide_eq_false g1
                have HG := Lib.hid g1
                clear g1
                go_wp2
                go_quiet (fail)
                go_wp2
                refine ⟨⟨k + 1, by omega, by go_num, HT.out.grew (grew_drewN _ _), HNX2.out (.inl HG.out)⟩, by simp [intOf]; omega⟩
            · have e2 : decide ((k : Int) < (i : Int)) = false := decide_eq_false (by omega)
              obtain rfl : k = i := by omega
              have HAN : Hid (Apart qs (k + 1)) := Lib.hid (fun a c ha hc hac hci => by
                by_cases e : c = k
                · subst e; exact HK.out a ha hac
                · exact HA.out a c ha hc hac (by omega))
              clear HA HK
              obtain ⟨r, hr⟩ : ∃ r : Nat, r = qs.length - 1 - k := ⟨_, rfl⟩
              have hrl : r < qs.length := by omega
              have hra : (r : Int) < (qs.length : Int) := by omega
              have hrr : (qs.length : Int) - 1 - (k : Int) = (r : Int) := by omega
              have HNA := Lib.hid (fromA_next (N := N) hlt)
              have HNB := Lib.hid (fromB_next (N := N) hlt hrl hr)
              have hqa := HOK.out qs[k] (List.getElem_mem hlt)
              have hqb := HOK.out qs[r] (List.getElem_mem hrl)
              have hqa30 := HK30.out qs[k] (List.getElem_mem hlt)
              have hqb30 := HK30.out qs[r] (List.getElem_mem hrl)
              have HCA : Hid (∀ W, Below w1.heap.size w1 W → ∀ j u, (msgQ qs[k])[j]? = some u → W.cell? ⟨b, off + k * 10 + j, none⟩ = some u) := Lib.hid (fun W h j u hu => by rw [h.cell (p := ⟨b, off + k * 10 + j, none⟩) hbl]; exact HALL.out k hlt j u hu)
              have HCB : Hid (∀ W, Below w1.heap.size w1 W → ∀ j u, (msgQ qs[r])[j]? = some u → W.cell? ⟨b, off + r * 10 + j, none⟩ = some u) := Lib.hid (fun W h j u hu => by rw [h.cell (p := ⟨b, off + r * 10 + j, none⟩) hbl]; exact HALL.out r hrl j u hu)
              clear HALL hr
              generalize qs[r] = y at HNB hqb hqb30 HCB
              generalize qs[k] = x at HNA hqa hqa30 HCA
              obtain ⟨⟨st, sq, kn, ⟨kd, ep, ⟨i1, i2⟩, ⟨r1, r2⟩, rn⟩⟩, kv⟩ := x
              obtain ⟨⟨st', sq', kn', ⟨kd', ep', ⟨i1', i2'⟩, ⟨r1', r2'⟩, rn'⟩⟩, kv'⟩ := y
              simp only at HNA HNB hqa30 hqb30
              obtain ⟨hqa1, hqa2⟩ := hqa
              obtain ⟨hqb1, hqb2⟩ := hqb
              simp only at hqa1 hqa2 hqb1 hqb2
              obtain ⟨ka, kc, e⟩ := hqa1.shape
              subst e
              obtain ⟨ka', kc', e⟩ := hqb1.shape
              subst e
              have HVA := Lib.hid hqa1
              have HVB := Lib.hid hqb1
              have hcc := HCA.out _ HT.out.bel
              have q0 := hcc 0 _ rfl
              have q1 := hcc 1 _ rfl
              have q2 := hcc 2 _ rfl
              have q3 := hcc 3 _ rfl
              have q4 := hcc 4 _ rfl
              have q5 := hcc 5 _ rfl
              have q6 := hcc 6 _ rfl
              have q7 := hcc 7 _ rfl
              have q8 := hcc 8 _ rfl
              have q9 := hcc 9 _ rfl
              simp only [Nat.add_zero] at q0
              clear hcc hqa1 hqa2 hqb1 hqb2 HCA
              go_wp2_with fail
              refine (two_PutA HT.out ⟨st, sq, kn, ⟨kd, ep, ⟨i1, i2⟩, ⟨r1, r2⟩, rn⟩⟩ _ (HVA.out.below HT.out.bel) (by show kn.length ≤ _; omega)).mono ?_
              rintro e w4 ⟨T1, c1, rfl, hT⟩
              rw [HNA.out] at hT
              have HT4 := Lib.hid hT
              clear hT q0 q1 q2 q3 q4 q5 q6 q7 q8 q9
              generalize (Hold.put (fromA N qs k) ⟨st, sq, kn, ⟨kd, ep, ⟨i1, i2⟩, ⟨r1, r2⟩, rn⟩⟩).1.length = L1
              generalize (Hold.put (fromA N qs k) ⟨st, sq, kn, ⟨kd, ep, ⟨i1, i2⟩, ⟨r1, r2⟩, rn⟩⟩).2.1 = E1
              have hcc := HCB.out _ HT4.out.bel
              have q0 := hcc 0 _ rfl
              have q1 := hcc 1 _ rfl
              have q2 := hcc 2 _ rfl
              have q3 := hcc 3 _ rfl
              have q4 := hcc 4 _ rfl
              have q5 := hcc 5 _ rfl
              have q6 := hcc 6 _ rfl
              have q7 := hcc 7 _ rfl
              have q8 := hcc 8 _ rfl
              have q9 := hcc 9 _ rfl
              simp only [Nat.add_zero] at q0
              clear hcc HCB
              go_wp2_with fail
              refine (two_PutB HT4.out ⟨st', sq', kn', ⟨kd', ep', ⟨i1', i2'⟩, ⟨r1', r2'⟩, rn'⟩⟩ _ (HVB.out.below HT4.out.bel) (by show kn'.length ≤ _; omega)).mono ?_
              rintro e w5 ⟨T2, c2, rfl, hT⟩
              rw [HNB.out] at hT
              have HT5 := Lib.hid hT
              clear hT q0 q1 q2 q3 q4 q5 q6 q7 q8 q9
              generalize (Hold.put (fromB N qs k) ⟨st', sq', kn', ⟨kd', ep', ⟨i1', i2'⟩, ⟨r1', r2'⟩, rn'⟩⟩).1.length = L2
              generalize (Hold.put (fromB N qs k) ⟨st', sq', kn', ⟨kd', ep', ⟨i1', i2'⟩, ⟨r1', r2'⟩, rn'⟩⟩).2.1 = E2
              go_wp2
              refine ⟨⟨k + 1, by omega, by go_num, HT5.out, HAN.out⟩, by simp [intOf]; omega⟩
        · have e1 : decide ((i : Int) < (qs.length : Int)) = false := decide_eq_false (by omega)
          obtain rfl : i = qs.length := by omega
          have HSM := Lib.hid (from_same (N := N) HA.out h60)
          generalize fromA N qs qs.length = sa at HT HSM
          generalize fromB N qs qs.length = sb at HT HSM
          have HOKA : Hid (Hold.Ok sa) := Lib.hid (by obtain ⟨Fa, Fb, k1, k2, _⟩ := HT.out; exact k1.ok)
          have HKU := Lib.hid (Hold.known_ok HOKA.out)
          have HWA := Lib.hid (fun W (h : Two w1 p q sa sb W) => show Calls Try.prog 15 #[.pointer (some ⟨p, 0, none⟩)] W fun e w' => e = .returned (.int .i64 (sa.l.length : Int)) ∧ W = w' from by obtain ⟨Fa, Fb, k1, k2, _⟩ := h; exact hold_Waits k1)
          have HWB := Lib.hid (fun W (h : Two w1 p q sa sb W) => show Calls Try.prog 15 #[.pointer (some ⟨q, 0, none⟩)] W fun e w' => e = .returned (.int .i64 (sa.l.length : Int)) ∧ W = w' from by obtain ⟨Fa, Fb, k1, k2, _⟩ := h; rw [← HSM.out.2.1]; exact hold_Waits k2)
          have HCA := Lib.hid (fun W (h : Two w1 p q sa sb W) => show Calls Try.prog 17 #[.pointer (some ⟨p, 0, none⟩)] W fun e w' => ∃ a c, e = .returned (.slice a sa.clock.length c) ∧ SliceI w' (.slice a sa.clock.length c) sa.clock ∧ Below W.heap.size W w' from by
            obtain ⟨Fa, Fb, k1, k2, _⟩ := h
            refine (hold_Clock k1).mono ?_
            rintro e w' ⟨v, g, cap, rfl, k2⟩
            obtain ⟨a, c, e⟩ := k2.own.slice.shape
            subst e
            exact ⟨a, c, rfl, k2.own.slice, k2.bel⟩)
          have HCB := Lib.hid (fun W (h : Two w1 p q sa sb W) => show Calls Try.prog 17 #[.pointer (some ⟨q, 0, none⟩)] W fun e w' => ∃ a c, e = .returned (.slice a sa.clock.length c) ∧ SliceI w' (.slice a sa.clock.length c) sa.clock ∧ Below W.heap.size W w' from by
            obtain ⟨Fa, Fb, k1, k2, _⟩ := h
            rw [← HSM.out.1]
            refine (hold_Clock k2).mono ?_
            rintro e w' ⟨v, g, cap, rfl, k2⟩
            obtain ⟨a, c, e⟩ := k2.own.slice.shape
            subst e
            exact ⟨a, c, rfl, k2.own.slice, k2.bel⟩)
          have HNA := Lib.hid (fun W (h : Two w1 p q sa sb W) => show Calls Try.prog 18 #[.pointer (some ⟨p, 0, none⟩)] W fun e w' => ∃ a c, e = .returned (.slice a (Hold.known sa).length c) ∧ SliceI w' (.slice a (Hold.known sa).length c) (Hold.known sa) ∧ Below W.heap.size W w' from by
            obtain ⟨Fa, Fb, k1, k2, _⟩ := h
            refine (hold_Known k1).mono ?_
            rintro e w' ⟨v, rfl, k2, k3, _⟩
            obtain ⟨a, c, e⟩ := k2.shape
            subst e
            exact ⟨a, c, rfl, k2, k3⟩)
          have HNB := Lib.hid (fun W (h : Two w1 p q sa sb W) => show Calls Try.prog 18 #[.pointer (some ⟨q, 0, none⟩)] W fun e w' => ∃ a c, e = .returned (.slice a (Hold.known sa).length c) ∧ SliceI w' (.slice a (Hold.known sa).length c) (Hold.known sa) ∧ Below W.heap.size W w' from by
            obtain ⟨Fa, Fb, k1, k2, _⟩ := h
            rw [← HSM.out.2.2]
            refine (hold_Known k2).mono ?_
            rintro e w' ⟨v, rfl, k2, k3, _⟩
            obtain ⟨a, c, e⟩ := k2.shape
            subst e
            exact ⟨a, c, rfl, k2, k3⟩)
          have HL1 : Hid (sa.clock.length ≤ 1000 ∧ (Hold.known sa).length ≤ 1000) := Lib.hid (by have := HOKA.out.sites; have := HKU.out.2; omega)
          generalize Hold.known sa = kz at HNA HNB HL1
          generalize (sa.l.length : Int) = nl at HWA HWB
          clear HOKA HKU HSM
          go_wp2_with fail
          refine (HCA.out _ HT.out).mono ?_
          rintro e w4 ⟨a4, c4, rfl, hs4, hb⟩
          have HT4 := Lib.hid (HT.out.grew hb)
          have HS4 := Lib.hid hs4
          clear hs4 hb
          go_wp2_with fail
          refine (HCB.out _ HT4.out).mono ?_
          rintro e w5 ⟨a5, c5, rfl, hs5, hb⟩
          have HT5 := Lib.hid (HT4.out.grew hb)
          have HS4 := Lib.hid (HS4.out.below hb)
          have HS5 := Lib.hid hs5
          clear hs5 hb
          go_wp2_with fail
          refine (ref01_Same _ _ sa.clock sa.clock _ HS4.out HS5.out (by have := HL1.out.1; omega) (by have := HL1.out.1; omega)).mono ?_
          rintro e w6 ⟨rfl, hb⟩
          rw [decide_eq_true (Eq.refl sa.clock)]
          have HT6 := Lib.hid (HT5.out.grew hb)
          clear hb
          go_wp2_with fail
          refine (HWA.out _ HT6.out).mono ?_
          rintro e w7 ⟨rfl, rfl⟩
          go_wp2_with fail
          refine (HWB.out _ HT6.out).mono ?_
          rintro e w7 ⟨rfl, rfl⟩
          have fe : (nl == nl) = true := by simp
          go_wp2_with fail
          refine (HNA.out _ HT6.out).mono ?_
          rintro e w8 ⟨a8, c8, rfl, hs8, hb⟩
          have HT8 := Lib.hid (HT6.out.grew hb)
          have HS8 := Lib.hid hs8
          clear hs8 hb
          go_wp2_with fail
          refine (HNB.out _ HT8.out).mono ?_
          rintro e w9 ⟨a9, c9, rfl, hs9, hb⟩
          have HT9 := Lib.hid (HT8.out.grew hb)
          have HS8 := Lib.hid (HS8.out.below hb)
          have HS9 := Lib.hid hs9
          clear hs9 hb
          go_wp2_with fail
          refine (ref01_Same _ _ kz kz _ HS8.out HS9.out (by have := HL1.out.2; omega) (by have := HL1.out.2; omega)).mono ?_
          rintro e w10 ⟨rfl, hb⟩
          rw [decide_eq_true (Eq.refl kz)]
          have HB10 := Lib.hid (grew HT9.out.bel hb)
          clear hb
          go_wp2_with fail
          refine (law07_live _).mono ?_
          rintro e w11 ⟨rfl, hb⟩
          have HB11 := Lib.hid (grew HB10.out hb)
          clear hb
          go_wp2
          go_ret
          exact ⟨rfl, HB11.out⟩
    · go_wp2_with fail
      refine (hold_New_no s0 100 _ (by unfold newOkH; simp; omega)).mono ?_
      rintro e w2 ⟨rfl, hb⟩
      have HB2 := Lib.hid hb
      clear hb
      go_wp2_with fail
      refine (hold_New_no s0 100 _ (by unfold newOkH; simp; omega)).mono ?_
      rintro e w3 ⟨rfl, hb⟩
      have HB3 := Lib.hid (grew HB2.out hb)
      clear hb
      go_wp2_with fail
      refine (law07_live _).mono ?_
      rintro e w9 ⟨rfl, hb9⟩
      have HBE := Lib.hid (grew HB3.out hb9)
      clear hb9
      go_wp2
      go_ret
      exact ⟨rfl, HBE.out⟩
  · rintro e w1 ⟨rfl, rfl⟩
    rw [decide_eq_false hfew]
    clear hfew hm HFEW
    go_wp2_with fail
    refine (law07_live _).mono ?_
    rintro e w9 ⟨rfl, hb⟩
    have HBE := Lib.hid hb
    clear hb
    go_wp2
    go_ret
    exact ⟨rfl, HBE.out⟩
end Go.Proofs.Ytjklfjgdmklimaa
