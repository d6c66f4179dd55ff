/- What Take, Double, Turn of links come to. -/
import Derived.Test.YtlihdnlojbmhjaaLinkNet
import Derived.Deep.RegionHeld3
namespace Go.Proofs.Ytlihdnlojbmhjaa
open Go.RowKit Go.Maps
open Links (Lk lk)
set_option linter.unusedVariables false

/-- 'string(b)' of a text. -/
theorem txt_text {w : World} {S : Nat → Prop} {x : SV} {l : List UInt8} (h : Txt w S x l) : (convert 61 9 (.slice x.a x.n x.c)).run Try.prog w = .ok (.string ⟨l.toArray⟩) w := by
  obtain ⟨h1, h2, h3⟩ := h
  obtain ⟨a, n, c⟩ := x
  simp only at h1 h2 h3 ⊢
  subst h1
  cases a with
  | none =>
    have hl : l = [] := by
      rcases h3 with h3 | ⟨b, ha, _⟩
      · exact h3
      · cases ha
    subst hl
    rw [run_convert_bytes_string w 61 9 5 none _ c Try.underlying61 Try.underlying5 Try.underlying9]
    simp [Conv.bytesToString]
    rfl
  | some ad =>
    refine run_convert_bytes_back (P := Try.prog) w 61 9 5 ad c l Try.underlying61 Try.underlying5 Try.underlying9 (fun j hj => ?_)
    rcases h3 with h3 | ⟨b, ha, _, _, hr⟩
    · subst h3; simp at hj
    · injection ha with ha
      subst ha
      rw [show (⟨b, 0, none⟩ : Addr).add j = ⟨b, j, none⟩ from by unfold Addr.add; split <;> simp_all]
      exact (hr j hj).1

/-- A bag's i-th cell. -/
theorem Bag.at {w : World} {S : Nat → Prop} {g : Nat} {V : Value} {ps : List (SV × List UInt8)} (h : Bag w S g V ps) {i : Nat} (hi : i < ps.length) : ∃ r cap, V = .slice (some ⟨r, 0, none⟩) ps.length cap ∧ w.cell? ⟨r, i, none⟩ = some (.slice ps[i].1.a ps[i].1.n ps[i].1.c) ∧ ps.length ≤ cap := by
  rcases h.own.2 with ⟨_, h0⟩ | ⟨r, cap, cur, rfl, _, hg, hcap, _⟩
  · omega
  · refine ⟨r, cap, rfl, ?_, hcap⟩
    rw [World.ownsRow.cellAt h.own i (by omega)]
    simp [hi, SV.enc]

theorem getD_map {ps : List (SV × List UInt8)} {i : Nat} (hi : i < ps.length) : (ps.map Prod.snd).getD i [] = ps[i].2 := by simp [hi]

set_option maxHeartbeats 1000000 in
theorem net_Take {w : World} {F : Nat → Prop} {p : Nat} {N : Links.Net} (h0 : IsNet w F p N) (a b i : Int) (ha : I64 a) (hb : I64 b) :
    Calls Try.prog 15 #[.pointer (some ⟨p, 0, none⟩), .int .i64 a, .int .i64 b, .int .i64 i] w fun e w' => e = .returned (.tuple #[.string ⟨(Links.take N a b i).1.toArray⟩, .bool (Links.take N a b i).2.1]) ∧ Stepped w F p (Links.take N a b i).2.2 w' := by
  obtain ⟨mp, G, S, h⟩ := h0
  have H0 : Hid (IsNet w F p N) := Lib.hid ⟨mp, G, S, h⟩
  have HB := Lib.hid (net_bag h a b ha hb)
  cases hl : lk N.sites a b
  · rw [bagP_no hl] at HB
    have HR : Hid (Links.take N a b i = ([], false, N)) := Lib.hid (by
      unfold Links.take
      cases hh : Links.has N a b i
      · rfl
      · rw [Links.has_lk hh] at hl; cases hl)
    clear hl h
    go_enter Try.func15, Try.ntmps15
    go_wp2_with fail
    refine HB.out.mono ?_
    rintro e _ ⟨rfl, rfl⟩
    go_wp2_with fail
    refine (bag_has_nil _ _).mono ?_
    rintro e _ ⟨rfl, rfl⟩
    go_wp2
    go_ret2
    exact ⟨by rw [HR.out]; rfl, by rw [HR.out]; exact Stepped.same H0.out⟩
  · rw [bagP_yes hl] at HB
    obtain ⟨s, t, rfl, rfl, hlk⟩ := Links.lk_nat hl
    simp only [Int.toNat_natCast] at HB
    obtain ⟨V, ps, hB, ht⟩ := h.bag s t hlk
    have hln : ps.length = (N.q s t).length := by rw [← ht]; simp
    have hful := h.full s t hlk
    have hrm := h.room
    have HH := Lib.hid (bag_has w (S s t) (G s t) V ps i hB (by omega))
    by_cases hi : 0 ≤ i ∧ i < ps.length
    · obtain ⟨k, rfl⟩ : ∃ k : Nat, i = k := ⟨i.toNat, by omega⟩
      have hk : k < ps.length := by omega
      have hd : (decide ((0 : Int) ≤ (k : Int)) && decide ((k : Int) < (ps.length : Int))) = true := by rw [decide_eq_true hi.1, decide_eq_true hi.2]; rfl
      rw [hd] at HH
      have HR : Hid (Links.take N (s : Int) (t : Int) (k : Int) = (ps[k].2, true, N.set s t ((N.q s t).eraseIdx k))) := Lib.hid (by
        unfold Links.take
        have hh : Links.has N s t k = true := by unfold Links.has; rw [Links.on_nat hlk, ← hln]; exact hd
        rw [hh, Links.on_nat hlk, ← ht, Int.toNat_natCast, getD_map hk]
        rfl)
      have HCV := Lib.hid (txt_text (hB.txt _ (List.getElem_mem hk)))
      have hcv := HCV.out
      have HDEL := Lib.hid (bag_Delete w (S s t) (G s t) V ps k hB hk)
      obtain ⟨r, cap, rfl, hcell, hcap⟩ := hB.at hk
      have c0 := hB.box.cell 0 (by simp)
      simp only [List.getElem_cons_zero] at c0
      have HBAG := Lib.hid hB
      have HNW := Lib.hid h
      have HLK := Lib.hid hlk
      have HT := Lib.hid ht
      have hik : (k : Int) < (ps.length : Int) := by omega
      have hsm : ps.length ≤ 1000 := by omega
      have hln2 : ps.length ≤ N.room := by omega
      rw [show ((k + 1 : Nat) : Int) = (k : Int) + 1 from rfl] at HDEL
      clear hl h hB ht hlk hi hd hln HCV
      generalize hx : ps[k].1 = x at *
      generalize hL : ps[k].2 = L at *
      clear hx hL
      go_enter Try.func15, Try.ntmps15
      go_wp2_with fail
      refine HB.out.mono ?_
      rintro e _ ⟨rfl, rfl⟩
      go_wp2_with fail
      refine HH.out.mono ?_
      rintro e _ ⟨rfl, rfl⟩
      go_wp2_with fail
      refine HDEL.out.mono ?_
      rintro e w2 ⟨va, vc, rfl, ho, hv, hkp⟩
      have HLESS := Lib.hid (HBAG.out.less hk ho hv hkp)
      have hbx := HBAG.out.box.keep hkp (fun hr => HBAG.out.other hr rfl)
      have c2 := hbx.cell 0 (by simp)
      simp only [List.getElem_cons_zero] at c2
      have f2 := hbx.frozen 0
      clear ho hv hkp hbx c0 hcell hcv
      go_wp2
      go_ret2
      refine ⟨by rw [HR.out]; rfl, ?_⟩
      rw [HR.out]
      have hst := HNW.out.upd HLK.out HLESS.out.2 HLESS.out.1 (fun b hb => .inl hb) (by
        have := List.length_eraseIdx_le (ps.map Prod.snd) k
        simp only [List.length_map] at this
        omega) (fun t' ht' => HNW.out.short s t HLK.out t' (by rw [← HT.out]; exact List.mem_of_mem_eraseIdx ht'))
      rw [HT.out] at hst
      exact hst
    · have hd : (decide ((0 : Int) ≤ i) && decide (i < (ps.length : Int))) = false := by rw [← Bool.not_eq_true]; intro hh; simp at hh; exact hi hh
      rw [hd] at HH
      have HR : Hid (Links.take N (s : Int) (t : Int) i = ([], false, N)) := Lib.hid (by
        unfold Links.take
        have hh : Links.has N s t i = false := by unfold Links.has; rw [Links.on_nat hlk, ← hln]; exact hd
        rw [hh]; rfl)
      clear hl h hB ht hi hd hln
      go_enter Try.func15, Try.ntmps15
      go_wp2_with fail
      refine HB.out.mono ?_
      rintro e _ ⟨rfl, rfl⟩
      go_wp2_with fail
      refine HH.out.mono ?_
      rintro e _ ⟨rfl, rfl⟩
      go_wp2
      go_ret2
      exact ⟨by rw [HR.out]; rfl, by rw [HR.out]; exact Stepped.same H0.out⟩

theorem xor_u8 (c d : UInt8) : bits .xor .u8 (c.toNat : Int) (d.toNat : Int) = ((c ^^^ d).toNat : Int) := by
  rw [u8_xor_nat _ _ c.toNat_lt d.toNat_lt, UInt8.toNat_xor]

set_option maxHeartbeats 2000000 in
theorem net_Turn {w : World} {F : Nat → Prop} {p : Nat} {N : Links.Net} (h0 : IsNet w F p N) (a b i at_ : Int) (c : UInt8) (ha : I64 a) (hb : I64 b) :
    Calls Try.prog 19 #[.pointer (some ⟨p, 0, none⟩), .int .i64 a, .int .i64 b, .int .i64 i, .int .i64 at_, .int .u8 (c.toNat : Int)] w fun e w' => e = .returned (.bool (Links.turn N a b i at_ c).1) ∧ Stepped w F p (Links.turn N a b i at_ c).2 w' := by
  obtain ⟨mp, G, S, h⟩ := h0
  have H0 : Hid (IsNet w F p N) := Lib.hid ⟨mp, G, S, h⟩
  have HB := Lib.hid (net_bag h a b ha hb)
  cases hl : lk N.sites a b
  · rw [bagP_no hl] at HB
    have HR : Hid (Links.turn N a b i at_ c = (false, N)) := Lib.hid (by
      unfold Links.turn Links.turns
      cases hh : Links.has N a b i
      · rfl
      · rw [Links.has_lk hh] at hl; cases hl)
    clear hl h
    go_enter Try.func19, Try.ntmps19
    go_wp2_with fail
    refine HB.out.mono ?_
    rintro e _ ⟨rfl, rfl⟩
    go_wp2_with fail
    refine (bag_has_nil _ _).mono ?_
    rintro e _ ⟨rfl, rfl⟩
    go_wp2
    go_ret
    exact ⟨by rw [HR.out]; rfl, by rw [HR.out]; exact Stepped.same H0.out⟩
  · rw [bagP_yes hl] at HB
    obtain ⟨s, t, rfl, rfl, hlk⟩ := Links.lk_nat hl
    simp only [Int.toNat_natCast] at HB
    obtain ⟨V, ps, hB, ht⟩ := h.bag s t hlk
    have hln : ps.length = (N.q s t).length := by rw [← ht]; simp
    have hful := h.full s t hlk
    have hrm := h.room
    have HH := Lib.hid (bag_has w (S s t) (G s t) V ps i hB (by omega))
    by_cases hi : 0 ≤ i ∧ i < ps.length
    · obtain ⟨k, rfl⟩ : ∃ k : Nat, i = k := ⟨i.toNat, by omega⟩
      have hk : k < ps.length := by omega
      have hd : (decide ((0 : Int) ≤ (k : Int)) && decide ((k : Int) < (ps.length : Int))) = true := by rw [decide_eq_true hi.1, decide_eq_true hi.2]; rfl
      rw [hd] at HH
      have hh : Links.has N s t k = true := by unfold Links.has; rw [Links.on_nat hlk, ← hln]; exact hd
      have hgd : (N.on s t).getD k [] = ps[k].2 := by rw [Links.on_nat hlk, ← ht, getD_map hk]
      have htx := hB.txt _ (List.getElem_mem hk)
      obtain ⟨r, cap, rfl, hcell, hcap⟩ := hB.at hk
      have c0 := hB.box.cell 0 (by simp)
      simp only [List.getElem_cons_zero] at c0
      rw [htx.1] at hcell
      have hik : (k : Int) < (ps.length : Int) := by omega
      have hsm : ps.length ≤ 1000 := by omega
      have hshort : ps[k].2.length ≤ 5000 := h.short s t hlk _ (by rw [← ht]; exact List.mem_map_of_mem (List.getElem_mem hk))
      by_cases hat : 0 ≤ at_ ∧ at_ < ps[k].2.length
      · obtain ⟨m, rfl⟩ : ∃ m : Nat, at_ = m := ⟨at_.toNat, by omega⟩
        have hm : m < ps[k].2.length := by omega
        have hne : ps[k].2 ≠ [] := fun e => by rw [e] at hm; simp at hm
        obtain ⟨blk, hblk⟩ : ∃ b, ps[k].1.a = some ⟨b, 0, none⟩ := by
          rcases htx.2.2 with h0 | ⟨b, hb, _⟩
          · exact absurd h0 hne
          · exact ⟨b, hb⟩
        obtain ⟨hs1, hs2, hs3⟩ := htx.block hblk hne
        obtain ⟨hc1, hf1⟩ := hs3 m hm
        have HTURN := Lib.hid (hB.turned (i := k) (x := ps[k].1) (l := ps[k].2) (at_ := m) (b := blk) (by rw [List.getElem?_eq_getElem hk]) hblk hm (ps[k].2[m] ^^^ c))
        have HR : Hid (Links.turn N (s : Int) (t : Int) (k : Int) (m : Int) c = (true, N.set s t ((N.q s t).set k (ps[k].2.set m (ps[k].2[m] ^^^ c))))) := Lib.hid (by
          unfold Links.turn Links.turns
          rw [hh, Int.toNat_natCast, hgd, decide_eq_true hat.1, decide_eq_true hat.2, Links.on_nat hlk]
          simp [hm])
        have hx := xor_u8 ps[k].2[m] c
        rw [hblk] at hcell
        have d1 : decide ((m : Int) < 0) = false := decide_eq_false (by omega)
        have d2 : decide ((ps[k].2.length : Int) ≤ (m : Int)) = false := decide_eq_false (by omega)
        have d2n : decide (ps[k].2.length ≤ m) = false := decide_eq_false (by omega)
        have him : (m : Int) < (ps[k].2.length : Int) := by omega
        have hln2 : ps.length ≤ N.room := by omega
        have HBAG := Lib.hid hB
        have HNW := Lib.hid h
        have HLK := Lib.hid hlk
        have HT := Lib.hid ht
        have HLEN : Hid (∀ t' ∈ (N.q s t).set k (ps[k].2.set m (ps[k].2[m] ^^^ c)), t'.length ≤ 5000) := Lib.hid (fun t' ht' => by
          rcases List.mem_or_eq_of_mem_set ht' with h1 | h1
          · exact h.short s t hlk t' h1
          · rw [h1, List.length_set]; exact hshort)
        have HCN : Hid (bits .xor .u8 (ps[k].2[m].toNat : Int) (c.toNat : Int) = ((ps[k].2[m] ^^^ c).toNat : Int)) := Lib.hid hx
        have hxl : (ps[k].2[m].toNat : Int) < 256 := by have := ps[k].2[m].toNat_lt; omega
        clear hl h hB ht hlk hi hd hln hh hgd htx hblk hs1 hs2 hs3 hat hne hx
        generalize hcc : ps[k].2[m] ^^^ c = cc at *
        clear hcc
        generalize hcn : (ps[k].2[m].toNat : Int) = cn at *
        clear hcn
        generalize hll : ps[k].2.length = ll at *
        clear hll
        go_enter Try.func19, Try.ntmps19
        go_wp2_with fail
        refine HB.out.mono ?_
        rintro e _ ⟨rfl, rfl⟩
        go_wp2_with fail
        refine HH.out.mono ?_
        rintro e _ ⟨rfl, rfl⟩
        have hx := HCN.out
        go_wp2
        go_ret
        refine ⟨by rw [HR.out]; rfl, ?_⟩
        rw [HR.out]
        have hst := HNW.out.upd HLK.out HTURN.out.2 HTURN.out.1 (fun b hb => .inl hb) (by simp; omega) (by rw [HT.out]; exact HLEN.out)
        rw [HT.out] at hst
        exact hst
      · have HR : Hid (Links.turn N (s : Int) (t : Int) (k : Int) at_ c = (false, N)) := Lib.hid (by
          unfold Links.turn Links.turns
          rw [hh, Int.toNat_natCast, hgd, if_neg]
          intro e
          simp at e
          exact hat e)
        have HCASE : Hid (decide (at_ < 0) = true ∨ (decide (at_ < 0) = false ∧ decide ((ps[k].2.length : Int) ≤ at_) = true)) := Lib.hid (by
          by_cases h1 : at_ < 0
          · exact .inl (decide_eq_true h1)
          · exact .inr ⟨decide_eq_false h1, decide_eq_true (by omega)⟩)
        clear hl h hB ht hlk hi hd hln hh hgd htx hat
        generalize hll : ps[k].2.length = ll at *
        clear hll
        have hcs := HCASE.out
        clear HCASE
        rcases hcs with d1 | ⟨d1, d2⟩
        all_goals
          go_enter Try.func19, Try.ntmps19
          go_wp2_with fail
          refine HB.out.mono ?_
          rintro e _ ⟨rfl, rfl⟩
          go_wp2_with fail
          refine HH.out.mono ?_
          rintro e _ ⟨rfl, rfl⟩
          go_wp2
          go_ret
          exact ⟨by rw [HR.out]; rfl, by rw [HR.out]; exact Stepped.same H0.out⟩
    · have hd : (decide ((0 : Int) ≤ i) && decide (i < (ps.length : Int))) = false := by rw [← Bool.not_eq_true]; intro hh; simp at hh; exact hi hh
      rw [hd] at HH
      have HR : Hid (Links.turn N (s : Int) (t : Int) i at_ c = (false, N)) := Lib.hid (by
        unfold Links.turn Links.turns
        have hh : Links.has N s t i = false := by unfold Links.has; rw [Links.on_nat hlk, ← hln]; exact hd
        rw [hh]; rfl)
      clear hl h hB ht hi hd hln
      go_enter Try.func19, Try.ntmps19
      go_wp2_with fail
      refine HB.out.mono ?_
      rintro e _ ⟨rfl, rfl⟩
      go_wp2_with fail
      refine HH.out.mono ?_
      rintro e _ ⟨rfl, rfl⟩
      go_wp2
      go_ret
      exact ⟨by rw [HR.out]; rfl, by rw [HR.out]; exact Stepped.same H0.out⟩
end Go.Proofs.Ytlihdnlojbmhjaa
