/- Some answers of a line's editor. -/
import Derived.Test.YtakjoodlediemaaEdDoK
import Derived.Test.YtakjoodlediemaaInts
import Derived.Deep.RegionHeld3
import Derived.Deep.RegionHeld3
namespace Go.Proofs.Ytakjoodlediemaa
open Go.RowKit Go.Shelf
set_option linter.unusedVariables false

theorem do_known {lv kv : Value} {l kl : List Int} {z k r : Int} {w : World} (hv : SliceI w lv l) (hkv : SliceI w kv kl) (hl : l.length ≤ 100000) (hkl : kl.length ≤ 100000) (hk : I64 k) (hr : I64 r) {m kl' : List Int} {at' : Nat} {acts : List EAct} {nm nk na : Nat}
    (h1 : Ed.apply l acts = some m) (h2 : (Ed.turned l z kl k r).acts = acts) (h3 : (Ed.turned l z kl k r).at' = at') (h4 : (Ed.turned l z kl k r).kill = kl') (e1 : m.length = nm) (e2 : kl'.length = nk) (e3 : acts.length = na) :
    Calls Try.prog 7 #[.agg #[lv, .int .i64 z, kv], .agg #[.int .i64 k, .int .i64 r]] w fun e w' => ∃ La Lc Ka Kc Aa Ac, e = .returned (.tuple #[.agg #[.slice La nm Lc, .int .i64 (at' : Nat), .slice Ka nk Kc], .slice Aa na Ac]) ∧ SliceI w' (.slice La nm Lc) m ∧ SliceI w' (.slice Ka nk Kc) kl' ∧ SliceG 3 EAct.cells w' (.slice Aa na Ac) acts ∧ Below w.heap.size w w' := by
  subst h2 h3 h4 e1 e2 e3
  refine (edit_Do lv kv l kl z k r w hv hkv hl hkl hk hr).mono ?_
  rintro e w' ⟨LV, KV, AV, rfl, s1, s2, s3, _, hb⟩
  rw [h1, Option.getD_some] at s1
  obtain ⟨La, Lc, rfl⟩ := s1.shape
  obtain ⟨Ka, Kc, rfl⟩ := s2.shape
  obtain ⟨Aa, Ac, rfl⟩ := s3.shape
  exact ⟨La, Lc, Ka, Kc, Aa, Ac, rfl, s1, s2, s3, hb⟩

/-- The bytes of a text, as numbers. -/
def runesOf (s : ByteArray) : List Int := s.data.toList.map fun c => (c.toNat : Int)
set_option maxRecDepth 100000 in
set_option maxHeartbeats 2000000 in
theorem law18_runes (s : ByteArray) (w : World) (hm : s.size ≤ 1000) : Calls Try.prog 19 #[.string s] w fun e w' => ∃ v, e = .returned v ∧ SliceI w' v (runesOf s) ∧ Below w.heap.size w w' := by
  have HL : Hid ((runesOf s).length = s.size) := Lib.hid (by unfold runesOf; simp)
  have HM := Lib.hid hm
  clear hm
  go_enter Try.func19, Try.ntmps19
  go_wp2_with fail
  go_loopw [3, 4] (fun o i wr => ∃ k : Nat, k ≤ s.size ∧ i = .int .i64 k ∧ OwnI wr o ((runesOf s).take k) ∧ (∀ g, o.ownBlock = some g → w.heap.size ≤ g) ∧ Below w.heap.size w wr) (fun _ i _ => s.size - (intOf i).toNat)
  case atStart => exact ⟨0, by omega, rfl, OwnI.nil _, (by intro g hg; cases hg), Below.refl _ _⟩
  case round =>
    obtain ⟨k, hk, rfl, ho, hn, hb⟩ := hrel
    have HO := Lib.hid ho
    have HN := Lib.hid hn
    have HB := Lib.hid hb
    obtain ⟨oa, oc, rfl⟩ := ho.slice.shape
    clear ho hn hb
    have hlen : ((runesOf s).take k).length = k := by rw [List.length_take, HL.out]; omega
    rw [hlen] at HO HN ⊢
    have HKL : Hid (k ≤ 1000) := Lib.hid (by have := HM.out; omega)
    by_cases hlt : k < s.size
    · have d1 : decide ((k : Int) < (s.size : Int)) = true := decide_eq_true (by omega)
      have dn : decide (k < s.size) = true := decide_eq_true hlt
      have hia : (k : Int) < (s.size : Int) := by omega
      obtain ⟨c, hc⟩ : ∃ c : Int, (((s[k]'hlt).toNat : Nat) : Int) = c := ⟨_, rfl⟩
      have hcb : 0 ≤ c ∧ c < 256 := by have := (s[k]'hlt).toNat_lt; omega
      have hw : wrap64 (((s[k]'hlt).toNat : Nat) : Int) = c := by rw [hc]; exact IntWalk.wrap64_in _ ⟨by omega, by omega⟩
      have HTK : Hid ((runesOf s).take (k + 1) = (runesOf s).take k ++ [c]) := Lib.hid (by
        rw [List.take_succ_eq_append_getElem (by rw [HL.out]; exact hlt)]
        congr 2
        unfold runesOf
        rw [List.getElem_map, ← hc]
        rfl)
      have HOW : Hid (OwnI wr (.slice oa k oc) ((runesOf s).take k)) := Lib.hid HO.out
      have HLT := Lib.hid hlt
      have hk1000 : k ≤ 1000 := HKL.out
      go_wp2_with (at_builtin; refine wp_append_num rfl (.tmp 11) (.tmp 16) rfl _ ((runesOf s).take k) c rfl rfl HOW.out (by rw [hlen]; have := HKL.out; omega) ?_; intro v5 w5 ho5 hk5 hn5; have HM5 := Lib.hid (And.intro ho5 (And.intro hk5 hn5)); obtain ⟨ua, uc, e5⟩ := owns_form ho5; rw [List.length_append, hlen] at e5; subst e5; clear ho5 hk5 hn5)
      go_wp2
      go_roundw
      case rel => exact ⟨k + 1, by have := HLT.out; omega, by go_num, by rw [HTK.out]; exact HM5.out.1, (by
        intro g hg
        rcases HM5.out.2.2 g hg with e | e
        · exact HN.out g e
        · exact Nat.le_trans HB.out.size e), HB.out.trans (HM5.out.2.1.below HB.out.size (fun i e => HN.out i e))⟩
      case measure => simp [intOf]; have := HLT.out; omega
    · have d1 : decide ((k : Int) < (s.size : Int)) = false := decide_eq_false (by omega)
      have dn : decide (k < s.size) = false := decide_eq_false hlt
      go_wp2
      go_ret
      exact ⟨_, rfl, by have := HO.out.slice; rw [List.take_of_length_le (by rw [HL.out]; omega)] at this; exact this, HB.out⟩

theorem runes_known {s : ByteArray} {l : List Int} {n : Nat} (h : runesOf s = l) (hn : l.length = n) (w : World) (hm : s.size ≤ 1000) : Calls Try.prog 19 #[.string s] w fun e w' => ∃ a c, e = .returned (.slice a n c) ∧ SliceI w' (.slice a n c) l ∧ Below w.heap.size w w' := by
  subst h hn
  refine (law18_runes s w hm).mono ?_
  rintro e w' ⟨v, rfl, hs, hb⟩
  obtain ⟨a, c, rfl⟩ := hs.shape
  exact ⟨a, c, rfl, hs, hb⟩
theorem apply_known {v u : Value} {l m : List Int} {acs : List EAct} {n : Nat} {w : World} (hv : SliceI w v l) (hu : SliceG 3 EAct.cells w u acs) (hl : l.length ≤ 1000000) (hk : acs.length ≤ 1000000) (h : Ed.apply l acs = some m) (hn : m.length = n) :
    Calls Try.prog 13 #[v, u] w fun e w' => ∃ a c, e = .returned (.tuple #[.slice a n c, .bool true]) ∧ SliceI w' (.slice a n c) m ∧ Below w.heap.size w w' := by
  subst hn
  refine (edit_Apply v u l acs w hv hu hl hk).mono ?_
  rintro e w' ⟨V, rfl, ho, _, hb⟩
  rw [h] at ho ⊢
  obtain ⟨a, c, rfl⟩ := ho.slice.shape
  exact ⟨a, c, rfl, ho.slice, hb⟩

set_option maxRecDepth 100000 in
set_option maxHeartbeats 8000000 in
theorem law18_live (w : World) : Calls Try.prog 6 #[] w fun e w' => e = .returned (.bool true) ∧ Below w.heap.size w w' := by
  have HB := Lib.hid (Below.refl w.heap.size w)
  go_enter Try.func6, Try.ntmps6
  go_wp2_with fail
  refine (runes_known (s := ⟨#[97, 98, 32, 99]⟩) (l := [97, 98, 32, 99]) (n := 4) rfl rfl _ (by decide)).mono ?_
  rintro e w1 ⟨va1, vc1, rfl, hs1, hb1⟩
  have HB := Lib.hid (grew HB.out hb1)
  have HS := Lib.hid hs1
  clear hs1 hb1
  have BS := Lib.hid (Holds.new w1 [.slice va1 4 vc1, .int .i64 4, .slice none 0 0] 29)
  have hba1 := grew_alloc w1 (.cells #[.slice va1 4 vc1, .int .i64 4, .slice none 0 0] 29)
  have HS := Lib.hid (HS.out.below hba1)
  have HB := Lib.hid (grew HB.out hba1)
  clear hba1
  rw [show ([.slice va1 4 vc1, .int .i64 4, .slice none 0 0] : List Value).toArray = #[.slice va1 4 vc1, .int .i64 4, .slice none 0 0] from rfl] at BS
  have bs0 := BS.out.cell 0 (by simp)
  have bs1 := BS.out.cell 1 (by simp)
  have bs2 := BS.out.cell 2 (by simp)
  simp only [List.getElem_cons_zero, List.getElem_cons_succ] at bs0 bs1 bs2
  go_wp2_with fail
  generalize w1.alloc (.cells #[.slice va1 4 vc1, .int .i64 4, .slice none 0 0] 29) = W1 at *
  generalize w1.heap.size = bs at *
  clear bs0 bs1 bs2
  refine (do_known (k := 2) (r := 119) (z := 4) (l := [97, 98, 32, 99]) (kl := []) HS.out (SliceI.none _) (by decide) (by decide) ⟨by decide, by decide⟩ ⟨by decide, by decide⟩ (m := [97, 98, 32]) (kl' := [99]) (at' := 3) (acts := [⟨2, 3, 99⟩]) (nm := 3) (nk := 1) (na := 1) rfl rfl rfl rfl rfl rfl rfl).mono ?_
  rintro e w2 ⟨La2, Lc2, Ka2, Kc2, Aa2, Ac2, rfl, s1, s2, s3, hb2⟩
  have HS := Lib.hid (HS.out.below hb2)
  have BS := Lib.hid (BS.out.keep (Keep.of_grew hb2 Non) (fun h => h))
  have HB := Lib.hid (grew HB.out hb2)
  have HA1 := Lib.hid s1
  have HK1 := Lib.hid s2
  have HX1 := Lib.hid s3
  clear s1 s2 s3 hb2
  have BA := Lib.hid (Holds.new w2 [.slice La2 3 Lc2, .int .i64 3, .slice Ka2 1 Kc2] 29)
  have hba2 := grew_alloc w2 (.cells #[.slice La2 3 Lc2, .int .i64 3, .slice Ka2 1 Kc2] 29)
  have HS := Lib.hid (HS.out.below hba2)
  have BS := Lib.hid (BS.out.keep (Keep.of_grew hba2 Non) (fun h => h))
  have HA1 := Lib.hid (HA1.out.below hba2)
  have HK1 := Lib.hid (HK1.out.below hba2)
  have HX1 := Lib.hid (HX1.out.below hba2)
  have HB := Lib.hid (grew HB.out hba2)
  clear hba2
  rw [show ([.slice La2 3 Lc2, .int .i64 3, .slice Ka2 1 Kc2] : List Value).toArray = #[.slice La2 3 Lc2, .int .i64 3, .slice Ka2 1 Kc2] from rfl] at BA
  have ba0 := BA.out.cell 0 (by simp)
  have ba1 := BA.out.cell 1 (by simp)
  have ba2 := BA.out.cell 2 (by simp)
  simp only [List.getElem_cons_zero, List.getElem_cons_succ] at ba0 ba1 ba2
  go_wp2_with fail
  generalize w2.alloc (.cells #[.slice La2 3 Lc2, .int .i64 3, .slice Ka2 1 Kc2] 29) = W2 at *
  generalize w2.heap.size = ba at *
  clear ba0 ba1 ba2
  refine (do_known (k := 2) (r := 121) (z := 3) (l := [97, 98, 32]) (kl := [99]) HA1.out HK1.out (by decide) (by decide) ⟨by decide, by decide⟩ ⟨by decide, by decide⟩ (m := [97, 98, 32, 99]) (kl' := [99]) (at' := 4) (acts := [⟨1, 3, 99⟩]) (nm := 4) (nk := 1) (na := 1) rfl rfl rfl rfl rfl rfl rfl).mono ?_
  rintro e w3 ⟨La3, Lc3, Ka3, Kc3, Aa3, Ac3, rfl, s1, s2, s3, hb3⟩
  have HS := Lib.hid (HS.out.below hb3)
  have BS := Lib.hid (BS.out.keep (Keep.of_grew hb3 Non) (fun h => h))
  have HA1 := Lib.hid (HA1.out.below hb3)
  have HK1 := Lib.hid (HK1.out.below hb3)
  have HX1 := Lib.hid (HX1.out.below hb3)
  have BA := Lib.hid (BA.out.keep (Keep.of_grew hb3 Non) (fun h => h))
  have HB := Lib.hid (grew HB.out hb3)
  have HA2 := Lib.hid s1
  have HK2 := Lib.hid s2
  have HX2 := Lib.hid s3
  clear s1 s2 s3 hb3
  have BB := Lib.hid (Holds.new w3 [.slice La3 4 Lc3, .int .i64 4, .slice Ka3 1 Kc3] 29)
  have hba3 := grew_alloc w3 (.cells #[.slice La3 4 Lc3, .int .i64 4, .slice Ka3 1 Kc3] 29)
  have HS := Lib.hid (HS.out.below hba3)
  have BS := Lib.hid (BS.out.keep (Keep.of_grew hba3 Non) (fun h => h))
  have HA1 := Lib.hid (HA1.out.below hba3)
  have HK1 := Lib.hid (HK1.out.below hba3)
  have HX1 := Lib.hid (HX1.out.below hba3)
  have BA := Lib.hid (BA.out.keep (Keep.of_grew hba3 Non) (fun h => h))
  have HA2 := Lib.hid (HA2.out.below hba3)
  have HK2 := Lib.hid (HK2.out.below hba3)
  have HX2 := Lib.hid (HX2.out.below hba3)
  have HB := Lib.hid (grew HB.out hba3)
  clear hba3
  rw [show ([.slice La3 4 Lc3, .int .i64 4, .slice Ka3 1 Kc3] : List Value).toArray = #[.slice La3 4 Lc3, .int .i64 4, .slice Ka3 1 Kc3] from rfl] at BB
  have bb0 := BB.out.cell 0 (by simp)
  have bb1 := BB.out.cell 1 (by simp)
  have bb2 := BB.out.cell 2 (by simp)
  simp only [List.getElem_cons_zero, List.getElem_cons_succ] at bb0 bb1 bb2
  go_wp2_with fail
  generalize w3.alloc (.cells #[.slice La3 4 Lc3, .int .i64 4, .slice Ka3 1 Kc3] 29) = W3 at *
  generalize w3.heap.size = bb at *
  clear bb0 bb1 bb2
  refine (do_known (k := 2) (r := 116) (z := 4) (l := [97, 98, 32, 99]) (kl := [99]) HA2.out HK2.out (by decide) (by decide) ⟨by decide, by decide⟩ ⟨by decide, by decide⟩ (m := [97, 98, 99, 32]) (kl' := [99]) (at' := 4) (acts := [⟨2, 2, 32⟩, ⟨1, 3, 32⟩]) (nm := 4) (nk := 1) (na := 2) rfl rfl rfl rfl rfl rfl rfl).mono ?_
  rintro e w4 ⟨La4, Lc4, Ka4, Kc4, Aa4, Ac4, rfl, s1, s2, s3, hb4⟩
  have HS := Lib.hid (HS.out.below hb4)
  have BS := Lib.hid (BS.out.keep (Keep.of_grew hb4 Non) (fun h => h))
  have HA1 := Lib.hid (HA1.out.below hb4)
  have HK1 := Lib.hid (HK1.out.below hb4)
  have HX1 := Lib.hid (HX1.out.below hb4)
  have BA := Lib.hid (BA.out.keep (Keep.of_grew hb4 Non) (fun h => h))
  have HA2 := Lib.hid (HA2.out.below hb4)
  have HK2 := Lib.hid (HK2.out.below hb4)
  have HX2 := Lib.hid (HX2.out.below hb4)
  have BB := Lib.hid (BB.out.keep (Keep.of_grew hb4 Non) (fun h => h))
  have HB := Lib.hid (grew HB.out hb4)
  have HA3 := Lib.hid s1
  have HK3 := Lib.hid s2
  have HX3 := Lib.hid s3
  clear s1 s2 s3 hb4
  have BC := Lib.hid (Holds.new w4 [.slice La4 4 Lc4, .int .i64 4, .slice Ka4 1 Kc4] 29)
  have hba4 := grew_alloc w4 (.cells #[.slice La4 4 Lc4, .int .i64 4, .slice Ka4 1 Kc4] 29)
  have HS := Lib.hid (HS.out.below hba4)
  have BS := Lib.hid (BS.out.keep (Keep.of_grew hba4 Non) (fun h => h))
  have HA1 := Lib.hid (HA1.out.below hba4)
  have HK1 := Lib.hid (HK1.out.below hba4)
  have HX1 := Lib.hid (HX1.out.below hba4)
  have BA := Lib.hid (BA.out.keep (Keep.of_grew hba4 Non) (fun h => h))
  have HA2 := Lib.hid (HA2.out.below hba4)
  have HK2 := Lib.hid (HK2.out.below hba4)
  have HX2 := Lib.hid (HX2.out.below hba4)
  have BB := Lib.hid (BB.out.keep (Keep.of_grew hba4 Non) (fun h => h))
  have HA3 := Lib.hid (HA3.out.below hba4)
  have HK3 := Lib.hid (HK3.out.below hba4)
  have HX3 := Lib.hid (HX3.out.below hba4)
  have HB := Lib.hid (grew HB.out hba4)
  clear hba4
  rw [show ([.slice La4 4 Lc4, .int .i64 4, .slice Ka4 1 Kc4] : List Value).toArray = #[.slice La4 4 Lc4, .int .i64 4, .slice Ka4 1 Kc4] from rfl] at BC
  have bs0 := BS.out.cell 0 (by simp)
  simp only [List.getElem_cons_zero] at bs0
  go_wp2_with fail
  generalize w4.alloc (.cells #[.slice La4 4 Lc4, .int .i64 4, .slice Ka4 1 Kc4] 29) = W4 at *
  generalize w4.heap.size = bc at *
  clear bs0
  refine (apply_known (l := [97, 98, 32, 99]) (acs := [⟨2, 3, 99⟩]) (m := [97, 98, 32]) (n := 3) HS.out HX1.out (by decide) (by decide) rfl rfl).mono ?_
  rintro e wp ⟨Va, Vc, rfl, hV, hbp⟩
  have HS := Lib.hid (HS.out.below hbp)
  have BS := Lib.hid (BS.out.keep (Keep.of_grew hbp Non) (fun h => h))
  have HA1 := Lib.hid (HA1.out.below hbp)
  have HK1 := Lib.hid (HK1.out.below hbp)
  have HX1 := Lib.hid (HX1.out.below hbp)
  have BA := Lib.hid (BA.out.keep (Keep.of_grew hbp Non) (fun h => h))
  have HA2 := Lib.hid (HA2.out.below hbp)
  have HK2 := Lib.hid (HK2.out.below hbp)
  have HX2 := Lib.hid (HX2.out.below hbp)
  have BB := Lib.hid (BB.out.keep (Keep.of_grew hbp Non) (fun h => h))
  have HA3 := Lib.hid (HA3.out.below hbp)
  have HK3 := Lib.hid (HK3.out.below hbp)
  have HX3 := Lib.hid (HX3.out.below hbp)
  have BC := Lib.hid (BC.out.keep (Keep.of_grew hbp Non) (fun h => h))
  have HB := Lib.hid (grew HB.out hbp)
  have HV := Lib.hid hV
  clear hV hbp
  go_wp2_with fail
  have HSL : Hid (∀ W, Below wp.heap.size wp W → SliceI W (.slice va1 4 vc1) [97, 98, 32, 99]) := Lib.hid (fun W hb => HS.out.below hb)
  have HA1L : Hid (∀ W, Below wp.heap.size wp W → SliceI W (.slice La2 3 Lc2) [97, 98, 32]) := Lib.hid (fun W hb => HA1.out.below hb)
  have HK1L : Hid (∀ W, Below wp.heap.size wp W → SliceI W (.slice Ka2 1 Kc2) [99]) := Lib.hid (fun W hb => HK1.out.below hb)
  have HA2L : Hid (∀ W, Below wp.heap.size wp W → SliceI W (.slice La3 4 Lc3) [97, 98, 32, 99]) := Lib.hid (fun W hb => HA2.out.below hb)
  have HA3L : Hid (∀ W, Below wp.heap.size wp W → SliceI W (.slice La4 4 Lc4) [97, 98, 99, 32]) := Lib.hid (fun W hb => HA3.out.below hb)
  have HVL : Hid (∀ W, Below wp.heap.size wp W → SliceI W (.slice Va 3 Vc) [97, 98, 32]) := Lib.hid (fun W hb => HV.out.below hb)
  have HBX : Hid (∀ W, Below wp.heap.size wp W → (W.cell? ⟨bs, 0, none⟩ = some (.slice va1 4 vc1) ∧ W.cell? ⟨ba, 0, none⟩ = some (.slice La2 3 Lc2) ∧ W.cell? ⟨ba, 1, none⟩ = some (.int .i64 3) ∧ W.cell? ⟨ba, 2, none⟩ = some (.slice Ka2 1 Kc2) ∧ W.cell? ⟨bb, 0, none⟩ = some (.slice La3 4 Lc3) ∧ W.cell? ⟨bb, 1, none⟩ = some (.int .i64 4) ∧ W.cell? ⟨bc, 0, none⟩ = some (.slice La4 4 Lc4) ∧ W.cell? ⟨bc, 1, none⟩ = some (.int .i64 4))) := Lib.hid (fun W hb => by
    have k := Keep.of_grew hb Non
    have g1 := BS.out.keep k (fun h => h)
    have g2 := BA.out.keep k (fun h => h)
    have g3 := BB.out.keep k (fun h => h)
    have g4 := BC.out.keep k (fun h => h)
    exact ⟨g1.cell 0 (by simp), g2.cell 0 (by simp), g2.cell 1 (by simp), g2.cell 2 (by simp), g3.cell 0 (by simp), g3.cell 1 (by simp), g4.cell 0 (by simp), g4.cell 1 (by simp)⟩)
  have P0 := Lib.hid (grew_drew wp)
  have q0 := HBX.out _ (Below.refl _ wp)
  have q0' := HBX.out _ P0.out
  simp only [List.append]
  go_region_held3 (fun W => W.cell? ⟨bs, 0, none⟩ = some (.slice va1 4 vc1) ∧ W.cell? ⟨ba, 0, none⟩ = some (.slice La2 3 Lc2) ∧ W.cell? ⟨ba, 1, none⟩ = some (.int .i64 3) ∧ W.cell? ⟨ba, 2, none⟩ = some (.slice Ka2 1 Kc2) ∧ W.cell? ⟨bb, 0, none⟩ = some (.slice La3 4 Lc3) ∧ W.cell? ⟨bb, 1, none⟩ = some (.int .i64 4) ∧ W.cell? ⟨bc, 0, none⟩ = some (.slice La4 4 Lc4) ∧ W.cell? ⟨bc, 1, none⟩ = some (.int .i64 4))
    (first | exact q0 | exact q0' | exact q1 | exact q2 | exact q3 | exact q4 | exact q5 | exact q6 | exact q7 | exact q8)
    (first
    | (have hh := M9.out; clear hh; go_at_call 17; refine (edit_Word_on _ [97, 98, 32, 99] 0 _ (HSL.out _ P8.out) (by decide)).mono ?_; rintro e _ ⟨rfl, rfl⟩; rw [show Ed.wordOn [97, 98, 32, 99] (Ed.caret [97, 98, 32, 99] 0) = 2 from by decide])
    | (have hh := P8.out; clear hh; go_at_call 17; refine (edit_Word_back _ [97, 98, 32, 99] 4 _ (HSL.out _ P8.out) (by decide)).mono ?_; rintro e _ ⟨rfl, rfl⟩; rw [show Ed.wordBack [97, 98, 32, 99] (Ed.caret [97, 98, 32, 99] 4) = 3 from by decide]; have M9 := Lib.hid trivial)
    | (have hh := P7.out; clear hh; go_at_call 16; refine (ref01_Same _ _ [97, 98, 32] [97, 98, 32] _ (HVL.out _ P7.out) (HA1L.out _ P7.out) (by decide) (by decide)).mono ?_; rintro e x8 ⟨rfl, hb⟩; rw [show decide (([97, 98, 32] : List Int) = [97, 98, 32]) = true from by decide]; have P8 := Lib.hid (grew P7.out hb); have q8 := HBX.out _ P8.out; clear hb)
    | (have hh := P6.out; clear hh; go_at_call 16; refine (ref01_Same _ _ [97, 98, 99, 32] [97, 98, 99, 32] _ (HA3L.out _ P6.out) R6.out (by decide) (by decide)).mono ?_; rintro e x7 ⟨rfl, hb⟩; rw [show decide (([97, 98, 99, 32] : List Int) = [97, 98, 99, 32]) = true from by decide]; have P7 := Lib.hid (grew P6.out hb); have q7 := HBX.out _ P7.out; clear hb)
    | (have hh := P5.out; clear hh; go_at_call 19; refine (runes_known (s := ⟨#[97, 98, 99, 32]⟩) (l := [97, 98, 99, 32]) (n := 4) rfl rfl _ (by decide)).mono ?_; rintro e x6 ⟨xa6, xc6, rfl, hs, hb⟩; have P6 := Lib.hid (grew P5.out hb); have R6 := Lib.hid hs; have q6 := HBX.out _ P6.out; clear hs hb)
    | (have hh := P4.out; clear hh; go_at_call 16; refine (ref01_Same _ _ [97, 98, 32, 99] [97, 98, 32, 99] _ (HA2L.out _ P4.out) (HSL.out _ P4.out) (by decide) (by decide)).mono ?_; rintro e x5 ⟨rfl, hb⟩; rw [show decide (([97, 98, 32, 99] : List Int) = [97, 98, 32, 99]) = true from by decide]; have P5 := Lib.hid (grew P4.out hb); have q5 := HBX.out _ P5.out; clear hb)
    | (have hh := P3.out; clear hh; go_at_call 16; refine (ref01_Same _ _ [99] [99] _ (HK1L.out _ P3.out) R3.out (by decide) (by decide)).mono ?_; rintro e x4 ⟨rfl, hb⟩; rw [show decide (([99] : List Int) = [99]) = true from by decide]; have P4 := Lib.hid (grew P3.out hb); have q4 := HBX.out _ P4.out; clear hb)
    | (have hh := P2.out; clear hh; go_at_call 19; refine (runes_known (s := ⟨#[99]⟩) (l := [99]) (n := 1) rfl rfl _ (by decide)).mono ?_; rintro e x3 ⟨xa3, xc3, rfl, hs, hb⟩; have P3 := Lib.hid (grew P2.out hb); have R3 := Lib.hid hs; have q3 := HBX.out _ P3.out; clear hs hb)
    | (have hh := P1.out; clear hh; go_at_call 16; refine (ref01_Same _ _ [97, 98, 32] [97, 98, 32] _ (HA1L.out _ P1.out) R1.out (by decide) (by decide)).mono ?_; rintro e x2 ⟨rfl, hb⟩; rw [show decide (([97, 98, 32] : List Int) = [97, 98, 32]) = true from by decide]; have P2 := Lib.hid (grew P1.out hb); have q2 := HBX.out _ P2.out; clear hb)
    | (have hh := P0.out; clear hh; go_at_call 19; refine (runes_known (s := ⟨#[97, 98, 32]⟩) (l := [97, 98, 32]) (n := 3) rfl rfl _ (by decide)).mono ?_; rintro e x1 ⟨xa1, xc1, rfl, hs, hb⟩; have P1 := Lib.hid (grew P0.out hb); have R1 := Lib.hid hs; have q1 := HBX.out _ P1.out; clear hs hb))
  go_wp2
  go_ret
  exact ⟨rfl, grew HB.out P8.out⟩
end Go.Proofs.Ytakjoodlediemaa
