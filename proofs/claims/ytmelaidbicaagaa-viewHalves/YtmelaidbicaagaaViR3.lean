/- The document's answers: what is said; places. -/
import Derived.Test.YtmelaidbicaagaaViR2
import Derived.Test.YtmelaidbicaagaaViIdx
namespace Go.Proofs.Ytmelaidbicaagaa
open Go.RowKit
set_option linter.unusedVariables false

theorem View.seen_get {es : List El} {i : Nat} (h : i < (View.seen es).length) : ∃ hj : (View.seen es)[i].1 < es.length, es[(View.seen es)[i].1] = (View.seen es)[i].2 := by
  have hm := List.getElem_mem h
  generalize (View.seen es)[i] = x at hm
  unfold View.seen at hm
  obtain ⟨p, hp, rfl⟩ := List.mem_map.1 hm
  have h1 := (List.mem_filter.1 hp).1
  obtain ⟨y, k⟩ := p
  rw [List.mk_mem_zipIdx_iff_getElem?] at h1
  obtain ⟨h2, h3⟩ := List.getElem?_eq_some_iff.1 h1
  exact ⟨h2, h3⟩
theorem View.nums_get {es : List El} {i : Nat} (h : i < (View.nums es).length) : (View.nums es)[i] = (((View.seen es)[i]'(by rw [← View.nums_len]; exact h)).1 : Int) := by
  simp [View.nums]
theorem View.text_eq (es : List El) : View.text es = runesBytes ((View.seen es).map (fun x => x.2.rune)) := by
  unfold View.text runesBytes
  rw [List.foldl_map, List.foldl_map]
  congr 1
  funext r x
  rw [View.rn_enc]
theorem runes_snoc (l : List Int) (n : Int) : runesBytes (l ++ [n]) = runesBytes l ++ Utf8.encode n := by
  unfold runesBytes
  rw [List.foldl_append]
  rfl

set_option maxRecDepth 100000 in
set_option maxHeartbeats 1000000 in
theorem ref12_Text (v : Value) (es : List El) (w : World) (hv : SliceG 6 El.cells w v es) (hm : es.length ≤ 1000000) :
    Calls Try.prog 20 #[v] w fun e w' => e = .returned (.string (View.text es)) ∧ Below w.heap.size w w' := by
  have HV := Lib.hid hv
  obtain ⟨va, vc, rfl⟩ := hv.shape
  clear hv
  go_enter Try.func20, Try.ntmps20
  go_wp2_with fail
  refine (ref12_Seen _ es w HV.out hm).mono ?_
  rintro e w1 ⟨r1, rfl, ho, hb⟩
  have HS := Lib.hid ho.slice
  have HB1 := Lib.hid hb
  obtain ⟨sa, sc, e⟩ := ho.slice.shape
  rw [View.nums_len] at e
  subst e
  clear ho hb
  go_wp2_with fail
  go_loopw [4, 5] (fun out i wr => ∃ k : Nat, k ≤ (View.seen es).length ∧ i = .int .i64 k ∧ out = .string (runesBytes (((View.seen es).take k).map (fun x => x.2.rune))) ∧ Below w1.heap.size w1 wr) (fun _ i _ => (View.seen es).length - (intOf i).toNat)
  case atStart => exact ⟨0, by omega, rfl, rfl, Below.refl _ _⟩
  case round =>
    obtain ⟨k, hk, rfl, rfl, hbel⟩ := hrel
    have HB := Lib.hid hbel
    clear hbel
    by_cases hlt : k < (View.seen es).length
    · have d1 : decide ((k : Int) < ((View.seen es).length : Int)) = true := decide_eq_true (by omega)
      have hia : (k : Int) < ((View.seen es).length : Int) := by omega
      obtain ⟨hj, hje⟩ := View.seen_get hlt
      have HT : Hid (runesBytes (((View.seen es).take (k + 1)).map (fun x => x.2.rune)) = runesBytes (((View.seen es).take k).map (fun x => x.2.rune)) ++ Utf8.encode ((View.seen es)[k]).2.rune) := Lib.hid (by rw [List.take_succ_eq_append_getElem hlt, List.map_append]; exact runes_snoc _ _)
      have hsz := runesBytes_size_le (((View.seen es).take k).map (fun x => x.2.rune))
      have hsl := View.seen_len es
      have hen := encode_size_le ((View.seen es)[k]).2.rune
      rw [List.length_map, List.length_take] at hsz
      have HSB := Lib.hid (HS.out.below HB.out)
      obtain ⟨_, _, e, _, hr⟩ := HSB.out
      injection e with e1 e2 e3
      subst e1
      subst e3
      rcases hr with h | ⟨b, off, ha, hbl, hcell⟩
      · exfalso
        have : (View.nums es).length = 0 := by rw [h]; rfl
        rw [View.nums_len] at this
        omega
      · have q := hcell k (by rw [View.nums_len]; exact hlt)
        rw [View.nums_get] at q
        subst ha
        obtain ⟨b2, off2, e, hbl2, hcc⟩ := (HV.out.below (grew HB1.out HB.out)).at hj
        subst e
        rw [hje] at hcc
        have q4 := hcc 4 _ rfl
        have hjj : (((View.seen es)[k].1 : Nat) : Int) < (es.length : Int) := by omega
        clear hcell hcc hje e2
        generalize (View.seen es)[k] = x at q q4 hjj HT hen hj
        generalize runesBytes (((View.seen es).take k).map (fun x => x.2.rune)) = T at HT hsz
        generalize hT2 : runesBytes (((View.seen es).take (k + 1)).map (fun x => x.2.rune)) = T2 at HT
        have HT2 := Lib.hid hT2
        clear hT2
        obtain ⟨j, x⟩ := x
        simp only at q q4 hjj HT hen hj
        go_wp2_with fail
        refine (ref12_Sign x.rune _).mono ?_
        rintro e w3 ⟨rfl, hb3⟩
        have HB3 := Lib.hid (grew HB.out hb3)
        clear hb3 q q4
        generalize Utf8.encode x.rune = S at HT hen
        go_wp2
        rw [← HT.out]
        go_roundw
        case rel => exact ⟨k + 1, by omega, by go_num, by rw [HT2.out], HB3.out⟩
        case measure => simp [intOf]; omega
    · have d1 : decide ((k : Int) < ((View.seen es).length : Int)) = false := decide_eq_false (by omega)
      have HTX : Hid (runesBytes (((View.seen es).take k).map (fun x => x.2.rune)) = View.text es) := Lib.hid (by rw [View.text_eq, List.take_of_length_le (by omega)])
      go_wp2
      go_ret
      exact ⟨by rw [HTX.out]; rfl, grew HB1.out HB.out⟩
end Go.Proofs.Ytmelaidbicaagaa
