/- put. -/
import Derived.Test.YtohmhbjiapflpaaWvPut
import Derived.Deep.RegionHeld3
import Derived.Deep.RegionLaw
import Derived.BigQuiet
namespace Go.Proofs.Ytohmhbjiapflpaa
open Go.RowKit Go.Maps
set_option linter.unusedVariables false

/-- A line at p; its blocks are among F. -/
structure IsLine (w : World) (F : Nat → Prop) (p : Nat) (L : List Wel) : Prop where
  at' : F p
  lt : ∀ k, F k → k < w.heap.size
  is : (L = [] ∧ Holds w p [.map none, .map none] 84) ∨ ∃ mh mk ks, LineM w p mh mk L ks ∧ F mh ∧ F mk ∧ ∀ q ∈ ks, ∀ b, q.2.b = some b → F b
/-- What a call on a line comes to. -/
def LStep (w : World) (F : Nat → Prop) (p : Nat) (L : List Wel) (w' : World) : Prop := ∃ F', IsLine w' F' p L ∧ Keep F w w' ∧ ∀ k, F' k → F k ∨ w.heap.size ≤ k

theorem LineM.below {w w' : World} {p mh mk : Nat} {L : List Wel} {ks : List ((Int × Int) × KSl)} (h : LineM w p mh mk L ks) (hb : Below w.heap.size w w') : LineM w' p mh mk L ks where
  box := h.box.keep (Keep.of_grew hb Non) (fun h => h)
  has := h.has.keep (Keep.of_grew hb Non) (fun h => h)
  kids := h.kids.keep (Keep.of_grew hb Non) (fun h => h)
  pm := h.pm
  row q hq := by
    obtain ⟨b, h1, h2, h3, h4⟩ := h.row q hq
    exact ⟨b, h1, h2, h3, h4.keep (Keep.of_grew hb Non) (fun _ _ h => h)⟩
  dist := h.dist
  all := h.all
  ok := h.ok
theorem few_of {α : Type} [DecidableEq α] : ∀ {xs ys : List α}, xs.Pairwise (fun a b => a ≠ b) → (∀ x ∈ xs, x ∈ ys) → xs.length ≤ ys.length
  | [], ys, _, _ => Nat.zero_le _
  | x :: xs, ys, h, hs => by
    obtain ⟨h1, h2⟩ := List.pairwise_cons.1 h
    have hx : x ∈ ys := hs x (by simp)
    have := few_of (ys := ys.erase x) h2 (fun z hz => (List.mem_erase_of_ne (fun e => h1 z hz e.symm)).2 (hs z (List.mem_cons_of_mem _ hz)))
    rw [List.length_erase_of_mem hx] at this
    have := List.length_pos_of_mem hx
    simp only [List.length_cons]
    omega
theorem LineM.few {w : World} {p mh mk : Nat} {L : List Wel} {ks : List ((Int × Int) × KSl)} (h : LineM w p mh mk L ks) : ks.length ≤ L.length := by
  have h1 : (ks.map Prod.fst).Pairwise (fun a b => a ≠ b) := by
    rw [List.pairwise_map]
    exact h.kids.apart
  have := few_of (ys := L.map Wel.ref) h1 (fun x hx => by
    obtain ⟨q, hq, rfl⟩ := List.mem_map.1 hx
    obtain ⟨b, _, hn, h1, _⟩ := h.row q hq
    cases hk : Weave.kids L q.1 with
    | nil =>
      rw [hk] at hn
      simp at hn
      omega
    | cons y ys =>
      obtain ⟨e, he, hr, _⟩ := ((Weave.kids_spec h.ok.apart q.1).2 y).1 (by rw [hk]; simp)
      exact List.mem_map.2 ⟨e, he, hr⟩)
  simpa using this
/-- What an insertion leaves is a line. -/
theorem line_put {w W4 W5 W9 W10 : World} {F : Nat → Prop} {p mh mk : Nat} {L : List Wel} {ks : List ((Int × Int) × KSl)} {e : Wel} (h : LineM W4 p mh mk L ks) (hok : Weave.Ok (L ++ [e]))
    (h5 : PMap welC W5 24 mh (butP (hasL L) e.id ++ [(e.id, e)])) (k5 : Keep (Just mh) W4 W5) {b9 c9 : Nat}
    (ho : Owns W9 24 2 (.slice (some ⟨b9, 0, none⟩) ((Weave.kids L e.ref).length + 1) c9) ((Weave.kids L e.ref).length + 1) (idCells (Weave.ins e.id (Weave.kids L e.ref))))
    (k9 : Keep (At (((atP ks e.ref).getD KSl.none).enc)) W5 W9) (n9 : Near W5 (((atP ks e.ref).getD KSl.none).enc) (.slice (some ⟨b9, 0, none⟩) ((Weave.kids L e.ref).length + 1) c9))
    (h10 : PMap kslC W10 24 mk (butP ks (e.ref.1, e.ref.2) ++ [((e.ref.1, e.ref.2), ⟨some b9, (Weave.kids L e.ref).length + 1, c9⟩)])) (k10 : Keep (Just mk) W9 W10)
    (hF : Keep F w W4) (fl : ∀ k, F k → k < w.heap.size) (fp : F p) (fh : F mh ∨ w.heap.size ≤ mh) (fk : F mk ∨ w.heap.size ≤ mk) (fs : ∀ q ∈ ks, ∀ b, q.2.b = some b → F b ∨ w.heap.size ≤ b) :
    LStep w F p (L ++ [e]) W10 := by
  have hl := put_line h hok h5 k5 ho k9 n9 h10 k10
  have hat : ∀ g, At (((atP ks e.ref).getD KSl.none).enc) g → F g ∨ w.heap.size ≤ g := fun g hg => by
    cases ha : atP ks e.ref with
    | none => rw [ha] at hg; cases hg
    | some k =>
      rw [ha] at hg
      refine fs _ (atP_some ha) g ?_
      have hg' : k.enc.ownBlock = some g := hg
      rw [KSl.own] at hg'
      exact hg'
  have hk : Keep F w W10 := by
    have s1 := hF.size
    refine ((hF.trans k5 (fun i hi e' => ?_)).trans k9 (fun i hi e' => ?_)).trans k10 (fun i hi e' => ?_)
    · have e' : i = mh := e'
      subst e'
      exact fh.resolve_right (by omega)
    · exact (hat i e').resolve_right (by omega)
    · have e' : i = mk := e'
      subst e'
      exact fk.resolve_right (by omega)
  refine ⟨fun k => (F k ∨ w.heap.size ≤ k) ∧ k < W10.heap.size, ⟨⟨.inl fp, Nat.lt_of_lt_of_le (fl p fp) hk.size⟩, fun k h => h.2, .inr ⟨mh, mk, _, hl, ⟨fh, hl.has.lt⟩, ⟨fk, hl.kids.lt⟩, fun q hq b hb => ⟨?_, ?_⟩⟩⟩, hk, fun k h => h.1⟩
  · rcases List.mem_append.1 hq with hq | hq
    · exact fs q (mem_butP.1 hq).1 b hb
    · rw [List.mem_singleton.1 hq] at hb
      injection hb with hb
      subst hb
      rcases n9 b9 rfl with q' | q'
      · exact hat b9 q'
      · have s1 := hF.size
        have s2 := k5.size
        exact .inr (by omega)
  · obtain ⟨b', hb', _, _, ho'⟩ := hl.row q hq
    rw [hb] at hb'
    injection hb' with hb'
    subst hb'
    exact ho'.lt (by rw [KSl.own, hb])
theorem Keep.trans' {S T : Nat → Prop} {a b c : World} (h : Keep S a b) (k : Keep T b c) : Keep (fun i => S i ∨ T i) a c := (h.more (fun _ _ h => .inl h)).trans k (fun _ _ h => .inr h)
theorem Weave.i64_last {L : List Wel} {e1 e2 e3 e4 e5 : Int} (h : Weave.Ok (L ++ [⟨(e1, e2), (e3, e4), e5⟩])) : I64 e1 ∧ I64 e2 ∧ I64 e3 ∧ I64 e4 := by
  have h1 := Idn.may_i64 (h.may _ (List.mem_append_right _ (List.mem_singleton.2 rfl)))
  refine ⟨h1.1, h1.2, ?_⟩
  rcases h.ref _ (List.mem_append_right _ (List.mem_singleton.2 rfl)) with h2 | h2
  · injection h2 with h2 h3
    rw [h2, h3]
    unfold I64
    omega
  · exact Idn.may_i64 h2.1
theorem has_some (b : Nat) (w : World) : (binOp .eql 81 (.map (some b)) (.map none)).run Try.prog w = .ok (.bool false) w := by kernel_rfl
theorem has_none (w : World) : (binOp .eql 81 (.map none) (.map none)).run Try.prog w = .ok (.bool true) w := by kernel_rfl

set_option maxRecDepth 100000 in
set_option maxHeartbeats 4000000 in
theorem weave_put {w : World} {F : Nat → Prop} {p : Nat} {L : List Wel} (h0 : IsLine w F p L) (e : Wel) (hok : Weave.Ok (L ++ [e])) :
    Calls Try.prog 54 #[.pointer (some ⟨p, 0, none⟩), e.val] w fun r w' => r = .returned (.tuple #[]) ∧ LStep w F p (L ++ [e]) w' := by
  obtain ⟨⟨e1, e2⟩, ⟨e3, e4⟩, e5⟩ := e
  have HB := Lib.hid (grew_alloc w (.cells #[.int .i64 e1, .int .i64 e2, .int .i64 e3, .int .i64 e4, .int .i64 e5, .slice none 0 0] 49))
  have HE0 : Hid (Holds (w.alloc (.cells #[.int .i64 e1, .int .i64 e2, .int .i64 e3, .int .i64 e4, .int .i64 e5, .slice none 0 0] 49)) w.heap.size [.int .i64 e1, .int .i64 e2, .int .i64 e3, .int .i64 e4, .int .i64 e5, .slice none 0 0] 49) := Lib.hid (Holds.new w [.int .i64 e1, .int .i64 e2, .int .i64 e3, .int .i64 e4, .int .i64 e5, .slice none 0 0] 49)
  have HPL := Lib.hid (h0.lt p h0.at')
  have H0 := Lib.hid h0
  have HOK := Lib.hid hok
  have his := h0.is
  clear h0 hok
  simp only [Wel.val]
  rcases his with ⟨hL, hb⟩ | ⟨mh, mk, ks, hl, f1, f2, f3⟩
  · have HLN := Lib.hid hL
    have hnil := has_none
    have hmm := @run_makeMap Try.prog
    have HB0 := Lib.hid (hb.keep (Keep.of_grew HB.out Non) (fun h => h))
    have cc0 := HB0.out.cell 0 (by simp)
    simp only [List.getElem_cons_zero] at cc0
    generalize hW : (w.alloc (.cells #[.int .i64 e1, .int .i64 e2, .int .i64 e3, .int .i64 e4, .int .i64 e5, .slice none 0 0] 49)) = V at *
    have HSZ : Hid (V.heap.size = w.heap.size + 1) := Lib.hid (by rw [← hW]; exact Array.size_push _)
    have HB1 := Lib.hid (HB0.out.keep (Keep.of_grew (grew_alloc V (.map #[] 0)) Non) (fun h => h))
    have c1 := HB1.out.cell 0 (by simp)
    have c2 := HB1.out.frozen 0
    have HB2 := Lib.hid ((HB1.out.set 0 (.map (some V.heap.size)) (by simp)).keep (Keep.of_grew (grew_alloc _ (.map #[] 0)) Non) (fun h => h))
    have hsz2 : ((V.alloc (.map #[] 0)).setCell ⟨p, 0, none⟩ (.map (some V.heap.size))).heap.size = V.heap.size + 1 := by
      rw [show ((V.alloc (.map #[] 0)).setCell ⟨p, 0, none⟩ (.map (some V.heap.size))).heap.size = (V.alloc (.map #[] 0)).heap.size from Array.size_modify]
      exact Array.size_push _
    have HM2 := Lib.hid (PMap.nil kslC ((V.alloc (.map #[] 0)).setCell ⟨p, 0, none⟩ (.map (some V.heap.size))) 24)
    rw [hsz2] at HM2
    have c3 := HB2.out.cell 1 (by simp)
    have c4 := HB2.out.frozen 1
    simp only [List.getElem_cons_succ, List.getElem_cons_zero, List.set_cons_zero] at c1 c3
    have HPV : Hid (p < V.heap.size ∧ p ≠ V.heap.size ∧ p ≠ V.heap.size + 1 ∧ p ≠ w.heap.size) := Lib.hid (by
      have h1 := HPL.out
      have h2 := HSZ.out
      omega)
    have HK1 := Lib.hid ((Keep.of_grew (grew_alloc V (.map #[] 0)) (Just p)).trans (Keep.setCell _ p 0 (.map (some V.heap.size))) (fun _ _ h => h))
    have HK2 := Lib.hid ((Keep.of_grew (grew_alloc ((V.alloc (.map #[] 0)).setCell ⟨p, 0, none⟩ (.map (some V.heap.size))) (.map #[] 0)) (Just p)).trans (Keep.setCell _ p 1 (.map (some (V.heap.size + 1)))) (fun _ _ h => h))
    have HK := Lib.hid (HK1.out.trans HK2.out (fun _ _ h => h))
    have HE := Lib.hid (HE0.out.keep HK.out (fun e => HPV.out.2.2.2 e.symm))
    have HL : Hid (LineM ((((V.alloc (.map #[] 0)).setCell ⟨p, 0, none⟩ (.map (some V.heap.size))).alloc (.map #[] 0)).setCell ⟨p, 1, none⟩ (.map (some (V.heap.size + 1)))) p V.heap.size (V.heap.size + 1) L []) := Lib.hid (by
      rw [HLN.out]
      refine ⟨HB2.out.set 1 (.map (some (V.heap.size + 1))) (by simp), ?_, ?_, by omega, by simp, .nil, fun x h => absurd rfl h, ⟨.nil, by simp, by simp, by simp⟩⟩
      · exact ((PMap.nil welC V 24).keep (Keep.setCell _ p 0 (.map (some V.heap.size))) (fun e => HPV.out.2.1 e.symm)).keep HK2.out (fun e => HPV.out.2.1 e.symm)
      · exact HM2.out.keep (Keep.setCell _ p 1 (.map (some (V.heap.size + 1)))) (fun e => HPV.out.2.2.1 e.symm))
    have HKF := Lib.hid ((Keep.of_grew HB.out F).trans HK.out (fun i _ e => by have e : i = p := e; rw [e]; exact H0.out.at'))
    have HF : Hid ((F V.heap.size ∨ w.heap.size ≤ V.heap.size) ∧ (F (V.heap.size + 1) ∨ w.heap.size ≤ V.heap.size + 1) ∧ ∀ q ∈ ([] : List ((Int × Int) × KSl)), ∀ b, q.2.b = some b → F b ∨ w.heap.size ≤ b) := Lib.hid ⟨.inr (by have := HSZ.out; omega), .inr (by have := HSZ.out; omega), by simp⟩
    clear hb hL
    go_enter Try.func54, Try.ntmps54
    go_wp2_with fail
    clear HE0 HB HSZ HPV HK HK1 HK2 HM2 HB1 HB0 HB2 hsz2 c1 c2 c3 c4 cc0 hW hmm
    generalize ((((V.alloc (.map #[] 0)).setCell ⟨p, 0, none⟩ (.map (some V.heap.size))).alloc (.map #[] 0)).setCell ⟨p, 1, none⟩ (.map (some (V.heap.size + 1)))) = W at *
    generalize V.heap.size + 1 = mk at *
    generalize V.heap.size = mh at *
    obtain ⟨ks, hks⟩ : ∃ ks : List ((Int × Int) × KSl), ks = [] := ⟨_, rfl⟩
    rw [← hks] at HL HF
    clear hks
    have cc0 := HL.out.box.cell 0 (by simp)
    have b0 := HE.out.cell 0 (by simp)
    have b1 := HE.out.cell 1 (by simp)
    have b2 := HE.out.cell 2 (by simp)
    have b3 := HE.out.cell 3 (by simp)
    have b4 := HE.out.cell 4 (by simp)
    have b5 := HE.out.cell 5 (by simp)
    simp only [List.getElem_cons_succ, List.getElem_cons_zero] at cc0 b0 b1 b2 b3 b4 b5
    go_still_tail 7, (by kernel_rfl)
    repeat still_step
    change wpList _ _ _ _ _ W.drew
    have HL4 := Lib.hid (HL.out.below (grew_drew W))
    have hi64 : I64 e1 ∧ I64 e2 ∧ I64 e3 ∧ I64 e4 := Weave.i64_last HOK.out
    have hfew := HOK.out.few
    rw [List.length_append] at hfew
    obtain ⟨W5, hup5, h5, k5⟩ := PMap.store id_key HL4.out.has has_map (by unfold hasL; rw [List.length_map]; omega) hi64.1 hi64.2.1 (⟨(e1, e2), (e3, e4), e5⟩ : Wel)
    have H5 := Lib.hid h5
    have K5 := Lib.hid k5
    have HI := Lib.hid hi64
    have HFEW := Lib.hid hfew
    simp only [welC, Wel.val, keyV] at hup5
    clear h5 k5 hi64 hfew
    go_wp2_with fail
    have HNB : Hid (∀ S : Nat → Prop, (∀ k, S k → k ≠ p ∧ k ≠ w.heap.size) → ∀ W', Keep S W5 W' → W'.cell? ⟨p, 0, none⟩ = some (.map (some mh)) ∧ W'.cell? ⟨p, 1, none⟩ = some (.map (some mk)) ∧ W'.cell? ⟨w.heap.size, 0, none⟩ = some (.int .i64 e1) ∧ W'.cell? ⟨w.heap.size, 1, none⟩ = some (.int .i64 e2) ∧ W'.cell? ⟨w.heap.size, 2, none⟩ = some (.int .i64 e3) ∧ W'.cell? ⟨w.heap.size, 3, none⟩ = some (.int .i64 e4)) := Lib.hid (fun S hS W' hk => by
      have hh := ((HE.out.keep (Keep.of_grew (grew_drew W) Non) (fun h => h)).keep K5.out (fun e => by
        have e : w.heap.size = mh := e
        exact holds_map HE.out HL.out.has e)).keep hk (fun e => (hS _ e).2 rfl)
      have hb := (HL4.out.box.keep K5.out (holds_map HL4.out.box HL4.out.has)).keep hk (fun e => (hS _ e).1 rfl)
      exact ⟨hb.cell 0 (by simp), hb.cell 1 (by simp), hh.cell 0 (by simp), hh.cell 1 (by simp), hh.cell 2 (by simp), hh.cell 3 (by simp)⟩)
    obtain ⟨hat1, hat2⟩ := HL4.out.at_ref (e3, e4)
    have HO := Lib.hid (hat1.keep K5.out (fun g hg => own_map hat1 HL4.out.has hg))
    have HSORT := Lib.hid (Weave.kids_spec HL.out.ok.apart (e3, e4)).1
    have HKM := Lib.hid (HL4.out.kids.keep K5.out (fun e : mk = mh => HL.out.pm e.symm))
    have HAT : Hid (∀ g, At (((atP ks (e3, e4)).getD KSl.none).enc) g → g ≠ p ∧ g ≠ w.heap.size ∧ g ≠ mk ∧ g < W5.heap.size) := Lib.hid (fun g hg => ⟨holds_own HL4.out.box hat1 (by decide) hg, holds_own (HE.out.keep (Keep.of_grew (grew_drew W) Non) (fun h => h)) hat1 (by decide) hg, own_map hat1 HL4.out.kids hg, HO.out.lt hg⟩)
    have HFIN : Hid (∀ W9 W10 b9 c9, Owns W9 24 2 (.slice (some ⟨b9, 0, none⟩) ((Weave.kids L (e3, e4)).length + 1) c9) ((Weave.kids L (e3, e4)).length + 1) (idCells (Weave.ins (e1, e2) (Weave.kids L (e3, e4)))) → Keep (At (((atP ks (e3, e4)).getD KSl.none).enc)) W5 W9 → Near W5 (((atP ks (e3, e4)).getD KSl.none).enc) (.slice (some ⟨b9, 0, none⟩) ((Weave.kids L (e3, e4)).length + 1) c9) →
        PMap kslC W10 24 mk (butP ks (e3, e4) ++ [((e3, e4), ⟨some b9, (Weave.kids L (e3, e4)).length + 1, c9⟩)]) → Keep (Just mk) W9 W10 → LStep w F p (L ++ [⟨(e1, e2), (e3, e4), e5⟩]) W10) := Lib.hid (fun W9 W10 b9 c9 q1 q2 q3 q4 q5 =>
      line_put HL4.out HOK.out H5.out K5.out q1 q2 q3 q4 q5 (HKF.out.trans (Keep.of_grew (grew_drew W) F) (fun _ _ h => h)) H0.out.lt H0.out.at' HF.out.1 HF.out.2.1 HF.out.2.2)
    have hkl : (Weave.kids L (e3, e4)).length ≤ 4096 := by
      have h1 := few_of (HSORT.out.imp (fun h e => by subst e; simp [Idn.lt] at h)) (ys := L.map Wel.id) (fun x hx => by
        obtain ⟨e, he, _, hi⟩ := ((Weave.kids_spec HL.out.ok.apart (e3, e4)).2 x).1 hx
        exact List.mem_map.2 ⟨e, he, hi⟩)
      have h2 := HL.out.ok.few
      simp at h1
      omega
    have hksl : ks.length ≤ 1000000 := by
      have h1 := HL.out.few
      have h2 := HL.out.ok.few
      omega
    have HLK : Hid (∀ W', Below W5.heap.size W5 W' → (Instr.lookup 82 (.map (some mk)) (keyV (e3, e4)) false).run Try.prog W' = .ok (kslC.enc ((atP ks (e3, e4)).getD KSl.none)) W') := Lib.hid (fun W' hb => (HKM.out.keep (Keep.of_grew hb Non) (fun h => h)).get id_key kids_map zero_ksl HI.out.2.2.1 HI.out.2.2.2)
    have HRK := Lib.hid (show Weave.ins (e1, e2) (Weave.kids L (e3, e4)) = (Weave.kids L (e3, e4)).take (Idn.rank (Weave.kids L (e3, e4)) (e1, e2)) ++ (e1, e2) :: (Weave.kids L (e3, e4)).drop (Idn.rank (Weave.kids L (e3, e4)) (e1, e2)) from rfl)
    generalize Weave.ins (e1, e2) (Weave.kids L (e3, e4)) = zs at *
    generalize Weave.kids L (e3, e4) = ys at *
    clear hat1 hnil cc0 b0 b1 b2 b3 b4 b5 hup5
    generalize (atP ks (e3, e4)).getD KSl.none = k at *
    obtain ⟨kb, kn, kc⟩ := k
    have hat2 : kn = ys.length := hat2
    subst hat2
    simp only [KSl.enc] at HO HAT HFIN
    simp only [kslC, KSl.enc, keyV] at HLK
    generalize kb.map (fun b => (⟨b, 0, none⟩ : Addr)) = ka at *
    generalize hr : Idn.rank ys (e1, e2) = r at *
    have HR : Hid (r ≤ ys.length) := Lib.hid (by rw [← hr]; exact Idn.rank_le _ _)
    have HRKK : Hid (Idn.rank ys (e1, e2) = r) := Lib.hid hr
    have HKL := Lib.hid hkl
    have HKS := Lib.hid hksl
    clear hr hkl hksl
    have HNK : Hid (∀ k, Just mk k → k ≠ p ∧ k ≠ w.heap.size) := Lib.hid (fun k hk => by
      have hk : k = mk := hk
      subst hk
      exact ⟨fun e => holds_map HL.out.box HL.out.kids e.symm, fun e => holds_map HE.out HL.out.kids e.symm⟩)
    have hne : Nonempty (Later W5) := ⟨⟨W5, Below.refl _ _⟩⟩
    have g0 := fun (q : Later W5) => (HNB.out Non (fun _ h => h.elim) q.at' (Keep.of_grew q.bel Non)).2.1
    have g1 := fun (q : Later W5) => (HNB.out Non (fun _ h => h.elim) q.at' (Keep.of_grew q.bel Non)).2.2.1
    have g2 := fun (q : Later W5) => (HNB.out Non (fun _ h => h.elim) q.at' (Keep.of_grew q.bel Non)).2.2.2.1
    have g3 := fun (q : Later W5) => (HNB.out Non (fun _ h => h.elim) q.at' (Keep.of_grew q.bel Non)).2.2.2.2.1
    have g4 := fun (q : Later W5) => (HNB.out Non (fun _ h => h.elim) q.at' (Keep.of_grew q.bel Non)).2.2.2.2.2
    have g5 := fun (q : Later W5) => HLK.out q.at' q.bel
    have HRC : Hid (∀ q : Later W5, Calls Try.prog 73 #[.slice ka ys.length kc, .agg #[.int .i64 e1, .int .i64 e2]] q.at' fun e w' => e = .returned (.tuple #[.int .i64 r, .bool (decide ((e1, e2) ∈ ys))]) ∧ ∃ q : Later W5, w' = q.at') := Lib.hid (fun q => by
      rw [← HRKK.out]
      exact Calls.later (ident_Rank _ ys (e1, e2) _ ((own_ids_slice HO.out).below q.bel) HSORT.out (by have := HKL.out; omega)))
    generalize decide ((e1, e2) ∈ ys) = dd at HRC
    refine wp_region_later (by kernel_rfl) (by kernel_rfl) ?_
    repeat (go_big_quiet_step ((go_at_call 73; exact HRC.out _)))
    refine wpQuiet_nil ?_
    intro w8 hw'
    obtain ⟨q8, hw8⟩ := hw'
    have hb8 := q8.bel
    rw [← hw8] at hb8
    clear hw8 q8
    have HB8 := Lib.hid hb8
    clear hb8 g0 g1 g2 g3 g4 g5 hne
    go_wp2_with fail
    have HBD8 := Lib.hid (grew HB8.out (grew_drew w8))
    have HBA := Lib.hid (grew (grew HB8.out (grew_alloc w8 (.cells #[.int .i64 e1, .int .i64 e2] 24))) (grew_drew _))
    have HU : Hid (Holds (w8.alloc (.cells #[.int .i64 e1, .int .i64 e2] 24)).drew w8.heap.size (idL (e1, e2)) 24) := Lib.hid ((Holds.new w8 (idL (e1, e2)) 24).keep (Keep.of_grew (grew_drew _) Non) (fun h => h))
    have HOA := Lib.hid (HO.out.keep (Keep.of_grew HBA.out Non) (fun _ _ h => h))
    have HNE : Hid (∀ g, (Value.slice ka ys.length kc).ownBlock = some g → w8.heap.size ≠ g) := Lib.hid (fun g hg => by
      have h1 := (HAT.out g hg).2.2.2
      have h2 := HB8.out.size
      omega)
    obtain ⟨a0, a1, a2, a3, a4, a5⟩ := HNB.out Non (fun _ h => h.elim) w8.drew (Keep.of_grew HBD8.out Non)
    obtain ⟨d0, d1, d2, d3, d4, d5⟩ := HNB.out Non (fun _ h => h.elim) (w8.alloc (.cells #[.int .i64 e1, .int .i64 e2] 24)).drew (Keep.of_grew HBA.out Non)
    have lk1 := HLK.out _ HBD8.out
    have lk2 := HLK.out _ HBA.out
    go_region_held3 (fun w' => w'.cell? ⟨p, 0, none⟩ = some (.map (some mh)) ∧ w'.cell? ⟨p, 1, none⟩ = some (.map (some mk)) ∧ w'.cell? ⟨w.heap.size, 0, none⟩ = some (.int .i64 e1) ∧ w'.cell? ⟨w.heap.size, 1, none⟩ = some (.int .i64 e2) ∧ w'.cell? ⟨w.heap.size, 2, none⟩ = some (.int .i64 e3) ∧ w'.cell? ⟨w.heap.size, 3, none⟩ = some (.int .i64 e4))
    (first | exact ⟨a0, a1, a2, a3, a4, a5⟩ | exact ⟨d0, d1, d2, d3, d4, d5⟩ | exact ⟨c0, c1, c2, c3, c4, c5⟩ | exact ⟨f0, f1, f2, f3, f4, f5⟩)
    (first
      | (go_at_call 75; refine (ids_Insert _ _ _ r ys (e1, e2) HOA.out HR.out (by have := HKL.out; omega) HU.out HNE.out).mono ?_; rintro e w9 ⟨b9, c9, rfl, ho9, k9, n9⟩; have HK9 := Lib.hid ((Keep.of_grew HBA.out _).trans k9 (fun _ _ e => e)); obtain ⟨c0, c1, c2, c3, c4, c5⟩ := HNB.out _ (fun k hk => ⟨(HAT.out k hk).1, (HAT.out k hk).2.1⟩) w9 HK9.out; obtain ⟨w10, hup, h10, k10⟩ := PMap.store id_key (HKM.out.keep HK9.out (fun e => (HAT.out mk e).2.2.1 rfl)) kids_map HKS.out HI.out.2.2.1 HI.out.2.2.2 (⟨some b9, ys.length + 1, c9⟩ : KSl); have HST := Lib.hid (HFIN.out w9 w10 b9 c9 (by rw [HRK.out]; exact ho9) HK9.out (fun g hg => (n9 g hg).imp (fun h => h) (fun h => by have := HBA.out.size; omega)) h10 k10); simp only [kslC, KSl.enc, keyV, Option.map_some] at hup; have HK10 := Lib.hid (HK9.out.trans' k10); obtain ⟨f0, f1, f2, f3, f4, f5⟩ := HNB.out _ (fun k hk => hk.elim (fun hk => ⟨(HAT.out k hk).1, (HAT.out k hk).2.1⟩) (fun hk => HNK.out k hk)) w10 HK10.out; clear ho9 k9 n9 h10 k10))
    all_goals
      go_wp2_with fail
      go_end0
      exact ⟨rfl, HST.out⟩
  · have HE := HE0
    have cc0 : (w.alloc (.cells #[.int .i64 e1, .int .i64 e2, .int .i64 e3, .int .i64 e4, .int .i64 e5, .slice none 0 0] 49)).cell? ⟨p, 0, none⟩ = some (.map (some mh)) := (HB.out.cell (p := ⟨p, 0, none⟩) HPL.out).trans (hl.box.cell 0 (by simp))
    have cc1 : (w.alloc (.cells #[.int .i64 e1, .int .i64 e2, .int .i64 e3, .int .i64 e4, .int .i64 e5, .slice none 0 0] 49)).cell? ⟨p, 1, none⟩ = some (.map (some mk)) := (HB.out.cell (p := ⟨p, 1, none⟩) HPL.out).trans (hl.box.cell 1 (by simp))
    have HL := Lib.hid (hl.below HB.out)
    have HKF := Lib.hid (Keep.of_grew HB.out F)
    have HF : Hid ((F mh ∨ w.heap.size ≤ mh) ∧ (F mk ∨ w.heap.size ≤ mk) ∧ ∀ q ∈ ks, ∀ b, q.2.b = some b → F b ∨ w.heap.size ≤ b) := Lib.hid ⟨.inl f1, .inl f2, fun q hq b hb => .inl (f3 q hq b hb)⟩
    clear hl f1 f2 f3
    have hnil := has_some mh
    go_enter Try.func54, Try.ntmps54
    go_wp2_with fail
    generalize hW : (w.alloc (.cells #[.int .i64 e1, .int .i64 e2, .int .i64 e3, .int .i64 e4, .int .i64 e5, .slice none 0 0] 49)) = W at *
    clear hW
    clear HE0 HB cc0 cc1
    have cc0 := HL.out.box.cell 0 (by simp)
    have b0 := HE.out.cell 0 (by simp)
    have b1 := HE.out.cell 1 (by simp)
    have b2 := HE.out.cell 2 (by simp)
    have b3 := HE.out.cell 3 (by simp)
    have b4 := HE.out.cell 4 (by simp)
    have b5 := HE.out.cell 5 (by simp)
    simp only [List.getElem_cons_succ, List.getElem_cons_zero] at cc0 b0 b1 b2 b3 b4 b5
    go_still_tail 7, (by kernel_rfl)
    repeat still_step
    change wpList _ _ _ _ _ W.drew
    have HL4 := Lib.hid (HL.out.below (grew_drew W))
    have hi64 : I64 e1 ∧ I64 e2 ∧ I64 e3 ∧ I64 e4 := Weave.i64_last HOK.out
    have hfew := HOK.out.few
    rw [List.length_append] at hfew
    obtain ⟨W5, hup5, h5, k5⟩ := PMap.store id_key HL4.out.has has_map (by unfold hasL; rw [List.length_map]; omega) hi64.1 hi64.2.1 (⟨(e1, e2), (e3, e4), e5⟩ : Wel)
    have H5 := Lib.hid h5
    have K5 := Lib.hid k5
    have HI := Lib.hid hi64
    have HFEW := Lib.hid hfew
    simp only [welC, Wel.val, keyV] at hup5
    clear h5 k5 hi64 hfew
    go_wp2_with fail
    have HNB : Hid (∀ S : Nat → Prop, (∀ k, S k → k ≠ p ∧ k ≠ w.heap.size) → ∀ W', Keep S W5 W' → W'.cell? ⟨p, 0, none⟩ = some (.map (some mh)) ∧ W'.cell? ⟨p, 1, none⟩ = some (.map (some mk)) ∧ W'.cell? ⟨w.heap.size, 0, none⟩ = some (.int .i64 e1) ∧ W'.cell? ⟨w.heap.size, 1, none⟩ = some (.int .i64 e2) ∧ W'.cell? ⟨w.heap.size, 2, none⟩ = some (.int .i64 e3) ∧ W'.cell? ⟨w.heap.size, 3, none⟩ = some (.int .i64 e4)) := Lib.hid (fun S hS W' hk => by
      have hh := ((HE.out.keep (Keep.of_grew (grew_drew W) Non) (fun h => h)).keep K5.out (fun e => by
        have e : w.heap.size = mh := e
        exact holds_map HE.out HL.out.has e)).keep hk (fun e => (hS _ e).2 rfl)
      have hb := (HL4.out.box.keep K5.out (holds_map HL4.out.box HL4.out.has)).keep hk (fun e => (hS _ e).1 rfl)
      exact ⟨hb.cell 0 (by simp), hb.cell 1 (by simp), hh.cell 0 (by simp), hh.cell 1 (by simp), hh.cell 2 (by simp), hh.cell 3 (by simp)⟩)
    obtain ⟨hat1, hat2⟩ := HL4.out.at_ref (e3, e4)
    have HO := Lib.hid (hat1.keep K5.out (fun g hg => own_map hat1 HL4.out.has hg))
    have HSORT := Lib.hid (Weave.kids_spec HL.out.ok.apart (e3, e4)).1
    have HKM := Lib.hid (HL4.out.kids.keep K5.out (fun e : mk = mh => HL.out.pm e.symm))
    have HAT : Hid (∀ g, At (((atP ks (e3, e4)).getD KSl.none).enc) g → g ≠ p ∧ g ≠ w.heap.size ∧ g ≠ mk ∧ g < W5.heap.size) := Lib.hid (fun g hg => ⟨holds_own HL4.out.box hat1 (by decide) hg, holds_own (HE.out.keep (Keep.of_grew (grew_drew W) Non) (fun h => h)) hat1 (by decide) hg, own_map hat1 HL4.out.kids hg, HO.out.lt hg⟩)
    have HFIN : Hid (∀ W9 W10 b9 c9, Owns W9 24 2 (.slice (some ⟨b9, 0, none⟩) ((Weave.kids L (e3, e4)).length + 1) c9) ((Weave.kids L (e3, e4)).length + 1) (idCells (Weave.ins (e1, e2) (Weave.kids L (e3, e4)))) → Keep (At (((atP ks (e3, e4)).getD KSl.none).enc)) W5 W9 → Near W5 (((atP ks (e3, e4)).getD KSl.none).enc) (.slice (some ⟨b9, 0, none⟩) ((Weave.kids L (e3, e4)).length + 1) c9) →
        PMap kslC W10 24 mk (butP ks (e3, e4) ++ [((e3, e4), ⟨some b9, (Weave.kids L (e3, e4)).length + 1, c9⟩)]) → Keep (Just mk) W9 W10 → LStep w F p (L ++ [⟨(e1, e2), (e3, e4), e5⟩]) W10) := Lib.hid (fun W9 W10 b9 c9 q1 q2 q3 q4 q5 =>
      line_put HL4.out HOK.out H5.out K5.out q1 q2 q3 q4 q5 (HKF.out.trans (Keep.of_grew (grew_drew W) F) (fun _ _ h => h)) H0.out.lt H0.out.at' HF.out.1 HF.out.2.1 HF.out.2.2)
    have hkl : (Weave.kids L (e3, e4)).length ≤ 4096 := by
      have h1 := few_of (HSORT.out.imp (fun h e => by subst e; simp [Idn.lt] at h)) (ys := L.map Wel.id) (fun x hx => by
        obtain ⟨e, he, _, hi⟩ := ((Weave.kids_spec HL.out.ok.apart (e3, e4)).2 x).1 hx
        exact List.mem_map.2 ⟨e, he, hi⟩)
      have h2 := HL.out.ok.few
      simp at h1
      omega
    have hksl : ks.length ≤ 1000000 := by
      have h1 := HL.out.few
      have h2 := HL.out.ok.few
      omega
    have HLK : Hid (∀ W', Below W5.heap.size W5 W' → (Instr.lookup 82 (.map (some mk)) (keyV (e3, e4)) false).run Try.prog W' = .ok (kslC.enc ((atP ks (e3, e4)).getD KSl.none)) W') := Lib.hid (fun W' hb => (HKM.out.keep (Keep.of_grew hb Non) (fun h => h)).get id_key kids_map zero_ksl HI.out.2.2.1 HI.out.2.2.2)
    have HRK := Lib.hid (show Weave.ins (e1, e2) (Weave.kids L (e3, e4)) = (Weave.kids L (e3, e4)).take (Idn.rank (Weave.kids L (e3, e4)) (e1, e2)) ++ (e1, e2) :: (Weave.kids L (e3, e4)).drop (Idn.rank (Weave.kids L (e3, e4)) (e1, e2)) from rfl)
    generalize Weave.ins (e1, e2) (Weave.kids L (e3, e4)) = zs at *
    generalize Weave.kids L (e3, e4) = ys at *
    clear hat1 hnil cc0 b0 b1 b2 b3 b4 b5 hup5
    generalize (atP ks (e3, e4)).getD KSl.none = k at *
    obtain ⟨kb, kn, kc⟩ := k
    have hat2 : kn = ys.length := hat2
    subst hat2
    simp only [KSl.enc] at HO HAT HFIN
    simp only [kslC, KSl.enc, keyV] at HLK
    generalize kb.map (fun b => (⟨b, 0, none⟩ : Addr)) = ka at *
    generalize hr : Idn.rank ys (e1, e2) = r at *
    have HR : Hid (r ≤ ys.length) := Lib.hid (by rw [← hr]; exact Idn.rank_le _ _)
    have HRKK : Hid (Idn.rank ys (e1, e2) = r) := Lib.hid hr
    have HKL := Lib.hid hkl
    have HKS := Lib.hid hksl
    clear hr hkl hksl
    have HNK : Hid (∀ k, Just mk k → k ≠ p ∧ k ≠ w.heap.size) := Lib.hid (fun k hk => by
      have hk : k = mk := hk
      subst hk
      exact ⟨fun e => holds_map HL.out.box HL.out.kids e.symm, fun e => holds_map HE.out HL.out.kids e.symm⟩)
    have hne : Nonempty (Later W5) := ⟨⟨W5, Below.refl _ _⟩⟩
    have g0 := fun (q : Later W5) => (HNB.out Non (fun _ h => h.elim) q.at' (Keep.of_grew q.bel Non)).2.1
    have g1 := fun (q : Later W5) => (HNB.out Non (fun _ h => h.elim) q.at' (Keep.of_grew q.bel Non)).2.2.1
    have g2 := fun (q : Later W5) => (HNB.out Non (fun _ h => h.elim) q.at' (Keep.of_grew q.bel Non)).2.2.2.1
    have g3 := fun (q : Later W5) => (HNB.out Non (fun _ h => h.elim) q.at' (Keep.of_grew q.bel Non)).2.2.2.2.1
    have g4 := fun (q : Later W5) => (HNB.out Non (fun _ h => h.elim) q.at' (Keep.of_grew q.bel Non)).2.2.2.2.2
    have g5 := fun (q : Later W5) => HLK.out q.at' q.bel
    have HRC : Hid (∀ q : Later W5, Calls Try.prog 73 #[.slice ka ys.length kc, .agg #[.int .i64 e1, .int .i64 e2]] q.at' fun e w' => e = .returned (.tuple #[.int .i64 r, .bool (decide ((e1, e2) ∈ ys))]) ∧ ∃ q : Later W5, w' = q.at') := Lib.hid (fun q => by
      rw [← HRKK.out]
      exact Calls.later (ident_Rank _ ys (e1, e2) _ ((own_ids_slice HO.out).below q.bel) HSORT.out (by have := HKL.out; omega)))
    generalize decide ((e1, e2) ∈ ys) = dd at HRC
    refine wp_region_later (by kernel_rfl) (by kernel_rfl) ?_
    repeat (go_big_quiet_step ((go_at_call 73; exact HRC.out _)))
    refine wpQuiet_nil ?_
    intro w8 hw'
    obtain ⟨q8, hw8⟩ := hw'
    have hb8 := q8.bel
    rw [← hw8] at hb8
    clear hw8 q8
    have HB8 := Lib.hid hb8
    clear hb8 g0 g1 g2 g3 g4 g5 hne
    go_wp2_with fail
    have HBD8 := Lib.hid (grew HB8.out (grew_drew w8))
    have HBA := Lib.hid (grew (grew HB8.out (grew_alloc w8 (.cells #[.int .i64 e1, .int .i64 e2] 24))) (grew_drew _))
    have HU : Hid (Holds (w8.alloc (.cells #[.int .i64 e1, .int .i64 e2] 24)).drew w8.heap.size (idL (e1, e2)) 24) := Lib.hid ((Holds.new w8 (idL (e1, e2)) 24).keep (Keep.of_grew (grew_drew _) Non) (fun h => h))
    have HOA := Lib.hid (HO.out.keep (Keep.of_grew HBA.out Non) (fun _ _ h => h))
    have HNE : Hid (∀ g, (Value.slice ka ys.length kc).ownBlock = some g → w8.heap.size ≠ g) := Lib.hid (fun g hg => by
      have h1 := (HAT.out g hg).2.2.2
      have h2 := HB8.out.size
      omega)
    obtain ⟨a0, a1, a2, a3, a4, a5⟩ := HNB.out Non (fun _ h => h.elim) w8.drew (Keep.of_grew HBD8.out Non)
    obtain ⟨d0, d1, d2, d3, d4, d5⟩ := HNB.out Non (fun _ h => h.elim) (w8.alloc (.cells #[.int .i64 e1, .int .i64 e2] 24)).drew (Keep.of_grew HBA.out Non)
    have lk1 := HLK.out _ HBD8.out
    have lk2 := HLK.out _ HBA.out
    go_region_held3 (fun w' => w'.cell? ⟨p, 0, none⟩ = some (.map (some mh)) ∧ w'.cell? ⟨p, 1, none⟩ = some (.map (some mk)) ∧ w'.cell? ⟨w.heap.size, 0, none⟩ = some (.int .i64 e1) ∧ w'.cell? ⟨w.heap.size, 1, none⟩ = some (.int .i64 e2) ∧ w'.cell? ⟨w.heap.size, 2, none⟩ = some (.int .i64 e3) ∧ w'.cell? ⟨w.heap.size, 3, none⟩ = some (.int .i64 e4))
    (first | exact ⟨a0, a1, a2, a3, a4, a5⟩ | exact ⟨d0, d1, d2, d3, d4, d5⟩ | exact ⟨c0, c1, c2, c3, c4, c5⟩ | exact ⟨f0, f1, f2, f3, f4, f5⟩)
    (first
      | (go_at_call 75; refine (ids_Insert _ _ _ r ys (e1, e2) HOA.out HR.out (by have := HKL.out; omega) HU.out HNE.out).mono ?_; rintro e w9 ⟨b9, c9, rfl, ho9, k9, n9⟩; have HK9 := Lib.hid ((Keep.of_grew HBA.out _).trans k9 (fun _ _ e => e)); obtain ⟨c0, c1, c2, c3, c4, c5⟩ := HNB.out _ (fun k hk => ⟨(HAT.out k hk).1, (HAT.out k hk).2.1⟩) w9 HK9.out; obtain ⟨w10, hup, h10, k10⟩ := PMap.store id_key (HKM.out.keep HK9.out (fun e => (HAT.out mk e).2.2.1 rfl)) kids_map HKS.out HI.out.2.2.1 HI.out.2.2.2 (⟨some b9, ys.length + 1, c9⟩ : KSl); have HST := Lib.hid (HFIN.out w9 w10 b9 c9 (by rw [HRK.out]; exact ho9) HK9.out (fun g hg => (n9 g hg).imp (fun h => h) (fun h => by have := HBA.out.size; omega)) h10 k10); simp only [kslC, KSl.enc, keyV, Option.map_some] at hup; have HK10 := Lib.hid (HK9.out.trans' k10); obtain ⟨f0, f1, f2, f3, f4, f5⟩ := HNB.out _ (fun k hk => hk.elim (fun hk => ⟨(HAT.out k hk).1, (HAT.out k hk).2.1⟩) (fun hk => HNK.out k hk)) w10 HK10.out; clear ho9 k9 n9 h10 k10))
    all_goals
      go_wp2_with fail
      go_end0
      exact ⟨rfl, HST.out⟩
end Go.Proofs.Ytohmhbjiapflpaa
