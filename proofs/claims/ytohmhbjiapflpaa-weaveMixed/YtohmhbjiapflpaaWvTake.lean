/- What take of weave comes to. -/
import Derived.Test.YtohmhbjiapflpaaWvDropMath
import Derived.Test.YtohmhbjiapflpaaWvLine
namespace Go.Proofs.Ytohmhbjiapflpaa
open Go.RowKit Go.Maps
set_option linter.unusedVariables false

theorem line_take {w W4 W5 W9 W10 : World} {F : Nat → Prop} {p mh mk : Nat} {L : List Wel} {ks ks' : List ((Int × Int) × KSl)} {d : Wel} (h : LineM W4 p mh mk L ks) (hd : d ∈ L) (hno : Weave.kids L d.id = [])
    (h5 : PMap welC W5 24 mh (butP (hasL L) d.id)) (k5 : Keep (Just mh) W4 W5) {b9 c9 n : Nat} (hn : (Weave.kids (Weave.less L d.id) d.ref).length = n)
    (ho : Owns W9 24 2 (.slice (some ⟨b9, 0, none⟩) n c9) n (idCells (Weave.kids (Weave.less L d.id) d.ref)))
    (k9 : Keep (At (((atP ks d.ref).getD KSl.none).enc)) W5 W9) (n9 : (((atP ks d.ref).getD KSl.none).enc).ownBlock = some b9)
    (h10 : PMap kslC W10 24 mk ks') (k10 : Keep (Just mk) W9 W10)
    (hks : (1 ≤ n ∧ ks' = butP ks d.ref ++ [(d.ref, ⟨some b9, n, c9⟩)]) ∨ (n = 0 ∧ ks' = butP ks d.ref))
    (hF : Keep F w W4) (fl : ∀ k, F k → k < w.heap.size) (fp : F p) (fh : F mh) (fk : F mk) (fs : ∀ q ∈ ks, ∀ b, q.2.b = some b → F b) :
    LStep w F p (Weave.less L d.id) W10 := by
  have hl := take_line h hd hno h5 k5 hn ho k9 n9 h10 k10 hks
  have hb9 : F b9 := by
    cases ha : atP ks d.ref with
    | none => rw [ha] at n9; cases n9
    | some k =>
      rw [ha] at n9
      refine fs _ (atP_some ha) b9 ?_
      have hg' : k.enc.ownBlock = some b9 := n9
      rw [KSl.own] at hg'
      exact hg'
  have hk : Keep F w W10 := by
    refine ((hF.trans k5 (fun i hi e' => ?_)).trans k9 (fun i hi e' => ?_)).trans k10 (fun i hi e' => ?_)
    · have e' : i = mh := e'
      rw [e']; exact fh
    · have e' : (((atP ks d.ref).getD KSl.none).enc).ownBlock = some i := e'
      rw [n9] at e'
      injection e' with e'
      rw [← e']; exact hb9
    · have e' : i = mk := e'
      rw [e']; exact fk
  refine ⟨F, ⟨fp, fun k h => Nat.lt_of_lt_of_le (fl k h) hk.size, .inr ⟨mh, mk, _, hl, fh, fk, fun q hq b hb => ?_⟩⟩, hk, fun k h => .inl h⟩
  rcases hks with ⟨_, rfl⟩ | ⟨_, rfl⟩
  · rcases List.mem_append.1 hq with hq | hq
    · exact fs q (mem_butP.1 hq).1 b hb
    · rw [List.mem_singleton.1 hq] at hb
      injection hb with hb
      rw [← hb]; exact hb9
  · exact fs q (mem_butP.1 hq).1 b hb

theorem butP_snoc {α : Type} (es : List ((Int × Int) × α)) (k : Int × Int) (x : α) : butP (butP es k ++ [(k, x)]) k = butP es k := by
  unfold butP
  rw [List.filter_append, List.filter_filter]
  simp
theorem wp_delete_run {P : Program} {ops : Array Oper} {rest : List Oper} {o : Oper} {a : Act} {w w' : World} {Q : Exit → Act → World → Prop} {v : Value} (hg : o.guard = none) (s x : Operand) {t k : TypeId}
    (ho : o.op = .call { callee := .builtin .delete, args := #[s, x], argTypes := #[t, k] }) (hrun : (Builtin.delete_ #[t, k] o.type #[a.eval s, a.eval x]).run P w = .ok v w')
    (h : wpList P ops Q rest (a.put o.dst v) w') : wpList P ops Q (o :: rest) a w := by
  refine wpList_plain hg fun K hK => ?_
  have hk := hK _ _ h
  unfold Oper.wp
  simp [execOp, ho, resolve, invoke, builtin, hrun, Result.andThen]
  exact hk

set_option maxRecDepth 100000 in
set_option maxHeartbeats 4000000 in
theorem weave_take {w : World} {F : Nat → Prop} {p : Nat} {L : List Wel} (h0 : IsLine w F p L) (d : Wel) (hd : d ∈ L) (hno : Weave.kids L d.id = []) :
    Calls Try.prog 49 #[.pointer (some ⟨p, 0, none⟩), d.val] w fun r w' => r = .returned (.tuple #[]) ∧ LStep w F p (Weave.less L d.id) w' := by
  obtain ⟨⟨e1, e2⟩, ⟨e3, e4⟩, e5⟩ := d
  have HB := Lib.hid (grew_alloc w (.cells #[.int .i64 e1, .int .i64 e2, .int .i64 e3, .int .i64 e4, .int .i64 e5, .slice none 0 0] 49))
  have HE : Hid (Holds (w.alloc (.cells #[.int .i64 e1, .int .i64 e2, .int .i64 e3, .int .i64 e4, .int .i64 e5, .slice none 0 0] 49)) w.heap.size [.int .i64 e1, .int .i64 e2, .int .i64 e3, .int .i64 e4, .int .i64 e5, .slice none 0 0] 49) := Lib.hid (Holds.new w [.int .i64 e1, .int .i64 e2, .int .i64 e3, .int .i64 e4, .int .i64 e5, .slice none 0 0] 49)
  have H0 := Lib.hid h0
  have HD := Lib.hid (And.intro hd hno)
  have his := h0.is
  clear h0 hno
  simp only [Wel.val]
  rcases his with ⟨hL, hb⟩ | ⟨mh, mk, ks, hl, f1, f2, f3⟩
  · rw [hL] at hd
    cases hd
  have HL := Lib.hid (hl.below HB.out)
  have HKF := Lib.hid (Keep.of_grew HB.out F)
  have HF := Lib.hid (And.intro f1 (And.intro f2 f3))
  clear hl f1 f2 f3 hd
  go_enter Try.func49, Try.ntmps49
  go_wp2_with fail
  generalize hW : (w.alloc (.cells #[.int .i64 e1, .int .i64 e2, .int .i64 e3, .int .i64 e4, .int .i64 e5, .slice none 0 0] 49)) = W at *
  clear hW
  have cc0 := HL.out.box.cell 0 (by simp)
  have b0 := HE.out.cell 0 (by simp)
  have b1 := HE.out.cell 1 (by simp)
  simp only [List.getElem_cons_succ, List.getElem_cons_zero] at cc0 b0 b1
  go_still_tail 6, (by kernel_rfl)
  repeat still_step
  change wpList _ _ _ _ _ W.drew
  have HL4 := Lib.hid (HL.out.below (grew_drew W))
  have hi64 : I64 e1 ∧ I64 e2 ∧ I64 e3 ∧ I64 e4 := by
    have h1 := Idn.may_i64 (HL.out.ok.may _ HD.out.1)
    refine ⟨h1.1, h1.2, ?_⟩
    rcases HL.out.ok.ref _ HD.out.1 with h2 | h2
    · injection h2 with h2 h3
      rw [h2, h3]
      unfold I64
      omega
    · exact Idn.may_i64 h2.1
  obtain ⟨W5, hup5, h5, k5⟩ := PMap.drop id_key HL4.out.has has_map hi64.1 hi64.2.1 0
  have H5 := Lib.hid h5
  have K5 := Lib.hid k5
  have HI := Lib.hid hi64
  simp only [keyV] at hup5
  clear h5 k5 hi64
  go_wp2_with (at_builtin; refine wp_delete_run rfl (.tmp 9) (.tmp 11) rfl hup5 ?_)
  clear hup5 cc0 b0 b1
  have HNB : Hid (∀ S : Nat → Prop, (∀ k, S k → k ≠ p ∧ k ≠ w.heap.size) → ∀ W', Keep S W5 W' → W'.cell? ⟨p, 0, none⟩ = some (.map (some mh)) ∧ W'.cell? ⟨p, 1, none⟩ = some (.map (some mk)) ∧ W'.cell? ⟨w.heap.size, 0, none⟩ = some (.int .i64 e1) ∧ W'.cell? ⟨w.heap.size, 1, none⟩ = some (.int .i64 e2) ∧ W'.cell? ⟨w.heap.size, 2, none⟩ = some (.int .i64 e3) ∧ W'.cell? ⟨w.heap.size, 3, none⟩ = some (.int .i64 e4)) := Lib.hid (fun S hS W' hk => by
    have hh := ((HE.out.keep (Keep.of_grew (grew_drew W) Non) (fun h => h)).keep K5.out (fun e => by
      have e : w.heap.size = mh := e
      exact holds_map HE.out HL.out.has e)).keep hk (fun e => (hS _ e).2 rfl)
    have hb := (HL4.out.box.keep K5.out (holds_map HL4.out.box HL4.out.has)).keep hk (fun e => (hS _ e).1 rfl)
    exact ⟨hb.cell 0 (by simp), hb.cell 1 (by simp), hh.cell 0 (by simp), hh.cell 1 (by simp), hh.cell 2 (by simp), hh.cell 3 (by simp)⟩)
  obtain ⟨hat1, hat2⟩ := HL4.out.at_ref (e3, e4)
  have HO := Lib.hid (hat1.keep K5.out (fun g hg => own_map hat1 HL4.out.has hg))
  have HSORT := Lib.hid (Weave.kids_spec HL.out.ok.apart (e3, e4)).1
  have HKM := Lib.hid (HL4.out.kids.keep K5.out (fun e : mk = mh => HL.out.pm e.symm))
  have HAT : Hid (∀ g, At (((atP ks (e3, e4)).getD KSl.none).enc) g → g ≠ p ∧ g ≠ w.heap.size ∧ g ≠ mk ∧ g < W5.heap.size) := Lib.hid (fun g hg => ⟨holds_own HL4.out.box hat1 (by decide) hg, holds_own (HE.out.keep (Keep.of_grew (grew_drew W) Non) (fun h => h)) hat1 (by decide) hg, own_map hat1 HL4.out.kids hg, HO.out.lt hg⟩)
  obtain ⟨hrk, hless⟩ := Weave.less_rank HL.out.ok HD.out.1
  have hlen := Weave.less_len HL.out.ok HD.out.1
  have HFIN : Hid (∀ W9 W10 b9 c9 n ks', (Weave.kids (Weave.less L (e1, e2)) (e3, e4)).length = n → Owns W9 24 2 (.slice (some ⟨b9, 0, none⟩) n c9) n (idCells (Weave.kids (Weave.less L (e1, e2)) (e3, e4))) → Keep (At (((atP ks (e3, e4)).getD KSl.none).enc)) W5 W9 → (((atP ks (e3, e4)).getD KSl.none).enc).ownBlock = some b9 →
      PMap kslC W10 24 mk ks' → Keep (Just mk) W9 W10 → ((1 ≤ n ∧ ks' = butP ks (e3, e4) ++ [((e3, e4), ⟨some b9, n, c9⟩)]) ∨ (n = 0 ∧ ks' = butP ks (e3, e4))) → LStep w F p (Weave.less L (e1, e2)) W10) := Lib.hid (fun W9 W10 b9 c9 n ks' q0 q1 q2 q3 q4 q5 q6 =>
    line_take HL4.out HD.out.1 HD.out.2 H5.out K5.out q0 q1 q2 q3 q4 q5 q6 (HKF.out.trans (Keep.of_grew (grew_drew W) F) (fun _ _ h => h)) H0.out.lt H0.out.at' HF.out.1 HF.out.2.1 HF.out.2.2)
  have hkl : (Weave.kids L (e3, e4)).length ≤ 4096 := Nat.le_trans (Weave.kids_len _) HL.out.ok.few
  have hksl : ks.length ≤ 1000000 := by
    have h1 := HL.out.few
    have h2 := HL.out.ok.few
    omega
  have HLK : Hid (∀ W', Below W5.heap.size W5 W' → (Instr.lookup 82 (.map (some mk)) (keyV (e3, e4)) false).run Try.prog W' = .ok (kslC.enc ((atP ks (e3, e4)).getD KSl.none)) W') := Lib.hid (fun W' hb => (HKM.out.keep (Keep.of_grew hb Non) (fun h => h)).get id_key kids_map zero_ksl HI.out.2.2.1 HI.out.2.2.2)
  simp only at hrk hless hlen
  generalize Weave.kids (Weave.less L (e1, e2)) (e3, e4) = zs at *
  generalize Weave.kids L (e3, e4) = ys at *
  generalize (atP ks (e3, e4)).getD KSl.none = k at *
  obtain ⟨kb, kn, kc⟩ := k
  have hat2 : kn = ys.length := hat2
  subst hat2
  obtain ⟨bk, rfl⟩ : ∃ bk, kb = some bk := by
    cases kb with
    | none =>
      exfalso
      rcases hat1.2 with ⟨e', h2⟩ | ⟨g, cap, cur, e', _⟩
      · omega
      · cases e'
    | some bk => exact ⟨bk, rfl⟩
  generalize hr : Idn.rank ys (e1, e2) = r at *
  have HRKK : Hid (Idn.rank ys (e1, e2) = r) := Lib.hid hr
  obtain ⟨m, hm⟩ : ∃ m, ys.length = r + 1 + m := ⟨ys.length - (r + 1), by omega⟩
  simp only [KSl.enc, Option.map_some] at HO HAT HFIN
  simp only [kslC, KSl.enc, keyV, Option.map_some] at HLK
  have HHOLD : Hid (∃ cur, Holds W5 bk cur 24 ∧ cur.take (ys.length * 2) = idCells ys ∧ cur.length = kc * 2 ∧ ys.length ≤ kc ∧ kc ≤ maxLen) := Lib.hid (by
    rcases HO.out.2 with ⟨e', _⟩ | ⟨g, cap, cur, e', _, hg, h1, h2, h3, h4⟩
    · cases e'
    · injection e' with e1 e2 e3
      injection e1 with e1
      injection e1 with e1
      subst e1 e3
      exact ⟨cur.toList, by unfold Holds; rw [Array.toArray_toList]; exact hg, h4, by rw [Array.length_toList]; exact h3, h1, h2⟩)
  have HHL := Lib.hid (show ∀ n, zs.length = n → n + 1 = ys.length from fun n h => by omega)
  have HYS := Lib.hid (And.intro hm (And.intro hless hkl))
  have HKS := Lib.hid hksl
  rw [hm] at HLK
  clear hr hkl hksl hless hlen hrk hm hat1
  have HNK : Hid (∀ k, Just mk k → k ≠ p ∧ k ≠ w.heap.size) := Lib.hid (fun k hk => by
    have hk : k = mk := hk
    subst hk
    exact ⟨fun e => holds_map HL.out.box HL.out.kids e.symm, fun e => holds_map HE.out HL.out.kids e.symm⟩)
  have hne : Nonempty (Later W5) := ⟨⟨W5, Below.refl _ _⟩⟩
  have g0 := fun (q : Later W5) => (HNB.out Non (fun _ h => h.elim) q.at' (Keep.of_grew q.bel Non)).2.1
  have g1 := fun (q : Later W5) => (HNB.out Non (fun _ h => h.elim) q.at' (Keep.of_grew q.bel Non)).2.2.1
  have g2 := fun (q : Later W5) => (HNB.out Non (fun _ h => h.elim) q.at' (Keep.of_grew q.bel Non)).2.2.2.1
  have g3 := fun (q : Later W5) => (HNB.out Non (fun _ h => h.elim) q.at' (Keep.of_grew q.bel Non)).2.2.2.2.1
  have g4 := fun (q : Later W5) => (HNB.out Non (fun _ h => h.elim) q.at' (Keep.of_grew q.bel Non)).2.2.2.2.2
  have g5 := fun (q : Later W5) => HLK.out q.at' q.bel
  have HRC : Hid (∀ q : Later W5, Calls Try.prog 73 #[.slice (some ⟨bk, 0, none⟩) (r + 1 + m) kc, .agg #[.int .i64 e1, .int .i64 e2]] q.at' fun e w' => e = .returned (.tuple #[.int .i64 r, .bool (decide ((e1, e2) ∈ ys))]) ∧ ∃ q : Later W5, w' = q.at') := Lib.hid (fun q => by
    rw [← HYS.out.1, ← HRKK.out]
    exact Calls.later (ident_Rank _ ys (e1, e2) _ ((own_ids_slice HO.out).below q.bel) HSORT.out (by have := HYS.out.2.2; omega)))
  generalize decide ((e1, e2) ∈ ys) = dd at HRC
  refine wp_region_later (by kernel_rfl) (by kernel_rfl) ?_
  repeat (go_big_quiet_step ((go_at_call 73; exact HRC.out _)))
  refine wpQuiet_nil ?_
  intro w8 hw'
  obtain ⟨q8, hw8⟩ := hw'
  have hb8 := q8.bel
  rw [← hw8] at hb8
  clear hw8 q8
  have HB8 := Lib.hid hb8
  clear hb8 g0 g1 g2 g3 g4 g5 hne
  go_wp2_with fail
  have HBD8 := Lib.hid (grew HB8.out (grew_drew w8))
  have hw : IntKind.i64.wrap ((r : Int) + 1) = (r : Int) + 1 := by
    have h1 := HYS.out.1
    have h2 := HYS.out.2.2
    rw [IntKind.wrap_i64]
    omega
  obtain ⟨N, hN⟩ : ∃ N, r + m = N := ⟨_, rfl⟩
  have HN := Lib.hid hN
  have HDEL : Hid (Calls Try.prog 74 #[.slice (some ⟨bk, 0, none⟩) (r + 1 + m) kc, .int .i64 r, .int .i64 ((r : Int) + 1)] w8.drew fun e w' => e = .returned (.slice (some ⟨bk, 0, none⟩) N kc) ∧ Owns w' 24 2 (.slice (some ⟨bk, 0, none⟩) N kc) N (idCells zs) ∧ Keep (Just bk) w8.drew w') := Lib.hid (by
    obtain ⟨cur, hc1, hc2, hc3, hc4, hc5⟩ := HHOLD.out
    have h1 := HYS.out.1
    have h2 := HYS.out.2.2
    have h3 := HHL.out _ rfl
    have := ids_Delete_at w8.drew bk kc r m cur ys (hc1.keep (Keep.of_grew HBD8.out Non) (fun h => h)) h1 hc2 hc3 (by omega) (by omega)
    rw [hN] at this
    refine this.mono ?_
    rintro e w' ⟨he, cur', q1, q2, q3, q4⟩
    refine ⟨he, ⟨?_, .inr ⟨bk, kc, cur'.toArray, rfl, Nat.zero_le _, q1, by omega, hc5, by rw [List.size_toArray, q3], ?_⟩⟩, q4⟩
    · rw [idCells_len]
      omega
    · rw [List.toList_toArray, q2, HYS.out.2.1])
  clear hN
  obtain ⟨a0, a1, a2, a3, a4, a5⟩ := HNB.out Non (fun _ h => h.elim) w8.drew (Keep.of_grew HBD8.out Non)
  have lk1 := HLK.out _ HBD8.out
  have HJB : Hid (∀ k, Just bk k → k ≠ p ∧ k ≠ w.heap.size) := Lib.hid (fun k hk => by
    have hk : k = bk := hk
    subst hk
    exact ⟨(HAT.out k rfl).1, (HAT.out k rfl).2.1⟩)
  have HBM : Hid (¬ Just bk mk) := Lib.hid (fun e => (HAT.out mk (by have e : mk = bk := e; rw [e]; rfl)).2.2.1 rfl)
  go_region_held3 (fun w' => w'.cell? ⟨p, 0, none⟩ = some (.map (some mh)) ∧ w'.cell? ⟨p, 1, none⟩ = some (.map (some mk)) ∧ w'.cell? ⟨w.heap.size, 0, none⟩ = some (.int .i64 e1) ∧ w'.cell? ⟨w.heap.size, 1, none⟩ = some (.int .i64 e2) ∧ w'.cell? ⟨w.heap.size, 2, none⟩ = some (.int .i64 e3) ∧ w'.cell? ⟨w.heap.size, 3, none⟩ = some (.int .i64 e4))
  (first | exact ⟨a0, a1, a2, a3, a4, a5⟩ | exact ⟨c0, c1, c2, c3, c4, c5⟩ | exact ⟨f0, f1, f2, f3, f4, f5⟩)
  (first
    | (go_at_call 74; refine HDEL.out.mono ?_; rintro e w9 ⟨rfl, ho9, k9⟩; have HO9 := Lib.hid ho9; have HK9 := Lib.hid ((Keep.of_grew HBD8.out (Just bk)).trans k9 (fun _ _ e => e)); obtain ⟨c0, c1, c2, c3, c4, c5⟩ := HNB.out _ HJB.out w9 HK9.out; obtain ⟨w10, hup, h10, k10⟩ := PMap.store id_key (HKM.out.keep HK9.out HBM.out) kids_map HKS.out HI.out.2.2.1 HI.out.2.2.2 (⟨some bk, N, kc⟩ : KSl); have H10 := Lib.hid h10; have HKX := Lib.hid k10; have HK10 := Lib.hid (HK9.out.trans' k10); simp only [kslC, KSl.enc, keyV, Option.map_some] at hup; obtain ⟨f0, f1, f2, f3, f4, f5⟩ := HNB.out _ (fun k hk => hk.elim (HJB.out k) (HNK.out k)) w10 HK10.out; clear ho9 k9 h10 k10))
  go_wp2_with fail
  clear a0 a1 a2 a3 a4 a5 lk1 c0 c1 c2 c3 c4 c5 hup
  have hapart := H10.out.apart
  have HLK2 : Hid (∀ W', Below w10.heap.size w10 W' → (Instr.lookup 82 (.map (some mk)) (.agg #[.int .i64 e3, .int .i64 e4]) false).run Try.prog W' = .ok (.slice (some ⟨bk, 0, none⟩) N kc) W') := Lib.hid (fun W' hb => by
    have h := (H10.out.keep (Keep.of_grew hb Non) (fun h => h)).get id_key kids_map zero_ksl HI.out.2.2.1 HI.out.2.2.2
    rw [atP_mem hapart (List.mem_append_right _ (List.mem_singleton.2 rfl))] at h
    exact h)
  have HNB2 : Hid (∀ W', Below w10.heap.size w10 W' → W'.cell? ⟨p, 1, none⟩ = some (.map (some mk)) ∧ W'.cell? ⟨w.heap.size, 2, none⟩ = some (.int .i64 e3) ∧ W'.cell? ⟨w.heap.size, 3, none⟩ = some (.int .i64 e4)) := Lib.hid (fun W' hb => by
    obtain ⟨q0, q1, q2, q3, q4, q5⟩ := HNB.out _ (fun k hk => hk.elim (HJB.out k) (HNK.out k)) W' (HK10.out.trans (Keep.of_grew hb _) (fun _ _ h => h))
    exact ⟨q1, q4, q5⟩)
  clear hapart f0 f1 f2 f3 f4 f5
  have HZS : Hid (zs.length = N) := Lib.hid (by
    have h1 := HHL.out _ rfl
    have h2 := HYS.out.1
    have h3 := HN.out
    omega)
  have hne : Nonempty (Later w10) := ⟨⟨w10, Below.refl _ _⟩⟩
  have g1 := fun (q : Later w10) => (HNB2.out q.at' q.bel).1
  have g3 := fun (q : Later w10) => (HNB2.out q.at' q.bel).2.1
  have g4 := fun (q : Later w10) => (HNB2.out q.at' q.bel).2.2
  have g5 := fun (q : Later w10) => HLK2.out q.at' q.bel
  by_cases hz : N = 0
  · have z1 : ((N : Int) == 0) = true := by simp [hz]
    have z2 : decide ((N : Int) = 0) = true := decide_eq_true (by omega)
    have z3 : decide (N = 0) = true := decide_eq_true hz
    have HZ := Lib.hid hz
    clear hz
    refine wp_region_later (by kernel_rfl) (by kernel_rfl) ?_
    repeat (go_big_quiet_step (fail))
    refine wpQuiet_nil ?_
    intro w11 hw'
    obtain ⟨q8, hw8⟩ := hw'
    have hb8 := q8.bel
    rw [← hw8] at hb8
    clear hw8 q8
    have HB11 := Lib.hid hb8
    clear hb8 g1 g3 g4 g5 hne
    obtain ⟨k1, k2, k3⟩ := HNB2.out w11 HB11.out
    go_wp2_with fail
    go_still_tail 6, (by kernel_rfl)
    repeat still_step
    change wpList _ _ _ _ _ w11.drew
    obtain ⟨w12, hup12, h12, k12⟩ := PMap.drop id_key (H10.out.keep (Keep.of_grew (grew HB11.out (grew_drew w11)) Non) (fun h => h)) kids_map HI.out.2.2.1 HI.out.2.2.2 0
    rw [butP_snoc] at h12
    have HST := Lib.hid (HFIN.out w9 w12 bk kc N _ HZS.out HO9.out (HK9.out.more (fun i _ e => by have e : i = bk := e; rw [e]; rfl)) rfl h12 ((HKX.out.trans (Keep.of_grew (grew HB11.out (grew_drew w11)) _) (fun _ _ h => h)).trans k12 (fun _ _ h => h)) (.inr ⟨HZ.out, rfl⟩))
    simp only [keyV] at hup12
    clear h12 k12
    go_wp2_with (at_builtin; refine wp_delete_run rfl (.tmp 54) (.tmp 56) rfl hup12 ?_)
    go_end0
    exact ⟨rfl, HST.out⟩
  · have z1 : ((N : Int) == 0) = false := by simp; omega
    have z2 : decide ((N : Int) = 0) = false := decide_eq_false (by omega)
    have z3 : decide (N = 0) = false := decide_eq_false hz
    have HZ := Lib.hid hz
    clear hz
    refine wp_region_later (by kernel_rfl) (by kernel_rfl) ?_
    repeat (go_big_quiet_step (fail))
    refine wpQuiet_nil ?_
    intro w11 hw'
    obtain ⟨q8, hw8⟩ := hw'
    have hb8 := q8.bel
    rw [← hw8] at hb8
    clear hw8 q8
    have HB11 := Lib.hid hb8
    clear hb8 g1 g3 g4 g5 hne
    have HST := Lib.hid (HFIN.out w9 w11 bk kc N _ HZS.out HO9.out (HK9.out.more (fun i _ e => by have e : i = bk := e; rw [e]; rfl)) rfl (H10.out.keep (Keep.of_grew HB11.out Non) (fun h => h)) (HKX.out.trans (Keep.of_grew HB11.out _) (fun _ _ h => h)) (.inl ⟨by have := HZ.out; omega, rfl⟩))
    go_wp2_with fail
    go_end0
    exact ⟨rfl, HST.out⟩
end Go.Proofs.Ytohmhbjiapflpaa
