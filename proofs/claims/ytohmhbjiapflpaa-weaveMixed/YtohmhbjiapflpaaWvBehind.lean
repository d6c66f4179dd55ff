/- All that is an element's own, yielded. -/
import Derived.Test.YtohmhbjiapflpaaWvRead
import Derived.StillTailTactics
import Derived.OwnWalk
namespace Go.Proofs.Ytohmhbjiapflpaa
open Go.RowKit Go.Shelf
attribute [local go_sem] Oper.semAt_some
set_option linter.unusedVariables false

theorem slices_Backward (n : Nat) (a : Option Addr) (len cap : Nat) (w : World) : CallsIn Fence.wide n Try.prog 88 #[.slice a len cap] w fun e w' => e = .returned (.func (.func 94) #[] #[.pointer (some ⟨w.heap.size, 0, none⟩)]) ∧ w' = w.alloc (.cells #[.slice a len cap] 41) := by
  refine callsIn_of_wp Try.func88 rfl trivial ?_ rfl
  simp only [Try.ntmps88, List.size_toArray, List.length_cons, List.length_nil, Nat.reduceAdd, Nat.reduceSub, Array.replicate_succ, Array.replicate_zero, List.push_toArray, List.append_toArray, List.nil_append, List.cons_append]
  gi_wp2
  go_ret
  exact ⟨rfl, rfl⟩

/-- What behind(x) owes. -/
def BehindOwes (X G : Nat → Prop) (J Jx : List Wel → (Nat → Prop) → World → Prop) (pre0 own : List Wel) (xs : List Wel) (W : World) (e : Ending) (W' : World) : Prop :=
  (e = .returned (.bool true) ∧ ∃ G', J (pre0 ++ own) G' W' ∧ New G G' W ∧ Keep G W W') ∨ (e = .returned (.bool false) ∧ ∃ ys G', ys <+: xs ∧ Jx ys G' W' ∧ New G G' W ∧ Keep (fun k => G k ∨ X k) W W')

theorem boxes4 (W : World) (c3 c4 c5 c6 : List Value) (t3 t4 t5 t6 : TypeId) {W4 : World} (h : ((((W.alloc (.cells c3.toArray t3)).alloc (.cells c4.toArray t4)).alloc (.cells c5.toArray t5)).alloc (.cells c6.toArray t6)) = W4) :
    Holds W4 W.heap.size c3 t3 ∧ Holds W4 (W.heap.size + 1) c4 t4 ∧ Holds W4 (W.heap.size + 2) c5 t5 ∧ Holds W4 (W.heap.size + 3) c6 t6 ∧ W4.heap.size = W.heap.size + 4 ∧ Keep Non W W4 := by
  subst h
  have h1 := Holds.new W c3 t3
  have k2 := Keep.alloc Non (W.alloc (.cells c3.toArray t3)) (.cells c4.toArray t4)
  have h2 := Holds.new (W.alloc (.cells c3.toArray t3)) c4 t4
  have k3 := Keep.alloc Non ((W.alloc (.cells c3.toArray t3)).alloc (.cells c4.toArray t4)) (.cells c5.toArray t5)
  have h3 := Holds.new ((W.alloc (.cells c3.toArray t3)).alloc (.cells c4.toArray t4)) c5 t5
  have k4 := Keep.alloc Non (((W.alloc (.cells c3.toArray t3)).alloc (.cells c4.toArray t4)).alloc (.cells c5.toArray t5)) (.cells c6.toArray t6)
  have h4 := Holds.new (((W.alloc (.cells c3.toArray t3)).alloc (.cells c4.toArray t4)).alloc (.cells c5.toArray t5)) c6 t6
  simp only [World.size_alloc] at h2 h3 h4
  exact ⟨((h1.keep k2 (fun h => h)).keep k3 (fun h => h)).keep k4 (fun h => h), (h2.keep k3 (fun h => h)).keep k4 (fun h => h), h3.keep k4 (fun h => h), h4, by simp, (((Keep.alloc Non W _).trans k2 (fun _ _ h => h)).trans k3 (fun _ _ h => h)).trans k4 (fun _ _ h => h)⟩

theorem flat_pre {α β : Type} (f : α → List β) {ys zs : List α} (h : ys <+: zs) : ys.flatMap f <+: zs.flatMap f := by
  obtain ⟨r, rfl⟩ := h
  rw [List.flatMap_append]
  exact List.prefix_append _ _
theorem Idn.may_i64 {x : Int × Int} (h : Idn.may x = true) : I64 x.1 ∧ I64 x.2 := by
  have := of_decide_eq_true h
  unfold I64
  omega

set_option maxRecDepth 100000 in
set_option maxHeartbeats 8000000 in
theorem behind_step {L : List Wel} (hOk : Weave.Ok L) {w0 : World} {p : Nat} (hR : LRead w0 p L) (l B : Nat) (X : Nat → Prop) (J Jx : List Wel → (Nat → Prop) → World → Prop) (xs : List Wel) (hJ : Fr B J) (hJx : Fr B Jx) (hLo : Lo J) (hX : ∀ k, X k → k < B ∧ w0.heap.size ≤ k)
    (hY : ∀ m' pre e G W1, J pre G W1 → pre ++ [e] <+: xs → YieldAt Fence.wide m' Try.prog l #[e.val] W1 (RoundOwes X G J Jx (pre ++ [e]) W1))
    (x : Int × Int) (hx1 : I64 x.1) (hx2 : I64 x.2) (sub : (Int × Int) → List Wel) (O : List Wel) (hO : O = (Weave.back (Weave.kids L x)).flatMap (fun q => Weave.at' L q.2 :: sub q.2))
    (ihk : ∀ k ∈ Weave.kids L x, ∀ (m : Nat) (pre0 : List Wel) (W : World) (G : Nat → Prop), Below w0.heap.size w0 W → B ≤ W.heap.size → (∀ k, G k → w0.heap.size ≤ k) → pre0 ++ sub k <+: xs → J pre0 G W → CallsIn Fence.wide m Try.prog 76 #[.pointer (some ⟨p, 0, none⟩), idV k, .func (.yield l) #[] #[]] W (BehindOwes X G J Jx pre0 (sub k) xs W))
    (m : Nat) (pre0 : List Wel) (W : World) (G : Nat → Prop) (hBW : Below w0.heap.size w0 W) (hBs : B ≤ W.heap.size) (hG : ∀ k, G k → w0.heap.size ≤ k) (hpre : pre0 ++ O <+: xs) (hJ0 : J pre0 G W) :
      CallsIn Fence.wide m Try.prog 76 #[.pointer (some ⟨p, 0, none⟩), idV x, .func (.yield l) #[] #[]] W (BehindOwes X G J Jx pre0 O xs W) := by
    obtain ⟨mh, mk, hbox, hkid, hhas, _, _⟩ := hR.maps
    have IHK := Lib.hid ihk
    clear ihk
    obtain ⟨v, hsl, hlk⟩ := hkid x hx1 hx2
    obtain ⟨va, vc, e⟩ := hsl.shape
    subst e
    have HSL := Lib.hid hsl
    have HLK := Lib.hid hlk
    have HBW := Lib.hid hBW
    obtain ⟨x1, x2⟩ := x
    dsimp only [idV] at *
    clear hsl hlk
    refine callsIn_of_wp_marks Try.func76 rfl trivial ?_ rfl
    simp only [Try.ntmps76, List.size_toArray, List.length_cons, List.length_nil, Nat.reduceAdd, Nat.reduceSub, Array.replicate_succ, Array.replicate_zero, List.push_toArray, List.append_toArray, List.nil_append, List.cons_append]
    gi_wp2
    refine wpIn_wide.2 ?_
    generalize hW4 : ((((W.alloc (.cells #[.pointer (some ⟨p, 0, none⟩)] 25)).alloc (.cells #[.int .i64 x1, .int .i64 x2] 24)).alloc (.cells #[.func (.yield l) #[] #[]] 118)).alloc (.cells #[.bool false] 4)) = W4 at *
    obtain ⟨f3, f4, f5, f6, hs4, hk4⟩ := boxes4 W [.pointer (some ⟨p, 0, none⟩)] [.int .i64 x1, .int .i64 x2] [.func (.yield l) #[] #[]] [.bool false] 25 24 118 4 hW4
    clear hW4
    have HB4 : Hid (Below w0.heap.size w0 W4) := Lib.hid (HBW.out.trans (hk4.below HBW.out.size (fun _ h => h.elim)))
    have hlk4 := HLK.out _ (HB4.out.trans (((Keep.of_grew (grew_drew W4) Non).below HB4.out.size (fun _ h => h.elim))))
    have c1 : W4.cell? ⟨p, 1, none⟩ = some mk := (HB4.out.cell (p := ⟨p, 1, none⟩) hbox.lt).trans (hbox.cell 1 (by simp))
    have y3 := f3.cell 0 (by simp)
    have y4 := f4.cell 0 (by simp)
    have z4 := f4.cell 1 (by simp)
    simp only [List.getElem_cons_zero, List.getElem_cons_succ] at y3 y4 z4
    go_still_tail 6, (by kernel_rfl)
    change wpList _ _ _ _ _ (World.drew _)
    go_wp2_with (go_at_call 88; refine (callsIn_wide.1 (slices_Backward 0 _ _ _ _)).mono ?_; rintro e w' ⟨rfl, rfl⟩)
    gi_wp2
    have hsz5 : (W4.alloc (.cells #[.slice va (Weave.kids L (x1, x2)).length vc] 41)).drew.heap.size = W.heap.size + 5 := by show (W4.alloc _).heap.size = _; simp; omega
    have k5 : Keep Non W4 (W4.alloc (.cells #[.slice va (Weave.kids L (x1, x2)).length vc] 41)).drew := (Keep.alloc Non W4 _).trans (Keep.of_grew (grew_drew _) Non) (fun _ _ h => h)
    have f7 : Holds (W4.alloc (.cells #[.slice va (Weave.kids L (x1, x2)).length vc] 41)).drew (W.heap.size + 4) [.slice va (Weave.kids L (x1, x2)).length vc] 41 := by have := Holds.new W4 [.slice va (Weave.kids L (x1, x2)).length vc] 41; rw [hs4] at this; exact this
    clear y3 y4 z4 hlk4 c1
    generalize (W4.alloc (.cells #[.slice va (Weave.kids L (x1, x2)).length vc] 41)).drew = W5 at *
    have g3 := f3.keep k5 (fun h => h)
    have g5 : Holds W5 (W.heap.size + 1 + 1) [.func (.yield l) #[] #[]] 118 := f5.keep k5 (fun h => h)
    have g6 : Holds W5 (W.heap.size + 1 + 1 + 1) [.bool false] 4 := f6.keep k5 (fun h => h)
    have HB5 : Hid (Below w0.heap.size w0 W5) := Lib.hid (HB4.out.trans (k5.below HB4.out.size (fun _ h => h.elim)))
    have K05 : Hid (Keep Non W W5) := Lib.hid (hk4.trans k5 (fun _ _ h => h))
    have hn0 := HBW.out.size
    have HGW := Lib.hid (hLo _ _ _ hJ0)
    have HOWN := Lib.hid hO
    clear hO
    have HKS := Lib.hid ((Weave.kids_spec hOk.apart (x1, x2)).2)
    have HKL := Lib.hid (Nat.le_trans (Weave.kids_len (L := L) (x1, x2)) hOk.few)
    have HJ5 : Hid (J pre0 G W5) := Lib.hid (hJ _ _ _ _ hJ0 (K05.out.more (fun _ _ h => h.elim)))
    have HPRE := Lib.hid hpre
    have HSEQ := Lib.hid (back_deep (m - 1) (W.heap.size + 4) w0 W5 _ _ HSL.out (Nat.le_trans HKL.out (by omega)) HB5.out (by omega) (f7.cell 0 (by simp)))
    clear f3 f4 f5 f6 hk4 HB4 hpre hJ0 k5
    generalize hks : Weave.kids L (x1, x2) = ks at *
    refine wpIn_rangeDeep (α := Nat × (Int × Int)) (m := m) (gf := 94) (bd := #[]) (lb := #[.pointer (some ⟨W.heap.size + 4, 0, none⟩)]) rfl (enters_of Try.func94 (by kernel_rfl) rfl)
      HSEQ.out (Below.refl _ _) (fun k h => h.elim (fun h => by omega) (fun h => by omega)) (fun _ => rfl)
      (fun k => X k ∨ k = W.heap.size + 1 + 1 + 1) (fun k h => h.elim (fun h => by have := hX _ h; omega) (fun h => by omega)) (fun k h h' => by
        rcases h with h | h <;> rcases h' with h' | h'
        · have := hX _ h; omega
        · have := hX _ h; omega
        · omega
        · omega)
      (fun pre G' Wv => J (pre0 ++ pre.flatMap (fun q => Weave.at' L q.2 :: sub q.2)) G' Wv ∧ (Holds Wv W.heap.size [.pointer (some ⟨p, 0, none⟩)] 25 ∧ Holds Wv (W.heap.size + 1 + 1) [.func (.yield l) #[] #[]] 118 ∧ Holds Wv (W.heap.size + 1 + 1 + 1) [.bool false] 4) ∧ Below w0.heap.size w0 Wv ∧ (∀ k, G' k → w0.heap.size ≤ k) ∧ ∀ k, W.heap.size ≤ k → k < W.heap.size + 5 → ¬ G' k)
      (fun c pre G' Wv => c = .ret ∧ ∃ ys, ys <+: xs ∧ Jx ys G' Wv ∧ Holds Wv (W.heap.size + 1 + 1 + 1) [.bool false] 4)
      (fun pre G' A B' ⟨h1, ⟨h2, h3, h4⟩, h5, h6, h7⟩ hk => ⟨hJ _ _ _ _ h1 (hk.more (fun i _ h => ⟨by omega, h.2⟩)), ⟨h2.keep hk (fun h => by omega), h3.keep hk (fun h => by omega), h4.keep hk (fun h => by omega)⟩, h5.trans (hk.below h5.size (fun i h => by omega)), h6, h7⟩)
      (fun c pre G' A B' ⟨h0, q, h1, h2, h3⟩ hk => ⟨h0, q, h1, hJx _ _ _ _ h2 (hk.more (fun i _ h => ⟨by omega, h.2⟩)), h3.keep hk (fun h => by omega)⟩)
      (fun pre G' A h => hLo _ _ _ h.1)
      G (fun k h hg => h.elim (fun h => by have := hG _ hg; omega) (fun h => by have := HGW.out _ hg; omega))
      ⟨by simpa using HJ5.out, ⟨g3, g5, g6⟩, HB5.out, hG, fun k h1 h2 h3 => by have := HGW.out _ h3; omega⟩
      (fun x a' B0 Wv => ∃ Bx, B0 ≤ Bx ∧ Holds Wv Bx [.int .i64 x.2.1, .int .i64 x.2.2] 24 ∧ a' = { tmps := #[.pointer (some ⟨p, 0, none⟩), .agg #[.int .i64 x1, .int .i64 x2], .func (.yield l) #[] #[], .pointer (some ⟨W.heap.size, 0, none⟩), .pointer (some ⟨W.heap.size + 1, 0, none⟩), .pointer (some ⟨W.heap.size + 1 + 1, 0, none⟩), .pointer (some ⟨W.heap.size + 1 + 1 + 1, 0, none⟩), undef, .pointer (some ⟨Bx, 0, none⟩), .pointer (some ⟨p, 0, none⟩), .pointer (some ⟨p, 0, none⟩), .pointer (some ⟨p, 1, none⟩), mk, .agg #[.int .i64 x1, .int .i64 x2], .slice va ks.length vc, .func (.func 94) #[] #[.pointer (some ⟨W.heap.size + 4, 0, none⟩)], .int .i64 (x.1 : Nat), idV x.2, undef, undef, undef, undef, undef, undef, undef, undef, undef, undef, undef, undef, undef, undef, undef, undef], defers := [] })
      ?assign ?body ?done ?stop
    case assign =>
      rintro l' pre ⟨i, k1, k2⟩ G' Wv K ⟨h1, ⟨h2, h3, h4⟩, h5, h6, h7⟩ hK
      dsimp only [idV]
      gi_wp2
      have hka := Keep.alloc Non Wv (.cells #[.int .i64 k1, .int .i64 k2] 24)
      exact hK _ _ hka ⟨hJ _ _ _ _ h1 (hka.more (fun _ _ h => h.elim)), ⟨h2.keep hka (fun h => h), h3.keep hka (fun h => h), h4.keep hka (fun h => h)⟩, h5.trans (hka.below h5.size (fun _ h => h.elim)), h6, h7⟩ (fun W'' hk => ⟨Wv.heap.size, Nat.le_refl _, (Holds.new Wv [.int .i64 k1, .int .i64 k2] 24).keep hk (fun h => by omega), rfl⟩)
    case body =>
      rintro l' pre ⟨i, k1, k2⟩ a' B0 G' Wv hl1 hl2 hgl ⟨h1, ⟨h2, h3, h4⟩, h5, h6, h7⟩ hB0 hGB ⟨Bx, hBx, hX2, rfl⟩ hpx
      dsimp only [idV] at *
      have hkm : (k1, k2) ∈ ks := by
        have : (i, (k1, k2)) ∈ Weave.back ks := hpx.subset (by simp)
        exact Weave.back_mem this
      obtain ⟨d, hd, hdr, hdi⟩ := (HKS.out (k1, k2)).1 hkm
      have hat : Weave.at' L (k1, k2) = d := by rw [← hdi]; exact Weave.Ok.at_eq hOk.apart hd
      have hmay := Idn.may_i64 (hOk.may d hd)
      rw [hdi] at hmay
      have HP : Hid (pre0 ++ (pre ++ [(i, (k1, k2))]).flatMap (fun q => Weave.at' L q.2 :: sub q.2) <+: xs) := Lib.hid (by
        refine List.IsPrefix.trans ?_ HPRE.out
        rw [HOWN.out]
        exact (List.prefix_append_right_inj _).2 (flat_pre _ hpx))
      have HFL : Hid (pre0 ++ (pre ++ [(i, (k1, k2))]).flatMap (fun q => Weave.at' L q.2 :: sub q.2) = (pre0 ++ pre.flatMap (fun q => Weave.at' L q.2 :: sub q.2) ++ [d]) ++ sub (k1, k2)) := Lib.hid (by
        rw [List.flatMap_append, List.flatMap_cons, List.flatMap_nil, List.append_nil, hat]
        simp)
      generalize hQ0 : pre0 ++ pre.flatMap (fun q => Weave.at' L q.2 :: sub q.2) = P0 at *
      clear hQ0
      have hW6 : Keep Non Wv Wv.drew := Keep.of_grew (grew_drew _) Non
      have HSOF : Hid (∀ (Wx : World) (Gx : Nat → Prop), Keep Gx Wv Wx → (∀ k, k < Wv.heap.size → Gx k → G' k ∨ X k) → (Wx.cell? ⟨W.heap.size, 0, none⟩ = some (.pointer (some ⟨p, 0, none⟩)) ∧ Wx.cell? ⟨W.heap.size + 1 + 1, 0, none⟩ = some (.func (.yield l) #[] #[]) ∧ Wx.cell? ⟨p, 0, none⟩ = some mh ∧ Wx.cell? ⟨Bx, 0, none⟩ = some (.int .i64 k1) ∧ Wx.cell? ⟨Bx, 1, none⟩ = some (.int .i64 k2) ∧ (Instr.lookup 81 mh (.agg #[.int .i64 k1, .int .i64 k2]) false).run Try.prog Wx = .ok d.val Wx) ∧ (Holds Wx W.heap.size [.pointer (some ⟨p, 0, none⟩)] 25 ∧ Holds Wx (W.heap.size + 1 + 1) [.func (.yield l) #[] #[]] 118 ∧ Holds Wx (W.heap.size + 1 + 1 + 1) [.bool false] 4) ∧ Below w0.heap.size w0 Wx) := Lib.hid (fun Wx Gx hk hs => by
        have q2 : ¬ Gx W.heap.size := fun h => by
          rcases hs _ h2.lt h with h | h
          · exact h7 _ (by omega) (by omega) h
          · have := hX _ h; omega
        have q3 : ¬ Gx (W.heap.size + 1 + 1) := fun h => by
          rcases hs _ h3.lt h with h | h
          · exact h7 _ (by omega) (by omega) h
          · have := hX _ h; omega
        have q4 : ¬ Gx (W.heap.size + 1 + 1 + 1) := fun h => by
          rcases hs _ h4.lt h with h | h
          · exact h7 _ (by omega) (by omega) h
          · have := hX _ h; omega
        have qx : ¬ Gx Bx := fun h => by
          rcases hs _ hX2.lt h with h | h
          · have := hGB _ h; omega
          · have := hX _ h; omega
        have hbx : Below w0.heap.size w0 Wx := h5.trans ((hk.more (S' := fun k => G' k ∨ X k) hs).below h5.size (fun k h => h.elim (h6 k) (fun h => (hX _ h).2)))
        refine ⟨⟨(h2.keep hk q2).cell 0 (by simp), (h3.keep hk q3).cell 0 (by simp), (hbx.cell (p := ⟨p, 0, none⟩) hbox.lt).trans (hbox.cell 0 (by simp)), (hX2.keep hk qx).cell 0 (by simp), (hX2.keep hk qx).cell 1 (by simp), ?_⟩, ⟨h2.keep hk q2, h3.keep hk q3, h4.keep hk q4⟩, hbx⟩
        have := hhas d hd Wx hbx
        rw [hdi] at this
        exact this)
      gi_wp2
      refine wpIn_region_any (by kernel_rfl) ?_
      try (change wpAnyIn _ _ _ _ _ _ _ _ _ (World.drew _))
      have HJ6 : Hid (J P0 G' Wv.drew) := Lib.hid (hJ _ _ _ _ h1 (hW6.more (fun _ _ h => h.elim)))
      have HS := Lib.hid (HSOF.out Wv.drew Non hW6 (fun _ _ h => h.elim)).1
      have HK6 := Lib.hid hW6
      generalize Wv.drew = W6 at *
      refine wpAnyS.any (S := fun w8 => w8.cell? ⟨W.heap.size, 0, none⟩ = some (.pointer (some ⟨p, 0, none⟩)) ∧ w8.cell? ⟨W.heap.size + 1 + 1, 0, none⟩ = some (.func (.yield l) #[] #[]) ∧ w8.cell? ⟨p, 0, none⟩ = some mh ∧ w8.cell? ⟨Bx, 0, none⟩ = some (.int .i64 k1) ∧ w8.cell? ⟨Bx, 1, none⟩ = some (.int .i64 k2) ∧ (Instr.lookup 81 mh (.agg #[.int .i64 k1, .int .i64 k2]) false).run Try.prog w8 = .ok d.val w8) ?_
      refine wpAnyS_take (i := 0) (v := .func (.yield l) #[] #[]) (fun _ => trivial) rfl (by kernel_rfl) (by kernel_rfl) (by kernel_rfl) (by kernel_rfl) (fun _ _ _ h => h) HS.out (.inl ⟨by rfl, fun w8 h8 => (by obtain ⟨s1, s2, s3, s4, s5, s6⟩ := h8; go_simp)⟩) ?_
      refine wpAnyS_take (i := 1) (v := .pointer (some ⟨p, 0, none⟩)) (fun _ => trivial) rfl (by kernel_rfl) (by kernel_rfl) (by kernel_rfl) (by kernel_rfl) (fun _ _ _ h => h) HS.out (.inl ⟨by rfl, fun w8 h8 => (by obtain ⟨s1, s2, s3, s4, s5, s6⟩ := h8; go_simp)⟩) ?_
      refine wpAnyS_take (i := 2) (v := .pointer (some ⟨p, 0, none⟩)) (fun _ => trivial) rfl (by kernel_rfl) (by kernel_rfl) (by kernel_rfl) (by kernel_rfl) (fun _ _ _ h => h) HS.out (.inl ⟨by rfl, fun w8 h8 => (by obtain ⟨s1, s2, s3, s4, s5, s6⟩ := h8; go_simp)⟩) ?_
      refine wpAnyS_take (i := 3) (v := .pointer (some ⟨p, 0, none⟩)) (fun _ => trivial) rfl (by kernel_rfl) (by kernel_rfl) (by kernel_rfl) (by kernel_rfl) (fun _ _ _ h => h) HS.out (.inl ⟨by rfl, fun w8 h8 => (by obtain ⟨s1, s2, s3, s4, s5, s6⟩ := h8; go_simp)⟩) ?_
      refine wpAnyS_take (i := 4) (v := mh) (fun _ => trivial) rfl (by kernel_rfl) (by kernel_rfl) (by kernel_rfl) (by kernel_rfl) (fun _ _ _ h => h) HS.out (.inl ⟨by rfl, fun w8 h8 => (by obtain ⟨s1, s2, s3, s4, s5, s6⟩ := h8; go_simp)⟩) ?_
      refine wpAnyS_take (i := 5) (v := .agg #[.int .i64 k1, .int .i64 k2]) (fun _ => trivial) rfl (by kernel_rfl) (by kernel_rfl) (by kernel_rfl) (by kernel_rfl) (fun _ _ _ h => h) HS.out (.inl ⟨by rfl, fun w8 h8 => (by obtain ⟨s1, s2, s3, s4, s5, s6⟩ := h8; go_simp)⟩) ?_
      refine wpAnyS_take (i := 6) (v := d.val) (fun _ => trivial) rfl (by kernel_rfl) (by kernel_rfl) (by kernel_rfl) (by kernel_rfl) (fun _ _ _ h => h) HS.out (.inl ⟨by rfl, fun w8 h8 => (by obtain ⟨s1, s2, s3, s4, s5, s6⟩ := h8; go_simp)⟩) ?_
      have HPD : Hid (P0 ++ [d] <+: xs) := Lib.hid (by have := HP.out; rw [HFL.out] at this; exact (List.prefix_append _ _).trans this)
      obtain ⟨fn, tmps, assign, body, hy, hR⟩ := hY (m - 1 - 1 - 1) P0 d G' W6 HJ6.out HPD.out
      refine wpAnyS_one (i := 7) (by kernel_rfl) rfl (fun K hK => ?_)
      go_simp
      refine ⟨fun h => (by cases h), ?_⟩
      refine (round_inRound (round_deep hR)).mono ?_
      rintro e W3 (⟨rfl, G2, hJ3, hn3, hk3⟩ | ⟨rfl, G2, hJ3, hn3, hk3⟩)
      · have HK3 : Hid (Keep G' Wv W3) := Lib.hid ((HK6.out.more (fun _ _ h => h.elim)).trans hk3 (fun _ _ h => h))
        have HS3 := Lib.hid (HSOF.out W3 G' HK3.out (fun _ _ h => .inl h))
        have HN3 : Hid (New G' G2 Wv) := Lib.hid (fun k h => (hn3 k h).imp id (fun h => Nat.le_trans HK6.out.size h))
        have HG2 : Hid (∀ k, G2 k → w0.heap.size ≤ k) := Lib.hid (fun k h => (HN3.out k h).elim (h6 k) (fun h => Nat.le_trans h5.size h))
        have HC := Lib.hid (IHK.out (k1, k2) hkm (m - 1 - 1 - 1) _ W3 G2 HS3.out.2.2 (by have := HK3.out.size; omega) HG2.out (by rw [← HFL.out]; exact HP.out) hJ3)
        clear hJ3 hn3 hk3
        refine hK _ _ HS3.out.1 ?_
        clear hK K
        refine wpAnyS_take (i := 8) (v := .bool false) (fun _ => trivial) rfl (by kernel_rfl) (by kernel_rfl) (by kernel_rfl) (by kernel_rfl) (fun _ _ _ h => h) HS3.out.1 (.inl ⟨by rfl, fun w8 h8 => (by obtain ⟨s1, s2, s3, s4, s5, s6⟩ := h8; go_simp)⟩) ?_
        refine wpAnyS_take (i := 9) (v := .bool false) (fun _ => trivial) rfl (by kernel_rfl) (by kernel_rfl) (by kernel_rfl) (by kernel_rfl) (fun _ _ _ h => h) HS3.out.1 (.inl ⟨by rfl, fun w8 h8 => (by obtain ⟨s1, s2, s3, s4, s5, s6⟩ := h8; go_simp)⟩) ?_
        refine wpAnyS_take (i := 10) (v := .pointer (some ⟨p, 0, none⟩)) (fun _ => trivial) rfl (by kernel_rfl) (by kernel_rfl) (by kernel_rfl) (by kernel_rfl) (fun _ _ _ h => h) HS3.out.1 (.inl ⟨by rfl, fun w8 h8 => (by obtain ⟨s1, s2, s3, s4, s5, s6⟩ := h8; go_simp)⟩) ?_
        refine wpAnyS_take (i := 11) (v := .agg #[.int .i64 k1, .int .i64 k2]) (fun _ => trivial) rfl (by kernel_rfl) (by kernel_rfl) (by kernel_rfl) (by kernel_rfl) (fun _ _ _ h => h) HS3.out.1 (.inl ⟨by rfl, fun w8 h8 => (by obtain ⟨s1, s2, s3, s4, s5, s6⟩ := h8; go_simp)⟩) ?_
        refine wpAnyS_take (i := 12) (v := .func (.yield l) #[] #[]) (fun _ => trivial) rfl (by kernel_rfl) (by kernel_rfl) (by kernel_rfl) (by kernel_rfl) (fun _ _ _ h => h) HS3.out.1 (.inl ⟨by rfl, fun w8 h8 => (by obtain ⟨s1, s2, s3, s4, s5, s6⟩ := h8; go_simp)⟩) ?_
        refine wpAnyS_one (i := 13) (by kernel_rfl) rfl (fun K hK => ?_)
        go_simp
        refine ⟨trivial, fun h => (by cases h), ?_⟩
        refine (CallsIn.inRound l' HC.out).mono ?_
        rintro e W7 (⟨rfl, G3, hJ4, hn4, hk4⟩ | ⟨rfl, q, G3, hq, hJ4, hn4, hk4⟩)
        · have HK7 : Hid (Keep G' Wv W7) := Lib.hid (HK3.out.trans hk4 (fun k hk h => (HN3.out k h).elim id (fun h => by omega)))
          have HS7 := Lib.hid (HSOF.out W7 G' HK7.out (fun _ _ h => .inl h))
          have HN7 : Hid (New G' G3 Wv) := Lib.hid (HN3.out.trans hn4 HK3.out.size)
          refine hK _ _ HS7.out.1 ?_
          clear hK K
          refine wpAnyS_take (i := 14) (v := .bool false) (fun _ => trivial) rfl (by kernel_rfl) (by kernel_rfl) (by kernel_rfl) (by kernel_rfl) (fun _ _ _ h => h) HS7.out.1 (.inl ⟨by rfl, fun w8 h8 => (by obtain ⟨s1, s2, s3, s4, s5, s6⟩ := h8; go_simp)⟩) ?_
          refine wpAnyS_take (i := 15) (v := .bool false) (fun _ => trivial) rfl (by kernel_rfl) (by kernel_rfl) (by kernel_rfl) (by kernel_rfl) (fun _ _ _ h => h) HS7.out.1 (.inl ⟨by rfl, fun w8 h8 => (by obtain ⟨s1, s2, s3, s4, s5, s6⟩ := h8; go_simp)⟩) ?_
          refine wpAnyS_done (by kernel_rfl) ?_ _
          gi_wp2
          refine ⟨G3, ⟨by rw [HFL.out]; exact hJ4, HS7.out.2.1, HS7.out.2.2, fun k h => (HN7.out k h).elim (h6 k) (fun h => Nat.le_trans h5.size h), fun k e1 e2 h => (HN7.out k h).elim (h7 k e1 e2) (fun h => by have := h4.lt; omega)⟩, HN7.out, HK7.out⟩
        · have HK7 : Hid (Keep (fun k => G' k ∨ X k) Wv W7) := Lib.hid ((HK3.out.more (S' := fun k => G' k ∨ X k) (fun _ _ h => .inl h)).trans hk4 (fun k hk h => h.elim (fun h => (HN3.out k h).elim .inl (fun h => by omega)) .inr))
          have HS7 := Lib.hid (HSOF.out W7 _ HK7.out (fun _ _ h => h))
          have HN7 : Hid (New G' G3 Wv) := Lib.hid (HN3.out.trans hn4 HK3.out.size)
          refine hK _ _ HS7.out.1 ?_
          clear hK K
          refine wpAnyS_take (i := 14) (v := .bool true) (fun _ => trivial) rfl (by kernel_rfl) (by kernel_rfl) (by kernel_rfl) (by kernel_rfl) (fun _ _ _ h => h) HS7.out.1 (.inl ⟨by rfl, fun w8 h8 => (by obtain ⟨s1, s2, s3, s4, s5, s6⟩ := h8; go_simp)⟩) ?_
          refine wpAnyS_take (i := 15) (v := .bool true) (fun _ => trivial) rfl (by kernel_rfl) (by kernel_rfl) (by kernel_rfl) (by kernel_rfl) (fun _ _ _ h => h) HS7.out.1 (.inl ⟨by rfl, fun w8 h8 => (by obtain ⟨s1, s2, s3, s4, s5, s6⟩ := h8; go_simp)⟩) ?_
          refine wpAnyS_done (by kernel_rfl) ?_ _
          have o6 := HS7.out.2.1.2.2
          have c6 := o6.cell 0 (by simp)
          have z6 := o6.frozen 0
          simp only [List.getElem_cons_zero] at c6
          gi_wp2
          refine ⟨G3, ⟨rfl, _, hq, ?_, by have := o6.set 0 (.bool false) (by simp); exact this⟩, HN7.out, ?_⟩
          · exact hJx _ _ _ _ hJ4 ((Keep.setCell W7 _ 0 _).more (fun k _ e => by have e : k = W.heap.size + 1 + 1 + 1 := e; exact ⟨by omega, fun h => (HN7.out k h).elim (h7 k (by omega) (by omega)) (fun h => by have := h4.lt; omega)⟩))
          · exact (HK7.out.more (S' := fun k => G' k ∨ (X k ∨ k = W.heap.size + 1 + 1 + 1)) (fun _ _ h => h.imp id .inl)).trans (Keep.setCell W7 _ 0 _) (fun k _ e => .inr (.inr e))
      · have HK7 : Hid (Keep (fun k => G' k ∨ X k) Wv W3) := Lib.hid ((HK6.out.more (S' := fun k => G' k ∨ X k) (fun _ _ h => h.elim)).trans hk3 (fun _ _ h => h))
        have HS7 := Lib.hid (HSOF.out W3 _ HK7.out (fun _ _ h => h))
        have HN7 : Hid (New G' G2 Wv) := Lib.hid (fun k h => (hn3 k h).imp id (fun h => Nat.le_trans HK6.out.size h))
        have hJ4 := hJ3
        have hq := HPD.out
        refine hK _ _ HS7.out.1 ?_
        clear hK K
        refine wpAnyS_take (i := 8) (v := .bool true) (fun _ => trivial) rfl (by kernel_rfl) (by kernel_rfl) (by kernel_rfl) (by kernel_rfl) (fun _ _ _ h => h) HS7.out.1 (.inl ⟨by rfl, fun w8 h8 => (by obtain ⟨s1, s2, s3, s4, s5, s6⟩ := h8; go_simp)⟩) ?_
        refine wpAnyS_take (i := 9) (v := .bool true) (fun _ => trivial) rfl (by kernel_rfl) (by kernel_rfl) (by kernel_rfl) (by kernel_rfl) (fun _ _ _ h => h) HS7.out.1 (.inl ⟨by rfl, fun w8 h8 => (by obtain ⟨s1, s2, s3, s4, s5, s6⟩ := h8; go_simp)⟩) ?_
        go_simp
        refine wpAnyS_take (i := 10) (v := undef) (fun _ => trivial) rfl (by kernel_rfl) (by kernel_rfl) (by kernel_rfl) (by kernel_rfl) (fun _ _ _ h => h) HS7.out.1 (.inr ⟨by rfl, rfl⟩) ?_
        refine wpAnyS_take (i := 11) (v := undef) (fun _ => trivial) rfl (by kernel_rfl) (by kernel_rfl) (by kernel_rfl) (by kernel_rfl) (fun _ _ _ h => h) HS7.out.1 (.inr ⟨by rfl, rfl⟩) ?_
        refine wpAnyS_take (i := 12) (v := undef) (fun _ => trivial) rfl (by kernel_rfl) (by kernel_rfl) (by kernel_rfl) (by kernel_rfl) (fun _ _ _ h => h) HS7.out.1 (.inr ⟨by rfl, rfl⟩) ?_
        go_simp
        refine wpAnyS_take (i := 13) (v := undef) (fun _ => trivial) rfl (by kernel_rfl) (by kernel_rfl) (by kernel_rfl) (by kernel_rfl) (fun _ _ _ h => h) HS7.out.1 (.inr ⟨by rfl, rfl⟩) ?_
        refine wpAnyS_take (i := 14) (v := undef) (fun _ => trivial) rfl (by kernel_rfl) (by kernel_rfl) (by kernel_rfl) (by kernel_rfl) (fun _ _ _ h => h) HS7.out.1 (.inr ⟨by rfl, rfl⟩) ?_
        refine wpAnyS_take (i := 15) (v := .bool true) (fun _ => trivial) rfl (by kernel_rfl) (by kernel_rfl) (by kernel_rfl) (by kernel_rfl) (fun _ _ _ h => h) HS7.out.1 (.inl ⟨by rfl, fun w8 h8 => (by obtain ⟨s1, s2, s3, s4, s5, s6⟩ := h8; go_simp)⟩) ?_
        go_simp
        refine wpAnyS_done (by kernel_rfl) ?_ _
        have o6 := HS7.out.2.1.2.2
        have c6 := o6.cell 0 (by simp)
        have z6 := o6.frozen 0
        simp only [List.getElem_cons_zero] at c6
        gi_wp2
        refine ⟨G2, ⟨rfl, _, hq, ?_, by have := o6.set 0 (.bool false) (by simp); exact this⟩, HN7.out, ?_⟩
        · exact hJx _ _ _ _ hJ4 ((Keep.setCell W3 _ 0 _).more (fun k _ e => by have e : k = W.heap.size + 1 + 1 + 1 := e; exact ⟨by omega, fun h => (HN7.out k h).elim (h7 k (by omega) (by omega)) (fun h => by have := h4.lt; omega)⟩))
        · exact (HK7.out.more (S' := fun k => G' k ∨ (X k ∨ k = W.heap.size + 1 + 1 + 1)) (fun _ _ h => h.imp id .inl)).trans (Keep.setCell W3 _ 0 _) (fun k _ e => .inr (.inr e))
    case done =>
      rintro D G2 Wd hD ⟨h1, ⟨h2, h3, h4⟩, h5, h6, h7⟩ hgD hnew hkp hK
      have c6 := h4.cell 0 (by simp)
      have z6 := h4.frozen 0
      simp only [List.getElem_cons_zero] at c6
      have hDl : D < Wd.heap.size := (Array.getElem?_eq_some_iff.1 hK).1
      have hks := Keep.setCell Wd (W.heap.size + 1 + 1 + 1) 0 (.bool true)
      have hK2 : (Wd.setCell ⟨W.heap.size + 1 + 1 + 1, 0, none⟩ (.bool true)).heap[D]? = some (.deferred (some [])) := (hks.block D hDl (fun e => by have e : D = W.heap.size + 1 + 1 + 1 := e; omega)).trans hK
      have hR6 := (h4.set 0 (.bool true) (by simp)).keep (keep_putObj _ D (.deferred none)) (fun e => by have e : W.heap.size + 1 + 1 + 1 = D := e; omega)
      have hkk := (hks.more (S' := fun k => k = D ∨ k = W.heap.size + 1 + 1 + 1) (fun k _ e => .inr e)).trans ((keep_putObj (Wd.setCell ⟨W.heap.size + 1 + 1 + 1, 0, none⟩ (.bool true)) D (.deferred none)).more (S' := fun k => k = D ∨ k = W.heap.size + 1 + 1 + 1) (fun k _ e => .inl e)) (fun k _ h => h)
      gi_wp2
      refine ⟨by simp, .inl ⟨_, _, rfl, run_takeDeferred hK2, ?_⟩⟩
      have hc5 := hR6.cell 0 (by simp)
      simp only [List.set_cons_zero, List.getElem_cons_zero] at hc5
      refine ⟨.bool true, ?_, .inl ⟨rfl, G2, ?_, fun k h => (hnew k h).imp id (fun h => by omega), ?_⟩⟩
      · simp [results, Try.f76, go_sem, hc5]
      · rw [HOWN.out]
        exact hJ _ _ _ _ h1 (hkk.more (fun k _ h => h.elim (fun h => ⟨by omega, by rw [h]; exact hgD⟩) (fun h => ⟨by omega, h7 k (by omega) (by omega)⟩)))
      · exact ((K05.out.more (S' := G) (fun _ _ h => h.elim)).trans hkp (fun _ _ h => h)).trans hkk (fun k hk h => h.elim (fun h => by omega) (fun h => by omega))
    case stop =>
      rintro D c pre G2 Wd hD hpx ⟨rfl, ys, hys, h1, h4⟩ hgD hnew hkp hK
      have hDl : D < Wd.heap.size := (Array.getElem?_eq_some_iff.1 hK).1
      have hR6 := h4.keep (keep_putObj _ D (.deferred none)) (fun e => by have e : W.heap.size + 1 + 1 + 1 = D := e; omega)
      gi_wp2
      refine ⟨by simp, .inl ⟨_, _, rfl, run_takeDeferred hK, ?_⟩⟩
      have hc5 := hR6.cell 0 (by simp)
      simp only [List.getElem_cons_zero] at hc5
      have hkk := keep_putObj Wd D (.deferred none)
      refine ⟨.bool false, ?_, .inr ⟨rfl, ys, G2, hys, ?_, fun k h => (hnew k h).imp id (fun h => by omega), ?_⟩⟩
      · simp [results, Try.f76, go_sem, hc5]
      · exact hJx _ _ _ _ h1 (hkk.more (fun k _ h => ⟨by have h : k = D := h; omega, by have h : k = D := h; rw [h]; exact hgD⟩))
      · refine ((K05.out.more (S' := fun k => G k ∨ X k) (fun _ _ h => h.elim)).trans hkp (fun k hk h => h.elim .inl (fun h => h.elim .inr (fun h => by omega)))).trans hkk (fun k hk h => by have h : k = D := h; omega)

theorem behind_in {L : List Wel} (hOk : Weave.Ok L) {w0 : World} {p : Nat} (hR : LRead w0 p L) (l B : Nat) (X : Nat → Prop) (J Jx : List Wel → (Nat → Prop) → World → Prop) (xs : List Wel) (hJ : Fr B J) (hJx : Fr B Jx) (hLo : Lo J) (hX : ∀ k, X k → k < B ∧ w0.heap.size ≤ k)
    (hY : ∀ m' pre e G W1, J pre G W1 → pre ++ [e] <+: xs → YieldAt Fence.wide m' Try.prog l #[e.val] W1 (RoundOwes X G J Jx (pre ++ [e]) W1)) :
    ∀ (n : Nat) (x : Int × Int), Weave.cnt L x ≤ n → I64 x.1 → I64 x.2 → ∀ (m : Nat) (pre0 : List Wel) (W : World) (G : Nat → Prop), Below w0.heap.size w0 W → B ≤ W.heap.size → (∀ k, G k → w0.heap.size ≤ k) → pre0 ++ Weave.own L n x <+: xs → J pre0 G W →
      CallsIn Fence.wide m Try.prog 76 #[.pointer (some ⟨p, 0, none⟩), idV x, .func (.yield l) #[] #[]] W (BehindOwes X G J Jx pre0 (Weave.own L n x) xs W) := by
  intro n
  induction n with
  | zero =>
    intro x hc hx1 hx2
    have hk := hOk.none (x := x) (by omega)
    exact behind_step hOk hR l B X J Jx xs hJ hJx hLo hX hY x hx1 hx2 (fun _ => []) [] (by rw [hk]; rfl) (fun k hk' => by rw [hk] at hk'; cases hk')
  | succ n ih =>
    intro x hc hx1 hx2
    refine behind_step hOk hR l B X J Jx xs hJ hJx hLo hX hY x hx1 hx2 (fun k => Weave.own L n k) _ (Weave.back_flat (fun k => Weave.at' L k :: Weave.own L n k) _).symm (fun k hk => ?_)
    obtain ⟨e, he, _, hi⟩ := ((Weave.kids_spec hOk.apart x).2 k).1 hk
    have hm := Idn.may_i64 (hOk.may e he)
    rw [hi] at hm
    exact ih k (by have := hOk.cnt_lt hk; omega) hm.1 hm.2
end Go.Proofs.Ytohmhbjiapflpaa
