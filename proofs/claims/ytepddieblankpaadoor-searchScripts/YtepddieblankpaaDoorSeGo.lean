/- The first place that fits: fitting, goTo. -/
import Derived.Test.YtepddieblankpaaDoorSeMem
namespace Go.Proofs.YtepddieblankpaaDoor
open Go.RowKit Go.Shelf
attribute [local go_sem] Oper.semAt_some
set_option linter.unusedVariables false

theorem fit_in (n : Nat) (p : Nat) (frm step : Int) (w : World) : CallsIn Fence.wide n Tryd.prog 55 #[.pointer (some ⟨p, 0, none⟩), .int .i64 frm, .int .i64 step] w fun e w' =>
    e = .returned (.func (.func 62) #[] #[.pointer (some ⟨w.heap.size + 1, 0, none⟩), .pointer (some ⟨w.heap.size, 0, none⟩), .pointer (some ⟨w.heap.size + 1 + 1, 0, none⟩)]) ∧
      w' = ((w.alloc (.cells #[.pointer (some ⟨p, 0, none⟩)] 26)).alloc (.cells #[.int .i64 frm] 3)).alloc (.cells #[.int .i64 step] 3) := by
  refine callsIn_of_wp Tryd.func55 rfl trivial ?_ rfl
  simp only [Tryd.ntmps55, List.size_toArray, List.length_cons, List.length_nil, Nat.reduceAdd, Nat.reduceSub, Array.replicate_succ, Array.replicate_zero, List.push_toArray, List.append_toArray, List.nil_append, List.cons_append]
  gi_wp2
  go_ret
  exact ⟨rfl, rfl⟩

theorem fit_stops (n : Nat) (hn : 1 ≤ n) (p Bs Bf Bt : Nat) (W0 : World) (v : Value) (ts : List ByteArray) (q : ByteArray) (pl frm step : Int) (fd : Bool) (T : List Nat) (hS : IsS W0 p v q pl fd) (hv : SliceS W0 v ts) (hts : ts.length ≤ 1000000000) (htz : ∀ t ∈ ts, t.size < 4294967281) (hM : MaxLen W0) (hT : Trail ts.length frm step T)
    (hs : W0.cell? ⟨Bs, 0, none⟩ = some (.pointer (some ⟨p, 0, none⟩))) (hf : W0.cell? ⟨Bf, 0, none⟩ = some (.int .i64 frm)) (ht : W0.cell? ⟨Bt, 0, none⟩ = some (.int .i64 step)) :
    SeqStopsK Fence.wide n Tryd.prog 62 #[.pointer (some ⟨Bf, 0, none⟩), .pointer (some ⟨Bs, 0, none⟩), .pointer (some ⟨Bt, 0, none⟩)] (fun x : Nat => #[.int .i64 (x : Nat)]) (Below W0.heap.size) (fun ys => ys = Srch.places ts q T) (fun pre => pre <+: Srch.places ts q T) ts.length W0 := fun l J Jx W hW hJ _ hY h0 =>
  fit1_in n hn l p Bs Bf Bt W0 W v ts q pl frm step fd T hS hv hts htz hM hT hs hf ht hW J Jx hJ hY h0

theorem IsS.kept {W W' : World} {p : Nat} {v : Value} {q : ByteArray} {pl : Int} {fd : Bool} {row : Option Nat} (h : IsS W p v q pl fd) (hg : W.grownBy W' row) (hr : ∀ r, row = some r → ∃ o : Obj, W.heap[r]? = some o ∧ o.isCells = false) : IsS W' p v q pl fd :=
  ⟨cell_kept h.c0 hg hr, cell_kept h.c1 hg hr, cell_kept h.c2 hg hr, cell_kept h.c3 hg hr, (frozen_kept h.c0 hg hr).trans h.fz.1, (frozen_kept h.c1 hg hr).trans h.fz.2.1, (frozen_kept h.c2 hg hr).trans h.fz.2.2.1, (frozen_kept h.c3 hg hr).trans h.fz.2.2.2⟩
theorem boxed_keep {S : Nat → Prop} {a b : World} {B : Nat} {t : TypeId} {v : Value} (h : Boxed a B t v) (hk : Keep S a b) (hn : ¬ S B) : Boxed b B t v := by
  show b.heap[B]? = _
  rw [hk.block B h.lt hn]; exact h
theorem Keep.kept {S : Nat → Prop} {w W W' : World} {B : Nat} {row : Option Nat} (h : Keep S w W) (hB : w.heap.size ≤ B) (hg : W.grownBy W' row) (hr : ∀ r, row = some r → B ≤ r) : Keep S w W' :=
  h.trans (Keep.of_grown hg) (fun i hi e => by have := hr i e.symm; omega)
theorem IsS.put {w : World} {p : Nat} {v : Value} {q : ByteArray} {pl : Int} {fd : Bool} (h : IsS w p v q pl fd) (x : Int) : IsS (w.setCell ⟨p, 2, none⟩ (.int .i64 x)) p v q x fd :=
  ⟨by rw [World.cell?_setCell_other _ _ _ _ (by simp)]; exact h.c0, by rw [World.cell?_setCell_other _ _ _ _ (by simp)]; exact h.c1, World.cell?_setCell_same _ _ _ h.c2, by rw [World.cell?_setCell_other _ _ _ _ (by simp)]; exact h.c3, by simp only [World.frozen?_setCell]; exact h.fz⟩
theorem IsS.found {w : World} {p : Nat} {v : Value} {q : ByteArray} {pl : Int} {fd : Bool} (h : IsS w p v q pl fd) (b : Bool) : IsS (w.setCell ⟨p, 3, none⟩ (.bool b)) p v q pl b :=
  ⟨by rw [World.cell?_setCell_other _ _ _ _ (by simp)]; exact h.c0, by rw [World.cell?_setCell_other _ _ _ _ (by simp)]; exact h.c1, by rw [World.cell?_setCell_other _ _ _ _ (by simp)]; exact h.c2, World.cell?_setCell_same _ _ _ h.c3, by simp only [World.frozen?_setCell]; exact h.fz⟩
theorem IsS.ask {w : World} {p : Nat} {v : Value} {q : ByteArray} {pl : Int} {fd : Bool} (h : IsS w p v q pl fd) (x : ByteArray) : IsS (w.setCell ⟨p, 1, none⟩ (.string x)) p v x pl fd :=
  ⟨by rw [World.cell?_setCell_other _ _ _ _ (by simp)]; exact h.c0, World.cell?_setCell_same _ _ _ h.c1, by rw [World.cell?_setCell_other _ _ _ _ (by simp)]; exact h.c2, by rw [World.cell?_setCell_other _ _ _ _ (by simp)]; exact h.c3, by simp only [World.frozen?_setCell]; exact h.fz⟩

/-- What goTo comes to. -/
def GoneTo (p : Nat) (v : Value) (q : ByteArray) (pl : Int) (fd : Bool) (l : List Nat) (w : World) (e : Ending) (w' : World) : Prop :=
  match l with
  | [] => e = .returned (.bool false) ∧ IsS w' p v q pl fd ∧ Keep (Just p) w w'
  | x :: _ => e = .returned (.bool true) ∧ IsS w' p v q (x : Nat) true ∧ Keep (Just p) w w'

theorem goTo_results (tmps : Array Value) (g : Nat) (b : Bool) (W : World) (h1 : W.cell? ⟨g, 0, none⟩ = some (.bool b)) (h2 : tmps.getD 4 undef = .pointer (some ⟨g, 0, none⟩)) :
    (results Tryd.f54 tmps).run Tryd.prog W = .ok (.bool b) W := by
  have t2 : tmps[4]?.getD undef = .pointer (some ⟨g, 0, none⟩) := by simpa using h2
  simp [results, Tryd.results54, go_sem, t2, h1]

set_option maxRecDepth 100000 in
set_option maxHeartbeats 4000000 in
theorem search_goTo (p Bs Bf Bt : Nat) (w : World) (v : Value) (ts : List ByteArray) (q : ByteArray) (pl frm step : Int) (fd : Bool) (T : List Nat) (hS : IsS w p v q pl fd) (hv : SliceS w v ts) (hts : ts.length ≤ 1000000000) (htz : ∀ t ∈ ts, t.size < 4294967281) (hM : MaxLen w) (hT : Trail ts.length frm step T)
    (hs : w.cell? ⟨Bs, 0, none⟩ = some (.pointer (some ⟨p, 0, none⟩))) (hf : w.cell? ⟨Bf, 0, none⟩ = some (.int .i64 frm)) (ht : w.cell? ⟨Bt, 0, none⟩ = some (.int .i64 step)) :
    Calls Tryd.prog 54 #[.pointer (some ⟨p, 0, none⟩), .func (.func 62) #[] #[.pointer (some ⟨Bf, 0, none⟩), .pointer (some ⟨Bs, 0, none⟩), .pointer (some ⟨Bt, 0, none⟩)]] w (GoneTo p v q pl fd (Srch.places ts q T) w) := by
  have HS := Lib.hid hS
  have hlt := hS.lt
  have b0 := (Boxed.new w 26 (.pointer (some ⟨p, 0, none⟩))).alloc (.cells #[.bool false] 4)
  have b1 := Boxed.new (w.alloc (.cells #[.pointer (some ⟨p, 0, none⟩)] 26)) 4 (.bool false)
  rw [World.size_alloc] at b1
  have hB0 : Below w.heap.size w ((w.alloc (.cells #[.pointer (some ⟨p, 0, none⟩)] 26)).alloc (.cells #[.bool false] 4)) := ((Below.refl _ w).alloc (Nat.le_refl _) _).alloc (by simp) _
  refine (callsIn_wide (n := 3)).1 ?_
  refine callsIn_of_wp_marks Tryd.func54 rfl trivial ?_ rfl
  simp only [Tryd.ntmps54, List.size_toArray, List.length_cons, List.length_nil, Nat.reduceAdd, Nat.reduceSub, Array.replicate_succ, Array.replicate_zero, List.push_toArray, List.append_toArray, List.nil_append, List.cons_append]
  gi_wp2
  have HS1 := Lib.hid (hS.below hB0)
  have HV1 := Lib.hid (hv.below hB0)
  have HM1 := Lib.hid (hM.below hB0)
  have hs1 := (hB0.cell (p := ⟨Bs, 0, none⟩) (block_lt_of_cell hs)).trans hs
  have hf1 := (hB0.cell (p := ⟨Bf, 0, none⟩) (block_lt_of_cell hf)).trans hf
  have ht1 := (hB0.cell (p := ⟨Bt, 0, none⟩) (block_lt_of_cell ht)).trans ht
  have hsz : ((w.alloc (.cells #[.pointer (some ⟨p, 0, none⟩)] 26)).alloc (.cells #[.bool false] 4)).heap.size = w.heap.size + 2 := by simp
  clear hs hf ht
  generalize ((w.alloc (.cells #[.pointer (some ⟨p, 0, none⟩)] 26)).alloc (.cells #[.bool false] 4)) = W1 at *
  refine wpIn_rangeFunc_ownG (α := Nat) (n := 3) rfl (by decide) (gf := 62) (lb := #[.pointer (some ⟨Bf, 0, none⟩), .pointer (some ⟨Bs, 0, none⟩), .pointer (some ⟨Bt, 0, none⟩)]) rfl trivial (enters_of Tryd.func62 (by kernel_rfl) rfl)
    (fit_stops 2 (by decide) p Bs Bf Bt W1 v ts q pl frm step fd T HS1.out HV1.out hts htz HM1.out hT hs1 hf1 ht1) belowK_t (belowK_b (Nat.le_refl _)) (Below.refl _ _) (fun _ => rfl)
    (fun (pre : List Nat) W => (Boxed W w.heap.size 26 (.pointer (some ⟨p, 0, none⟩)) ∧ Boxed W (w.heap.size + 1) 4 (.bool false)) ∧ Below w.heap.size w W ∧ pre = [])
    (fun c pre W => c = .ret ∧ (∃ x : Nat, pre = [x] ∧ IsS W p v q x true ∧ Boxed W (w.heap.size + 1) 4 (.bool true)) ∧ Keep (Just p) w W)
    (OwnFrom.and (OwnFrom.and (Own.from (boxed_own _ _ (fun _ => .pointer (some ⟨p, 0, none⟩))) _) (Own.from (boxed_own _ _ (fun _ => .bool false)) _)) (OwnFrom.and (ownFrom_below (Nat.le_refl _) (by omega)) (ownFrom_pure _ _)))
    (fun c pre W W' row hs hg hr => by
      obtain ⟨h1, ⟨x, h2, h3, h4⟩, h5⟩ := hs
      exact ⟨h1, ⟨x, h2, h3.kept hg (fun r e => (hr r e).2), boxed_own _ _ (fun (_ : Unit) => .bool true) () W W' row h4 hg (fun r e => (hr r e).2)⟩, h5.kept (by omega) hg (fun r e => (hr r e).1)⟩)
    ⟨⟨b0, b1⟩, hB0, rfl⟩
    (fun (x : Nat) => { tmps := #[.pointer (some ⟨p, 0, none⟩), .func (.func 62) #[] #[.pointer (some ⟨Bf, 0, none⟩), .pointer (some ⟨Bs, 0, none⟩), .pointer (some ⟨Bt, 0, none⟩)], .pointer (some ⟨w.heap.size, 0, none⟩), undef, .pointer (some ⟨w.heap.size + 1, 0, none⟩), .int .i64 (x : Nat), .func (.func 62) #[] #[.pointer (some ⟨Bf, 0, none⟩), .pointer (some ⟨Bs, 0, none⟩), .pointer (some ⟨Bt, 0, none⟩)], .int .i64 (x : Nat), undef, undef, undef, undef, undef, undef, undef], defers := [] }) ?assign ?body ?done ?stop
  case assign =>
    intro l x W K hK
    gi_wp2
    simpa using hK
  case body =>
    rintro l pre x W ⟨⟨h0, h1⟩, hB, rfl⟩ hlen
    have c0 := h0.cell
    have c1 := h1.cell
    have g1 := h1.frozen
    have HP := Lib.hid (HS.out.below hB)
    obtain ⟨p0, p1, p2, p3, z0, z1, z2, z3⟩ := HP.out
    gi_wp2
    refine wpIn_region_any (by kernel_rfl) ?_
    try (change wpAnyIn _ _ _ _ _ _ _ _ _ (World.drew _))
    have c0' : W.drew.cell? ⟨w.heap.size, 0, none⟩ = some (.pointer (some ⟨p, 0, none⟩)) := c0
    have HP' : Hid (IsS W.drew p v q pl fd) := Lib.hid (HP.out.below (grew_drew W))
    have hb1 : Boxed W.drew (w.heap.size + 1) 4 (.bool false) := h1
    have HW' : Hid (Below w.heap.size w W.drew) := Lib.hid hB.drew
    have HK' : Hid (KeepsFrom W1.heap.size W W.drew) := Lib.hid ((KeepsOthers.drew W).from _)
    clear c0 c1 g1 p0 p1 p2 p3 z0 z1 z2 z3 h0 h1
    generalize W.drew = W6 at *
    refine wpAnyS.any (S := fun w8 => w8.cell? ⟨w.heap.size, 0, none⟩ = some (.pointer (some ⟨p, 0, none⟩))) ?_
    refine wpAnyS_take (i := 0) (v := (.pointer (some ⟨p, 0, none⟩))) (fun _ => trivial) rfl (by kernel_rfl) (by kernel_rfl) (by kernel_rfl) (by kernel_rfl) (fun _ _ _ h => h) c0' (.inl ⟨by rfl, fun w8 h8 => (by go_simp)⟩) ?_
    refine wpAnyS_take (i := 1) (v := (.pointer (some ⟨p, 0, none⟩))) (fun _ => trivial) rfl (by kernel_rfl) (by kernel_rfl) (by kernel_rfl) (by kernel_rfl) (fun _ _ _ h => h) c0' (.inl ⟨by rfl, fun w8 h8 => (by go_simp)⟩) ?_
    refine wpAnyS_take (i := 2) (v := (.int .i64 (x : Nat))) (fun _ => trivial) rfl (by kernel_rfl) (by kernel_rfl) (by kernel_rfl) (by kernel_rfl) (fun _ _ _ h => h) c0' (.inl ⟨by rfl, fun w8 h8 => (by go_simp)⟩) ?_
    refine wpAnyS_take (i := 3) (v := (.pointer (some ⟨p, 0, none⟩))) (fun _ => trivial) rfl (by kernel_rfl) (by kernel_rfl) (by kernel_rfl) (by kernel_rfl) (fun _ _ _ h => h) c0' (.inl ⟨by rfl, fun w8 h8 => (by go_simp)⟩) ?_
    refine wpAnyS_take (i := 4) (v := (.pointer (some ⟨p, 2, none⟩))) (fun _ => trivial) rfl (by kernel_rfl) (by kernel_rfl) (by kernel_rfl) (by kernel_rfl) (fun _ _ _ h => h) c0' (.inl ⟨by rfl, fun w8 h8 => (by go_simp)⟩) ?_
    refine wpAnyS_one (i := 5) (by kernel_rfl) rfl (fun K hK => ?_)
    have p2 := HP'.out.c2
    have z2 := HP'.out.fz.2.2.1
    go_simp
    have HG := Lib.hid (HP'.out.put (x : Nat))
    have hpg : p ≠ w.heap.size := by omega
    have c7 : (W6.setCell ⟨p, 2, none⟩ (.int .i64 (x : Nat))).cell? ⟨w.heap.size, 0, none⟩ = some (.pointer (some ⟨p, 0, none⟩)) := by rw [World.cell?_setCell_other _ _ _ _ (by simp)]; exact c0'
    have HK7 : Hid (Keep (Just p) w (W6.setCell ⟨p, 2, none⟩ (.int .i64 (x : Nat)))) := Lib.hid ((Keep.of_grew HW'.out (Just p)).trans (Keep.setCell W6 p 2 _) (fun _ _ h => h))
    have hb7 : Boxed (W6.setCell ⟨p, 2, none⟩ (.int .i64 (x : Nat))) (w.heap.size + 1) 4 (.bool false) := boxed_keep hb1 (Keep.setCell W6 p 2 _) (fun e => by have e' : w.heap.size + 1 = p := e; omega)
    have HF7 : Hid (KeepsFrom W1.heap.size W (W6.setCell ⟨p, 2, none⟩ (.int .i64 (x : Nat)))) := Lib.hid (HK'.out.trans ((KeepsOthers.setCell W6 _ _).from _))
    refine hK _ _ c7 ?_
    clear hK K p2 z2 hb1 c0' HP' HW' HK'
    generalize W6.setCell ⟨p, 2, none⟩ (.int .i64 (x : Nat)) = W7 at *
    refine wpAnyS_take (i := 6) (v := (.pointer (some ⟨p, 0, none⟩))) (fun _ => trivial) rfl (by kernel_rfl) (by kernel_rfl) (by kernel_rfl) (by kernel_rfl) (fun _ _ _ h => h) c7 (.inl ⟨by rfl, fun w8 h8 => (by go_simp)⟩) ?_
    refine wpAnyS_take (i := 7) (v := (.pointer (some ⟨p, 3, none⟩))) (fun _ => trivial) rfl (by kernel_rfl) (by kernel_rfl) (by kernel_rfl) (by kernel_rfl) (fun _ _ _ h => h) c7 (.inl ⟨by rfl, fun w8 h8 => (by go_simp)⟩) ?_
    refine wpAnyS_one (i := 8) (by kernel_rfl) rfl (fun K hK => ?_)
    have p3 := HG.out.c3
    have z3 := HG.out.fz.2.2.2
    go_simp
    have HG8 := Lib.hid (HG.out.found true)
    have c8 : (W7.setCell ⟨p, 3, none⟩ (.bool true)).cell? ⟨w.heap.size, 0, none⟩ = some (.pointer (some ⟨p, 0, none⟩)) := by rw [World.cell?_setCell_other _ _ _ _ (by simp)]; exact c7
    have HK8 : Hid (Keep (Just p) w (W7.setCell ⟨p, 3, none⟩ (.bool true))) := Lib.hid (HK7.out.trans (Keep.setCell W7 p 3 _) (fun _ _ h => h))
    have hb8 : Boxed (W7.setCell ⟨p, 3, none⟩ (.bool true)) (w.heap.size + 1) 4 (.bool false) := boxed_keep hb7 (Keep.setCell W7 p 3 _) (fun e => by have e' : w.heap.size + 1 = p := e; omega)
    have HF8 : Hid (KeepsFrom W1.heap.size W (W7.setCell ⟨p, 3, none⟩ (.bool true))) := Lib.hid (HF7.out.trans ((KeepsOthers.setCell W7 _ _).from _))
    refine hK _ _ c8 ?_
    clear hK K p3 z3 c7 HG HK7 hb7 HF7
    generalize W7.setCell ⟨p, 3, none⟩ (.bool true) = W8 at *
    refine wpAnyS_done (by kernel_rfl) ?_ _
    have g1 := hb8.cell
    have y1 := hb8.frozen
    have HB8 := Lib.hid hb8
    clear hb8
    gi_wp2
    refine ⟨HF8.out.trans ((KeepsOthers.setCell W8 _ _).from _), rfl, ⟨x, rfl, ?_, HB8.out.set _⟩, ?_⟩
    · exact HG8.out.keep (Keep.setCell W8 (w.heap.size + 1) 0 _) (fun e => by have e' : p = w.heap.size + 1 := e; omega)
    · exact HK8.out.trans (Keep.setCell W8 (w.heap.size + 1) 0 _) (fun i hi e => by have e' : i = w.heap.size + 1 := e; omega)
  case done =>
    rintro D ys W hD rfl ⟨⟨h0, h1⟩, hB, hnil⟩ hK
    have c1 := h1.cell
    have y1 := h1.frozen
    have HBW := Lib.hid hB
    have HKD := Lib.hid hK
    have HNL : Hid (Srch.places ts q T = []) := Lib.hid hnil
    clear h0 hnil
    gi_wp2
    have hr : ∀ r, some D = some r → ∃ o : Obj, (W.setCell ⟨w.heap.size + 1, 0, none⟩ (.bool false)).heap[r]? = some o ∧ o.isCells = false := fun r e => by
      cases e
      exact ⟨_, (KeepsOthers.setCell W _ _).same D _ HKD.out rfl, rfl⟩
    have HKX : Hid (Keep (Just p) w (W.setCell ⟨w.heap.size + 1, 0, none⟩ (.bool false))) := Lib.hid ((Keep.of_grew HBW.out (Just p)).trans (Keep.setCell W (w.heap.size + 1) 0 _) (fun i hi e => by have e' : i = w.heap.size + 1 := e; omega))
    refine ⟨by simp, .inl ⟨_, _, rfl, run_takeDeferred ((KeepsOthers.setCell W _ _).same D _ HKD.out rfl), ?_⟩⟩
    refine ⟨_, goTo_results _ (w.heap.size + 1) false _ ?_ rfl, ?_⟩
    · exact cell_kept (World.cell?_setCell_same _ _ _ c1) (grownBy_putObj' _ D (.deferred none)) hr
    · rw [HNL.out]
      refine ⟨rfl, ?_, HKX.out.kept (Nat.le_refl _) (grownBy_putObj' _ D (.deferred none)) (fun r e => by cases e; omega)⟩
      exact ((HS.out.below HBW.out).keep (Keep.setCell W (w.heap.size + 1) 0 _) (fun e => by have e' : p = w.heap.size + 1 := e; omega)).kept (grownBy_putObj' _ D (.deferred none)) hr
  case stop =>
    rintro D c pre W hD hpre ⟨rfl, ⟨x, rfl, hG, h1⟩, hk⟩ hK
    have c1 := h1.cell
    have HG := Lib.hid hG
    have HKP := Lib.hid hk
    have HPR : Hid (∃ l, Srch.places ts q T = x :: l) := Lib.hid (by
      obtain ⟨l, hl⟩ := hpre
      exact ⟨l, by rw [← hl]; rfl⟩)
    clear hpre
    gi_wp2
    have hr : ∀ r, some D = some r → ∃ o : Obj, W.heap[r]? = some o ∧ o.isCells = false := fun r e => by
      cases e
      exact ⟨_, hK, rfl⟩
    refine ⟨by simp, .inl ⟨_, _, rfl, run_takeDeferred hK, ?_⟩⟩
    refine ⟨_, goTo_results _ (w.heap.size + 1) true _ (cell_kept c1 (grownBy_putObj' _ D (.deferred none)) hr) rfl, ?_⟩
    obtain ⟨l, hl⟩ := HPR.out
    rw [hl]
    exact ⟨rfl, HG.out.kept (grownBy_putObj' _ D (.deferred none)) hr, HKP.out.kept (Nat.le_refl _) (grownBy_putObj' _ D (.deferred none)) (fun r e => by cases e; omega)⟩
end Go.Proofs.YtepddieblankpaaDoor
