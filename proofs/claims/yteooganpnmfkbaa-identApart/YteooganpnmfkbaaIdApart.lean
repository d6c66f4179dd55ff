/- Two makers that hear of one another. -/
import Derived.Test.YteooganpnmfkbaaIdMakes
import Derived.Shelf.SlSortCmp.QuietGrown
namespace Go.Proofs.Yteooganpnmfkbaa
open Go.RowKit
set_option linter.unusedVariables false

theorem idCells_app : ∀ (xs ys : List (Int × Int)), idCells (xs ++ ys) = idCells xs ++ idCells ys
  | [], _ => rfl
  | x :: xs, ys => by simp [idCells, idCells_app xs ys]

/-- Two makers side by side, and the Ids that they made. -/
structure ApW (w0 : World) (g h : Nat) (a b t u : Int) (V : Value) (L : List (Int × Int)) (w : World) : Prop where
  m : IsMaker w g a t
  n : IsMaker w h b u
  ne : g ≠ h
  own : Owns w 49 2 V L.length (idCells L)
  off : ∀ i, V.ownBlock = some i → i ≠ g ∧ i ≠ h ∧ w0.heap.size ≤ i
  new : w0.heap.size ≤ g ∧ w0.heap.size ≤ h
  bel : Below w0.heap.size w0 w

section
variable {w0 : World} {g h : Nat} {a b t u : Int} {V : Value} {L : List (Int × Int)} {w w' : World}
theorem ApW.below (H : ApW w0 g h a b t u V L w) (hb : Below w.heap.size w w') : ApW w0 g h a b t u V L w' :=
  ⟨Holds.keep H.m (Keep.of_grew hb Non) (fun h => h), Holds.keep H.n (Keep.of_grew hb Non) (fun h => h), H.ne, Owns.keep H.own (Keep.of_grew hb Non) (fun _ _ h => h), H.off, H.new, grew H.bel hb⟩
theorem ApW.turn_m {t' : Int} (H : ApW w0 g h a b t u V L w) (hm : IsMaker w' g a t') (hk : Keep (Just g) w w') : ApW w0 g h a b t' u V L w' :=
  ⟨hm, Holds.keep H.n hk (fun e => H.ne (Eq.symm e)), H.ne, Owns.keep H.own hk (fun i hi e => (H.off i hi).1 e), H.off, H.new, H.bel.trans (hk.below H.bel.size (fun i e => by have e : i = g := e; rw [e]; exact H.new.1))⟩
theorem ApW.turn_n {u' : Int} (H : ApW w0 g h a b t u V L w) (hm : IsMaker w' h b u') (hk : Keep (Just h) w w') : ApW w0 g h a b t u' V L w' :=
  ⟨Holds.keep H.m hk (fun e => H.ne e), hm, H.ne, Owns.keep H.own hk (fun i hi e => (H.off i hi).2.1 e), H.off, H.new, H.bel.trans (hk.below H.bel.size (fun i e => by have e : i = h := e; rw [e]; exact H.new.2))⟩
theorem ApW.add {V' : Value} {x : Int × Int} (H : ApW w0 g h a b t u V L w) (ho : Owns w' 49 2 V' (L.length + 1) (idCells L ++ idCells [x])) (hk : Keep (At V) w w') (hn : Near w V V') : ApW w0 g h a b t u V' (L ++ [x]) w' := by
  have hat : ∀ i, At V i → i ≠ g ∧ i ≠ h ∧ w0.heap.size ≤ i := fun i hi => H.off i hi
  refine ⟨Holds.keep H.m hk (fun e => (hat _ e).1 rfl), Holds.keep H.n hk (fun e => (hat _ e).2.1 rfl), H.ne, by rw [idCells_app, List.length_append]; exact ho, fun i hi => ?_, H.new, H.bel.trans (hk.below H.bel.size (fun i e => (hat i e).2.2))⟩
  rcases hn i hi with k | k
  · exact hat i k
  · have h1 := Holds.lt H.m
    have h2 := Holds.lt H.n
    have h3 := H.bel.size
    exact ⟨by omega, by omega, by omega⟩
theorem ApW.aside {c : Nat} (H : ApW w0 g h a b t u V L w) (hc : c ≠ g ∧ c ≠ h ∧ ¬ At V c ∧ w0.heap.size ≤ c) (hk : Keep (Just c) w w') : ApW w0 g h a b t u V L w' :=
  ⟨Holds.keep H.m hk (fun e => hc.1 (Eq.symm e)), Holds.keep H.n hk (fun e => hc.2.1 (Eq.symm e)), H.ne, Owns.keep H.own hk (fun i hi e => hc.2.2.1 (by have e : i = c := e; subst e; exact hi)), H.off, H.new, H.bel.trans (hk.below H.bel.size (fun i e => by have e : i = c := e; rw [e]; exact hc.2.2.2))⟩
theorem ApW.row (H : ApW w0 g h a b t u V L w) : SliceG 2 idL w V L := by
  rcases H.own.2 with ⟨rfl, h0⟩ | ⟨gg, cap, cur, rfl, _⟩
  · rw [List.eq_nil_of_length_eq_zero h0]
    exact ⟨none, 0, rfl, by simp, .inl rfl⟩
  · obtain ⟨h1, h2⟩ := Owns.idRow H.own
    exact h1.slice h2
end

/-- What was made so far, by the sites a and b. -/
def ApL (a b t u : Int) (L : List (Int × Int)) : Prop := ∀ y ∈ L, (y.2 = a ∨ y.2 = b) ∧ (y.2 = a → y.1 ≤ t) ∧ (y.2 = b → y.1 ≤ u)
/-- x is none of L, and greater than those of its site. -/
def ApX (L : List (Int × Int)) (x : Int × Int) : Prop := ∀ y ∈ L, y ≠ x ∧ (y.2 = x.2 → Idn.lt y x = true)
theorem ApL.left {a b t u : Int} {L : List (Int × Int)} (h : ApL a b t u L) (hne : a ≠ b) : ApX L (t + 1, a) ∧ ApL a b (t + 1) u (L ++ [(t + 1, a)]) := by
  refine ⟨fun y hy => ?_, fun y hy => ?_⟩
  · obtain ⟨h1, h2, h3⟩ := h y hy
    refine ⟨fun e => ?_, fun e => Idn.lt_iff.2 (.inl ?_)⟩
    · have := h2 (by rw [e]); rw [e] at this; simp at this; omega
    · have := h2 e; show y.1 < t + 1; omega
  · rcases List.mem_append.1 hy with hy | hy
    · obtain ⟨h1, h2, h3⟩ := h y hy
      exact ⟨h1, fun e => by have := h2 e; omega, h3⟩
    · rw [List.mem_singleton.1 hy]
      exact ⟨.inl rfl, fun _ => Int.le_refl _, fun e => absurd e hne⟩
theorem ApL.right {a b t u : Int} {L : List (Int × Int)} (h : ApL a b t u L) (hne : a ≠ b) : ApX L (u + 1, b) ∧ ApL a b t (u + 1) (L ++ [(u + 1, b)]) := by
  refine ⟨fun y hy => ?_, fun y hy => ?_⟩
  · obtain ⟨h1, h2, h3⟩ := h y hy
    refine ⟨fun e => ?_, fun e => Idn.lt_iff.2 (.inl ?_)⟩
    · have := h3 (by rw [e]); rw [e] at this; simp at this; omega
    · have := h3 e; show y.1 < u + 1; omega
  · rcases List.mem_append.1 hy with hy | hy
    · obtain ⟨h1, h2, h3⟩ := h y hy
      exact ⟨h1, h2, fun e => by have := h3 e; omega⟩
    · rw [List.mem_singleton.1 hy]
      exact ⟨.inr rfl, fun e => absurd e.symm hne, fun _ => Int.le_refl _⟩
theorem ApL.more {a b t u t' u' : Int} {L : List (Int × Int)} (h : ApL a b t u L) (ht : t ≤ t') (hu : u ≤ u') : ApL a b t' u' L := fun y hy => by
  obtain ⟨h1, h2, h3⟩ := h y hy
  exact ⟨h1, fun e => Int.le_trans (h2 e) ht, fun e => Int.le_trans (h3 e) hu⟩
theorem Idn.seen_up (t : Int) (x : Int × Int) : t ≤ Idn.seen t x ∧ (∀ c, t ≤ c → x.1 ≤ c → Idn.seen t x ≤ c) := by
  unfold Idn.seen
  split
  · exact ⟨by omega, fun c h1 h2 => by omega⟩
  · exact ⟨by omega, fun c h1 _ => h1⟩

/-- Where the loop stands. -/
def ApLoop (w0 : World) (g h : Nat) (a b : Int) (k : Nat) (V : Value) (w : World) : Prop := ∃ t u L, ApW w0 g h a b t u V L w ∧ ApL a b t u L ∧ (0 ≤ t ∧ t ≤ k) ∧ (0 ≤ u ∧ u ≤ k) ∧ L.length ≤ k

set_option maxRecDepth 100000 in
set_option maxHeartbeats 6000000 in
theorem walk_IdentApart (a b : Int) (sa : Option Addr) (sn sc : Nat) (zs : List Int) (w : World) (ha : (Lit.int .i64 a).wf = true) (hb : (Lit.int .i64 b).wf = true) (hz : IsRow .i64 w sa sn sc zs) :
    Calls Try.prog 12 #[.int .i64 a, .int .i64 b, .slice sa sn sc] w fun e w' => e = .returned (.bool true) ∧ Below w.heap.size w w' := by
  obtain ⟨ns, hs, rfl, hmx, hwf⟩ := hz.slice
  clear hz ha hb
  unfold maxLen at hmx
  obtain ⟨aa, cc, e, hcc, hrow⟩ := hs
  injection e with e1 e2 e3
  subst e1 e3
  have HS := Lib.hid hrow
  have HWF := Lib.hid hwf
  clear hrow hwf hcc e2
  have mixed : Try.prog.follows .mixedOrders = true := by kernel_rfl
  by_cases hab : a = b
  · have d1 : decide (a = b) = true := decide_eq_true hab
    go_enter Try.func12, Try.ntmps12
    go_wp2_with fail
    refine (law10_live _).mono ?_
    rintro e w3 ⟨rfl, hb3⟩
    go_wp2
    go_ret
    exact ⟨rfl, hb3⟩
  · have d1 : decide (a = b) = false := decide_eq_false hab
    by_cases hoa : 0 ≤ a ∧ a ≤ 15
    · by_cases hob : 0 ≤ b ∧ b ≤ 15
      · have HNE := Lib.hid hab
        have HOK := Lib.hid (And.intro hoa hob)
        go_enter Try.func12, Try.ntmps12
        go_wp2_with fail
        refine (ident_New_yes a _ hoa).mono ?_
        rintro e w1 ⟨rfl, hm1, hb1⟩
        go_wp2_with fail
        refine (ident_New_yes b _ hob).mono ?_
        rintro e w2 ⟨rfl, hm2, hb2⟩
        have HL : Hid (ApLoop w w.heap.size w1.heap.size a b 0 (.slice none 0 0) w2) := Lib.hid ⟨0, 0, [], ⟨Holds.keep hm1 (Keep.of_grew hb2 Non) (fun h => h), hm2, by have := Holds.lt hm1; omega, Owns.nil _ _ _, fun i hi => (by cases hi), ⟨Nat.le_refl _, hb1.size⟩, grew hb1 hb2⟩, fun y hy => by simp at hy, by omega, by omega, by simp⟩
        generalize w.heap.size = g at *
        generalize w1.heap.size = h at *
        clear hm1 hm2 hb1 hb2 hoa hob hab
        go_wp2_with fail
        go_loopw [11, 12] (fun V i wr => ∃ k : Nat, k ≤ ns.length ∧ k ≤ 60 ∧ i = .int .i64 k ∧ ApLoop w g h a b k V wr) (fun _ i _ => 60 - (intOf i).toNat)
        case atStart => exact ⟨0, by omega, by omega, rfl, HL.out⟩
        case round =>
          obtain ⟨k, hk, hk60, rfl, hl⟩ := hrel
          have HL := Lib.hid hl
          clear hl
          by_cases hlt : k < ns.length ∧ k < 60
          · have e1 : decide ((k : Int) < (ns.length : Int)) = true := decide_eq_true (by omega)
            have e2 : decide ((k : Int) < 60) = true := decide_eq_true (by omega)
            have hia : (k : Int) < (ns.length : Int) := by omega
            obtain ⟨t, u, L, hA, hLL, ht, hu, hll⟩ := HL.out
            have HA := Lib.hid hA
            have HLL := Lib.hid hLL
            have HTU := Lib.hid (And.intro ht hu)
            clear hLL ht hu HL
            obtain ⟨sb, so, hsa, hsc⟩ : ∃ sb so, sa = some ⟨sb, so, none⟩ ∧ w.cell? ⟨sb, so + k, none⟩ = some (.int .i64 ns[k]) := by
              rcases HS.out with h | ⟨sb, so, ha, _, hc⟩
              · have := hlt.1; rw [h] at this; simp at this
              · exact ⟨sb, so, ha, hc k hlt.1⟩
            subst hsa
            have hsc' : wr.cell? ⟨sb, so + k, none⟩ = some (.int .i64 ns[k]) := by rw [hA.bel.cell (p := ⟨sb, so + k, none⟩) (block_lt_of_cell hsc)]; exact hsc
            have HSC := Lib.hid hsc'
            have HSC0 := Lib.hid hsc
            have HSBL : Hid (sb < w.heap.size) := Lib.hid (block_lt_of_cell hsc)
            have HZW := Lib.hid (HWF.out ns[k] (List.getElem_mem hlt.1))
            clear hsc hsc'
            generalize ns[k] = z at HSC HSC0 HZW
            have HXB := Lib.hid (Holds.new wr [.int .i64 0, .int .i64 0] 49)
            have HA := Lib.hid (HA.out.below (grew_alloc wr (.cells #[.int .i64 0, .int .i64 0] 49)))
            have hs1 : (wr.alloc (.cells #[.int .i64 0, .int .i64 0] 49)).cell? ⟨sb, so + k, none⟩ = some (.int .i64 z) := by rw [(grew_alloc wr _).cell (p := ⟨sb, so + k, none⟩) (Nat.lt_of_lt_of_le HSBL.out hA.bel.size)]; exact HSC.out
            obtain ⟨va, vc, rfl⟩ := hA.row.shape
            have HA0 := Lib.hid hA
            clear hA
            have HGH : Hid (g < wr.heap.size ∧ h < wr.heap.size) := Lib.hid ⟨Holds.lt HA0.out.m, Holds.lt HA0.out.n⟩
            have HBX : Hid (wr.heap.size ≠ g ∧ wr.heap.size ≠ h ∧ ¬ At (.slice va L.length vc) wr.heap.size ∧ w.heap.size ≤ wr.heap.size) := Lib.hid ⟨by have := HGH.out; omega, by have := HGH.out; omega, fun e => by have := Owns.lt HA0.out.own e; omega, HA0.out.bel.size⟩
            have HSZ : Hid (sb < w.heap.size) := HSBL
            clear HA0
            cases hev : (z.tmod 2 == 0)
            rotate_left
            · go_wp2_with fail
              refine (ident_Make HA.out.m (by have := HTU.out; omega)).mono ?_
              rintro e wi ⟨rfl, hm, hkp⟩
              have HXI := Lib.hid (HXB.out.keep hkp (fun e => by have e : wr.heap.size = g := e; have := HGH.out; omega))
              have HAI := Lib.hid (HA.out.turn_m hm hkp)
              clear hm hkp hs1 HA HXB
              simp only [idV]
              obtain ⟨c0, c1⟩ := HXI.out.two
              have f0 := HXI.out.frozen 0
              have f1 := HXI.out.frozen 1
              go_wp2_with fail
              obtain ⟨t', u', x1, x2, HA, HX, HF⟩ : ∃ t' u' x1 x2, Hid (ApW w g h a b t' u' (.slice va L.length vc) L ((wi.setCell ⟨wr.heap.size, 0, none⟩ (.int .i64 (t + 1))).setCell ⟨wr.heap.size, 1, none⟩ (.int .i64 a))) ∧ Hid (Holds ((wi.setCell ⟨wr.heap.size, 0, none⟩ (.int .i64 (t + 1))).setCell ⟨wr.heap.size, 1, none⟩ (.int .i64 a)) wr.heap.size [.int .i64 x1, .int .i64 x2] 49) ∧ Hid (ApX L (x1, x2) ∧ ApL a b t' u' (L ++ [(x1, x2)]) ∧ (0 ≤ t' ∧ t' ≤ k + 1) ∧ (0 ≤ u' ∧ u' ≤ k + 1) ∧ x1 ≤ k + 1) :=
                ⟨t + 1, u, t + 1, a, Lib.hid (HAI.out.aside HBX.out ((Keep.setCell _ _ 0 _).trans (Keep.setCell _ _ 1 _) (fun _ _ h => h))), Lib.hid (Holds.set (Holds.set HXI.out 0 (.int .i64 (t + 1)) (by simp)) 1 (.int .i64 a) (by simp)), Lib.hid ⟨(HLL.out.left HNE.out).1, (HLL.out.left HNE.out).2, by have := HTU.out; omega, by have := HTU.out; omega, by have := HTU.out; omega⟩⟩
              clear c0 c1 f0 f1
              generalize (wi.setCell ⟨wr.heap.size, 0, none⟩ (.int .i64 (t + 1))).setCell ⟨wr.heap.size, 1, none⟩ (.int .i64 a) = W2 at *
              generalize wr.heap.size = bx at *
              go_loopw [14] (fun i wv => ∃ j : Nat, j ≤ L.length ∧ i = .int .i64 j ∧ ApW w g h a b t' u' (.slice va L.length vc) L wv ∧ Holds wv bx [.int .i64 x1, .int .i64 x2] 49) (fun i _ => L.length - (intOf i).toNat)
              case atStart => exact ⟨0, by omega, rfl, HA.out, HX.out⟩
              case round =>
                obtain ⟨j, hj, rfl, hA3, hX3⟩ := hrel
                have HA3 := Lib.hid hA3
                have HX3 := Lib.hid hX3
                clear hA3 hX3
                by_cases hjl : j < L.length
                · have e3 : decide ((j : Int) < (L.length : Int)) = true := decide_eq_true (by omega)
                  have hij : (j : Int) < (L.length : Int) := by omega
                  obtain ⟨bb, off, e4, c0, c1⟩ := HA3.out.row.id hjl
                  cases e4
                  have HBL := Lib.hid (block_lt_of_cell c0)
                  obtain ⟨hne, hls⟩ := HF.out.1 L[j] (List.getElem_mem hjl)
                  have HLS := Lib.hid (fun W => ident_Less L[j] (x1, x2) W)
                  generalize L[j] = y at c0 c1 hne hls HLS
                  obtain ⟨y1, y2⟩ := y
                  simp only [idV] at c0 c1 hls HLS
                  obtain ⟨q0, q1⟩ := HX3.out.two
                  have k0 := cell_grown (w := wr) (a := ⟨bb, off + j * 2, none⟩) HBL.out c0
                  have k1 := cell_grown (w := wr) (a := ⟨bb, off + j * 2 + 1, none⟩) HBL.out c1
                  have k2 := cell_grown (w := wr) (a := ⟨bx, 0, none⟩) HX3.out.lt q0
                  have k3 := cell_grown (w := wr) (a := ⟨bx, 1, none⟩) HX3.out.lt q1
                  clear c0 c1 q0 q1
                  have hgd := fun op a b W => guard_id op a b #[.int .i64 y1, .int .i64 y2] #[.int .i64 x1, .int .i64 x2] W
                  have hq2 : ∀ W, (binOp .eql 49 (.agg #[.int .i64 y1, .int .i64 y2]) (.agg #[.int .i64 x1, .int .i64 x2])).run Try.prog W = .ok (.bool false) W := fun W => by rw [eql_id, decide_eq_false hne]
                  clear hne
                  by_cases hsite : y2 = x2
                  · have hl := hls hsite
                    rw [hl] at HLS
                    have de : decide (y2 = x2) = true := decide_eq_true hsite
                    have df : (y2 == x2) = true := by simp [hsite]
                    clear hl hls hsite
                    go_wp2_with fail
                    refine wp_region_quiet_grown (by assumption) (by kernel_rfl) ?_
                    repeat (go_big_quiet_step ((go_at_call 31; exact Calls.grown_of (HLS.out _))))
                    refine wpQuiet_nil ?_
                    intro _ hw'
                    obtain ⟨⟨nq, osq⟩, hw''⟩ := hw'
                    subst hw''
                    have hgr : Below wr.heap.size wr (Go.Sort.grow (wr.drewN nq) osq) := Grown.below ⟨nq, osq, rfl⟩
                    have HA4 := Lib.hid (HA3.out.below hgr)
                    have HX4 := Lib.hid (HX3.out.keep (Keep.of_grew hgr Non) (fun h => h))
                    clear hgr
                    go_wp2
                    go_roundw
                    case rel => exact ⟨j + 1, by omega, by go_num, HA4.out, HX4.out⟩
                    case measure => simp [intOf]; omega
                  · have de : decide (y2 = x2) = false := decide_eq_false hsite
                    have df : (y2 == x2) = false := by simp [hsite]
                    clear hls hsite
                    go_wp2_with fail
                    refine wp_region_quiet_grown (by assumption) (by kernel_rfl) ?_
                    repeat (go_big_quiet_step (fail))
                    refine wpQuiet_nil ?_
                    intro _ hw'
                    obtain ⟨⟨nq, osq⟩, hw''⟩ := hw'
                    subst hw''
                    have hgr : Below wr.heap.size wr (Go.Sort.grow (wr.drewN nq) osq) := Grown.below ⟨nq, osq, rfl⟩
                    have HA4 := Lib.hid (HA3.out.below hgr)
                    have HX4 := Lib.hid (HX3.out.keep (Keep.of_grew hgr Non) (fun h => h))
                    clear hgr
                    go_wp2
                    go_roundw
                    case rel => exact ⟨j + 1, by omega, by go_num, HA4.out, HX4.out⟩
                    case measure => simp [intOf]; omega
                · have e3 : decide ((j : Int) < (L.length : Int)) = false := decide_eq_false (by omega)
                  have hll2 := hll
                  obtain ⟨q0, q1⟩ := HX3.out.two
                  go_wp2_with (at_builtin; refine wp_append_lit rfl (.tmp 99) (.tmp 101) rfl Try.underlying53 info_id rfl (by decide) (by decide) (.slice va L.length vc) L.length (idCells L) rfl HA3.out.own 1 (idCells [(x1, x2)]) _ rfl rfl rfl (idCells_one _) (by omega) ?_; intro v' w' ho hk hn; have HX4 := Lib.hid (HX3.out.keep hk (fun e => HBX.out.2.2.1 e)); have HA4 := Lib.hid (HA3.out.add (x := (x1, x2)) ho hk hn); have hs4 : w'.cell? ⟨sb, so + k, none⟩ = some (.int .i64 z) := (HA4.out.bel.cell (p := ⟨sb, so + k, none⟩) HSZ.out).trans HSC0.out; obtain ⟨va4, vc4, e5⟩ := HA4.out.row.shape; subst e5; clear ho hk hn; obtain ⟨p0, p1⟩ := HX4.out.two)
                  · refine (ident_See HA4.out.m (x1, x2)).mono ?_
                    rintro e w5 ⟨rfl, hm, hkp⟩
                    have HX5 := Lib.hid (HX4.out.keep hkp (fun e => HBX.out.1 e))
                    have HA5 := Lib.hid (HA4.out.turn_m hm hkp)
                    clear hm hkp p0 p1 hs4
                    obtain ⟨p0, p1⟩ := HX5.out.two
                    go_wp2_with fail
                    refine (ident_See HA5.out.n (x1, x2)).mono ?_
                    rintro e w6 ⟨rfl, hm, hkp⟩
                    have HA6 := Lib.hid (HA5.out.turn_n hm hkp)
                    clear hm hkp p0 p1
                    rw [show (L ++ [(x1, x2)]).length = L.length + 1 from by simp] at HA6
                    have HT := Lib.hid (Idn.seen_up t' (x1, x2))
                    have HU := Lib.hid (Idn.seen_up u' (x1, x2))
                    go_wp2
                    go_roundw
                    case rel => exact ⟨k + 1, by omega, by omega, by go_num, _, _, _, HA6.out, HF.out.2.1.more HT.out.1 HU.out.1, ⟨by have := HF.out.2.2.1; have := HT.out.1; omega, HT.out.2 _ (by have := HF.out.2.2.1; push_cast; omega) (by have := HF.out.2.2.2.2; push_cast; omega)⟩, ⟨by have := HF.out.2.2.2.1; have := HU.out.1; omega, HU.out.2 _ (by have := HF.out.2.2.2.1; push_cast; omega) (by have := HF.out.2.2.2.2; push_cast; omega)⟩, by simp; omega⟩
                    case measure => simp [intOf]; omega
                  · rw [show (L ++ [(x1, x2)]).length = L.length + 1 from by simp] at HA4
                    refine ⟨⟨k + 1, by omega, by omega, by go_num, _, _, _, HA4.out, HF.out.2.1, by have := HF.out.2.2.1; push_cast; omega, by have := HF.out.2.2.2.1; push_cast; omega, by simp; omega⟩, by simp [intOf]; omega⟩
            · go_wp2_with fail
              refine (ident_Make HA.out.n (by have := HTU.out; omega)).mono ?_
              rintro e wi ⟨rfl, hm, hkp⟩
              have HXI := Lib.hid (HXB.out.keep hkp (fun e => by have e : wr.heap.size = h := e; have := HGH.out; omega))
              have HAI := Lib.hid (HA.out.turn_n hm hkp)
              clear hm hkp hs1 HA HXB
              simp only [idV]
              obtain ⟨c0, c1⟩ := HXI.out.two
              have f0 := HXI.out.frozen 0
              have f1 := HXI.out.frozen 1
              go_wp2_with fail
              obtain ⟨t', u', x1, x2, HA, HX, HF⟩ : ∃ t' u' x1 x2, Hid (ApW w g h a b t' u' (.slice va L.length vc) L ((wi.setCell ⟨wr.heap.size, 0, none⟩ (.int .i64 (u + 1))).setCell ⟨wr.heap.size, 1, none⟩ (.int .i64 b))) ∧ Hid (Holds ((wi.setCell ⟨wr.heap.size, 0, none⟩ (.int .i64 (u + 1))).setCell ⟨wr.heap.size, 1, none⟩ (.int .i64 b)) wr.heap.size [.int .i64 x1, .int .i64 x2] 49) ∧ Hid (ApX L (x1, x2) ∧ ApL a b t' u' (L ++ [(x1, x2)]) ∧ (0 ≤ t' ∧ t' ≤ k + 1) ∧ (0 ≤ u' ∧ u' ≤ k + 1) ∧ x1 ≤ k + 1) :=
                ⟨t, u + 1, u + 1, b, Lib.hid (HAI.out.aside HBX.out ((Keep.setCell _ _ 0 _).trans (Keep.setCell _ _ 1 _) (fun _ _ h => h))), Lib.hid (Holds.set (Holds.set HXI.out 0 (.int .i64 (u + 1)) (by simp)) 1 (.int .i64 b) (by simp)), Lib.hid ⟨(HLL.out.right HNE.out).1, (HLL.out.right HNE.out).2, by have := HTU.out; omega, by have := HTU.out; omega, by have := HTU.out; omega⟩⟩
              clear c0 c1 f0 f1
              generalize (wi.setCell ⟨wr.heap.size, 0, none⟩ (.int .i64 (u + 1))).setCell ⟨wr.heap.size, 1, none⟩ (.int .i64 b) = W2 at *
              generalize wr.heap.size = bx at *
              go_loopw [14] (fun i wv => ∃ j : Nat, j ≤ L.length ∧ i = .int .i64 j ∧ ApW w g h a b t' u' (.slice va L.length vc) L wv ∧ Holds wv bx [.int .i64 x1, .int .i64 x2] 49) (fun i _ => L.length - (intOf i).toNat)
              case atStart => exact ⟨0, by omega, rfl, HA.out, HX.out⟩
              case round =>
                obtain ⟨j, hj, rfl, hA3, hX3⟩ := hrel
                have HA3 := Lib.hid hA3
                have HX3 := Lib.hid hX3
                clear hA3 hX3
                by_cases hjl : j < L.length
                · have e3 : decide ((j : Int) < (L.length : Int)) = true := decide_eq_true (by omega)
                  have hij : (j : Int) < (L.length : Int) := by omega
                  obtain ⟨bb, off, e4, c0, c1⟩ := HA3.out.row.id hjl
                  cases e4
                  have HBL := Lib.hid (block_lt_of_cell c0)
                  obtain ⟨hne, hls⟩ := HF.out.1 L[j] (List.getElem_mem hjl)
                  have HLS := Lib.hid (fun W => ident_Less L[j] (x1, x2) W)
                  generalize L[j] = y at c0 c1 hne hls HLS
                  obtain ⟨y1, y2⟩ := y
                  simp only [idV] at c0 c1 hls HLS
                  obtain ⟨q0, q1⟩ := HX3.out.two
                  have k0 := cell_grown (w := wr) (a := ⟨bb, off + j * 2, none⟩) HBL.out c0
                  have k1 := cell_grown (w := wr) (a := ⟨bb, off + j * 2 + 1, none⟩) HBL.out c1
                  have k2 := cell_grown (w := wr) (a := ⟨bx, 0, none⟩) HX3.out.lt q0
                  have k3 := cell_grown (w := wr) (a := ⟨bx, 1, none⟩) HX3.out.lt q1
                  clear c0 c1 q0 q1
                  have hgd := fun op a b W => guard_id op a b #[.int .i64 y1, .int .i64 y2] #[.int .i64 x1, .int .i64 x2] W
                  have hq2 : ∀ W, (binOp .eql 49 (.agg #[.int .i64 y1, .int .i64 y2]) (.agg #[.int .i64 x1, .int .i64 x2])).run Try.prog W = .ok (.bool false) W := fun W => by rw [eql_id, decide_eq_false hne]
                  clear hne
                  by_cases hsite : y2 = x2
                  · have hl := hls hsite
                    rw [hl] at HLS
                    have de : decide (y2 = x2) = true := decide_eq_true hsite
                    have df : (y2 == x2) = true := by simp [hsite]
                    clear hl hls hsite
                    go_wp2_with fail
                    refine wp_region_quiet_grown (by assumption) (by kernel_rfl) ?_
                    repeat (go_big_quiet_step ((go_at_call 31; exact Calls.grown_of (HLS.out _))))
                    refine wpQuiet_nil ?_
                    intro _ hw'
                    obtain ⟨⟨nq, osq⟩, hw''⟩ := hw'
                    subst hw''
                    have hgr : Below wr.heap.size wr (Go.Sort.grow (wr.drewN nq) osq) := Grown.below ⟨nq, osq, rfl⟩
                    have HA4 := Lib.hid (HA3.out.below hgr)
                    have HX4 := Lib.hid (HX3.out.keep (Keep.of_grew hgr Non) (fun h => h))
                    clear hgr
                    go_wp2
                    go_roundw
                    case rel => exact ⟨j + 1, by omega, by go_num, HA4.out, HX4.out⟩
                    case measure => simp [intOf]; omega
                  · have de : decide (y2 = x2) = false := decide_eq_false hsite
                    have df : (y2 == x2) = false := by simp [hsite]
                    clear hls hsite
                    go_wp2_with fail
                    refine wp_region_quiet_grown (by assumption) (by kernel_rfl) ?_
                    repeat (go_big_quiet_step (fail))
                    refine wpQuiet_nil ?_
                    intro _ hw'
                    obtain ⟨⟨nq, osq⟩, hw''⟩ := hw'
                    subst hw''
                    have hgr : Below wr.heap.size wr (Go.Sort.grow (wr.drewN nq) osq) := Grown.below ⟨nq, osq, rfl⟩
                    have HA4 := Lib.hid (HA3.out.below hgr)
                    have HX4 := Lib.hid (HX3.out.keep (Keep.of_grew hgr Non) (fun h => h))
                    clear hgr
                    go_wp2
                    go_roundw
                    case rel => exact ⟨j + 1, by omega, by go_num, HA4.out, HX4.out⟩
                    case measure => simp [intOf]; omega
                · have e3 : decide ((j : Int) < (L.length : Int)) = false := decide_eq_false (by omega)
                  have hll2 := hll
                  obtain ⟨q0, q1⟩ := HX3.out.two
                  go_wp2_with (at_builtin; refine wp_append_lit rfl (.tmp 99) (.tmp 101) rfl Try.underlying53 info_id rfl (by decide) (by decide) (.slice va L.length vc) L.length (idCells L) rfl HA3.out.own 1 (idCells [(x1, x2)]) _ rfl rfl rfl (idCells_one _) (by omega) ?_; intro v' w' ho hk hn; have HX4 := Lib.hid (HX3.out.keep hk (fun e => HBX.out.2.2.1 e)); have HA4 := Lib.hid (HA3.out.add (x := (x1, x2)) ho hk hn); have hs4 : w'.cell? ⟨sb, so + k, none⟩ = some (.int .i64 z) := (HA4.out.bel.cell (p := ⟨sb, so + k, none⟩) HSZ.out).trans HSC0.out; obtain ⟨va4, vc4, e5⟩ := HA4.out.row.shape; subst e5; clear ho hk hn; obtain ⟨p0, p1⟩ := HX4.out.two)
                  · refine (ident_See HA4.out.m (x1, x2)).mono ?_
                    rintro e w5 ⟨rfl, hm, hkp⟩
                    have HX5 := Lib.hid (HX4.out.keep hkp (fun e => HBX.out.1 e))
                    have HA5 := Lib.hid (HA4.out.turn_m hm hkp)
                    clear hm hkp p0 p1 hs4
                    obtain ⟨p0, p1⟩ := HX5.out.two
                    go_wp2_with fail
                    refine (ident_See HA5.out.n (x1, x2)).mono ?_
                    rintro e w6 ⟨rfl, hm, hkp⟩
                    have HA6 := Lib.hid (HA5.out.turn_n hm hkp)
                    clear hm hkp p0 p1
                    rw [show (L ++ [(x1, x2)]).length = L.length + 1 from by simp] at HA6
                    have HT := Lib.hid (Idn.seen_up t' (x1, x2))
                    have HU := Lib.hid (Idn.seen_up u' (x1, x2))
                    go_wp2
                    go_roundw
                    case rel => exact ⟨k + 1, by omega, by omega, by go_num, _, _, _, HA6.out, HF.out.2.1.more HT.out.1 HU.out.1, ⟨by have := HF.out.2.2.1; have := HT.out.1; omega, HT.out.2 _ (by have := HF.out.2.2.1; push_cast; omega) (by have := HF.out.2.2.2.2; push_cast; omega)⟩, ⟨by have := HF.out.2.2.2.1; have := HU.out.1; omega, HU.out.2 _ (by have := HF.out.2.2.2.1; push_cast; omega) (by have := HF.out.2.2.2.2; push_cast; omega)⟩, by simp; omega⟩
                    case measure => simp [intOf]; omega
                  · rw [show (L ++ [(x1, x2)]).length = L.length + 1 from by simp] at HA4
                    refine ⟨⟨k + 1, by omega, by omega, by go_num, _, _, _, HA4.out, HF.out.2.1, by have := HF.out.2.2.1; push_cast; omega, by have := HF.out.2.2.2.1; push_cast; omega, by simp; omega⟩, by simp [intOf]; omega⟩
          · by_cases d2 : k < ns.length
            · have e1 : decide ((k : Int) < (ns.length : Int)) = true := decide_eq_true (by omega)
              have e2 : decide ((k : Int) < 60) = false := decide_eq_false (by omega)
              obtain ⟨t, u, L, hA, _⟩ := HL.out
              have HBE := Lib.hid hA.bel
              obtain ⟨va, vc, e⟩ := hA.row.shape
              subst e
              clear hA
              go_wp2_with fail
              refine (law10_live _).mono ?_
              rintro e w3 ⟨rfl, hb3⟩
              have HB3 := Lib.hid (grew HBE.out hb3)
              clear hb3
              go_wp2
              go_ret
              exact ⟨rfl, HB3.out⟩
            · have e1 : decide ((k : Int) < (ns.length : Int)) = false := decide_eq_false (by omega)
              obtain ⟨t, u, L, hA, _⟩ := HL.out
              have HBE := Lib.hid hA.bel
              obtain ⟨va, vc, e⟩ := hA.row.shape
              subst e
              clear hA
              go_wp2_with fail
              refine (law10_live _).mono ?_
              rintro e w3 ⟨rfl, hb3⟩
              have HB3 := Lib.hid (grew HBE.out hb3)
              clear hb3
              go_wp2
              go_ret
              exact ⟨rfl, HB3.out⟩
      · go_enter Try.func12, Try.ntmps12
        go_wp2_with fail
        refine (ident_New_yes a _ hoa).mono ?_
        rintro e w1 ⟨rfl, hm1, hb1⟩
        go_wp2_with fail
        refine (ident_New_no b _ hob).mono ?_
        rintro e w2 ⟨rfl, h2⟩
        subst h2
        go_wp2_with fail
        refine (law10_live _).mono ?_
        rintro e w3 ⟨rfl, hb3⟩
        go_wp2
        go_ret
        exact ⟨rfl, grew hb1 hb3⟩
    · go_enter Try.func12, Try.ntmps12
      go_wp2_with fail
      refine (ident_New_no a _ hoa).mono ?_
      rintro e w1 ⟨rfl, h1⟩
      subst h1
      by_cases hob : 0 ≤ b ∧ b ≤ 15
      · go_wp2_with fail
        refine (ident_New_yes b _ hob).mono ?_
        rintro e w2 ⟨rfl, hm1, hb1⟩
        go_wp2_with fail
        refine (law10_live _).mono ?_
        rintro e w3 ⟨rfl, hb3⟩
        go_wp2
        go_ret
        exact ⟨rfl, grew hb1 hb3⟩
      · go_wp2_with fail
        refine (ident_New_no b _ hob).mono ?_
        rintro e w2 ⟨rfl, h2⟩
        subst h2
        go_wp2_with fail
        refine (law10_live _).mono ?_
        rintro e w3 ⟨rfl, hb3⟩
        go_wp2
        go_ret
        exact ⟨rfl, hb3⟩
end Go.Proofs.Yteooganpnmfkbaa
