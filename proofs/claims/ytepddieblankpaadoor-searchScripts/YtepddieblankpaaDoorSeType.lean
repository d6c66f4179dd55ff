/- A search's Type, Rub; a new one. -/
import Derived.Test.YtepddieblankpaaDoorSeOps
namespace Go.Proofs.YtepddieblankpaaDoor
open Go.RowKit Go.Shelf
attribute [local go_sem] Oper.semAt_some
set_option linter.unusedVariables false

theorem search_asText (n : Int) (w : World) (h : -2147483648 ≤ n ∧ n ≤ 2147483647) : Calls Tryd.prog 48 #[.int .i64 n] w fun e w' => e = .returned (.string (Utf8.encode n)) ∧ w = w' := by
  have hw : wrap32 n = n := IntWalk.wrap32_in _ h
  go_enter Tryd.func48, Tryd.ntmps48
  go_wp2
  go_ret
  exact ⟨rfl, rfl⟩
theorem rune_range {r : Int} (h : Mesg.rune r = true) : 32 ≤ r ∧ r ≤ 1114111 ∧ (r < 55296 ∨ 57344 ≤ r) := by
  simp [Mesg.rune] at h
  omega

theorem search_Type_bad {w : World} {p : Nat} {r : Int} (h : Mesg.rune r = false) :
    Calls Tryd.prog 18 #[.pointer (some ⟨p, 0, none⟩), .int .i64 r] w fun e w' => e = .returned (.bool false) ∧ w = w' := by
  have HR := Lib.hid h
  clear h
  go_enter Tryd.func18, Tryd.ntmps18
  go_wp2_with (go_at_call 46; refine (mesg_Rune r w).mono ?_; rintro e w1 ⟨rfl, h1⟩; rw [HR.out])
  subst h1
  go_ret
  exact ⟨rfl, rfl⟩
theorem search_Type_full {w : World} {p : Nat} {v : Value} {q : ByteArray} {pl : Int} {fd : Bool} (hS : IsS w p v q pl fd) {r : Int} (h : Mesg.rune r = true) (hq : q.size ≤ 1000000000) (hc : 200 ≤ Lib.runeCount q) :
    Calls Tryd.prog 18 #[.pointer (some ⟨p, 0, none⟩), .int .i64 r] w fun e w' => e = .returned (.bool false) ∧ Below w.heap.size w w' := by
  have HR := Lib.hid h
  obtain ⟨c0, c1, c2, c3, z0, z1, z2, z3⟩ := hS
  have HC := Lib.hid (utf8_Count q w (by omega))
  have d1 : decide ((200 : Int) ≤ (Lib.runeCount q : Int)) = true := decide_eq_true (by omega)
  generalize Lib.runeCount q = n at *
  clear h hc
  go_enter Tryd.func18, Tryd.ntmps18
  go_wp2_with fail
  refine (mesg_Rune r w).mono ?_
  rintro e w1 ⟨rfl, h1⟩
  subst h1
  rw [HR.out]
  go_wp2_with fail
  refine HC.out.mono ?_
  rintro e w1 ⟨rfl, hb⟩
  have HB := Lib.hid hb
  clear hb
  go_wp2
  go_ret
  exact ⟨rfl, HB.out⟩

set_option maxRecDepth 100000 in
set_option maxHeartbeats 4000000 in
theorem search_Type {w : World} {p : Nat} {v : Value} {ts : List ByteArray} {q : ByteArray} {pl : Int} {fd : Bool} (hS : Sea w p v ts q pl fd) {r : Int} (h : Mesg.rune r = true) (hq : q.size ≤ 1000000000) (hc : Lib.runeCount q < 200) {k : Nat} (hk : k ≤ ts.length) (hf : if fd then pl = (k : Int) - 1 else k = ts.length) :
    Calls Tryd.prog 18 #[.pointer (some ⟨p, 0, none⟩), .int .i64 r] w (SeaStep p v ts w (Srch.lastFit ts (q ++ Utf8.encode r) k).isSome (q ++ Utf8.encode r) (Srch.placeOf 0 (Srch.lastFit ts (q ++ Utf8.encode r) k)) (Srch.foundOf false (Srch.lastFit ts (q ++ Utf8.encode r) k))) := by
  have HR := Lib.hid h
  have H := Lib.hid hS
  obtain ⟨c0, c1, c2, c3, z0, z1, z2, z3⟩ := hS.box
  have hrr := rune_range h
  have HA : Hid (∀ w, Calls Tryd.prog 48 #[.int .i64 r] w fun e w' => e = .returned (.string (Utf8.encode r)) ∧ w = w') := Lib.hid (fun w => search_asText r w (by omega))
  have hel : (Utf8.encode r).size ≤ 4 := by
    obtain ⟨n, rfl⟩ : ∃ n : Nat, r = n := ⟨r.toNat, by omega⟩
    have := (Ut.enc_len (r := n) (by unfold Ut.Ok; omega)).2
    unfold Ut.enc at this
    simpa using this
  have HC := Lib.hid (utf8_Count q w (by omega))
  have d1 : decide ((200 : Int) ≤ (Lib.runeCount q : Int)) = false := decide_eq_false (by omega)
  generalize Lib.runeCount q = n at *
  generalize Utf8.encode r = en at *
  have hsum : q.size + en.size ≤ 9223372036854775807 := by omega
  clear h hc hS hrr
  go_enter Tryd.func18, Tryd.ntmps18
  go_wp2_with fail
  refine (mesg_Rune r w).mono ?_
  rintro e w1 ⟨rfl, h1⟩
  subst h1
  rw [HR.out]
  go_wp2_with fail
  refine HC.out.mono ?_
  rintro e w1 ⟨rfl, hb⟩
  have H1 := Lib.hid (H.out.below hb)
  have HK1 := Lib.hid (Keep.of_grew hb (Just p))
  clear hb c0 c1 c2 c3 z0 z1 z2 z3
  go_wp2_with fail
  refine (wpIn_wide (n := 3)).1 ?_
  refine wpIn_region_any (by kernel_rfl) ?_
  try (change wpAnyIn _ _ _ _ _ _ _ _ _ (World.drew _))
  have H2 := Lib.hid (H1.out.below (grew_drew w1))
  have HK2 : Hid (Keep (Just p) w w1.drew) := Lib.hid (HK1.out.trans (Keep.of_grew (grew_drew w1) (Just p)) (fun _ _ h => h))
  clear H1 HK1
  generalize w1.drew = W6 at *
  have c6 := H2.out.box.c1
  refine wpAnyY.any (y := 9) (S := fun w8 => w8.cell? ⟨p, 1, none⟩ = some (.string q)) ?_
  refine wpAnyY_take (i := 0) (v := (.pointer (some ⟨p, 0, none⟩))) (fun _ => trivial) rfl (by kernel_rfl) (by kernel_rfl) (by kernel_rfl) (by kernel_rfl) (by kernel_rfl) (by kernel_rfl) (by kernel_rfl) (fun _ _ _ h => h) c6 (.inl ⟨by rfl, fun w8 h8 => (by go_simp)⟩) ?_
  refine wpAnyY_take (i := 1) (v := (.pointer (some ⟨p, 0, none⟩))) (fun _ => trivial) rfl (by kernel_rfl) (by kernel_rfl) (by kernel_rfl) (by kernel_rfl) (by kernel_rfl) (by kernel_rfl) (by kernel_rfl) (fun _ _ _ h => h) c6 (.inl ⟨by rfl, fun w8 h8 => (by go_simp)⟩) ?_
  refine wpAnyY_take (i := 2) (v := (.pointer (some ⟨p, 1, none⟩))) (fun _ => trivial) rfl (by kernel_rfl) (by kernel_rfl) (by kernel_rfl) (by kernel_rfl) (by kernel_rfl) (by kernel_rfl) (by kernel_rfl) (fun _ _ _ h => h) c6 (.inl ⟨by rfl, fun w8 h8 => (by go_simp)⟩) ?_
  refine wpAnyY_take (i := 3) (v := (.string q)) (fun _ => trivial) rfl (by kernel_rfl) (by kernel_rfl) (by kernel_rfl) (by kernel_rfl) (by kernel_rfl) (by kernel_rfl) (by kernel_rfl) (fun _ _ _ h => h) c6 (.inl ⟨by rfl, fun w8 h8 => (by go_simp)⟩) ?_
  refine wpAnyY_take (i := 4) (v := (.int .i64 r)) (fun _ => trivial) rfl (by kernel_rfl) (by kernel_rfl) (by kernel_rfl) (by kernel_rfl) (by kernel_rfl) (by kernel_rfl) (by kernel_rfl) (fun _ _ _ h => h) c6 (.inl ⟨by rfl, fun w8 h8 => (by go_simp)⟩) ?_
  refine wpAnyY_one (i := 5) (by kernel_rfl) rfl (fun K hK => ?_)
  go_simp
  refine ⟨trivial, (callsIn_wide.2 (HA.out W6)).mono ?_⟩
  rintro e w7 ⟨rfl, h7⟩
  rw [← h7]
  clear h7
  refine hK _ _ (fun _ => c6) ?_
  clear hK K
  refine wpAnyY_take (i := 6) (v := (.string (q ++ en))) (fun _ => trivial) rfl (by kernel_rfl) (by kernel_rfl) (by kernel_rfl) (by kernel_rfl) (by kernel_rfl) (by kernel_rfl) (by kernel_rfl) (fun _ _ _ h => h) c6 (.inl ⟨by rfl, fun w8 h8 => (by go_simp)⟩) ?_
  refine wpAnyY_take (i := 7) (v := (.pointer (some ⟨p, 0, none⟩))) (fun _ => trivial) rfl (by kernel_rfl) (by kernel_rfl) (by kernel_rfl) (by kernel_rfl) (by kernel_rfl) (by kernel_rfl) (by kernel_rfl) (fun _ _ _ h => h) c6 (.inl ⟨by rfl, fun w8 h8 => (by go_simp)⟩) ?_
  refine wpAnyY_take (i := 8) (v := (.pointer (some ⟨p, 1, none⟩))) (fun _ => trivial) rfl (by kernel_rfl) (by kernel_rfl) (by kernel_rfl) (by kernel_rfl) (by kernel_rfl) (by kernel_rfl) (by kernel_rfl) (fun _ _ _ h => h) c6 (.inl ⟨by rfl, fun w8 h8 => (by go_simp)⟩) ?_
  refine wpAnyY_one (i := 9) (by kernel_rfl) rfl (fun K hK => ?_)
  have z6 := H2.out.box.fz.2.1
  go_simp
  refine hK _ _ (fun h => listed_yes h (by kernel_rfl)) ?_
  clear hK K z6
  refine wpAnyY_done (by kernel_rfl) ?_ _
  have HK3 : Hid (Keep (Just p) w (W6.setCell ⟨p, 1, none⟩ (.string (q ++ en)))) := Lib.hid (HK2.out.trans (Keep.setCell W6 p 1 _) (fun _ _ h => h))
  have H3 : Hid (Sea (W6.setCell ⟨p, 1, none⟩ (.string (q ++ en))) p v ts (q ++ en) pl fd) := Lib.hid (H2.out.turn (S := Just p) (Keep.setCell W6 p 1 _) (H2.out.box.ask (q ++ en)))
  clear c6 H2 HK2
  generalize W6.setCell ⟨p, 1, none⟩ (.string (q ++ en)) = W7 at *
  generalize q ++ en = qe at *
  obtain ⟨c0, c1, c2, c3, z0, z1, z2, z3⟩ := H3.out.box
  obtain ⟨a, cap, rfl⟩ : ∃ a cap, v = .slice a ts.length cap := by obtain ⟨a, cap, e, _⟩ := H3.out.lines; exact ⟨a, cap, e⟩
  have hfew := H3.out.few
  cases fd with
  | true =>
    have HZ : Hid (pl = (k : Int) - 1) := Lib.hid hf
    clear hf
    go_wp2_with fail
    refine (search_look H3.out hk HZ.out).mono ?_
    rintro e w8 ⟨rfl, h8, hk8⟩
    have H8 := Lib.hid (And.intro h8 hk8)
    clear h8 hk8
    go_wp2
    go_ret
    exact ⟨rfl, H8.out.1, HK3.out.trans H8.out.2 (fun _ _ h => h)⟩
  | false =>
    have hkk : k = ts.length := hf
    have HZ : Hid ((ts.length : Int) - 1 = (k : Int) - 1) := Lib.hid (by omega)
    have hw : wrap64 ((ts.length : Int) - 1) = (ts.length : Int) - 1 := IntWalk.wrap64_in _ ⟨by omega, by omega⟩
    clear hf hkk
    go_wp2_with fail
    refine (search_look H3.out hk HZ.out).mono ?_
    rintro e w8 ⟨rfl, h8, hk8⟩
    have H8 := Lib.hid (And.intro h8 hk8)
    clear h8 hk8
    go_wp2
    go_ret
    exact ⟨rfl, H8.out.1, HK3.out.trans H8.out.2 (fun _ _ h => h)⟩
end Go.Proofs.YtepddieblankpaaDoor
