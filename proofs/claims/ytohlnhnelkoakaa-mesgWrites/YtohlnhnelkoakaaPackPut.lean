/- What pack's own helpers come to: fits, behind, put. -/
import Derived.Test.YtohlnhnelkoakaaOwn
import Derived.Test.YtohlnhnelkoakaaPackMath
import Derived.Test.YtohlnhnelkoakaaBits
namespace Go.Proofs.Ytohlnhnelkoakaa
open Go.RowKit
set_option linter.unusedVariables false

theorem pack_fits_yes (n : Int) (w : World) (h0 : 0 ≤ n) (h1 : n ≤ 4294967295) :
    Calls Try.prog 43 #[.int .i64 n] w fun e w' => e = .returned (.bool true) ∧ w = w' := by
  have hd0 : decide (0 ≤ n) = true := by simpa using h0
  have hd1 : decide (n ≤ 4294967295) = true := by simpa using h1
  go_enter Try.func43, Try.ntmps43
  go_wp2
  go_ret
  exact ⟨rfl, rfl⟩

theorem pack_fits_no (n : Int) (w : World) (h : n < 0 ∨ 4294967295 < n) :
    Calls Try.prog 43 #[.int .i64 n] w fun e w' => e = .returned (.bool false) ∧ w = w' := by
  by_cases h0 : 0 ≤ n
  · have hd0 : decide (0 ≤ n) = true := by simpa using h0
    have hd1 : decide (n ≤ 4294967295) = false := by simp; omega
    clear h
    go_enter Try.func43, Try.ntmps43
    go_wp2
    go_ret
    exact ⟨rfl, rfl⟩
  · have hd0 : decide (0 ≤ n) = false := by simpa using h0
    clear h
    go_enter Try.func43, Try.ntmps43
    go_wp2
    go_ret
    exact ⟨rfl, rfl⟩

theorem pack_behind (n : Nat) (w : World) :
    Calls Try.prog 55 #[.int .i64 (n : Int)] w fun e w' => e = .returned (.int .i64 (Pack.behind n : Int)) ∧ w = w' := by
  by_cases h0 : n < 248
  · have d0 : decide ((n : Int) < 248) = true := by simp; omega
    have H : Hid (Pack.behind n = 0) := Lib.hid (by unfold Pack.behind; rw [if_pos h0])
    clear h0
    go_enter Try.func55, Try.ntmps55
    go_wp2
    go_ret
    exact ⟨ret_int (by rw [H.out]; rfl), rfl⟩
  · by_cases h1 : n < 256
    · have d0 : decide ((n : Int) < 248) = false := by simp; omega
      have d1 : decide ((n : Int) < 256) = true := by simp; omega
      have H : Hid (Pack.behind n = 1) := Lib.hid (by unfold Pack.behind; rw [if_neg h0, if_pos h1])
      clear h0 h1
      go_enter Try.func55, Try.ntmps55
      go_wp2
      go_ret
      exact ⟨ret_int (by rw [H.out]; rfl), rfl⟩
    · by_cases h2 : n < 65536
      · have d0 : decide ((n : Int) < 248) = false := by simp; omega
        have d1 : decide ((n : Int) < 256) = false := by simp; omega
        have d2 : decide ((n : Int) < 65536) = true := by simp; omega
        have H : Hid (Pack.behind n = 2) := Lib.hid (by unfold Pack.behind; rw [if_neg h0, if_neg h1, if_pos h2])
        clear h0 h1 h2
        go_enter Try.func55, Try.ntmps55
        go_wp2
        go_ret
        exact ⟨ret_int (by rw [H.out]; rfl), rfl⟩
      · by_cases h3 : n < 16777216
        · have d0 : decide ((n : Int) < 248) = false := by simp; omega
          have d1 : decide ((n : Int) < 256) = false := by simp; omega
          have d2 : decide ((n : Int) < 65536) = false := by simp; omega
          have d3 : decide ((n : Int) < 16777216) = true := by simp; omega
          have H : Hid (Pack.behind n = 3) := Lib.hid (by unfold Pack.behind; rw [if_neg h0, if_neg h1, if_neg h2, if_pos h3])
          clear h0 h1 h2 h3
          go_enter Try.func55, Try.ntmps55
          go_wp2
          go_ret
          exact ⟨ret_int (by rw [H.out]; rfl), rfl⟩
        · have d0 : decide ((n : Int) < 248) = false := by simp; omega
          have d1 : decide ((n : Int) < 256) = false := by simp; omega
          have d2 : decide ((n : Int) < 65536) = false := by simp; omega
          have d3 : decide ((n : Int) < 16777216) = false := by simp; omega
          have H : Hid (Pack.behind n = 4) := Lib.hid (by unfold Pack.behind; rw [if_neg h0, if_neg h1, if_neg h2, if_neg h3])
          clear h0 h1 h2 h3
          go_enter Try.func55, Try.ntmps55
          go_wp2
          go_ret
          exact ⟨ret_int (by rw [H.out]; rfl), rfl⟩

theorem by1_val (n : Nat) (m : Int) (h : m = ((n % 256 : Nat) : Int)) : m = ((Pack.by1 n).toNat : Int) := by rw [Pack.by1_toNat]; exact h

set_option maxHeartbeats 1000000 in
theorem put_one (v : Value) (l : List UInt8) (n : Nat) (base : Nat) (w : World) (hn : n < 248) (hown : OwnsB w base v l) (hbase : base ≤ w.heap.size) (hlen : l.length < 900000000) :
    Calls Try.prog 42 #[v, .int .i64 (n : Int)] w fun e w' => ∃ v', e = .returned v' ∧ OwnsB w' base v' (l ++ Pack.num n) ∧ Below base w w' := by
  have hb : Pack.behind n = 0 := by unfold Pack.behind; rw [if_pos hn]
  have HN : Hid (Pack.num n = [Pack.by1 n]) := Lib.hid (by unfold Pack.num; rw [if_pos hn])
  go_enter Try.func42, Try.ntmps42
  go_wp2_with fail
  refine (pack_behind n _).mono ?_
  rintro e w' ⟨rfl, rfl⟩
  go_wp2_with (at_builtin; refine wp_append_byte rfl _ _ rfl base v l _ (Pack.by1 n) (by1_val _ _ (by omega)) rfl rfl hown hbase (by omega) ?_; intro v1 w1 ho1 hb1)
  go_ret
  exact ⟨_, rfl, by rw [HN.out]; exact ho1, hb1⟩

set_option maxHeartbeats 2000000 in
theorem put_two (v : Value) (l : List UInt8) (n : Nat) (base : Nat) (w : World) (h0 : 248 ≤ n) (h1 : n < 256) (hown : OwnsB w base v l) (hbase : base ≤ w.heap.size) (hlen : l.length < 900000000) :
    Calls Try.prog 42 #[v, .int .i64 (n : Int)] w fun e w' => ∃ v', e = .returned v' ∧ OwnsB w' base v' (l ++ Pack.num n) ∧ Below base w w' := by
  have hb : Pack.behind n = 1 := by unfold Pack.behind; rw [if_neg (by omega), if_pos h1]
  have HN : Hid (Pack.num n = [248, Pack.by1 n]) := Lib.hid (by unfold Pack.num; rw [if_neg (by omega), if_pos h1])
  go_enter Try.func42, Try.ntmps42
  go_wp2_with fail
  refine (pack_behind n _).mono ?_
  rintro e w' ⟨rfl, rfl⟩
  go_wp2_with (first
    | (at_builtin; refine wp_append_byte rfl (.tmp 10) (.tmp 14) rfl base v l _ 248 rfl rfl rfl hown hbase (by omega) ?_; intro v0 w0 ho0 hb0; have hs0 := hb0.size)
    | (at_builtin; refine wp_append_byte rfl (.tmp 41) (.tmp 44) rfl base v0 _ _ (Pack.by1 n) (by1_val _ _ (by omega)) rfl rfl ho0 (by omega) (by simp; omega) ?_; intro v1 w1 ho1 hb1; have hs1 := hb1.size))
  go_ret
  exact ⟨_, rfl, by rw [HN.out]; simpa using ho1, (hb0.trans hb1)⟩

set_option maxHeartbeats 2000000 in
theorem put_three (v : Value) (l : List UInt8) (n : Nat) (base : Nat) (w : World) (h0 : 256 ≤ n) (h1 : n < 65536) (hown : OwnsB w base v l) (hbase : base ≤ w.heap.size) (hlen : l.length < 900000000) :
    Calls Try.prog 42 #[v, .int .i64 (n : Int)] w fun e w' => ∃ v', e = .returned v' ∧ OwnsB w' base v' (l ++ Pack.num n) ∧ Below base w w' := by
  have hb : Pack.behind n = 2 := by unfold Pack.behind; rw [if_neg (by omega), if_neg (by omega), if_pos h1]
  have HN : Hid (Pack.num n = [249, Pack.by1 (n / 256), Pack.by1 n]) := Lib.hid (by unfold Pack.num; rw [if_neg (by omega), if_neg (by omega), if_pos h1])
  go_enter Try.func42, Try.ntmps42
  go_wp2_with fail
  refine (pack_behind n _).mono ?_
  rintro e w' ⟨rfl, rfl⟩
  go_wp2_with (first
    | (at_builtin; refine wp_append_byte rfl (.tmp 10) (.tmp 14) rfl base v l _ 249 rfl rfl rfl hown hbase (by omega) ?_; intro v0 w0 ho0 hb0; have hs0 := hb0.size)
    | (at_builtin; refine wp_append_byte rfl (.tmp 35) (.tmp 39) rfl base v0 _ _ (Pack.by1 (n / 256)) (by1_val _ _ (by omega)) rfl rfl ho0 (by omega) (by simp; omega) ?_; intro v1 w1 ho1 hb1; have hs1 := hb1.size)
    | (at_builtin; refine wp_append_byte rfl (.tmp 41) (.tmp 44) rfl base v1 _ _ (Pack.by1 n) (by1_val _ _ (by omega)) rfl rfl ho1 (by omega) (by simp; omega) ?_; intro v2 w2 ho2 hb2; have hs2 := hb2.size))
  go_ret
  exact ⟨_, rfl, by rw [HN.out]; simpa using ho2, ((hb0.trans hb1).trans hb2)⟩

set_option maxHeartbeats 2000000 in
theorem put_four (v : Value) (l : List UInt8) (n : Nat) (base : Nat) (w : World) (h0 : 65536 ≤ n) (h1 : n < 16777216) (hown : OwnsB w base v l) (hbase : base ≤ w.heap.size) (hlen : l.length < 900000000) :
    Calls Try.prog 42 #[v, .int .i64 (n : Int)] w fun e w' => ∃ v', e = .returned v' ∧ OwnsB w' base v' (l ++ Pack.num n) ∧ Below base w w' := by
  have hb : Pack.behind n = 3 := by unfold Pack.behind; rw [if_neg (by omega), if_neg (by omega), if_neg (by omega), if_pos h1]
  have HN : Hid (Pack.num n = [250, Pack.by1 (n / 65536), Pack.by1 (n / 256), Pack.by1 n]) := Lib.hid (by unfold Pack.num; rw [if_neg (by omega), if_neg (by omega), if_neg (by omega), if_pos h1])
  go_enter Try.func42, Try.ntmps42
  go_wp2_with fail
  refine (pack_behind n _).mono ?_
  rintro e w' ⟨rfl, rfl⟩
  go_wp2_with (first
    | (at_builtin; refine wp_append_byte rfl (.tmp 10) (.tmp 14) rfl base v l _ 250 rfl rfl rfl hown hbase (by omega) ?_; intro v0 w0 ho0 hb0; have hs0 := hb0.size)
    | (at_builtin; refine wp_append_byte rfl (.tmp 29) (.tmp 33) rfl base v0 _ _ (Pack.by1 (n / 65536)) (by1_val _ _ (by omega)) rfl rfl ho0 (by omega) (by simp; omega) ?_; intro v1 w1 ho1 hb1; have hs1 := hb1.size)
    | (at_builtin; refine wp_append_byte rfl (.tmp 35) (.tmp 39) rfl base v1 _ _ (Pack.by1 (n / 256)) (by1_val _ _ (by omega)) rfl rfl ho1 (by omega) (by simp; omega) ?_; intro v2 w2 ho2 hb2; have hs2 := hb2.size)
    | (at_builtin; refine wp_append_byte rfl (.tmp 41) (.tmp 44) rfl base v2 _ _ (Pack.by1 n) (by1_val _ _ (by omega)) rfl rfl ho2 (by omega) (by simp; omega) ?_; intro v3 w3 ho3 hb3; have hs3 := hb3.size))
  go_ret
  exact ⟨_, rfl, by rw [HN.out]; simpa using ho3, (((hb0.trans hb1).trans hb2).trans hb3)⟩

set_option maxHeartbeats 2000000 in
theorem put_five (v : Value) (l : List UInt8) (n : Nat) (base : Nat) (w : World) (h0 : 16777216 ≤ n) (h1 : n < 4294967296) (hown : OwnsB w base v l) (hbase : base ≤ w.heap.size) (hlen : l.length < 900000000) :
    Calls Try.prog 42 #[v, .int .i64 (n : Int)] w fun e w' => ∃ v', e = .returned v' ∧ OwnsB w' base v' (l ++ Pack.num n) ∧ Below base w w' := by
  have hb : Pack.behind n = 4 := by unfold Pack.behind; rw [if_neg (by omega), if_neg (by omega), if_neg (by omega), if_neg (by omega)]
  have HN : Hid (Pack.num n = [251, Pack.by1 (n / 16777216), Pack.by1 (n / 65536), Pack.by1 (n / 256), Pack.by1 n]) := Lib.hid (by unfold Pack.num; rw [if_neg (by omega), if_neg (by omega), if_neg (by omega), if_neg (by omega)])
  go_enter Try.func42, Try.ntmps42
  go_wp2_with fail
  refine (pack_behind n _).mono ?_
  rintro e w' ⟨rfl, rfl⟩
  go_wp2_with (first
    | (at_builtin; refine wp_append_byte rfl (.tmp 10) (.tmp 14) rfl base v l _ 251 rfl rfl rfl hown hbase (by omega) ?_; intro v0 w0 ho0 hb0; have hs0 := hb0.size)
    | (at_builtin; refine wp_append_byte rfl (.tmp 23) (.tmp 27) rfl base v0 _ _ (Pack.by1 (n / 16777216)) (by1_val _ _ (by omega)) rfl rfl ho0 (by omega) (by simp; omega) ?_; intro v1 w1 ho1 hb1; have hs1 := hb1.size)
    | (at_builtin; refine wp_append_byte rfl (.tmp 29) (.tmp 33) rfl base v1 _ _ (Pack.by1 (n / 65536)) (by1_val _ _ (by omega)) rfl rfl ho1 (by omega) (by simp; omega) ?_; intro v2 w2 ho2 hb2; have hs2 := hb2.size)
    | (at_builtin; refine wp_append_byte rfl (.tmp 35) (.tmp 39) rfl base v2 _ _ (Pack.by1 (n / 256)) (by1_val _ _ (by omega)) rfl rfl ho2 (by omega) (by simp; omega) ?_; intro v3 w3 ho3 hb3; have hs3 := hb3.size)
    | (at_builtin; refine wp_append_byte rfl (.tmp 41) (.tmp 44) rfl base v3 _ _ (Pack.by1 n) (by1_val _ _ (by omega)) rfl rfl ho3 (by omega) (by simp; omega) ?_; intro v4 w4 ho4 hb4; have hs4 := hb4.size))
  go_ret
  exact ⟨_, rfl, by rw [HN.out]; simpa using ho4, ((((hb0.trans hb1).trans hb2).trans hb3).trans hb4)⟩

theorem pack_put (v : Value) (l : List UInt8) (n : Nat) (base : Nat) (w : World) (hn : n < 4294967296) (hown : OwnsB w base v l) (hbase : base ≤ w.heap.size) (hlen : l.length < 900000000) :
    Calls Try.prog 42 #[v, .int .i64 (n : Int)] w fun e w' => ∃ v', e = .returned v' ∧ OwnsB w' base v' (l ++ Pack.num n) ∧ Below base w w' := by
  by_cases h0 : n < 248
  · exact put_one v l n base w h0 hown hbase hlen
  · by_cases h1 : n < 256
    · exact put_two v l n base w (by omega) h1 hown hbase hlen
    · by_cases h2 : n < 65536
      · exact put_three v l n base w (by omega) h2 hown hbase hlen
      · by_cases h3 : n < 16777216
        · exact put_four v l n base w (by omega) h3 hown hbase hlen
        · exact put_five v l n base w (by omega) hn hown hbase hlen
end Go.Proofs.Ytohlnhnelkoakaa
