/- What pack.List and pack.Each come to. -/
import Derived.Test.YtohlnhnelkoakaaPackCalls
import Derived.Test.YtohlnhnelkoakaaInts
namespace Go.Proofs.Ytohlnhnelkoakaa
open Go.RowKit
set_option linter.unusedVariables false

def Fits (z : Int) : Prop := 0 ≤ z ∧ z ≤ 4294967295
instance (z : Int) : Decidable (Fits z) := by unfold Fits; exact inferInstance

/-- What List makes of numbers. -/
def listR (zs : List Int) : List UInt8 × Nat := if 1000 < zs.length then ([], 1) else if ∀ z ∈ zs, Fits z then (Pack.num zs.length ++ Pack.nums (zs.map Int.toNat), 0) else ([], 1)

theorem nums_snoc (l : List Nat) (n : Nat) : Pack.nums (l ++ [n]) = Pack.nums l ++ Pack.num n := by simp [Pack.nums]
theorem nums_len (l : List Nat) : (Pack.nums l).length ≤ 5 * l.length := by
  induction l with
  | nil => simp [Pack.nums]
  | cons n l ih =>
    have := (Pack.num_len_le n).2
    simp only [Pack.nums, List.flatMap_cons, List.length_append, List.length_cons] at ih ⊢
    omega

theorem list_step (zs : List Int) (k : Nat) (h : k < zs.length) (p : List UInt8) :
    p ++ Pack.nums ((zs.take k).map Int.toNat) ++ Pack.num zs[k].toNat = p ++ Pack.nums ((zs.take (k + 1)).map Int.toNat) := by
  rw [List.take_succ_eq_append_getElem h, List.map_append, List.append_assoc]
  congr 1
  exact (nums_snoc _ _).symm

set_option maxHeartbeats 1000000 in
theorem pack_List (v : Value) (zs : List Int) (w : World) (hv : SliceI w v zs) (hm : zs.length ≤ maxLen) :
    Calls Try.prog 20 #[v] w fun e w' => e = .returned (textV (listR zs)) ∧ Below w.heap.size w w' := by
  unfold maxLen at hm
  obtain ⟨a, cap, rfl, hcap, hrow⟩ := hv
  by_cases h1 : 1000 < zs.length
  · have HR : Hid (listR zs = ([], 1)) := Lib.hid (by unfold listR; rw [if_pos h1])
    have hd : decide ((1000 : Int) < (zs.length : Int)) = true := by simp; omega
    clear hrow h1
    go_enter Try.func20, Try.ntmps20
    go_wp2
    go_ret2
    exact ⟨by rw [HR.out]; rfl, Below.refl _ _⟩
  · have hd : decide ((1000 : Int) < (zs.length : Int)) = false := by simp; omega
    have hle : zs.length ≤ 1000 := by omega
    have HROW := Lib.hid hrow
    have hnl := (Pack.num_len_le zs.length).2
    clear hrow
    have HR1 : Hid ((∀ z ∈ zs, Fits z) → listR zs = (Pack.num zs.length ++ Pack.nums (zs.map Int.toNat), 0)) := Lib.hid (fun h => by unfold listR; rw [if_neg h1, if_pos h])
    have HR2 : Hid ((¬ ∀ z ∈ zs, Fits z) → listR zs = ([], 1)) := Lib.hid (fun h => by unfold listR; rw [if_neg h1, if_neg h])
    clear h1
    go_enter Try.func20, Try.ntmps20
    go_wp2_with fail
    refine (pack_put (.slice none 0 0) [] zs.length w.heap.size w (by omega) (OwnsB.nil _ _) (Nat.le_refl _) (by simp)).mono ?_
    rintro e w1 ⟨v1, rfl, hown, hb⟩
    have HO := Lib.hid hown
    have HB := Lib.hid hb
    clear hown hb
    go_wp2
    go_loopw [4, 15] (fun b i wr => ∃ k : Nat, k ≤ zs.length ∧ i = .int .i64 k ∧ (∀ z ∈ zs.take k, Fits z) ∧ OwnsB wr w.heap.size b (Pack.num zs.length ++ Pack.nums ((zs.take k).map Int.toNat)) ∧ Below w.heap.size w wr) (fun _ i _ => zs.length - (intOf i).toNat)
    case atStart => exact ⟨0, by omega, rfl, by simp, by simpa [Pack.nums] using HO.out, HB.out⟩
    case round =>
      obtain ⟨k, hk, rfl, hfit, hown, hbel⟩ := hrel
      have HF := Lib.hid hfit
      have HO2 := Lib.hid hown
      have HB2 := Lib.hid hbel
      clear hfit hown hbel
      by_cases hlt : k < zs.length
      · have hdk : decide ((k : Int) < (zs.length : Int)) = true := by simp; omega
        have hdn : decide (k < zs.length) = true := by simpa using hlt
        have hik : (k : Int) < (zs.length : Int) := by omega
        rcases HROW.out with h | ⟨blk, off, rfl, hblk, hcells⟩
        · subst h; simp at hlt
        · have hcell : wr.cell? ⟨blk, off + k, none⟩ = some (.int .i64 zs[k]) := by
            rw [HB2.out.cell (p := ⟨blk, off + k, none⟩) hblk]; exact hcells k hlt
          clear hcells
          by_cases hf : Fits zs[k]
          · have hn0 : 0 ≤ zs[k] := hf.1
            have hn1 : zs[k] ≤ 4294967295 := hf.2
            have HS := Lib.hid (list_step zs k hlt (Pack.num zs.length))
            have HM : Hid (∀ z ∈ zs.take (k + 1), Fits z) := Lib.hid (fun z hz => by
              rw [List.take_succ_eq_append_getElem hlt] at hz
              rcases List.mem_append.1 hz with h | h
              · exact HF.out z h
              · rw [List.mem_singleton.1 h]; exact hf)
            have hlen : (Pack.num zs.length ++ Pack.nums ((zs.take k).map Int.toNat)).length < 900000000 := by
              have h1 := nums_len ((zs.take k).map Int.toNat)
              rw [List.length_map, List.length_take] at h1
              rw [List.length_append]
              omega
            clear hf
            obtain ⟨x, hx⟩ : ∃ x : Nat, zs[k] = (x : Int) := ⟨zs[k].toNat, by omega⟩
            rw [hx] at hcell hn0 hn1 HS
            clear hx
            go_wp2_with fail
            refine (pack_fits_yes _ _ hn0 hn1).mono ?_
            rintro e w' ⟨rfl, rfl⟩
            go_wp2_with fail
            refine (pack_put _ _ x w.heap.size wr (by omega) HO2.out HB2.out.size hlen).mono ?_
            rintro e w2 ⟨v2, rfl, hown2, hb2⟩
            go_wp2
            go_roundw
            case rel => exact ⟨k + 1, by omega, by go_num, HM.out, by rw [← HS.out]; exact hown2, HB2.out.trans hb2⟩
            case measure => simp [intOf]; omega
          · have HN : Hid (¬ ∀ z ∈ zs, Fits z) := Lib.hid (fun h => hf (h _ (List.getElem_mem hlt)))
            have HF2 : Hid (zs[k] < 0 ∨ 4294967295 < zs[k]) := Lib.hid (by unfold Fits at hf; omega)
            clear hf
            go_wp2_with fail
            refine (pack_fits_no _ _ HF2.out).mono ?_
            rintro e w' ⟨rfl, rfl⟩
            go_wp2
            go_ret2
            exact ⟨by rw [HR2.out HN.out]; rfl, HB2.out⟩
      · have hdn : decide (k < zs.length) = false := by simpa using hlt
        have e1 : zs.take k = zs := List.take_of_length_le (by omega)
        have hcv := HO2.out.text
        rw [e1] at hcv HF
        have HE := Lib.hid (HR1.out HF.out)
        clear e1
        go_wp2
        go_ret2
        exact ⟨by rw [HE.out]; rfl, HB2.out⟩

def fin (acc : List Nat) (q : List Nat × List UInt8 × Nat) : List Nat × List UInt8 × Nat := if q.2.2 = 0 then (acc ++ q.1, q.2.1, 0) else ([], [], q.2.2)

theorem fin_start (k : Nat) (l : List UInt8) : fin [] (Pack.eachN k l) = Pack.eachN k l := by
  unfold fin
  by_cases h : (Pack.eachN k l).2.2 = 0
  · rw [if_pos h]
    apply Prod.ext
    · rfl
    · exact Prod.ext rfl h.symm
  · rw [if_neg h]
    have := Pack.eachN_err k l h
    exact Prod.ext this.1.symm (Prod.ext this.2.symm rfl)

theorem fin_step (acc : List Nat) (k n : Nat) (l t : List UInt8) (h : Pack.take l = (n, t, 0)) : fin acc (Pack.eachN (k + 1) l) = fin (acc ++ [n]) (Pack.eachN k t) := by
  have e : Pack.eachN (k + 1) l = if (Pack.eachN k t).2.2 = 0 then (n :: (Pack.eachN k t).1, (Pack.eachN k t).2.1, 0) else ([], [], (Pack.eachN k t).2.2) := by
    conv => lhs; unfold Pack.eachN
    rw [h]
    simp only [if_true]
  rw [e]
  unfold fin
  by_cases hz : (Pack.eachN k t).2.2 = 0
  · rw [if_pos hz, if_pos rfl, if_pos hz]
    simp
  · rw [if_neg hz, if_neg hz, if_neg hz]

theorem fin_err (acc : List Nat) (k er : Nat) (l : List UInt8) (h : Pack.take l = (0, [], er)) (he : er = 2 ∨ er = 3) : fin acc (Pack.eachN (k + 1) l) = ([], [], er) := by
  have hne : er ≠ 0 := by omega
  have e : Pack.eachN (k + 1) l = ([], [], er) := by
    unfold Pack.eachN
    rw [h, if_neg hne]
  rw [e]
  unfold fin
  rw [if_neg hne]

def natI (l : List Nat) : List Int := l.map Int.ofNat

/-- What Each answers. -/
def EachV (r : List Nat × List UInt8 × Nat) (w' : World) (e : Ending) : Prop := ∃ v, e = .returned (.tuple #[v, .string (str r.2.1), .int .i64 (r.2.2 : Int)]) ∧ SliceI w' v (natI r.1)

theorem SliceI.none (w : World) : SliceI w (.slice none 0 0) [] := ⟨Option.none, 0, rfl, by simp, .inl rfl⟩

/-- What Each answers, and that its numbers lie in new memory. -/
def EachF (r : List Nat × List UInt8 × Nat) (w w' : World) (e : Ending) : Prop := ∃ v, e = .returned (.tuple #[v, .string (str r.2.1), .int .i64 (r.2.2 : Int)]) ∧ SliceI w' v (natI r.1) ∧ ∀ g, v.ownBlock = some g → w.heap.size ≤ g
theorem no_block (B : Nat) : ∀ g, (Value.slice none 0 0).ownBlock = some g → B ≤ g := fun g hg => by simp [Value.ownBlock] at hg

set_option maxHeartbeats 2000000 in
theorem pack_EachF (s : ByteArray) (w : World) (hs : s.size ≤ 1000000000) :
    Calls Try.prog 52 #[.string s] w fun e w' => EachF (Pack.each s.data.toList) w w' e ∧ Below w.heap.size w w' := by
  rcases Pack.read_num s.data.toList with ⟨n, k, hr, hn, hk, hl⟩ | ⟨er, hr, he⟩
  · have HR := Lib.hid hr
    have hT : Pack.take s.data.toList = (n, s.data.toList.drop k, 0) := by unfold Pack.take; rw [hr]; simp
    have hks : k ≤ s.size := by
      have h1 := congrArg List.length hl
      rw [List.length_append, ← hk, List.length_drop, size_list] at h1
      omega
    have HX := Lib.hid (str_drop s k)
    have HXL : Hid ((s.data.toList.drop k).length ≤ 1000000000) := Lib.hid (by rw [List.length_drop, size_list]; omega)
    clear hr hl hk
    by_cases h1 : 1000 < n
    · have HC : Hid (Pack.each s.data.toList = ([], [], 2)) := Lib.hid (by unfold Pack.each; rw [hT]; simp only [if_true]; rw [if_pos h1])
      have hd : decide ((1000 : Int) < (n : Int)) = true := by simp; omega
      clear hT h1
      go_enter Try.func52, Try.ntmps52
      go_wp2_with fail
      refine (pack_read s _ (by unfold maxLen; omega)).mono ?_
      rintro e w' ⟨rfl, rfl⟩
      rw [HR.out]
      unfold readV
      go_wp2
      go_ret3
      exact ⟨by rw [HC.out]; exact ⟨_, rfl, SliceI.none _, no_block _⟩, Below.refl _ _⟩
    · have hd : decide ((1000 : Int) < (n : Int)) = false := by simp; omega
      have HC : Hid (Pack.each s.data.toList = Pack.eachN n (s.data.toList.drop k)) := Lib.hid (by unfold Pack.each; rw [hT]; simp only [if_true]; rw [if_neg h1])
      have hn1 : n ≤ 1000 := by omega
      clear hT h1
      generalize s.data.toList.drop k = rest0 at *
      obtain ⟨v0, W, hmake, hown, hbel⟩ := ints_made n w (by omega)
      have HO := Lib.hid hown
      have HB := Lib.hid hbel
      clear hown hbel
      go_enter Try.func52, Try.ntmps52
      go_wp2_with fail
      refine (pack_read s _ (by unfold maxLen; omega)).mono ?_
      rintro e w' ⟨rfl, rfl⟩
      rw [HR.out]
      unfold readV
      go_wp2
      rw [HX.out]
      clear hmake
      go_loopw [8, 9, 30] (fun r v i wr => ∃ (j : Nat) (acc : List Nat) (rest : List UInt8), j ≤ n ∧ i = .int .i64 j ∧ r = .string (str rest) ∧ rest.length ≤ 1000000000 ∧ acc.length = j
          ∧ OwnsI wr w.heap.size v (natI acc) ∧ fin acc (Pack.eachN (n - j) rest) = Pack.eachN n rest0 ∧ Below w.heap.size w wr) (fun _ _ i _ => n - (intOf i).toNat)
      case atStart => exact ⟨0, [], rest0, by omega, rfl, rfl, HXL.out, rfl, HO.out, fin_start _ _, HB.out⟩
      case round =>
        obtain ⟨j, acc, rest, hj, rfl, rfl, hrl, hacc, hown, hfin, hbel⟩ := hrel
        have HA := Lib.hid hacc
        have HO2 := Lib.hid hown
        have HF := Lib.hid hfin
        have HB2 := Lib.hid hbel
        clear hacc hown hfin hbel
        have hss : (str rest).size ≤ 1000000000 := by rw [str_size]; exact hrl
        have HSD := Lib.hid (str_data rest)
        by_cases hlt : j < n
        · have hdj : decide ((j : Int) < (n : Int)) = true := by simp; omega
          have hdn : decide (j < n) = true := by simpa using hlt
          obtain ⟨m, hm⟩ : ∃ m, n - j = m + 1 := ⟨n - j - 1, by omega⟩
          rcases Pack.read_num rest with ⟨x, kx, hrx, hnx, hkx, hlx⟩ | ⟨er, hrx, hex⟩
          · have hT2 : Pack.take rest = (x, rest.drop kx, 0) := by unfold Pack.take; rw [hrx]; simp
            have HRX : Hid (Pack.read (str rest).data.toList = (x, kx, 0)) := Lib.hid (by rw [str_data]; exact hrx)
            have hkr : kx ≤ (str rest).size := by
              have h1 := congrArg List.length hlx
              rw [List.length_append, ← hkx, List.length_drop] at h1
              rw [str_size]; omega
            have HX2 : Hid ((str rest).extract kx (str rest).size = str (rest.drop kx)) := Lib.hid (by rw [str_drop, str_data])
            have HF2 : Hid (fin (acc ++ [x]) (Pack.eachN (n - (j + 1)) (rest.drop kx)) = Pack.eachN n rest0) := Lib.hid (by
              rw [← HF.out, hm, fin_step acc m x rest _ hT2, show n - (j + 1) = m by omega])
            have hal : (natI acc).length < 1000000000 := by unfold natI; rw [List.length_map, HA.out]; omega
            have hbs := HB2.out.size
            have HNI : Hid (natI (acc ++ [x]) = natI acc ++ [(x : Int)]) := Lib.hid (by simp [natI])
            have HRL : Hid ((rest.drop kx).length ≤ 1000000000) := Lib.hid (by rw [List.length_drop]; omega)
            have HAL := Lib.hid hal
            clear hT2 hrx hkx hlx hm hal
            go_wp2_with fail
            refine (pack_read (str rest) _ (by unfold maxLen; omega)).mono ?_
            rintro e w' ⟨rfl, rfl⟩
            rw [HRX.out]
            unfold readV
            go_wp2_with (at_builtin; refine wp_append_int rfl (.tmp 41) (.tmp 43) rfl w.heap.size _ (natI acc) _ rfl rfl HO2.out hbs HAL.out ?_; intro v1 w1 ho1 hb1)
            go_roundw
            case rel => exact ⟨j + 1, acc ++ [x], rest.drop kx, by omega, by go_num, by rw [HX2.out], HRL.out, by rw [List.length_append, HA.out]; rfl, by rw [HNI.out]; exact ho1, HF2.out, HB2.out.trans hb1⟩
            case measure => simp [intOf]; omega
          · have HRX : Hid (Pack.read (str rest).data.toList = (0, 0, er)) := Lib.hid (by rw [str_data]; exact hrx)
            have hT2 : Pack.take rest = (0, [], er) := by unfold Pack.take; rw [hrx]; rcases hex with rfl | rfl <;> simp
            have HE : Hid (Pack.each s.data.toList = ([], [], er)) := Lib.hid (by
              rw [HC.out, ← HF.out, hm]; exact fin_err acc m er rest hT2 hex)
            have hne : ((er : Int) != 0) = true := by rcases hex with rfl | rfl <;> rfl
            clear hrx hex hT2 hm
            go_wp2_with fail
            refine (pack_read (str rest) _ (by unfold maxLen; omega)).mono ?_
            rintro e w' ⟨rfl, rfl⟩
            rw [HRX.out]
            unfold readV
            go_wp2
            go_ret3
            exact ⟨by rw [HE.out]; exact ⟨_, rfl, SliceI.none _, no_block _⟩, HB2.out⟩
        · obtain rfl : j = n := by omega
          have hdn : decide (j < j) = false := by simp
          have HE : Hid (Pack.each s.data.toList = (acc, rest, 0)) := Lib.hid (by
            rw [HC.out, ← HF.out, Nat.sub_self]
            unfold fin Pack.eachN
            simp)
          go_wp2_with fail
          refine (strings_Clone (str rest) _ (by omega)).mono ?_
          rintro e w1 ⟨rfl, hb1⟩
          have HSL := Lib.hid (HO2.out.slice.below hb1)
          go_wp2
          go_ret3
          exact ⟨by rw [HE.out]; exact ⟨_, rfl, HSL.out, fun g hg => (World.ownsRow.lt HO2.out g hg).1⟩, grew HB2.out hb1⟩
  · have HR := Lib.hid hr
    have HC : Hid (Pack.each s.data.toList = ([], [], er)) := Lib.hid (by
      have hT : Pack.take s.data.toList = (0, [], er) := by unfold Pack.take; rw [hr]; rcases he with rfl | rfl <;> simp
      unfold Pack.each; rw [hT]; rcases he with rfl | rfl <;> rfl)
    have hne : ((er : Int) != 0) = true := by rcases he with rfl | rfl <;> rfl
    clear hr he
    go_enter Try.func52, Try.ntmps52
    go_wp2_with fail
    refine (pack_read s _ (by unfold maxLen; omega)).mono ?_
    rintro e w' ⟨rfl, rfl⟩
    rw [HR.out]
    unfold readV
    go_wp2
    go_ret3
    exact ⟨by rw [HC.out]; exact ⟨_, rfl, SliceI.none _, no_block _⟩, Below.refl _ _⟩

theorem pack_Each (s : ByteArray) (w : World) (hs : s.size ≤ 1000000000) :
    Calls Try.prog 52 #[.string s] w fun e w' => EachV (Pack.each s.data.toList) w' e ∧ Below w.heap.size w w' :=
  (pack_EachF s w hs).mono fun _ _ ⟨⟨v, h1, h2, _⟩, h3⟩ => ⟨⟨v, h1, h2⟩, h3⟩
end Go.Proofs.Ytohlnhnelkoakaa
