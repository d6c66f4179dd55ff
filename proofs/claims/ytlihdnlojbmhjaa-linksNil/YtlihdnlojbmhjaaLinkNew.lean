/- What New of links comes to. -/
import Derived.Test.YtlihdnlojbmhjaaLinkNet3
import Derived.Maps.Views
namespace Go.Proofs.Ytlihdnlojbmhjaa
open Go.RowKit Go.Maps
open Links (Lk lk)
set_option linter.unusedVariables false

/-- A network under way: which links have bags. -/
structure Made (w wr : World) (n r c : Nat) (Dn : Nat → Nat → Bool) (G : Nat → Nat → Nat) (D : DataW Unit) : Prop where
  net : Holds wr (w.heap.size + 1) [.int .i64 (n : Int), .int .i64 (r : Int), .map (some w.heap.size)] 48
  map : wr.ownsMap Try.prog 54 ptrElem w.heap.size c D
  at_ : ∀ a b, I64 a → I64 b → D.atKey (kl a b) (.lit (.int .i64 (-1))) = .lit (.int .i64 (if (lk n a b && Dn a.toNat b.toNat) = true then (G a.toNat b.toNat : Int) else -1))
  bag : ∀ i j, Lk n i j → Dn i j = true → Holds wr (G i j) [.slice none 0 0] 52 ∧ w.heap.size + 1 < G i j
  inj : ∀ i j i' j', Lk n i j → Lk n i' j' → Dn i j = true → Dn i' j' = true → G i j = G i' j' → i' = i ∧ j' = j
  bel : Below w.heap.size w wr

def IsMade (w : World) (n r lim : Nat) (Dn : Nat → Nat → Bool) (wr : World) : Prop := ∃ c G D, c ≤ lim ∧ Made w wr n r c Dn G D

theorem lk_bool {n : Nat} {a b : Int} {P Q : Nat → Nat → Bool} (h : ∀ i j, Lk n i j → P i j = Q i j) : (lk n a b && P a.toNat b.toNat) = (lk n a b && Q a.toNat b.toNat) := by
  cases hl : lk n a b
  · rfl
  · obtain ⟨i, j, rfl, rfl, hlk⟩ := Links.lk_nat hl
    simp only [Int.toNat_natCast, h i j hlk]

theorem IsMade.congr {w wr : World} {n r lim lim' : Nat} {Dn Dn' : Nat → Nat → Bool} (h : IsMade w n r lim Dn wr) (hl : lim ≤ lim') (he : ∀ i j, Lk n i j → Dn' i j = Dn i j) : IsMade w n r lim' Dn' wr := by
  obtain ⟨c, G, D, hc, h⟩ := h
  exact ⟨c, G, D, Nat.le_trans hc hl, h.net, h.map, fun a b ha hb => by rw [h.at_ a b ha hb, lk_bool he], fun i j hl hd => h.bag i j hl (by rw [← he i j hl]; exact hd),
    fun i j i' j' h1 h2 h3 h4 => h.inj i j i' j' h1 h2 (by rw [← he i j h1]; exact h3) (by rw [← he i' j' h2]; exact h4), h.bel⟩

/-- The links ahead of (i, j). -/
def dn (i j : Nat) (i' j' : Nat) : Bool := decide (i' < i) || (decide (i' = i) && decide (j' < j))

theorem made_start (w : World) (n r : Nat) : IsMade w n r 0 (dn 0 0) ((w.alloc (.map #[] 0)).alloc (.cells #[.int .i64 (n : Int), .int .i64 (r : Int), .map (some w.heap.size)] 48)) := by
  have z1 : (w.alloc (.map #[] 0)).heap.size = w.heap.size + 1 := Array.size_push _
  have hno : ∀ i j, dn 0 0 i j = false := fun i j => by simp [dn]
  refine ⟨0, fun _ _ => 0, .map [], Nat.le_refl _, ?_, ?_, ?_, ?_, ?_, grew (grew_alloc _ _) (grew_alloc _ _)⟩
  · have := Holds.new (w.alloc (.map #[] 0)) [.int .i64 (n : Int), .int .i64 (r : Int), .map (some w.heap.size)] 48
    rw [z1] at this
    exact this
  · exact (World.ownsMap_made w Try.prog 54 ptrElem).alloc _
  · intro a b ha hb
    rw [hno, Bool.and_false]
    rfl
  · intro i j hl hd
    rw [hno] at hd
    cases hd
  · intro i j i' j' _ _ hd
    rw [hno] at hd
    cases hd

theorem made_step {w wr w1 : World} {n r c : Nat} {i j : Nat} {G : Nat → Nat → Nat} {D : DataW Unit} (hn : n ≤ 16) (h : Made w wr n r c (dn i j) G D) (hlk : Lk n i j)
    (hown : w1.ownsMap Try.prog 54 ptrElem w.heap.size (c + 1) (D.put (kl i j) (.lit (.int .i64 (wr.heap.size : Int)))))
    (hg : (wr.alloc (.cells #[.slice none 0 0] 52)).grownBy w1 (some w.heap.size)) :
    Made w w1 n r (c + 1) (dn i (j + 1)) (fun i' j' => if i' = i ∧ j' = j then wr.heap.size else G i' j') (D.put (kl i j) (.lit (.int .i64 (wr.heap.size : Int)))) := by
  have hml := h.map.lt
  have hnl := h.net.lt
  have z1 : (wr.alloc (.cells #[.slice none 0 0] 52)).heap.size = wr.heap.size + 1 := Array.size_push _
  have hk0 : Keep (fun k => some k = some w.heap.size) (wr.alloc (.cells #[.slice none 0 0] 52)) w1 := Keep.of_grown hg
  have hk : Keep (Just w.heap.size) wr w1 := (Keep.alloc (Just w.heap.size) wr _).trans hk0 (fun k _ e => Option.some.inj e)
  have hI : ∀ k : Nat, k < n → I64 (k : Int) := fun k hk => ⟨by omega, by omega⟩
  have hdn : ∀ i' j', dn i (j + 1) i' j' = true → (i' = i ∧ j' = j) ∨ (¬ (i' = i ∧ j' = j) ∧ dn i j i' j' = true) := by
    intro i' j' hd
    simp only [dn, Bool.or_eq_true, Bool.and_eq_true, decide_eq_true_eq] at hd ⊢
    omega
  have hnew : ∀ i' j', Lk n i' j' → dn i j i' j' = true → G i' j' < wr.heap.size := fun i' j' hl hd => (h.bag i' j' hl hd).1.lt
  refine ⟨h.net.keep hk (fun e => by have e : w.heap.size + 1 = w.heap.size := e; omega), hown, ?_, ?_, ?_, h.bel.trans (hk.below (by omega) (fun k e => by have e : k = w.heap.size := e; omega))⟩
  · intro a b ha hb
    by_cases e : a = (i : Int) ∧ b = (j : Int)
    · obtain ⟨rfl, rfl⟩ := e
      rw [atKey_put_same h.map.isMap (link_keyed.key (link_key ha hb)), Links.lk_of hlk]
      have hd : dn i (j + 1) i j = true := by simp [dn]
      simp only [Int.toNat_natCast, hd, Bool.and_self, and_self, if_true]
    · have hne : kl a b ≠ kl i j := fun e' => e (kl_inj ha hb (hI i hlk.1) (hI j hlk.2.1) e')
      rw [atKey_put_other hne, h.at_ a b ha hb]
      cases hl : lk n a b
      · rfl
      · obtain ⟨i', j', rfl, rfl, hlk'⟩ := Links.lk_nat hl
        have hne' : ¬ (i' = i ∧ j' = j) := fun e' => e ⟨by rw [e'.1], by rw [e'.2]⟩
        simp only [Int.toNat_natCast, Bool.true_and, if_neg hne']
        have e2 : dn i (j + 1) i' j' = dn i j i' j' := by
          rw [Bool.eq_iff_iff]
          simp only [dn, Bool.or_eq_true, Bool.and_eq_true, decide_eq_true_eq]
          omega
        rw [e2]
  · intro i' j' hl hd
    rcases hdn i' j' hd with e | ⟨e, hd'⟩
    · simp only [if_pos e]
      refine ⟨(Holds.new wr [.slice none 0 0] 52).keep hk0 (fun e => by have e := Option.some.inj e; omega), by omega⟩
    · simp only [if_neg e]
      obtain ⟨h1, h2⟩ := h.bag i' j' hl hd'
      exact ⟨h1.keep hk (fun e => by have e : G i' j' = w.heap.size := e; omega), h2⟩
  · intro i1 j1 i2 j2 hl1 hl2 hd1 hd2 he
    rcases hdn i1 j1 hd1 with e1 | ⟨e1, hd1'⟩
    · rcases hdn i2 j2 hd2 with e2 | ⟨e2, hd2'⟩
      · omega
      · simp only [if_pos e1, if_neg e2] at he
        have := hnew i2 j2 hl2 hd2'
        omega
    · rcases hdn i2 j2 hd2 with e2 | ⟨e2, hd2'⟩
      · simp only [if_neg e1, if_pos e2] at he
        have := hnew i1 j1 hl1 hd1'
        omega
      · simp only [if_neg e1, if_neg e2] at he
        exact h.inj i1 j1 i2 j2 hl1 hl2 hd1' hd2' he

/-- All the links have bags. -/
theorem made_end {w wr : World} {n r : Nat} (hn : 1 ≤ n ∧ n ≤ 16) (hr : 1 ≤ r ∧ r ≤ 1000) (h : IsMade w n r 256 (dn n 0) wr) : IsNet wr (fun b => w.heap.size ≤ b ∧ b < wr.heap.size) (w.heap.size + 1) (Links.new n r) ∧ Below w.heap.size w wr := by
  obtain ⟨c, G, D, hc, h⟩ := h
  have hd : ∀ i j, Lk n i j → dn n 0 i j = true := fun i j hl => by have := hl.1; simp [dn]; omega
  have hml := h.map.lt
  have hnl := h.net.lt
  refine ⟨⟨w.heap.size, G, fun i j b => b = G i j, ?_⟩, h.bel⟩
  refine ⟨hn, hr, h.net, ⟨D, h.map.mono hc, fun a b ha hb => ?_⟩, ?_, ?_, ?_, ?_, ?_, ⟨by omega, hnl⟩, ⟨Nat.le_refl _, hml⟩, ?_, fun b hb => hb.2⟩
  · rw [h.at_ a b ha hb]
    have e : (lk n a b && dn n 0 a.toNat b.toNat) = lk n a b := by
      cases hl : lk n a b
      · rfl
      · obtain ⟨i, j, rfl, rfl, hlk⟩ := Links.lk_nat hl
        rw [Int.toNat_natCast, Int.toNat_natCast, hd i j hlk]; rfl
    rw [e]
    rfl
  · intro i j hl
    obtain ⟨h1, h2⟩ := h.bag i j hl (hd i j hl)
    exact ⟨.slice none 0 0, [], ⟨rfl, h1, Owns.nil _ _ _, fun r hr => by simp [Value.ownBlock] at hr, fun p hp => (by cases hp), List.Pairwise.nil, fun b hb => by subst hb; exact h1.lt⟩, rfl⟩
  · intro i j i' j' b h1 h2 h3 h4
    exact h.inj i j i' j' h1 h2 (hd i j h1) (hd i' j' h2) (by rw [← h3, ← h4])
  · intro i j b hl hb
    have hb : b = G i j := hb
    have := (h.bag i j hl (hd i j hl)).2
    omega
  · intro i j hl
    exact Nat.zero_le _
  · intro i j hl t ht
    cases ht
  · intro i j b hl hb
    have hb : b = G i j := hb
    obtain ⟨h1, h2⟩ := h.bag i j hl (hd i j hl)
    have := h1.lt
    exact ⟨by omega, by omega⟩

theorem net_New_no (n r : Int) (w : World) (h : ¬ (1 ≤ n ∧ n ≤ 16 ∧ 1 ≤ r ∧ r ≤ 1000)) :
    Calls Try.prog 8 #[.int .i64 n, .int .i64 r] w fun e w' => e = .returned (.tuple #[.pointer none, .int .i64 1]) ∧ w = w' := by
  have hc : (decide (n < 1) = true) ∨ (decide (n < 1) = false ∧ decide (16 < n) = true) ∨ (decide (n < 1) = false ∧ decide (16 < n) = false ∧ decide (r < 1) = true) ∨ (decide (n < 1) = false ∧ decide (16 < n) = false ∧ decide (r < 1) = false ∧ decide (1000 < r) = true) := by
    simp only [decide_eq_true_eq, decide_eq_false_iff_not]
    omega
  clear h
  rcases hc with h1 | ⟨h1, h2⟩ | ⟨h1, h2, h3⟩ | ⟨h1, h2, h3, h4⟩
  all_goals
    go_enter Try.func8, Try.ntmps8
    go_wp2
    go_ret2
    exact ⟨rfl, rfl⟩

set_option maxHeartbeats 2000000 in
theorem net_New (n r : Nat) (w : World) (hn : 1 ≤ n ∧ n ≤ 16) (hr : 1 ≤ r ∧ r ≤ 1000) :
    Calls Try.prog 8 #[.int .i64 (n : Int), .int .i64 (r : Int)] w fun e w' => e = .returned (.tuple #[.pointer (some ⟨w.heap.size + 1, 0, none⟩), .int .i64 0]) ∧ IsNet w' (fun b => w.heap.size ≤ b ∧ b < w'.heap.size) (w.heap.size + 1) (Links.new n r) ∧ Below w.heap.size w w' := by
  have h1 : decide ((n : Int) < 1) = false := decide_eq_false (by omega)
  have h2 : decide ((16 : Int) < (n : Int)) = false := decide_eq_false (by omega)
  have h3 : decide ((r : Int) < 1) = false := decide_eq_false (by omega)
  have h4 : decide ((1000 : Int) < (r : Int)) = false := decide_eq_false (by omega)
  have hmm := @run_makeMap Try.prog
  have HS := Lib.hid (made_start w n r)
  have HN := Lib.hid hn
  have HR := Lib.hid hr
  go_enter Try.func8, Try.ntmps8
  go_wp2
  clear h1 h2 h3 h4 hmm
  go_loopw [29] (fun i wr => ∃ k : Nat, k ≤ n ∧ i = .int .i64 k ∧ IsMade w n r (k * 16) (dn k 0) wr) (fun i _ => n - (intOf i).toNat)
  case atStart => exact ⟨0, by omega, rfl, HS.out⟩
  case round =>
    obtain ⟨k, hk, rfl, hmd⟩ := hrel
    have HM := Lib.hid hmd
    clear hmd
    by_cases hlt : k < n
    · have hdk : decide ((k : Int) < (n : Int)) = true := decide_eq_true (by omega)
      have hdn : decide (k < n) = true := decide_eq_true hlt
      go_wp2
      go_loopw [33] (fun j wr => ∃ m : Nat, m ≤ n ∧ j = .int .i64 m ∧ IsMade w n r (k * 16 + m) (dn k m) wr) (fun j _ => n - (intOf j).toNat)
      case atStart => exact ⟨0, by omega, rfl, HM.out⟩
      case round =>
        obtain ⟨m, hm, rfl, hmd⟩ := hrel
        by_cases hlt2 : m < n
        · have hdm : decide ((m : Int) < (n : Int)) = true := decide_eq_true (by omega)
          have hdmn : decide (m < n) = true := decide_eq_true hlt2
          by_cases hkm : k = m
          · have hde : ((k : Int) != (m : Int)) = false := by simp; omega
            have HM2 : Hid (IsMade w n r (k * 16 + (m + 1)) (dn k (m + 1)) wr) := Lib.hid (hmd.congr (by omega) (fun i j hl => by
              obtain ⟨_, _, h3⟩ := hl
              rw [Bool.eq_iff_iff]
              simp only [dn, Bool.or_eq_true, Bool.and_eq_true, decide_eq_true_eq]
              omega))
            clear hmd
            subst hkm
            go_wp2
            go_roundw
            case rel => exact ⟨k + 1, by omega, by go_num, HM2.out⟩
            case measure => simp [intOf]; omega
          · have hde : ((k : Int) != (m : Int)) = true := by simp; omega
            have hde2 : ((k : Int) == (m : Int)) = false := by rw [beq_eq_false_iff_ne]; omega
            obtain ⟨c, G, D, hc, hM⟩ := hmd
            have HMD := Lib.hid hM
            have c2 := hM.net.cell 2 (by simp)
            simp only [List.getElem_cons_succ, List.getElem_cons_zero] at c2
            have HOWN := Lib.hid (hM.map.alloc (.cells #[.slice none 0 0] 52))
            have HKEY := Lib.hid (link_key (a := (k : Int)) (b := (m : Int)) ⟨by omega, by omega⟩ ⟨by omega, by omega⟩)
            have HLK : Hid (Lk n k m) := Lib.hid ⟨hlt, hlt2, hkm⟩
            clear hM hkm
            go_wp2_with (at_mapUpdate; refine wpList_mapUpdate_own _ rfl _ _ _ 46 rfl 54 49 link_keyed Try.underlying46 ptrElem w.heap.size c D rfl HOWN.out (by unfold maxLen; omega) _ _ _ rfl rfl HKEY.out _ [] (ptrElem_some wr.heap.size) ?_; intro w1 hown1 hgr1)
            go_roundw
            case rel => exact ⟨m + 1, by omega, by go_num, c + 1, _, _, by omega, made_step HN.out.2 HMD.out HLK.out hown1 hgr1⟩
            case measure => simp [intOf]; omega
        · have hdm : decide ((m : Int) < (n : Int)) = false := decide_eq_false (by omega)
          have hdmn : decide (m < n) = false := decide_eq_false hlt2
          have HM2 : Hid (IsMade w n r ((k + 1) * 16) (dn (k + 1) 0) wr) := Lib.hid (hmd.congr (by have := HN.out; omega) (fun i j hl => by
            obtain ⟨h1, h2, h3⟩ := hl
            rw [Bool.eq_iff_iff]
            simp only [dn, Bool.or_eq_true, Bool.and_eq_true, decide_eq_true_eq]
            omega))
          clear hmd
          go_wp2
          go_roundw
          case rel => exact ⟨k + 1, by omega, by go_num, HM2.out⟩
          case measure => simp [intOf]; omega
    · have hdk : decide ((k : Int) < (n : Int)) = false := decide_eq_false (by omega)
      have hdn : decide (k < n) = false := decide_eq_false hlt
      have HE := Lib.hid (made_end HN.out HR.out (HM.out.congr (by have := HN.out; omega) (fun i j hl => by rw [show n = k by omega])))
      go_wp2
      go_ret2
      exact ⟨rfl, HE.out.1, HE.out.2⟩
end Go.Proofs.Ytlihdnlojbmhjaa
