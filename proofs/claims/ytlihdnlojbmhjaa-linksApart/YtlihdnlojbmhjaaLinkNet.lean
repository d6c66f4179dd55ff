/- A network in memory: where its bags lie; what Send, Len, Take, Double, Turn come to. -/
import Derived.Test.YtlihdnlojbmhjaaLinkBag2
import Derived.Test.YtlihdnlojbmhjaaLinkMath
import Derived.Laws.BitsAllLaws
namespace Go.Proofs.Ytlihdnlojbmhjaa
open Go.RowKit Go.Maps
open Links (Lk lk)
set_option linter.unusedVariables false

/-- A network at p, all of whose blocks are in F. -/
structure NetW (w : World) (F : Nat → Prop) (p : Nat) (N : Links.Net) (mp : Nat) (G : Nat → Nat → Nat) (S : Nat → Nat → Nat → Prop) : Prop where
  sites : 1 ≤ N.sites ∧ N.sites ≤ 16
  room : 1 ≤ N.room ∧ N.room ≤ 1000
  net : Holds w p [.int .i64 (N.sites : Int), .int .i64 (N.room : Int), .map (some mp)] 48
  map : ∃ D, w.ownsMap Try.prog 54 ptrElem mp 256 D ∧ ∀ a b, I64 a → I64 b → D.atKey (kl a b) (.lit (.int .i64 (-1))) = .lit (.int .i64 (if lk N.sites a b then (G a.toNat b.toNat : Int) else -1))
  bag : ∀ i j, Lk N.sites i j → IsBag w (S i j) (G i j) (N.q i j)
  far : ∀ i j i' j' b, Lk N.sites i j → Lk N.sites i' j' → S i j b → S i' j' b → i' = i ∧ j' = j
  off : ∀ i j b, Lk N.sites i j → S i j b → b ≠ p ∧ b ≠ mp
  full : ∀ i j, Lk N.sites i j → (N.q i j).length ≤ N.room
  short : ∀ i j, Lk N.sites i j → ∀ t ∈ N.q i j, t.length ≤ 5000
  inp : F p
  inm : F mp
  ins : ∀ i j b, Lk N.sites i j → S i j b → F b
  lt : ∀ b, F b → b < w.heap.size

def IsNet (w : World) (F : Nat → Prop) (p : Nat) (N : Links.Net) : Prop := ∃ mp G S, NetW w F p N mp G S

theorem ownsMap_keep {S : Nat → Prop} {w w' : World} {k : TypeId} {R : Value → Option (DataW Unit × List MemPlace)} {b n : Nat} {D : DataW Unit} (h : w.ownsMap Try.prog k R b n D) (hk : Keep S w w') (hn : ¬ S b) : w'.ownsMap Try.prog k R b n D := by
  have hl := h.lt
  obtain ⟨es, clock, hb, r⟩ := h
  exact ⟨es, clock, (hk.block b hl hn).trans hb, r⟩

theorem NetW.keep {w w' : World} {F F' : Nat → Prop} {p : Nat} {N : Links.Net} {mp : Nat} {G : Nat → Nat → Nat} {S : Nat → Nat → Nat → Prop} (h : NetW w F p N mp G S) (hk : Keep F' w w') (hn : ∀ b, F b → ¬ F' b) : NetW w' F p N mp G S := by
  obtain ⟨D, hD, hat⟩ := h.map
  exact ⟨h.sites, h.room, h.net.keep hk (hn p h.inp), ⟨D, ownsMap_keep hD hk (hn mp h.inm), hat⟩, fun i j hl => (h.bag i j hl).keep hk (fun b hb => hn b (h.ins i j b hl hb)), h.far, h.off, h.full, h.short, h.inp, h.inm, h.ins, fun b hb => Nat.lt_of_lt_of_le (h.lt b hb) hk.size⟩
theorem IsNet.keep {w w' : World} {F F' : Nat → Prop} {p : Nat} {N : Links.Net} (h : IsNet w F p N) (hk : Keep F' w w') (hn : ∀ b, F b → ¬ F' b) : IsNet w' F p N := by
  obtain ⟨mp, G, S, h⟩ := h
  exact ⟨mp, G, S, h.keep hk hn⟩
theorem IsNet.below {w w' : World} {F : Nat → Prop} {p : Nat} {N : Links.Net} (h : IsNet w F p N) (hb : Below w.heap.size w w') : IsNet w' F p N := h.keep (Keep.of_grew hb Non) (fun _ _ h => h)
theorem NetW.below {w w' : World} {F : Nat → Prop} {p : Nat} {N : Links.Net} {mp : Nat} {G : Nat → Nat → Nat} {S : Nat → Nat → Nat → Prop} (h : NetW w F p N mp G S) (hb : Below w.heap.size w w') : NetW w' F p N mp G S := h.keep (Keep.of_grew hb Non) (fun _ _ h => h)

/-- What is left of a network behind a step. -/
def Stepped (w : World) (F : Nat → Prop) (p : Nat) (N' : Links.Net) (w' : World) : Prop := ∃ F', IsNet w' F' p N' ∧ Keep F w w' ∧ NearS w F F'
theorem Stepped.grew {w w' : World} {F : Nat → Prop} {p : Nat} {N : Links.Net} (h : IsNet w F p N) (hb : Below w.heap.size w w') : Stepped w F p N w' := ⟨F, h.below hb, Keep.of_grew hb F, NearS.refl _ _⟩
theorem Stepped.same {w : World} {F : Nat → Prop} {p : Nat} {N : Links.Net} (h : IsNet w F p N) : Stepped w F p N w := ⟨F, h, Keep.refl _ _, NearS.refl _ _⟩

theorem NetW.upd {w w' : World} {F : Nat → Prop} {p : Nat} {N : Links.Net} {mp : Nat} {G : Nat → Nat → Nat} {S : Nat → Nat → Nat → Prop} (h : NetW w F p N mp G S) {i j : Nat} (hl : Lk N.sites i j) {S' : Nat → Prop} {ts : List (List UInt8)}
    (hk : Keep (S i j) w w') (hb : IsBag w' S' (G i j) ts) (hn : ∀ b, S' b → S i j b ∨ w.heap.size ≤ b) (hf : ts.length ≤ N.room) (hs : ∀ t ∈ ts, t.length ≤ 5000) :
    Stepped w F p (N.set i j ts) w' := by
  have hlt' : ∀ b, S' b → b < w'.heap.size := by obtain ⟨V, ps, hB, _⟩ := hb; exact hB.lt
  have hlt : ∀ i j b, Lk N.sites i j → S i j b → b < w.heap.size := fun i j b hl hb => h.lt b (h.ins i j b hl hb)
  obtain ⟨D, hD, hat⟩ := h.map
  have hpm : ∀ b, S i j b → b ≠ p ∧ b ≠ mp := fun b hb => h.off i j b hl hb
  refine ⟨fun b => F b ∨ S' b, ⟨mp, G, fun i' j' => if i' = i ∧ j' = j then S' else S i' j', ⟨h.sites, h.room, h.net.keep hk (fun e => (hpm p e).1 rfl), ⟨D, ownsMap_keep hD hk (fun e => (hpm mp e).2 rfl), hat⟩, ?_, ?_, ?_, ?_, ?_, .inl h.inp, .inl h.inm, ?_, ?_⟩⟩, hk.more (fun b _ hb => h.ins i j b hl hb), ?_⟩
  · intro i' j' hl'
    by_cases e : i' = i ∧ j' = j
    · obtain ⟨rfl, rfl⟩ := e
      simp only [and_self, if_true]
      rw [Links.set_q]
      exact hb
    · simp only [if_neg e]
      rw [Links.set_other N ts e]
      exact (h.bag i' j' hl').keep hk (fun b hb hb' => e (h.far i j i' j' b hl hl' hb' hb))
  · intro i1 j1 i2 j2 b hl1 hl2 h1 h2
    by_cases e1 : i1 = i ∧ j1 = j
    · obtain ⟨rfl, rfl⟩ := e1
      simp only [and_self, if_true] at h1
      by_cases e2 : i2 = i1 ∧ j2 = j1
      · exact e2
      · simp only [if_neg e2] at h2
        rcases hn b h1 with k | k
        · exact h.far i1 j1 i2 j2 b hl1 hl2 k h2
        · have := hlt i2 j2 b hl2 h2; omega
    · simp only [if_neg e1] at h1
      by_cases e2 : i2 = i ∧ j2 = j
      · obtain ⟨rfl, rfl⟩ := e2
        simp only [and_self, if_true] at h2
        rcases hn b h2 with k | k
        · exact h.far i1 j1 i2 j2 b hl1 hl2 h1 k
        · have := hlt i1 j1 b hl1 h1; omega
      · simp only [if_neg e2] at h2
        exact h.far i1 j1 i2 j2 b hl1 hl2 h1 h2
  · intro i1 j1 b hl1 h1
    by_cases e1 : i1 = i ∧ j1 = j
    · simp only [if_pos e1] at h1
      rcases hn b h1 with k | k
      · exact hpm b k
      · have := h.net.lt
        have := hD.lt
        omega
    · simp only [if_neg e1] at h1
      exact h.off i1 j1 b hl1 h1
  · intro i1 j1 hl1
    by_cases e1 : i1 = i ∧ j1 = j
    · obtain ⟨rfl, rfl⟩ := e1
      rw [Links.set_q]
      exact hf
    · rw [Links.set_other N ts e1]
      exact h.full i1 j1 hl1
  · intro i1 j1 hl1
    by_cases e1 : i1 = i ∧ j1 = j
    · obtain ⟨rfl, rfl⟩ := e1
      rw [Links.set_q]
      exact hs
    · rw [Links.set_other N ts e1]
      exact h.short i1 j1 hl1
  · intro i1 j1 b hl1 h1
    by_cases e1 : i1 = i ∧ j1 = j
    · simp only [if_pos e1] at h1
      exact .inr h1
    · simp only [if_neg e1] at h1
      exact .inl (h.ins i1 j1 b hl1 h1)
  · intro b hb
    rcases hb with hb | hb
    · exact Nat.lt_of_lt_of_le (h.lt b hb) hk.size
    · exact hlt' b hb
  · intro b hb
    rcases hb with hb | hb
    · exact .inl hb
    · rcases hn b hb with k | k
      · exact .inl (h.ins i j b hl k)
      · exact .inr k

/-- Where a link's bag lies. -/
def bagP (n : Nat) (G : Nat → Nat → Nat) (a b : Int) : Option Addr := if lk n a b then some ⟨G a.toNat b.toNat, 0, none⟩ else none
theorem bagP_yes {n : Nat} {G : Nat → Nat → Nat} {a b : Int} (h : lk n a b = true) : bagP n G a b = some ⟨G a.toNat b.toNat, 0, none⟩ := by unfold bagP; rw [if_pos h]
theorem bagP_no {n : Nat} {G : Nat → Nat → Nat} {a b : Int} (h : lk n a b = false) : bagP n G a b = none := by unfold bagP; rw [h]; rfl

theorem net_bag {w : World} {F : Nat → Prop} {p : Nat} {N : Links.Net} {mp : Nat} {G : Nat → Nat → Nat} {S : Nat → Nat → Nat → Prop} (h : NetW w F p N mp G S) (a b : Int) (ha : I64 a) (hb : I64 b) :
    Calls Try.prog 23 #[.pointer (some ⟨p, 0, none⟩), .int .i64 a, .int .i64 b] w fun e w' => e = .returned (.pointer (bagP N.sites G a b)) ∧ w = w' := by
  obtain ⟨D, hD, hat⟩ := h.map
  obtain ⟨v, ps, hrun, hv⟩ := hD.lookup link_keyed Try.underlying46 (Try.zeroValue49 w) (zd := .lit (.int .i64 (-1))) (zp := []) rfl (link_key ha hb)
  rw [hat a b ha hb] at hv
  have hv2 : v = .pointer (bagP N.sites G a b) := by
    rcases ptrElem_inv hv with ⟨h1, h2⟩ | ⟨c, h1, h2⟩
    · cases hl : lk N.sites a b
      · rw [h2, bagP_no hl]
      · rw [hl, if_pos rfl] at h1; omega
    · cases hl : lk N.sites a b
      · rw [hl] at h1; simp at h1
      · rw [hl, if_pos rfl] at h1
        have e : G a.toNat b.toNat = c := by omega
        rw [h2, bagP_yes hl, e]
  subst hv2
  generalize bagP N.sites G a b = r at *
  have c2 := h.net.cell 2 (by simp)
  simp only [List.getElem_cons_succ, List.getElem_cons_zero] at c2
  clear hD hat hv h
  go_enter Try.func23, Try.ntmps23
  go_wp2
  go_ret
  exact ⟨rfl, rfl⟩
theorem net_bag_nil (a b : Int) (w : World) :
    Calls Try.prog 23 #[.pointer none, .int .i64 a, .int .i64 b] w fun e w' => e = .returned (.pointer none) ∧ w = w' := by
  go_enter Try.func23, Try.ntmps23
  go_wp2
  go_ret
  exact ⟨rfl, rfl⟩

theorem net_Len {w : World} {F : Nat → Prop} {p : Nat} {N : Links.Net} (h : IsNet w F p N) (a b : Int) (ha : I64 a) (hb : I64 b) :
    Calls Try.prog 21 #[.pointer (some ⟨p, 0, none⟩), .int .i64 a, .int .i64 b] w fun e w' => e = .returned (.int .i64 ((N.on a b).length : Int)) ∧ w = w' := by
  obtain ⟨mp, G, S, h⟩ := h
  have HB := Lib.hid (net_bag h a b ha hb)
  cases hl : lk N.sites a b
  · rw [bagP_no hl] at HB
    have HO := Lib.hid (Links.on_no hl)
    clear hl h
    go_enter Try.func21, Try.ntmps21
    go_wp2_with fail
    refine HB.out.mono ?_
    rintro e _ ⟨rfl, rfl⟩
    go_wp2
    go_ret
    exact ⟨by rw [HO.out]; rfl, rfl⟩
  · rw [bagP_yes hl] at HB
    obtain ⟨i, j, rfl, rfl, hlk⟩ := Links.lk_nat hl
    have HO := Lib.hid (Links.on_nat hlk)
    obtain ⟨V, ps, hB, ht⟩ := h.bag i j hlk
    obtain ⟨va, vc, rfl⟩ := hB.form
    have c0 := hB.box.cell 0 (by simp)
    simp only [List.getElem_cons_zero] at c0
    have hln : ps.length = (N.q i j).length := by rw [← ht]; simp
    have hful := h.full i j hlk
    have hrm := h.room
    have HL := Lib.hid hln
    have hsm : ps.length ≤ 1000 := by omega
    clear hl h hB ht hln
    go_enter Try.func21, Try.ntmps21
    go_wp2_with fail
    refine HB.out.mono ?_
    rintro e _ ⟨rfl, rfl⟩
    simp only [Int.toNat_natCast]
    go_wp2
    go_ret
    exact ⟨by rw [HO.out, ← HL.out]; rfl, rfl⟩

set_option maxHeartbeats 1000000 in
theorem net_Send {w : World} {F : Nat → Prop} {p : Nat} {N : Links.Net} (h0 : IsNet w F p N) (a b : Int) (s : ByteArray) (ha : I64 a) (hb : I64 b) (hs : s.size ≤ maxLen) :
    Calls Try.prog 11 #[.pointer (some ⟨p, 0, none⟩), .int .i64 a, .int .i64 b, .string s] w fun e w' => e = .returned (.int .i64 (Links.send N a b s.data.toList).1) ∧ Stepped w F p (Links.send N a b s.data.toList).2 w' := by
  unfold maxLen at hs
  obtain ⟨mp, G, S, h⟩ := h0
  have H0 : Hid (IsNet w F p N) := Lib.hid ⟨mp, G, S, h⟩
  have HB := Lib.hid (net_bag h a b ha hb)
  cases hl : lk N.sites a b
  · rw [bagP_no hl] at HB
    have HR : Hid (Links.send N a b s.data.toList = (1, N)) := Lib.hid (by unfold Links.send; rw [hl]; rfl)
    clear hl h
    go_enter Try.func11, Try.ntmps11
    go_wp2_with fail
    refine HB.out.mono ?_
    rintro e _ ⟨rfl, rfl⟩
    go_wp2
    go_ret
    exact ⟨by rw [HR.out]; rfl, by rw [HR.out]; exact Stepped.same H0.out⟩
  · rw [bagP_yes hl] at HB
    by_cases hz : 5000 < s.size
    · have hd : decide ((5000 : Int) < (s.size : Int)) = true := decide_eq_true (by omega)
      have HR : Hid (Links.send N a b s.data.toList = (1, N)) := Lib.hid (by unfold Links.send; rw [if_neg (by rw [size_list]; omega)])
      clear hl h hz
      go_enter Try.func11, Try.ntmps11
      go_wp2_with fail
      refine HB.out.mono ?_
      rintro e _ ⟨rfl, rfl⟩
      go_wp2
      go_ret
      exact ⟨by rw [HR.out]; rfl, by rw [HR.out]; exact Stepped.same H0.out⟩
    · have hd : decide ((5000 : Int) < (s.size : Int)) = false := decide_eq_false (by omega)
      have HR : Hid (Links.send N a b s.data.toList = if (N.on a b).length < N.room then (0, N.set a.toNat b.toNat (N.on a b ++ [s.data.toList])) else (5, N)) := Lib.hid (by unfold Links.send; rw [if_pos ⟨hl, by rw [size_list]; omega⟩])
      have hz' : s.data.toList.length ≤ 5000 := by rw [size_list]; omega
      obtain ⟨i, j, rfl, rfl, hlk⟩ := Links.lk_nat hl
      rw [Links.on_nat hlk] at HR
      obtain ⟨cap, W, hmk, hcap, hrow, hbel, hsz⟩ := bytes_made s w
      have HNW := Lib.hid h
      have HN := Lib.hid (h.below hbel)
      have HBEL := Lib.hid hbel
      have HX : Hid (Txt W (fun b => ¬ S i j b) ⟨some ⟨w.heap.size, 0, none⟩, s.size, cap⟩ s.data.toList) := Lib.hid (by
        refine ⟨(size_list s).symm, by rw [size_list]; exact hcap, ?_⟩
        by_cases hl : s.data.toList = []
        · exact .inl hl
        · exact .inr ⟨w.heap.size, rfl, fun hb => by have := h.lt _ (h.ins i j _ hlk hb); omega, by omega, hrow⟩)
      have HS0 : Hid (∀ b, S i j b → b < w.heap.size) := Lib.hid (fun b hb => h.lt b (h.ins i j b hlk hb))
      have hrm := h.room
      have n1 := HN.out.net.cell 1 (by simp)
      simp only [List.getElem_cons_succ, List.getElem_cons_zero] at n1
      obtain ⟨V, ps, hB, ht⟩ := HN.out.bag i j hlk
      have hln : ps.length = (N.q i j).length := by rw [← ht]; simp
      have hful := h.full i j hlk
      have HBAG := Lib.hid hB
      have HT := Lib.hid ht
      have HLK := Lib.hid hlk
      clear hl h hz hrow hbel hsz hB ht hlk hcap
      go_enter Try.func11, Try.ntmps11
      go_wp2_with fail
      refine HB.out.mono ?_
      rintro e _ ⟨rfl, rfl⟩
      simp only [Int.toNat_natCast]
      by_cases hrn : ps.length < N.room
      · have HR2 : Hid (Links.send N i j s.data.toList = (0, N.set i j (N.q i j ++ [s.data.toList]))) := Lib.hid (by rw [HR.out, if_pos (by omega)]; rfl)
        go_wp2_with fail
        refine (bag_add W (S i j) (G i j) V ps ⟨some ⟨w.heap.size, 0, none⟩, s.size, cap⟩ s.data.toList N.room HBAG.out HX.out hrm.2 hrn).mono ?_
        rintro e w2 ⟨rfl, hib, hkp⟩
        have HIB := Lib.hid hib
        have HKP := Lib.hid hkp
        clear hib hkp
        go_wp2
        go_ret
        refine ⟨by rw [HR2.out]; rfl, ?_⟩
        rw [HR2.out]
        have hkw : Keep (S i j) w w2 := (Keep.of_grew HBEL.out (S i j)).trans HKP.out (fun _ _ h => h)
        have hst := HNW.out.upd HLK.out hkw HIB.out (fun b hb => by
          rcases hb with hb | ⟨hb, _⟩ | hb
          · exact .inl hb
          · right
            simp only at hb
            injection hb with hb
            injection hb with hb
            omega
          · exact .inr (Nat.le_trans HBEL.out.size hb.1)) (by simp; omega) (fun t ht => by
          rcases List.mem_append.1 ht with ht | ht
          · rw [HT.out] at ht; exact HNW.out.short i j HLK.out t ht
          · rw [List.mem_singleton.1 ht]; exact hz')
        rw [HT.out] at hst
        exact hst
      · have HR2 : Hid (Links.send N i j s.data.toList = (5, N)) := Lib.hid (by rw [HR.out, if_neg (by omega)])
        go_wp2_with fail
        refine (bag_add_full W (S i j) (G i j) V ps _ N.room HBAG.out hrm.2 (by omega) (by omega)).mono ?_
        rintro e _ ⟨rfl, rfl⟩
        go_wp2
        go_ret
        exact ⟨by rw [HR2.out]; rfl, by rw [HR2.out]; exact Stepped.grew H0.out HBEL.out⟩
end Go.Proofs.Ytlihdnlojbmhjaa
