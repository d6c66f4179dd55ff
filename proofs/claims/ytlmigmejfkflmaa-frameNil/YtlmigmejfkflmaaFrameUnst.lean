/- What frame.unstuff and its three closures come to. -/
import Derived.Test.YtlmigmejfkflmaaFrameStuff
import Derived.Laws.EntriesVeiled
namespace Go.Proofs.Ytlmigmejfkflmaa
open Go.RowKit
set_option linter.unusedVariables false

/-- The slice v holds the bytes l. -/
def SliceB (w : World) (v : Value) (l : List UInt8) : Prop :=
  ∃ a cap, v = .slice a l.length cap ∧ l.length ≤ cap ∧ (l = [] ∨ ∃ b off, a = some ⟨b, off, none⟩ ∧ b < w.heap.size ∧ ∀ i (h : i < l.length), w.cell? ⟨b, off + i, none⟩ = some (.int .u8 (l[i].toNat : Int)))

theorem SliceB.below {w w' : World} {v : Value} {l : List UInt8} (h : SliceB w v l) (hb : Below w.heap.size w w') : SliceB w' v l := by
  obtain ⟨a, cap, hv, hc, h⟩ := h
  refine ⟨a, cap, hv, hc, ?_⟩
  rcases h with h | ⟨b, off, ha, hlt, hcell⟩
  · exact .inl h
  · exact .inr ⟨b, off, ha, Nat.lt_of_lt_of_le hlt hb.size, fun i hi => by rw [hb.cell (p := ⟨b, off + i, none⟩) hlt]; exact hcell i hi⟩

theorem OwnB.slice {w : World} {v : Value} {l : List UInt8} (h : OwnB w v l) : SliceB w v l := by
  rcases h.2 with ⟨rfl, h0⟩ | ⟨g, cap, cur, rfl, hb, hg, hn, hm, hc, ht⟩
  · have : l = [] := List.eq_nil_of_length_eq_zero h0
    subst this
    exact ⟨none, 0, rfl, by simp, .inl rfl⟩
  · refine ⟨_, cap, rfl, hn, .inr ⟨g, 0, rfl, (Array.getElem?_eq_some_iff.1 hg).1, fun i hi => ?_⟩⟩
    have := World.ownsRow.cells h (g := g) rfl i (.int .u8 (l[i].toNat : Int)) (by simp [byteCells, List.getElem?_eq_getElem hi])
    rw [show (⟨g, 0, none⟩ : Addr).add i = ⟨g, 0 + i, none⟩ from by unfold Addr.add; split <;> simp_all] at this
    exact this

def ptr (g : Nat) : Value := .pointer (some ⟨g, 0, none⟩)
def plainF (n : Nat) : Value := .func (.func 37) #[] #[ptr (n + 4), ptr (n + 2), ptr (n + 1), ptr n]
def spoiltF : Value := .func (.func 38) #[] #[]
def signedF (n : Nat) : Value := .func (.func 39) #[] #[ptr n, ptr (n + 5), ptr (n + 2), ptr (n + 3), ptr (n + 1)]
def nowF (n : Nat) : Frame.At → Value | .plain => plainF n | .signed => signedF n | .spoilt => spoiltF

/-- Where the machine stands, in memory: six variables from the block n on, and the text's own row behind them. -/
structure Unst (w : World) (n : Nat) (s : Frame.At × List UInt8) (v : Value) : Prop where
  text : Holds w n [v] 39
  own : OwnB w v s.2
  far : ∀ g, v.ownBlock = some g → n + 6 ≤ g
  whole : Holds w (n + 1) [.bool (decide (s.1 = .plain))] 4
  now : Holds w (n + 2) [nowF n s.1] 45
  plain : Holds w (n + 3) [plainF n] 45
  signed : Holds w (n + 4) [signedF n] 45
  spoilt : Holds w (n + 5) [spoiltF] 45

theorem Unst.lt {w : World} {n : Nat} {s : Frame.At × List UInt8} {v : Value} (h : Unst w n s v) : n + 6 ≤ w.heap.size := by have := h.spoilt.lt; omega

theorem Holds.one {w : World} {g : Nat} {u : Value} {t : TypeId} (h : Holds w g [u] t) : w.cell? ⟨g, 0, none⟩ = some u ∧ w.frozen? ⟨g, 0, none⟩ = false := ⟨h.cell 0 (by simp), h.frozen 0⟩

/-- The text has grown: its variable is written. -/
theorem Unst.grown {w w1 : World} {n : Nat} {s : Frame.At × List UInt8} {v v1 : Value} (h : Unst w n s v) (c : UInt8) (ho : OwnB w1 v1 (s.2 ++ [c])) (hk : Keep (At v) w w1) (hn : Near w v v1) :
    Unst (w1.setCell ⟨n, 0, none⟩ v1) n (s.1, s.2 ++ [c]) v1 := by
  have hl := h.lt
  have hf : ∀ g, v1.ownBlock = some g → n + 6 ≤ g := fun g hg => by
    rcases hn g hg with k | k
    · exact h.far g k
    · omega
  have hA : ∀ j, j < 6 → ¬ At v (n + j) := fun j hj k => by have := h.far _ k; omega
  have kk : Keep (Just n) w1 (w1.setCell ⟨n, 0, none⟩ v1) := Keep.setCell _ _ _ _
  have hold : ∀ j u t, 0 < j → j < 6 → Holds w (n + j) [u] t → Holds (w1.setCell ⟨n, 0, none⟩ v1) (n + j) [u] t := fun j u t h0 hj hh =>
    (hh.keep hk (hA j hj)).keep kk (fun e => by have : n + j = n := e; omega)
  exact ⟨(h.text.keep hk (hA 0 (by omega))).set 0 v1 (by simp), Owns.keep ho kk (fun g hg e => by have h1 := hf g hg; have h2 : g = n := e; omega), hf, hold 1 _ _ (by omega) (by omega) h.whole, hold 2 _ _ (by omega) (by omega) h.now, hold 3 _ _ (by omega) (by omega) h.plain,
    hold 4 _ _ (by omega) (by omega) h.signed, hold 5 _ _ (by omega) (by omega) h.spoilt⟩

/-- The machine goes on to stand elsewhere. -/
theorem Unst.turn {w : World} {n : Nat} {s : Frame.At × List UInt8} {v : Value} (h : Unst w n s v) (a : Frame.At) :
    Unst ((w.setCell ⟨n + 2, 0, none⟩ (nowF n a)).setCell ⟨n + 1, 0, none⟩ (.bool (decide (a = .plain)))) n (a, s.2) v := by
  have k1 : Keep (Just (n + 2)) w (w.setCell ⟨n + 2, 0, none⟩ (nowF n a)) := Keep.setCell _ _ _ _
  have k2 : Keep (Just (n + 1)) (w.setCell ⟨n + 2, 0, none⟩ (nowF n a)) ((w.setCell ⟨n + 2, 0, none⟩ (nowF n a)).setCell ⟨n + 1, 0, none⟩ (.bool (decide (a = .plain)))) := Keep.setCell _ _ _ _
  have hold : ∀ g u t, g ≠ n + 1 → g ≠ n + 2 → Holds w g [u] t → Holds ((w.setCell ⟨n + 2, 0, none⟩ (nowF n a)).setCell ⟨n + 1, 0, none⟩ (.bool (decide (a = .plain)))) g [u] t := fun g u t h1 h2 hh => (hh.keep k1 h2).keep k2 h1
  exact ⟨hold _ _ _ (by omega) (by omega) h.text, Owns.keep (Owns.keep h.own k1 (fun g hg e => by have h1 := h.far g hg; have h2 : g = n + 2 := e; omega)) k2 (fun g hg e => by have h1 := h.far g hg; have h2 : g = n + 1 := e; omega), h.far,
    (h.whole.keep k1 (fun e => by have : n + 1 = n + 2 := e; omega)).set 0 _ (by simp), (h.now.set 0 _ (by simp)).keep k2 (fun e => by have : n + 2 = n + 1 := e; omega), hold _ _ _ (by omega) (by omega) h.plain, hold _ _ _ (by omega) (by omega) h.signed, hold _ _ _ (by omega) (by omega) h.spoilt⟩

/-- The machine is spoilt: only the function is another one. -/
theorem Unst.spoil {w : World} {n : Nat} {t : List UInt8} {v : Value} (h : Unst w n (.signed, t) v) : Unst (w.setCell ⟨n + 2, 0, none⟩ spoiltF) n (.spoilt, t) v := by
  have k1 : Keep (Just (n + 2)) w (w.setCell ⟨n + 2, 0, none⟩ spoiltF) := Keep.setCell _ _ _ _
  have hold : ∀ g u t, g ≠ n + 2 → Holds w g [u] t → Holds (w.setCell ⟨n + 2, 0, none⟩ spoiltF) g [u] t := fun g u t h2 hh => hh.keep k1 h2
  exact ⟨hold _ _ _ (by omega) h.text, Owns.keep h.own k1 (fun g hg e => by have h1 := h.far g hg; have h2 : g = n + 2 := e; omega), h.far, hold _ _ _ (by omega) h.whole, h.now.set 0 _ (by simp), hold _ _ _ (by omega) h.plain, hold _ _ _ (by omega) h.signed, hold _ _ _ (by omega) h.spoilt⟩

/-- What a step of the machine leaves. -/
def Stepped (w : World) (n : Nat) (s : Frame.At × List UInt8) (e : Ending) (w' : World) : Prop := e = .returned (.tuple #[]) ∧ (∃ v, Unst w' n s v) ∧ Below n w w'

theorem unst_below {w w1 : World} {n : Nat} {s : Frame.At × List UInt8} {v : Value} (h : Unst w n s v) (hk : Keep (At v) w w1) : Below n w w1 := hk.below (by have := h.lt; omega) (fun i hi => by have := h.far i hi; omega)

theorem OwnB.form {w : World} {v : Value} {l : List UInt8} (h : OwnB w v l) : ∃ a m cap, v = .slice a m cap := by
  rcases h.2 with ⟨rfl, h0⟩ | ⟨g, cap, cur, rfl, _⟩
  · exact ⟨none, 0, 0, rfl⟩
  · exact ⟨_, _, cap, rfl⟩

set_option maxHeartbeats 400000 in
theorem unst_plain (n : Nat) (t : List UInt8) (v : Value) (b : UInt8) (w : World) (h : Unst w n (.plain, t) v) (hl : t.length ≤ 100000) :
    Calls Try.prog 37 #[.int .u8 (b.toNat : Int), ptr (n + 4), ptr (n + 2), ptr (n + 1), ptr n] w (Stepped w n (Frame.step (.plain, t) b)) := by
  have H := Lib.hid h
  obtain ⟨c0, f0⟩ := h.text.one
  obtain ⟨c1, f1⟩ := h.whole.one
  obtain ⟨c2, f2⟩ := h.now.one
  obtain ⟨c4, f4⟩ := h.signed.one
  clear h
  unfold ptr
  by_cases hb : b = 125
  · have hd : ((b.toNat : Int) == 125) = true := byte_is hb
    have HS : Hid (Frame.step (.plain, t) b = (.signed, t)) := Lib.hid (by rw [hb]; rfl)
    have e4 : signedF n = .func (.func 39) #[] #[ptr n, ptr (n + 5), ptr (n + 2), ptr (n + 3), ptr (n + 1)] := rfl
    rw [e4] at c4
    clear hb e4
    go_enter Try.func37, Try.ntmps37
    go_wp2
    refine bodyPost_ret (results_none rfl _ _ _) rfl ?_
    rw [HS.out]
    exact ⟨rfl, ⟨v, H.out.turn .signed⟩, ((Below.refl _ _).setCell (by simp) _).setCell (by simp) _⟩
  · have hd : ((b.toNat : Int) == 125) = false := byte_not hb
    have HS : Hid (Frame.step (.plain, t) b = (.plain, t ++ [b])) := Lib.hid (Frame.step_other t b hb)
    clear hb
    go_enter Try.func37, Try.ntmps37
    go_wp2_with (at_builtin; refine wp_append_bytes rfl (.tmp 9) (.tmp 11) rfl v _ [b] _ rfl rfl rfl H.out.own (by simp only [List.length_cons, List.length_nil]; omega) ?_; intro v1 w1 ho1 hk1 hn1; obtain ⟨c5, f5⟩ := (H.out.text.keep hk1 (fun k => by have := H.out.far _ k; omega)).one; have HU := Lib.hid (H.out.grown b ho1 hk1 hn1); have HB := Lib.hid (unst_below H.out hk1); obtain ⟨a1, m1, cap1, rfl⟩ := ho1.form; clear ho1 hk1 hn1)
    go_end0
    rw [HS.out]
    exact ⟨rfl, ⟨_, HU.out⟩, HB.out.setCell (by simp) _⟩

set_option maxHeartbeats 400000 in
theorem unst_spoilt (n : Nat) (t : List UInt8) (v : Value) (b : UInt8) (w : World) (h : Unst w n (.spoilt, t) v) :
    Calls Try.prog 38 #[.int .u8 (b.toNat : Int)] w (Stepped w n (Frame.step (.spoilt, t) b)) := by
  have H := Lib.hid h
  clear h
  go_enter Try.func38, Try.ntmps38
  go_wp2
  go_end0
  exact ⟨rfl, ⟨v, H.out⟩, Below.refl _ _⟩

set_option maxHeartbeats 1000000 in
theorem unst_signed (n : Nat) (t : List UInt8) (v : Value) (b : UInt8) (w : World) (h : Unst w n (.signed, t) v) (hl : t.length ≤ 100000) :
    Calls Try.prog 39 #[.int .u8 (b.toNat : Int), ptr n, ptr (n + 5), ptr (n + 2), ptr (n + 3), ptr (n + 1)] w (Stepped w n (Frame.step (.signed, t) b)) := by
  have H := Lib.hid h
  obtain ⟨c0, f0⟩ := h.text.one
  obtain ⟨c1, f1⟩ := h.whole.one
  obtain ⟨c2, f2⟩ := h.now.one
  obtain ⟨c3, f3⟩ := h.plain.one
  obtain ⟨c5, f5⟩ := h.spoilt.one
  clear h
  unfold ptr
  have e3 : plainF n = .func (.func 37) #[] #[ptr (n + 4), ptr (n + 2), ptr (n + 1), ptr n] := rfl
  have e5 : spoiltF = .func (.func 38) #[] #[] := rfl
  by_cases hb : b = 94
  · have hd : ((b.toNat : Int) == 94) = true := byte_is hb
    have HS : Hid (Frame.step (.signed, t) b = (.plain, t ++ [126])) := Lib.hid (by rw [hb]; rfl)
    clear hb e3 e5 c3 c5
    go_enter Try.func39, Try.ntmps39
    go_wp2_with (at_builtin; refine wp_append_bytes rfl (.tmp 11) (.tmp 12) rfl v _ [126] _ rfl rfl rfl H.out.own (by simp only [List.length_cons, List.length_nil]; omega) ?_; intro v1 w1 ho1 hk1 hn1; obtain ⟨c6, f6⟩ := (H.out.text.keep hk1 (fun k => by have := H.out.far _ k; omega)).one; have HU := Lib.hid (H.out.grown 126 ho1 hk1 hn1); have HB := Lib.hid (unst_below H.out hk1); obtain ⟨a1, m1, cap1, rfl⟩ := ho1.form; clear ho1 hk1 hn1; obtain ⟨g2, k2⟩ := HU.out.now.one; obtain ⟨g3, k3⟩ := HU.out.plain.one; obtain ⟨g1, k1⟩ := HU.out.whole.one; rw [show plainF n = .func (.func 37) #[] #[ptr (n + 4), ptr (n + 2), ptr (n + 1), ptr n] from rfl] at g3)
    go_end0
    rw [HS.out]
    exact ⟨rfl, ⟨_, HU.out.turn .plain⟩, ((HB.out.setCell (by simp) _).setCell (by simp) _).setCell (by simp) _⟩
  · have hd : ((b.toNat : Int) == 94) = false := byte_not hb
    by_cases hb2 : b = 93
    · have hd2 : ((b.toNat : Int) == 93) = true := byte_is hb2
      have HS : Hid (Frame.step (.signed, t) b = (.plain, t ++ [125])) := Lib.hid (by rw [hb2]; rfl)
      clear hb hb2 e3 e5 c3 c5
      go_enter Try.func39, Try.ntmps39
      go_wp2_with (at_builtin; refine wp_append_bytes rfl (.tmp 16) (.tmp 17) rfl v _ [125] _ rfl rfl rfl H.out.own (by simp only [List.length_cons, List.length_nil]; omega) ?_; intro v1 w1 ho1 hk1 hn1; obtain ⟨c6, f6⟩ := (H.out.text.keep hk1 (fun k => by have := H.out.far _ k; omega)).one; have HU := Lib.hid (H.out.grown 125 ho1 hk1 hn1); have HB := Lib.hid (unst_below H.out hk1); obtain ⟨a1, m1, cap1, rfl⟩ := ho1.form; clear ho1 hk1 hn1; obtain ⟨g2, k2⟩ := HU.out.now.one; obtain ⟨g3, k3⟩ := HU.out.plain.one; obtain ⟨g1, k1⟩ := HU.out.whole.one; rw [show plainF n = .func (.func 37) #[] #[ptr (n + 4), ptr (n + 2), ptr (n + 1), ptr n] from rfl] at g3)
      go_end0
      rw [HS.out]
      exact ⟨rfl, ⟨_, HU.out.turn .plain⟩, ((HB.out.setCell (by simp) _).setCell (by simp) _).setCell (by simp) _⟩
    · have hd2 : ((b.toNat : Int) == 93) = false := byte_not hb2
      have HS : Hid (Frame.step (.signed, t) b = (.spoilt, t)) := Lib.hid (Frame.step_bad t b hb hb2)
      rw [e5] at c5
      clear hb hb2 e3 e5 c3
      go_enter Try.func39, Try.ntmps39
      go_wp2
      refine bodyPost_ret (results_none rfl _ _ _) rfl ?_
      rw [HS.out]
      exact ⟨rfl, ⟨v, H.out.spoil⟩, (Below.refl _ _).setCell (by simp) _⟩
end Go.Proofs.Ytlmigmejfkflmaa
