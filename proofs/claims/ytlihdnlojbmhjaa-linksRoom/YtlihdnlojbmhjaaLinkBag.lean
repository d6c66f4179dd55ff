/- A network's texts in memory: bags. -/
import Derived.Test.YtlihdnlojbmhjaaLinkKey
import Derived.Test.YtlihdnlojbmhjaaStrs
namespace Go.Proofs.Ytlihdnlojbmhjaa
open Go.RowKit Go.Maps
set_option linter.unusedVariables false

theorem info_bs : (Try.prog.info? 61).map (fun i => (i.zero, i.size, i.bytes)) = some (some (.slice none 0 0), 1, 24) := by kernel_rfl

theorem RowIs.keep {S : Nat → Prop} {w w' : World} {b : Nat} {l : List UInt8} (h : RowIs w b l) (hk : Keep S w w') (hb : b < w.heap.size) (hn : ¬ S b) : RowIs w' b l := fun j hj =>
  ⟨by rw [hk.cell hb hn]; exact (h j hj).1, by rw [hk.frozen hb hn]; exact (h j hj).2⟩

/-- The slice x holds the bytes l; where there are any, in a block of S. -/
def Txt (w : World) (S : Nat → Prop) (x : SV) (l : List UInt8) : Prop := x.n = l.length ∧ l.length ≤ x.c ∧ (l = [] ∨ ∃ b, x.a = some ⟨b, 0, none⟩ ∧ S b ∧ b < w.heap.size ∧ RowIs w b l)

theorem Txt.keep {S S' : Nat → Prop} {w w' : World} {x : SV} {l : List UInt8} (h : Txt w S x l) (hk : Keep S' w w') (hn : ∀ b, x.a = some ⟨b, 0, none⟩ → l ≠ [] → ¬ S' b) : Txt w' S x l := by
  obtain ⟨h1, h2, h3⟩ := h
  refine ⟨h1, h2, ?_⟩
  by_cases hl : l = []
  · exact .inl hl
  · rcases h3 with h3 | ⟨b, ha, hs, hb, hr⟩
    · exact .inl h3
    · exact .inr ⟨b, ha, hs, Nat.lt_of_lt_of_le hb hk.size, hr.keep hk hb (hn b ha hl)⟩
theorem Txt.mono {S S' : Nat → Prop} {w : World} {x : SV} {l : List UInt8} (h : Txt w S x l) (hs : ∀ b, S b → S' b) : Txt w S' x l := by
  obtain ⟨h1, h2, h3⟩ := h
  refine ⟨h1, h2, ?_⟩
  rcases h3 with h3 | ⟨b, ha, h, r⟩
  · exact .inl h3
  · exact .inr ⟨b, ha, hs b h, r⟩

/-- Two texts that have bytes lie in two blocks. -/
def Part (p q : SV × List UInt8) : Prop := ∀ b, p.1.a = some ⟨b, 0, none⟩ → q.1.a = some ⟨b, 0, none⟩ → p.2 ≠ [] → q.2 ≠ [] → False

/-- A bag at g, all of whose blocks are in S. -/
structure Bag (w : World) (S : Nat → Prop) (g : Nat) (V : Value) (ps : List (SV × List UInt8)) : Prop where
  me : S g
  box : Holds w g [V] 52
  own : Owns w 61 1 V ps.length (ps.map fun p => p.1.enc)
  row : ∀ r, V.ownBlock = some r → S r
  txt : ∀ p ∈ ps, Txt w S p.1 p.2
  part : ps.Pairwise Part
  lt : ∀ b, S b → b < w.heap.size

def IsBag (w : World) (S : Nat → Prop) (g : Nat) (ts : List (List UInt8)) : Prop := ∃ V ps, Bag w S g V ps ∧ ps.map Prod.snd = ts

theorem Bag.keep {w w' : World} {S S' : Nat → Prop} {g : Nat} {V : Value} {ps : List (SV × List UInt8)} (h : Bag w S g V ps) (hk : Keep S' w w') (hn : ∀ b, S b → ¬ S' b) : Bag w' S g V ps :=
  ⟨h.me, h.box.keep hk (hn g h.me), h.own.keep hk (fun r hr => hn r (h.row r hr)), h.row,
    fun p hp => by
      have ht := h.txt p hp
      refine ht.keep hk (fun b ha hl => ?_)
      rcases ht.2.2 with h0 | ⟨b', ha', hs, _⟩
      · exact absurd h0 hl
      · rw [ha] at ha'
        injection ha' with ha'
        injection ha' with ha'
        subst ha'
        exact hn b hs,
    h.part, fun b hb => Nat.lt_of_lt_of_le (h.lt b hb) hk.size⟩
theorem IsBag.keep {w w' : World} {S S' : Nat → Prop} {g : Nat} {ts : List (List UInt8)} (h : IsBag w S g ts) (hk : Keep S' w w') (hn : ∀ b, S b → ¬ S' b) : IsBag w' S g ts := by
  obtain ⟨V, ps, hb, ht⟩ := h
  exact ⟨V, ps, hb.keep hk hn, ht⟩
theorem Bag.mono {w : World} {S S' : Nat → Prop} {g : Nat} {V : Value} {ps : List (SV × List UInt8)} (h : Bag w S g V ps) (hs : ∀ b, S b → S' b) (hl : ∀ b, S' b → b < w.heap.size) : Bag w S' g V ps :=
  ⟨hs g h.me, h.box, h.own, fun r hr => hs r (h.row r hr), fun p hp => (h.txt p hp).mono hs, h.part, hl⟩
theorem Bag.form {w : World} {S : Nat → Prop} {g : Nat} {V : Value} {ps : List (SV × List UInt8)} (h : Bag w S g V ps) : ∃ a cap, V = .slice a ps.length cap := by
  rcases h.own.2 with ⟨rfl, h0⟩ | ⟨g, cap, cur, rfl, _⟩
  · exact ⟨none, 0, by rw [h0]⟩
  · exact ⟨_, cap, rfl⟩
/-- The row is no box. -/
theorem Bag.other {w : World} {S : Nat → Prop} {g : Nat} {V : Value} {ps : List (SV × List UInt8)} (h : Bag w S g V ps) {r : Nat} (hr : V.ownBlock = some r) : r ≠ g := by
  rintro rfl
  rcases h.own.2 with ⟨rfl, _⟩ | ⟨g, cap, cur, rfl, _, hg, _⟩
  · simp [Value.ownBlock] at hr
  · have e : g = r := by simpa [Value.ownBlock] using hr
    subst e
    have hb := h.box
    unfold Holds at hb
    rw [hb] at hg
    injection hg with hg
    injection hg with _ hg
    exact absurd hg (by decide)

theorem bag_has (w : World) (S : Nat → Prop) (g : Nat) (V : Value) (ps : List (SV × List UInt8)) (i : Int) (h : Bag w S g V ps) (hm : ps.length ≤ 1000000) :
    Calls Try.prog 26 #[.pointer (some ⟨g, 0, none⟩), .int .i64 i] w fun e w' => e = .returned (.bool (decide (0 ≤ i) && decide (i < ps.length))) ∧ w = w' := by
  obtain ⟨a, cap, rfl⟩ := h.form
  have c0 := h.box.cell 0 (by simp)
  simp only [List.getElem_cons_zero] at c0
  clear h
  by_cases h0 : 0 ≤ i
  · have hd : decide (0 ≤ i) = true := decide_eq_true h0
    clear h0
    go_enter Try.func26, Try.ntmps26
    go_wp2
    go_ret
    exact ⟨by rw [hd]; rfl, rfl⟩
  · have hd : decide (0 ≤ i) = false := decide_eq_false h0
    clear h0
    go_enter Try.func26, Try.ntmps26
    go_wp2
    go_ret
    exact ⟨by rw [hd]; rfl, rfl⟩
theorem bag_has_nil (w : World) (i : Int) :
    Calls Try.prog 26 #[.pointer none, .int .i64 i] w fun e w' => e = .returned (.bool false) ∧ w = w' := by
  go_enter Try.func26, Try.ntmps26
  go_wp2
  go_ret
  exact ⟨rfl, rfl⟩

/-- A text more. -/
theorem Bag.more {w w2 : World} {S : Nat → Prop} {g : Nat} {V V2 : Value} {ps : List (SV × List UInt8)} {x : SV} {l : List UInt8} (h : Bag w S g V ps) (hx : Txt w (fun b => ¬ S b) x l)
    (ho : Owns w2 61 1 V2 (ps.length + 1) ((ps.map fun p => p.1.enc) ++ [x.enc])) (hk : Keep (At V) w w2) (hn : Near w V V2) :
    IsBag (w2.setCell ⟨g, 0, none⟩ V2) (fun b => S b ∨ x.a = some ⟨b, 0, none⟩ ∧ l ≠ [] ∨ w.heap.size ≤ b ∧ b < w2.heap.size) g (ps.map Prod.snd ++ [l])
    ∧ Keep S w (w2.setCell ⟨g, 0, none⟩ V2) := by
  have kk : Keep (Just g) w2 (w2.setCell ⟨g, 0, none⟩ V2) := Keep.setCell _ _ _ _
  have hne : ∀ r, V.ownBlock = some r → r ≠ g := fun r hr => h.other hr
  have hgl := h.box.lt
  have hkS : Keep S w w2 := hk.more (fun r _ hr => h.row r hr)
  have hb2 : ∀ (p : SV × List UInt8), p ∈ ps → Txt (w2.setCell ⟨g, 0, none⟩ V2) S p.1 p.2 := fun p hp => by
    have ht := h.txt p hp
    have hpos : 0 < ps.length := List.length_pos_of_mem hp
    have hblk : ∀ b, p.1.a = some ⟨b, 0, none⟩ → p.2 ≠ [] → ∃ c : UInt8, w.cell? ⟨b, 0, none⟩ = some (.int .u8 (c.toNat : Int)) := fun b ha hl => by
      rcases ht.2.2 with h0 | ⟨b', ha', hs, hb, hr⟩
      · exact absurd h0 hl
      · rw [ha] at ha'
        injection ha' with ha'
        injection ha' with ha'
        subst ha'
        exact ⟨_, (hr 0 (List.length_pos_iff.2 hl)).1⟩
    refine (ht.keep hk (fun b ha hl hr => ?_)).keep kk (fun b ha hl hr => ?_)
    · obtain ⟨c, hc⟩ := hblk b ha hl
      have hr : V.ownBlock = some b := hr
      rcases h.own.2 with ⟨rfl, _⟩ | ⟨g', cap, cur, rfl, _, hg, hcap, _, hsz, htake⟩
      · simp [Value.ownBlock] at hr
      · have e : g' = b := by simpa [Value.ownBlock] using hr
        subst e
        rw [cell_of_row _ _ _ _ _ _ hg] at hc
        have h0 : cur.toList[0]? = some (ps[0].1.enc) := by
          have := congrArg (fun l => l[0]?) htake
          simp only [List.getElem?_take] at this
          rw [if_pos (by omega)] at this
          rw [this]
          simp [hpos]
        rw [← Array.getElem?_toList] at hc
        rw [h0] at hc
        simp [SV.enc] at hc
    · obtain ⟨c, hc⟩ := hblk b ha hl
      have hr : b = g := hr
      subst hr
      have := h.box.cell 0 (by simp)
      rw [this] at hc
      obtain ⟨a, cap, rfl⟩ := h.form
      simp at hc
  have hsz2 : (w2.setCell ⟨g, 0, none⟩ V2).heap.size = w2.heap.size := by simp [World.setCell]
  refine ⟨⟨V2, ps ++ [(x, l)], ⟨.inl h.me, ?_, ?_, ?_, ?_, ?_, ?_⟩, by simp⟩, hkS.trans kk (fun i _ hi => by have hi : i = g := hi; subst hi; exact h.me)⟩
  · have := (h.box.keep hk (fun hr => hne g hr rfl)).set 0 V2 (by simp)
    simpa using this
  · have : Owns (w2.setCell ⟨g, 0, none⟩ V2) 61 1 V2 (ps.length + 1) ((ps.map fun p => p.1.enc) ++ [x.enc]) := ho.keep kk (fun r hr e => by
      have e : r = g := e
      subst e
      rcases hn r hr with k | k
      · exact hne r k rfl
      · omega)
    simpa using this
  · intro r hr
    rcases hn r hr with k | k
    · exact .inl (h.row r k)
    · exact .inr (.inr ⟨k, ho.lt hr⟩)
  · intro p hp
    rcases List.mem_append.1 hp with hp | hp
    · exact (hb2 p hp).mono (fun b hb => .inl hb)
    · rw [List.mem_singleton.1 hp]
      obtain ⟨h1, h2, h3⟩ := hx
      refine ⟨h1, h2, ?_⟩
      rcases h3 with h3 | ⟨b, ha, hs, hb, hr⟩
      · exact .inl h3
      · by_cases hl : l = []
        · exact .inl hl
        · have hbg : ¬ b = g := fun e => hs (e ▸ h.me)
          have hbr : ¬ At V b := fun e => hs (h.row b e)
          exact .inr ⟨b, ha, .inr (.inl ⟨ha, hl⟩), by rw [hsz2]; exact Nat.lt_of_lt_of_le hb hk.size, (hr.keep hk hb hbr).keep kk (Nat.lt_of_lt_of_le hb hk.size) hbg⟩
  · rw [List.pairwise_append]
    refine ⟨h.part, by simp, fun p hp q hq b ha hb hl hl' => ?_⟩
    rw [List.mem_singleton.1 hq] at hb hl'
    rcases (h.txt p hp).2.2 with h0 | ⟨b', ha', hs, _⟩
    · exact hl h0
    · rcases hx.2.2 with h0 | ⟨b'', hb', hs', _⟩
      · exact hl' h0
      · rw [ha] at ha'
        injection ha' with ha'
        injection ha' with ha'
        simp only at hb
        rw [hb] at hb'
        injection hb' with hb'
        injection hb' with hb'
        subst ha' hb'
        exact hs' hs
  · intro b hb
    rw [hsz2]
    rcases hb with hb | ⟨hb, hl⟩ | hb
    · exact Nat.lt_of_lt_of_le (h.lt b hb) hk.size
    · rcases hx.2.2 with h0 | ⟨b', ha', hs, hb', _⟩
      · exact absurd h0 hl
      · rw [hb] at ha'
        injection ha' with ha'
        injection ha' with ha'
        subst ha'
        exact Nat.lt_of_lt_of_le hb' hk.size
    · exact hb.2

/-- What a bag's new blocks are. -/
def Wide (w w' : World) (S : Nat → Prop) (x : SV) (l : List UInt8) : Nat → Prop := fun b => S b ∨ x.a = some ⟨b, 0, none⟩ ∧ l ≠ [] ∨ w.heap.size ≤ b ∧ b < w'.heap.size

set_option maxHeartbeats 1000000 in
theorem bag_add (w : World) (S : Nat → Prop) (g : Nat) (V : Value) (ps : List (SV × List UInt8)) (x : SV) (l : List UInt8) (room : Nat) (h : Bag w S g V ps) (hx : Txt w (fun b => ¬ S b) x l) (hr : room ≤ 1000) (hlt : ps.length < room) :
    Calls Try.prog 24 #[.pointer (some ⟨g, 0, none⟩), x.enc, .int .i64 (room : Int)] w fun e w' => e = .returned (.int .i64 0) ∧ IsBag w' (Wide w w' S x l) g (ps.map Prod.snd ++ [l]) ∧ Keep S w w' := by
  have HB := Lib.hid h
  have HX := Lib.hid hx
  obtain ⟨a, cap, rfl⟩ := h.form
  have HO := Lib.hid h.own
  have hgl := h.box.lt
  have c0 := h.box.cell 0 (by simp)
  simp only [List.getElem_cons_zero] at c0
  have hd : decide ((room : Int) ≤ (ps.length : Int)) = false := decide_eq_false (by omega)
  have hdn : decide (room ≤ ps.length) = false := decide_eq_false (by omega)
  clear h hx
  unfold SV.enc
  go_enter Try.func24, Try.ntmps24
  go_wp2_with (at_builtin; refine wp_append_lit rfl (.tmp 18) (.tmp 20) rfl Try.underlying50 info_bs rfl (by decide) (by decide) (.slice a ps.length cap) ps.length (ps.map fun p => p.1.enc) rfl HO.out 1 [.slice x.a x.n x.c] _ rfl rfl rfl (by intro u hu; rw [List.mem_singleton.1 hu]; rfl) (by omega) ?_; intro V2 w2 ho2 hk2 hn2; have HM := Lib.hid (HB.out.more HX.out ho2 hk2 hn2); have hbx := HB.out.box.keep hk2 (fun hr => HB.out.other hr rfl); have c2 := hbx.cell 0 (by simp); simp only [List.getElem_cons_zero] at c2; have f2 := hbx.frozen 0; obtain ⟨va, vc, rfl⟩ : ∃ va vc, V2 = .slice va (ps.length + 1) vc := (by rcases ho2.2 with ⟨rfl, h0⟩ | ⟨g', cap', cur', rfl, _⟩; exact absurd h0 (by omega); exact ⟨_, _, rfl⟩); clear ho2 hk2 hn2 hbx)
  go_ret
  have hsz2 : (w2.setCell ⟨g, 0, none⟩ (.slice va (ps.length + 1) vc)).heap.size = w2.heap.size := by simp [World.setCell]
  refine ⟨rfl, ?_, HM.out.2⟩
  have := HM.out.1
  unfold Wide
  rw [hsz2]
  exact this
theorem bag_add_full (w : World) (S : Nat → Prop) (g : Nat) (V : Value) (ps : List (SV × List UInt8)) (v : Value) (room : Nat) (h : Bag w S g V ps) (hr : room ≤ 1000) (hm : ps.length ≤ 1000000) (hlt : room ≤ ps.length) :
    Calls Try.prog 24 #[.pointer (some ⟨g, 0, none⟩), v, .int .i64 (room : Int)] w fun e w' => e = .returned (.int .i64 5) ∧ w = w' := by
  obtain ⟨a, cap, rfl⟩ := h.form
  have c0 := h.box.cell 0 (by simp)
  simp only [List.getElem_cons_zero] at c0
  have hd : decide ((room : Int) ≤ (ps.length : Int)) = true := decide_eq_true (by omega)
  have hdn : decide (room ≤ ps.length) = true := decide_eq_true (by omega)
  clear h
  go_enter Try.func24, Try.ntmps24
  go_wp2
  go_ret
  exact ⟨rfl, rfl⟩
end Go.Proofs.Ytlihdnlojbmhjaa
