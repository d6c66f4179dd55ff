/- What the statements call besides: few, key; Do with its slices written out. -/
import Derived.Test.YtakjoodlediemaaEdLive
import Derived.Test.YtakjoodlediemaaEdOpenS
namespace Go.Proofs.Ytakjoodlediemaa
open Go.RowKit
set_option linter.unusedVariables false

set_option maxRecDepth 100000 in
theorem law18_few (va ka : Option Addr) (n vc nk kc : Nat) (z : Int) (w : World) : Calls Try.prog 5 #[.agg #[.slice va n vc, .int .i64 z, .slice ka nk kc]] w fun e w' => e = .returned (.bool (decide (n ≤ 1100) && decide (nk ≤ 1100))) ∧ Below w.heap.size w w' := by
  have HX := Lib.hid (Holds.new w [.slice va n vc, .int .i64 z, .slice ka nk kc] 24)
  have x0 := HX.out.cell 0 (by simp)
  have x2 := HX.out.cell 2 (by simp)
  simp only [List.getElem_cons_zero, List.getElem_cons_succ] at x0 x2
  by_cases h1 : n ≤ 1100
  · have d1 : decide ((n : Int) ≤ 1100) = true := decide_eq_true (by omega)
    have d1n : decide (n ≤ 1100) = true := decide_eq_true h1
    by_cases h2 : nk ≤ 1100
    · have d2 : decide ((nk : Int) ≤ 1100) = true := decide_eq_true (by omega)
      have d2n : decide (nk ≤ 1100) = true := decide_eq_true h2
      rw [d1n, d2n]
      go_enter Try.func5, Try.ntmps5
      go_wp2
      go_ret
      exact ⟨rfl, grew_alloc _ _⟩
    · have d2 : decide ((nk : Int) ≤ 1100) = false := decide_eq_false (by omega)
      have d2n : decide (nk ≤ 1100) = false := decide_eq_false h2
      rw [d1n, d2n]
      go_enter Try.func5, Try.ntmps5
      go_wp2
      go_ret
      exact ⟨rfl, grew_alloc _ _⟩
  · have d1 : decide ((n : Int) ≤ 1100) = false := decide_eq_false (by omega)
    have d1n : decide (n ≤ 1100) = false := decide_eq_false h1
    rw [d1n]
    go_enter Try.func5, Try.ntmps5
    go_wp2
    go_ret
    exact ⟨rfl, grew_alloc _ _⟩

set_option maxRecDepth 100000 in
theorem law18_key (k r : Int) (w : World) : Calls Try.prog 8 #[.agg #[.int .i64 k, .int .i64 r]] w fun e w' => e = .returned (.agg #[.int .i64 k, .int .i64 r]) ∧ Below w.heap.size w w' := by
  have HX := Lib.hid (Holds.new w [.int .i64 k, .int .i64 r] 26)
  have HB := Lib.hid (grew_alloc w (.cells #[.int .i64 k, .int .i64 r] 26))
  obtain ⟨W, hW⟩ : ∃ W, w.alloc (.cells #[.int .i64 k, .int .i64 r] 26) = W := ⟨_, rfl⟩
  obtain ⟨bx, hbx⟩ : ∃ bx, w.heap.size = bx := ⟨_, rfl⟩
  rw [show ([Value.int .i64 k, .int .i64 r].toArray) = #[Value.int .i64 k, .int .i64 r] from rfl, hW, hbx] at HX
  rw [hW] at HB
  have HX2 := Lib.hid (HX.out.keep (Keep.alloc Non W (.cells #[.int .i64 0, .int .i64 0] 33)) (fun h => h))
  have y0 := HX2.out.cell 0 (by simp)
  have y1 := HX2.out.cell 1 (by simp)
  simp only [List.getElem_cons_zero, List.getElem_cons_succ] at y0 y1
  obtain ⟨rb, hrb⟩ : ∃ rb, W.heap.size = rb := ⟨_, rfl⟩
  have HZ : Hid (Holds (W.alloc (.cells #[.int .i64 k, .int .i64 r] 33)) rb [.int .i64 k, .int .i64 r] 33) := Lib.hid (by
    rw [← hrb]
    exact Holds.new W [.int .i64 k, .int .i64 r] 33)
  have u0 := HZ.out.cell 0 (by simp)
  have u1 := HZ.out.cell 1 (by simp)
  simp only [List.getElem_cons_zero, List.getElem_cons_succ] at u0 u1
  have HBF : Hid (Below w.heap.size w (W.alloc (.cells #[.int .i64 k, .int .i64 r] 33))) := Lib.hid (grew HB.out (grew_alloc W _))
  go_enter Try.func8, Try.ntmps8
  go_wp2
  refine bodyPost_ret (v := .agg #[.int .i64 k, .int .i64 r]) (by simp [results, Try.results8, go_sem, u0, u1]) rfl ?_
  exact ⟨rfl, HBF.out⟩

/-- The line behind a key. -/
def Ed.behind (l : List Int) (z : Int) (kl : List Int) (k r : Int) : List Int := (Ed.apply l (Ed.turned l z kl k r).acts).getD []
theorem Ed.behind_some (l : List Int) (z : Int) (kl : List Int) (k r : Int) : Ed.apply l (Ed.turned l z kl k r).acts = some (Ed.behind l z kl k r) ∧ (Ed.behind l z kl k r).length = (Ed.turned l z kl k r).long := by
  obtain ⟨⟨m, h1, h2⟩, _, _⟩ := Ed.turned_good l z kl k r
  rw [Ed.turned_line] at h1
  unfold Ed.behind
  rw [h1]
  exact ⟨rfl, h2⟩
theorem slice_keep {S : Nat → Prop} {w w' : World} {v : Value} {zs : List Int} (h : SliceI w v zs) (hk : Keep S w w') (hn : ∀ g, v.ownBlock = some g → ¬ S g) : SliceI w' v zs := by
  obtain ⟨a, cap, rfl, hc, h⟩ := h
  refine ⟨a, cap, rfl, hc, ?_⟩
  rcases h with h | ⟨b, off, rfl, hlt, hcell⟩
  · exact .inl h
  · exact .inr ⟨b, off, rfl, Nat.lt_of_lt_of_le hlt hk.size, fun i hi => by rw [hk.cell hlt (hn b rfl)]; exact hcell i hi⟩
theorem sliceg_keep {S : Nat → Prop} {w w' : World} {v : Value} {zs : List EAct} (h : SliceG 3 EAct.cells w v zs) (hk : Keep S w w') (hn : ∀ g, v.ownBlock = some g → ¬ S g) : SliceG 3 EAct.cells w' v zs := by
  obtain ⟨a, cap, rfl, hc, h⟩ := h
  refine ⟨a, cap, rfl, hc, ?_⟩
  rcases h with h | ⟨b, off, rfl, hlt, hcell⟩
  · exact .inl h
  · exact .inr ⟨b, off, rfl, Nat.lt_of_lt_of_le hlt hk.size, fun i hi j u hu => by rw [hk.cell hlt (hn b rfl)]; exact hcell i hi j u hu⟩
/-- What Do hands back, its slices written out, in blocks from B on. -/
structure DoS (w' : World) (B : Nat) (m kl' : List Int) (acts : List EAct) (La Ka Aa : Option Addr) (Lc Kc Ac : Nat) : Prop where
  line : SliceI w' (.slice La m.length Lc) m
  kill : SliceI w' (.slice Ka kl'.length Kc) kl'
  done : SliceG 3 EAct.cells w' (.slice Aa acts.length Ac) acts
  new : ∀ q, (Value.slice La m.length Lc).ownBlock = some q ∨ (Value.slice Ka kl'.length Kc).ownBlock = some q ∨ (Value.slice Aa acts.length Ac).ownBlock = some q → B ≤ q
theorem DoS.keep {S : Nat → Prop} {w w' : World} {B : Nat} {m kl' : List Int} {acts : List EAct} {La Ka Aa : Option Addr} {Lc Kc Ac : Nat} (h : DoS w B m kl' acts La Ka Aa Lc Kc Ac) (hk : Keep S w w') (hS : ∀ q, S q → q < B) : DoS w' B m kl' acts La Ka Aa Lc Kc Ac :=
  ⟨slice_keep h.line hk (fun g hg e => by have := h.new g (.inl hg); have := hS g e; omega), slice_keep h.kill hk (fun g hg e => by have := h.new g (.inr (.inl hg)); have := hS g e; omega), sliceg_keep h.done hk (fun g hg e => by have := h.new g (.inr (.inr hg)); have := hS g e; omega), h.new⟩
theorem DoS.below {w w' : World} {B : Nat} {m kl' : List Int} {acts : List EAct} {La Ka Aa : Option Addr} {Lc Kc Ac : Nat} (h : DoS w B m kl' acts La Ka Aa Lc Kc Ac) (hb : Below w.heap.size w w') : DoS w' B m kl' acts La Ka Aa Lc Kc Ac := h.keep (Keep.of_grew hb Non) (fun _ e => e.elim)
theorem do_any {lv kv : Value} {l kl : List Int} {z k r : Int} {w : World} (hv : SliceI w lv l) (hkv : SliceI w kv kl) (hl : l.length ≤ 100000) (hkl : kl.length ≤ 100000) (hk : I64 k) (hr : I64 r) :
    Calls Try.prog 7 #[.agg #[lv, .int .i64 z, kv], .agg #[.int .i64 k, .int .i64 r]] w fun e w' => ∃ La Lc Ka Kc Aa Ac, e = .returned (.tuple #[.agg #[.slice La (Ed.behind l z kl k r).length Lc, .int .i64 ((Ed.turned l z kl k r).at' : Nat), .slice Ka (Ed.turned l z kl k r).kill.length Kc], .slice Aa (Ed.turned l z kl k r).acts.length Ac]) ∧ DoS w' w.heap.size (Ed.behind l z kl k r) (Ed.turned l z kl k r).kill (Ed.turned l z kl k r).acts La Ka Aa Lc Kc Ac ∧ Below w.heap.size w w' := by
  refine (edit_Do lv kv l kl z k r w hv hkv hl hkl hk hr).mono ?_
  rintro e w' ⟨LV, KV, AV, rfl, s1, s2, s3, hn, hb⟩
  have s1 : SliceI w' LV (Ed.behind l z kl k r) := s1
  obtain ⟨La, Lc, rfl⟩ := s1.shape
  obtain ⟨Ka, Kc, rfl⟩ := s2.shape
  obtain ⟨Aa, Ac, rfl⟩ := s3.shape
  exact ⟨La, Lc, Ka, Kc, Aa, Ac, rfl, ⟨s1, s2, s3, hn⟩, hb⟩

def stL (La Ka : Option Addr) (n Lc nk Kc : Nat) (z : Int) : List Value := [.slice La n Lc, .int .i64 z, .slice Ka nk Kc]
/-- A box with a state that is written: what is left. -/
theorem box_set {w0 y x : World} {ab B : Nat} {c0 c1 c2 : Value} {m kl' : List Int} {acts : List EAct} {at' : Int} {La Ka Aa : Option Addr} {Lc Kc Ac : Nat} (hh : Holds y ab [c0, c1, c2] 29) (hy : w0.heap.size ≤ ab) (hb0 : Below w0.heap.size w0 y) (hb : Below y.heap.size y x)
    (hd : DoS x B m kl' acts La Ka Aa Lc Kc Ac) (hB : ab < B) :
    Holds (((x.setCell ⟨ab, 0, none⟩ (.slice La m.length Lc)).setCell ⟨ab, 1, none⟩ (.int .i64 at')).setCell ⟨ab, 2, none⟩ (.slice Ka kl'.length Kc)) ab [.slice La m.length Lc, .int .i64 at', .slice Ka kl'.length Kc] 29
    ∧ DoS (((x.setCell ⟨ab, 0, none⟩ (.slice La m.length Lc)).setCell ⟨ab, 1, none⟩ (.int .i64 at')).setCell ⟨ab, 2, none⟩ (.slice Ka kl'.length Kc)) B m kl' acts La Ka Aa Lc Kc Ac
    ∧ Keep (Just ab) x (((x.setCell ⟨ab, 0, none⟩ (.slice La m.length Lc)).setCell ⟨ab, 1, none⟩ (.int .i64 at')).setCell ⟨ab, 2, none⟩ (.slice Ka kl'.length Kc))
    ∧ Below w0.heap.size w0 (((x.setCell ⟨ab, 0, none⟩ (.slice La m.length Lc)).setCell ⟨ab, 1, none⟩ (.int .i64 at')).setCell ⟨ab, 2, none⟩ (.slice Ka kl'.length Kc))
    ∧ (x.cell? ⟨ab, 0, none⟩ = some c0 ∧ x.frozen? ⟨ab, 0, none⟩ = false ∧ (x.setCell ⟨ab, 0, none⟩ (.slice La m.length Lc)).cell? ⟨ab, 1, none⟩ = some c1 ∧ (x.setCell ⟨ab, 0, none⟩ (.slice La m.length Lc)).frozen? ⟨ab, 1, none⟩ = false ∧ ((x.setCell ⟨ab, 0, none⟩ (.slice La m.length Lc)).setCell ⟨ab, 1, none⟩ (.int .i64 at')).cell? ⟨ab, 2, none⟩ = some c2 ∧ ((x.setCell ⟨ab, 0, none⟩ (.slice La m.length Lc)).setCell ⟨ab, 1, none⟩ (.int .i64 at')).frozen? ⟨ab, 2, none⟩ = false) := by
  have h0 := hh.keep (Keep.of_grew hb Non) (fun h => h)
  have h1 := h0.set 0 (.slice La m.length Lc) (by simp)
  have h2 := h1.set 1 (.int .i64 at') (by simp)
  have hk : Keep (Just ab) x (((x.setCell ⟨ab, 0, none⟩ (.slice La m.length Lc)).setCell ⟨ab, 1, none⟩ (.int .i64 at')).setCell ⟨ab, 2, none⟩ (.slice Ka kl'.length Kc)) := (((Keep.setCell x ab 0 _).trans (Keep.setCell _ ab 1 _) (fun i _ e => e)).trans (Keep.setCell _ ab 2 _) (fun i _ e => e))
  have hbb := grew hb0 hb
  exact ⟨h2.set 2 (.slice Ka kl'.length Kc) (by simp), hd.keep hk (fun q e => by have e : q = ab := e; omega), hk, hbb.trans (hk.below hbb.size (fun i e => by have e : i = ab := e; omega)), h0.cell 0 (by simp), h0.frozen 0, h1.cell 1 (by simp), h1.frozen 1, h2.cell 2 (by simp), h2.frozen 2⟩
end Go.Proofs.Ytakjoodlediemaa
