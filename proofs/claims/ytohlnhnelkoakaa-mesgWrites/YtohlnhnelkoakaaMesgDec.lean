/- What mesg.Decode comes to. -/
import Derived.Test.YtohlnhnelkoakaaMesgOp
import Derived.Tactics2
import Derived.Defers
import Derived.Recover
import Derived.Laws.Pointers
namespace Go.Proofs.Ytohlnhnelkoakaa
open Go.RowKit
set_option linter.unusedVariables false

theorem msg_free {W : World} {g : Nat} {cs : List Value} {t : TypeId} (h : Holds W g cs t) (j : Nat) : W.frozen? ⟨g, j, none⟩ = false := h.frozen j

/-- A message is put into a block. -/
def setMsg (W : World) (r : Nat) (m : Mesg.Msg) (v : Value) : World :=
  (((((((((W.setCell ⟨r, 0, none⟩ (.int .i64 m.site)).setCell ⟨r, 1, none⟩ (.int .i64 m.seq)).setCell ⟨r, 2, none⟩ v).setCell ⟨r, 3, none⟩ (.int .i64 m.op.kind)).setCell ⟨r, 4, none⟩ (.int .i64 m.op.epoch)).setCell ⟨r, 5, none⟩ (.int .i64 m.op.id.time)).setCell ⟨r, 6, none⟩ (.int .i64 m.op.id.site)).setCell ⟨r, 7, none⟩ (.int .i64 m.op.ref.time)).setCell ⟨r, 8, none⟩ (.int .i64 m.op.ref.site)).setCell ⟨r, 9, none⟩ (.int .i64 m.op.rune)
theorem setMsg_holds {W : World} {r : Nat} {x : Mesg.Msg} {u : Value} {t : TypeId} (h : Holds W r (msgL x u) t) (m : Mesg.Msg) (v : Value) : Holds (setMsg W r m v) r (msgL m v) t :=
  (((((((((h.set 0 _ (by simp [msgL])).set 1 _ (by simp [msgL])).set 2 _ (by simp [msgL])).set 3 _ (by simp [msgL])).set 4 _ (by simp [msgL])).set 5 _ (by simp [msgL])).set 6 _ (by simp [msgL])).set 7 _ (by simp [msgL])).set 8 _ (by simp [msgL])).set 9 _ (by simp [msgL])
theorem setMsg_keep (W : World) (r : Nat) (m : Mesg.Msg) (v : Value) : Keep (Just r) W (setMsg W r m v) :=
  (((((((((Keep.setCell _ _ _ _).trans (Keep.setCell _ _ _ _) (fun _ _ h => h)).trans (Keep.setCell _ _ _ _) (fun _ _ h => h)).trans (Keep.setCell _ _ _ _) (fun _ _ h => h)).trans (Keep.setCell _ _ _ _) (fun _ _ h => h)).trans (Keep.setCell _ _ _ _) (fun _ _ h => h)).trans (Keep.setCell _ _ _ _) (fun _ _ h => h)).trans (Keep.setCell _ _ _ _) (fun _ _ h => h)).trans (Keep.setCell _ _ _ _) (fun _ _ h => h)).trans (Keep.setCell _ _ _ _) (fun _ _ h => h)

theorem tmps12 (a b c d x y : Value) : (#[a, b] ++ (((((((Array.replicate 10 undef).setIfInBounds 3 c).setIfInBounds 4 d).setIfInBounds 2 d).setIfInBounds 5 x).setIfInBounds 6 y).setIfInBounds 0 x).setIfInBounds 1 y) = #[a, b, x, y, d, c, d, x, y, undef, undef, undef] := by simp [Array.replicate]
theorem ta_yes (n : Int) (w : World) : (Instr.typeAssert (.iface 31 (.int .i64 n)) 20 31 true).run Try.prog w = .ok (.tuple #[.int .i64 n, .bool true]) w := by
  simp [Instr.typeAssert, run_underlying Try.underlying31]
theorem ta_no (w : World) : (Instr.typeAssert .nilIface 20 31 true).run Try.prog w = .ok (.tuple #[.int .i64 0, .bool false]) w := by
  simp [Instr.typeAssert, run_underlying Try.underlying31, Try.zeroValue31]

set_option maxRecDepth 100000 in
set_option maxHeartbeats 1000000 in
theorem catch_panicking (r : Nat) (n : Nat) (m : Mesg.Msg) (v : Value) (w : World) (h1 : Holds w r (msgL m v) 28) (h2 : Holds w (r + 1) [.int .i64 0] 31) :
    CallsD Try.prog 34 #[.pointer (some ⟨r, 0, none⟩), .pointer (some ⟨r + 1, 0, none⟩)] (.panicking ({ v := .iface 31 (.int .i64 (n : Int)), recovered := false } :: [])) w fun e u' w' =>
      e = .returned (.tuple #[]) ∧ u' = .panicking ({ v := .iface 31 (.int .i64 (n : Int)), recovered := true } :: []) ∧ (setMsg w r Mesg.none (.slice none 0 0)).setCell ⟨r + 1, 0, none⟩ (.int .i64 (n : Int)) = w' := by
  obtain ⟨⟨d0, d1, d2⟩, d3, d4, d5, d6, d7, d8, d9⟩ := msg_cells h1
  have f0 := h1.frozen 0
  have f1 := h1.frozen 1
  have f2 := h1.frozen 2
  have f3 := h1.frozen 3
  have f4 := h1.frozen 4
  have f5 := h1.frozen 5
  have f6 := h1.frozen 6
  have f7 := h1.frozen 7
  have f8 := h1.frozen 8
  have f9 := h1.frozen 9
  have e0 := h2.cell 0 (by simp)
  have g0 := h2.frozen 0
  refine callsD_of_wpS Try.func34 rfl fun c₀ cs hu => ?_
  apply wpS_seq
  apply wpS_region
  simp [wpOpsS, go_sem, recoverD, hu, Try.ntmps34, Exit.thenS, ta_yes]
  rw [tmps12]
  refine wpS_of_wp ?_
  clear h1 h2
  go_wp2
  exact ⟨rfl, _, rfl, _, results_none rfl _ _ _, rfl, rfl, rfl⟩

set_option maxRecDepth 100000 in
set_option maxHeartbeats 1000000 in
theorem catch_idle (a b : Value) (w : World) :
    CallsD Try.prog 34 #[a, b] .returning w fun e u' w' => e = .returned (.tuple #[]) ∧ u' = .returning ∧ w = w' := by
  refine callsD_of_wpS Try.func34 rfl fun c₀ cs hu => ?_
  apply wpS_seq
  apply wpS_region
  simp [wpOpsS, go_sem, recoverD, hu, Try.ntmps34, Exit.thenS, ta_no]
  rw [tmps12]
  refine wpS_of_wp ?_
  go_wp2
  exact ⟨rfl, .returning, by rw [← hu], _, results_none rfl _ _ _, rfl, rfl, rfl⟩

theorem SliceI.keep {S : Nat → Prop} {w w' : World} {v : Value} {zs : List Int} (h : SliceI w v zs) (hk : Keep S w w') (hn : ∀ g, v.ownBlock = some g → ¬ S g) : SliceI w' v zs := by
  obtain ⟨a, cap, rfl, hc, h⟩ := h
  refine ⟨a, cap, rfl, hc, ?_⟩
  rcases h with h | ⟨b, off, rfl, hlt, hcell⟩
  · exact .inl h
  · exact .inr ⟨b, off, rfl, Nat.lt_of_lt_of_le hlt hk.size, fun i hi => by rw [hk.cell hlt (hn b rfl)]; exact hcell i hi⟩

/-- Where Decode stands: the result's two blocks, the source. -/
structure DecW (w : World) (m : Mesg.Msg) (v : Value) (wr : World) (l : List UInt8) : Prop where
  src : Src wr (w.heap.size + 1 + 1) l
  res : Holds wr w.heap.size (msgL m v) 28
  err : Holds wr (w.heap.size + 1) [.int .i64 0] 31
  below : Below w.heap.size w wr
  know : SliceI wr v m.know
  far : ∀ g, v.ownBlock = some g → w.heap.size + 1 + 1 < g

theorem DecW.gets {w : World} {m : Mesg.Msg} {v : Value} {wr w1 : World} {l l' : List UInt8} (h : DecW w m v wr l) (hk : Keep (Just (w.heap.size + 1 + 1)) wr w1) (hs : Src w1 (w.heap.size + 1 + 1) l') : DecW w m v w1 l' :=
  ⟨hs, h.res.keep hk (fun e => by have e : w.heap.size = w.heap.size + 1 + 1 := e; omega), h.err.keep hk (fun e => by have e : w.heap.size + 1 = w.heap.size + 1 + 1 := e; omega),
    h.below.trans (hk.below (by have := h.src.lt; omega) (fun i e => by have e : i = w.heap.size + 1 + 1 := e; omega)), h.know.keep hk (fun g hg e => by have e : g = w.heap.size + 1 + 1 := e; have := h.far g hg; omega), h.far⟩
theorem DecW.set {w : World} {m m' : Mesg.Msg} {v v' : Value} {wr : World} {l : List UInt8} (h : DecW w m v wr l) (j : Nat) (u : Value) (hj : j < 10) (e : (msgL m v).set j u = msgL m' v') (hk : SliceI wr v' m'.know) (hf : ∀ g, v'.ownBlock = some g → w.heap.size + 1 + 1 < g) :
    DecW w m' v' (wr.setCell ⟨w.heap.size, j, none⟩ u) l := by
  have kk : Keep (Just w.heap.size) wr (wr.setCell ⟨w.heap.size, j, none⟩ u) := Keep.setCell _ _ _ _
  exact ⟨h.src.keep kk (fun e => by have e : w.heap.size + 1 + 1 = w.heap.size := e; omega), by rw [← e]; exact h.res.set j u hj, h.err.keep kk (fun e => by have e : w.heap.size + 1 = w.heap.size := e; omega),
    h.below.setCell (Nat.le_refl _) _, hk.keep kk (fun g hg e => by have e : g = w.heap.size := e; have := hf g hg; omega), hf⟩
theorem DecW.put {w : World} {m m' : Mesg.Msg} {v : Value} {wr : World} {l : List UInt8} (h : DecW w m v wr l) (j : Nat) (u : Value) (hj : j < 10) (e : (msgL m v).set j u = msgL m' v) (hk : m'.know = m.know) : DecW w m' v (wr.setCell ⟨w.heap.size, j, none⟩ u) l :=
  h.set j u hj e (by rw [hk]; exact h.know) h.far
theorem DecW.frozen {w : World} {m : Mesg.Msg} {v : Value} {wr : World} {l : List UInt8} (h : DecW w m v wr l) (j : Nat) : wr.frozen? ⟨w.heap.size, j, none⟩ = false := h.res.frozen j

theorem DecW.badly {w : World} {m : Mesg.Msg} {v : Value} {wr w1 : World} {l : List UInt8} (h : DecW w m v wr l) (hk : Keep (Just (w.heap.size + 1 + 1)) wr w1) : Holds w1 w.heap.size (msgL m v) 28 ∧ Holds w1 (w.heap.size + 1) [.int .i64 0] 31 ∧ Below w.heap.size w w1 :=
  ⟨h.res.keep hk (fun e => by have e : w.heap.size = w.heap.size + 1 + 1 := e; omega), h.err.keep hk (fun e => by have e : w.heap.size + 1 = w.heap.size + 1 + 1 := e; omega),
    h.below.trans (hk.below (by have := h.src.lt; omega) (fun i e => by have e : i = w.heap.size + 1 + 1 := e; omega))⟩

/-- What Decode answers. -/
def decV (r : Mesg.Got Mesg.Msg) (w' : World) (e : Ending) : Prop := match r with
  | .ok m _ => ∃ v, e = .returned (.tuple #[msgV m v, .int .i64 0]) ∧ SliceI w' v m.know
  | .error n => e = .returned (.tuple #[msgV Mesg.none (.slice none 0 0), .int .i64 (n : Int)])

theorem run_makeFunc (fn : Fn) (first cap : Array Value) (w : World) : (Instr.makeFunc fn first cap).run Try.prog w = .ok (.func fn first cap) w := rfl

theorem dec_start (w : World) (s : ByteArray) : DecW w Mesg.none (.slice none 0 0) (((w.alloc (.cells #[.int .i64 0, .int .i64 0, .slice none 0 0, .int .i64 0, .int .i64 0, .int .i64 0, .int .i64 0, .int .i64 0, .int .i64 0, .int .i64 0] 28)).alloc (.cells #[.int .i64 0] 31)).alloc (.cells #[.string s] 58)) s.data.toList := by
  have z1 : (w.alloc (.cells #[.int .i64 0, .int .i64 0, .slice none 0 0, .int .i64 0, .int .i64 0, .int .i64 0, .int .i64 0, .int .i64 0, .int .i64 0, .int .i64 0] 28)).heap.size = w.heap.size + 1 := Array.size_push _
  have z2 : ((w.alloc (.cells #[.int .i64 0, .int .i64 0, .slice none 0 0, .int .i64 0, .int .i64 0, .int .i64 0, .int .i64 0, .int .i64 0, .int .i64 0, .int .i64 0] 28)).alloc (.cells #[.int .i64 0] 31)).heap.size = w.heap.size + 1 + 1 := by rw [← z1]; exact Array.size_push _
  refine ⟨?_, ?_, ?_, grew (grew_alloc _ _) (grew (grew_alloc _ _) (grew_alloc _ _)), SliceI.none _, fun g hg => by simp [Value.ownBlock] at hg⟩
  · have := Holds.new ((w.alloc (.cells #[.int .i64 0, .int .i64 0, .slice none 0 0, .int .i64 0, .int .i64 0, .int .i64 0, .int .i64 0, .int .i64 0, .int .i64 0, .int .i64 0] 28)).alloc (.cells #[.int .i64 0] 31)) [.string s] 58
    rw [z2] at this
    unfold Src
    rw [str_of]
    exact this
  · exact ((Holds.new w (msgL Mesg.none (.slice none 0 0)) 28).keep (S := Non) (Keep.alloc Non _ _) (fun h => h)).keep (S := Non) (Keep.alloc Non _ _) (fun h => h)
  · have := (Holds.new (w.alloc (.cells #[.int .i64 0, .int .i64 0, .slice none 0 0, .int .i64 0, .int .i64 0, .int .i64 0, .int .i64 0, .int .i64 0, .int .i64 0, .int .i64 0] 28)) [.int .i64 0] 31).keep (S := Non) (Keep.alloc Non _ (.cells #[.string s] 58)) (fun h => h)
    rw [z1] at this
    exact this

set_option maxRecDepth 100000 in
set_option maxHeartbeats 1000000 in
theorem dec_results (tmps : Array Value) (r : Nat) (m : Mesg.Msg) (v : Value) (n : Int) (W : World) (h1 : Holds W r (msgL m v) 28) (h2 : Holds W (r + 1) [.int .i64 n] 31)
    (t2 : tmps[2]?.getD undef = .pointer (some ⟨r, 0, none⟩)) (t3 : tmps[3]?.getD undef = .pointer (some ⟨r + 1, 0, none⟩)) :
    (results Try.f18 tmps).run Try.prog W = .ok (.tuple #[msgV m v, .int .i64 n]) W := by
  obtain ⟨⟨d0, d1, d2⟩, d3, d4, d5, d6, d7, d8, d9⟩ := msg_cells h1
  have e0 := h2.cell 0 (by simp)
  simp only [List.getElem_cons_zero] at e0
  simp [results, Try.results18, go_sem, t2, t3, d0, d1, d2, d3, d4, d5, d6, d7, d8, d9, e0, msgV]

set_option maxRecDepth 100000 in
set_option maxHeartbeats 1000000 in
/-- A panic with an error goes through the door. -/
theorem dec_door (tmps : Array Value) (n : Nat) (m : Mesg.Msg) (v : Value) (wr : World) (w : World) (h1 : Holds wr w.heap.size (msgL m v) 28) (h2 : Holds wr (w.heap.size + 1) [.int .i64 0] 31) (hb : Below w.heap.size w wr)
    (t2 : tmps[2]?.getD undef = .pointer (some ⟨w.heap.size, 0, none⟩)) (t3 : tmps[3]?.getD undef = .pointer (some ⟨w.heap.size + 1, 0, none⟩)) :
    bodyPostD Try.prog Try.f18 (fun e w' => decV (.error n) w' e ∧ Below w.heap.size w w') (Exit.panic [{ v := .iface 31 (.int .i64 (n : Int)), recovered := false }])
      { tmps := tmps, defers := [{ target := Target.fn (Fn.func 34) #[.pointer (some ⟨w.heap.size, 0, none⟩), .pointer (some ⟨w.heap.size + 1, 0, none⟩)], args := #[] }] } wr := by
  refine leaves_cons (f := 34) (args := #[.pointer (some ⟨w.heap.size, 0, none⟩), .pointer (some ⟨w.heap.size + 1, 0, none⟩)]) (by simp) (by simp [go_sem]) ?_
  refine (catch_panicking w.heap.size n m v wr h1 h2).mono ?_
  rintro e u' w'' ⟨rfl, rfl, rfl⟩
  have kk : Keep (Just (w.heap.size + 1)) (setMsg wr w.heap.size Mesg.none (.slice none 0 0)) ((setMsg wr w.heap.size Mesg.none (.slice none 0 0)).setCell ⟨w.heap.size + 1, 0, none⟩ (.int .i64 (n : Int))) := Keep.setCell _ _ _ _
  have k0 := setMsg_keep wr w.heap.size Mesg.none (.slice none 0 0)
  have H1 := (setMsg_holds h1 Mesg.none (.slice none 0 0)).keep kk (fun e => by have e : w.heap.size = w.heap.size + 1 := e; omega)
  have H2 := (h2.keep k0 (fun e => by have e : w.heap.size + 1 = w.heap.size := e; omega)).set 0 (.int .i64 (n : Int)) (by simp)
  have HB : Below w.heap.size w ((setMsg wr w.heap.size Mesg.none (.slice none 0 0)).setCell ⟨w.heap.size + 1, 0, none⟩ (.int .i64 (n : Int))) :=
    (hb.trans (k0.below hb.size (fun i e => by have e : i = w.heap.size := e; omega))).setCell (by simp) _
  exact ⟨_, dec_results tmps w.heap.size Mesg.none (.slice none 0 0) (n : Int) _ H1 H2 t2 t3, rfl, HB⟩

set_option maxRecDepth 100000 in
set_option maxHeartbeats 1000000 in
/-- It returns: the deferred call finds nothing. -/
theorem dec_back (tmps : Array Value) (m : Mesg.Msg) (v : Value) (l : List UInt8) (wr : World) (w : World) (h1 : Holds wr w.heap.size (msgL m v) 28) (h2 : Holds wr (w.heap.size + 1) [.int .i64 0] 31) (hb : Below w.heap.size w wr) (hk : SliceI wr v m.know)
    (t2 : tmps[2]?.getD undef = .pointer (some ⟨w.heap.size, 0, none⟩)) (t3 : tmps[3]?.getD undef = .pointer (some ⟨w.heap.size + 1, 0, none⟩)) :
    bodyPostD Try.prog Try.f18 (fun e w' => decV (.ok m l) w' e ∧ Below w.heap.size w w') Exit.ret
      { tmps := tmps, defers := [{ target := Target.fn (Fn.func 34) #[.pointer (some ⟨w.heap.size, 0, none⟩), .pointer (some ⟨w.heap.size + 1, 0, none⟩)], args := #[] }] } wr := by
  refine leaves_cons (f := 34) (args := #[.pointer (some ⟨w.heap.size, 0, none⟩), .pointer (some ⟨w.heap.size + 1, 0, none⟩)]) (by simp) (by simp [go_sem]) ?_
  refine (catch_idle _ _ wr).mono ?_
  rintro e u' w'' ⟨rfl, rfl, rfl⟩
  exact ⟨_, dec_results tmps w.heap.size m v 0 _ h1 h2 t2 t3, ⟨v, rfl, hk⟩, hb⟩

set_option maxRecDepth 100000 in
set_option maxHeartbeats 1000000 in
theorem dec_A (s : ByteArray) (n : Nat) (w : World) (hs : s.size ≤ 1000000) (h1 : Mesg.num s.data.toList = .error n) :
    Calls Try.prog 18 #[.string s] w fun e w' => decV (.error n) w' e ∧ Below w.heap.size w w' := by
  have D0 := Lib.hid (dec_start w s)
  have C1 := Lib.hid (src_number _ _ _ D0.out.src (by rw [size_list]; omega))
  rw [h1] at C1
  have hmf := run_makeFunc
  clear h1
  go_enter_defers Try.func18, Try.ntmps18
  go_wp2_with fail
  refine C1.out.mono ?_
  rintro e w1 hg1
  obtain ⟨hk1, rfl⟩ := bad_num hg1
  clear hg1
  have D1 := Lib.hid (D0.out.badly hk1)
  go_wp2
  exact dec_door _ n _ _ _ w D1.out.1 D1.out.2.1 D1.out.2.2 rfl rfl
theorem list_len_le {l t : List UInt8} {zs : List Int} (h : Mesg.list l = .ok zs t) : t.length ≤ l.length := by
  obtain ⟨h1, _⟩ := Mesg.list_ok h
  have hz : (Pack.each l).2.2 = 0 := by rw [h1]
  have ht : (Pack.each l).2.1 = t := by rw [h1]
  rw [← ht]
  unfold Pack.each at hz ⊢
  by_cases h0 : (Pack.take l).2.2 = 0
  · rw [if_pos h0] at hz ⊢
    by_cases h9 : 1000 < (Pack.take l).1
    · rw [if_pos h9]; simp
    · rw [if_neg h9] at hz ⊢
      have h5 := (Pack.eachN_back _ _ hz).2.2
      rcases Pack.take_cases l with ⟨k, t', hk, _, hl⟩ | ⟨e, hk, he⟩
      · have h6 := congrArg List.length h5
        rw [hk] at h6 ⊢
        rw [List.length_append] at h6
        have h7 := congrArg List.length hl
        rw [List.length_append] at h7
        simp only at h6 ⊢
        omega
      · rw [hk] at h0
        simp only at h0
        omega
  · rw [if_neg h0]; simp
theorem list_len_max {l t : List UInt8} {zs : List Int} (h : Mesg.list l = .ok zs t) : zs.length ≤ 1000 := by
  obtain ⟨h1, h2⟩ := Mesg.list_ok h
  have hz : (Pack.each l).2.2 = 0 := by rw [h1]
  rw [h2, List.length_map]
  unfold Pack.each at hz ⊢
  by_cases h0 : (Pack.take l).2.2 = 0
  · rw [if_pos h0] at hz ⊢
    by_cases h9 : 1000 < (Pack.take l).1
    · rw [if_pos h9]; simp
    · rw [if_neg h9] at hz ⊢
      have h5 := (Pack.eachN_back _ _ hz).1
      omega
  · rw [if_neg h0]; simp

set_option maxRecDepth 100000 in
set_option maxHeartbeats 2000000 in
theorem dec_B (s : ByteArray) (a : Int) (l1 : List UInt8) (n : Nat) (w : World) (hs : s.size ≤ 1000000) (h1 : Mesg.num s.data.toList = .ok a l1) (h2 : Mesg.num l1 = .error n) :
    Calls Try.prog 18 #[.string s] w fun e w' => decV (.error n) w' e ∧ Below w.heap.size w w' := by
  have D0 := Lib.hid (dec_start w s)
  have C1 := Lib.hid (src_number _ _ _ D0.out.src (by rw [size_list]; omega))
  have hl1 : l1.length ≤ 1000000 := by have := num_len_le h1; rw [size_list] at this; omega
  rw [h1] at C1
  have hmf := run_makeFunc
  have H2 := Lib.hid h2
  clear h1 h2
  go_enter_defers Try.func18, Try.ntmps18
  go_wp2_with fail
  refine C1.out.mono ?_
  rintro e w1 hg1
  obtain ⟨hkx, rfl, hsx⟩ := ok_num hg1
  clear hg1
  have D1 := Lib.hid (D0.out.gets hkx hsx)
  clear hkx hsx
  obtain ⟨⟨c0, c1, c2⟩, c3, c4, c5, c6, c7, c8, c9⟩ := msg_cells D1.out.res
  have q0 := D1.out.frozen 0
  have q1 := D1.out.frozen 1
  have q2 := D1.out.frozen 2
  have q3 := D1.out.frozen 3
  have q4 := D1.out.frozen 4
  have q5 := D1.out.frozen 5
  have q6 := D1.out.frozen 6
  have q7 := D1.out.frozen 7
  have q8 := D1.out.frozen 8
  have q9 := D1.out.frozen 9
  simp only [Mesg.none, Mesg.noOp, Mesg.zero] at c0 c1 c2 c3 c4 c5 c6 c7 c8 c9
  have E1 := Lib.hid (D1.out.put 0 (.int .i64 a) (by omega) (m' := ⟨a, 0, [], ⟨0, 0, ⟨0, 0⟩, ⟨0, 0⟩, 0⟩⟩) rfl rfl)
  have C2 := Lib.hid (src_number _ l1 _ E1.out.src hl1)
  rw [H2.out] at C2
  go_wp2_with fail
  refine C2.out.mono ?_
  rintro e w2 hg2
  clear c0 c1 c2 c3 c4 c5 c6 c7 c8 c9 q0 q1 q2 q3 q4 q5 q6 q7 q8 q9
  obtain ⟨hkx, rfl⟩ := bad_num hg2
  clear hg2
  have DX := Lib.hid (E1.out.badly hkx)
  go_wp2
  exact dec_door _ n _ _ _ w DX.out.1 DX.out.2.1 DX.out.2.2 rfl rfl

set_option maxRecDepth 100000 in
set_option maxHeartbeats 2000000 in
theorem dec_C (s : ByteArray) (a b : Int) (l1 l2 : List UInt8) (n : Nat) (w : World) (hs : s.size ≤ 1000000) (h1 : Mesg.num s.data.toList = .ok a l1) (h2 : Mesg.num l1 = .ok b l2) (h3 : Mesg.list l2 = .error n) :
    Calls Try.prog 18 #[.string s] w fun e w' => decV (.error n) w' e ∧ Below w.heap.size w w' := by
  have D0 := Lib.hid (dec_start w s)
  have C1 := Lib.hid (src_number _ _ _ D0.out.src (by rw [size_list]; omega))
  have hl1 : l1.length ≤ 1000000 := by have := num_len_le h1; rw [size_list] at this; omega
  rw [h1] at C1
  have hmf := run_makeFunc
  have H2 := Lib.hid h2
  have hl2 : l2.length ≤ 1000000 := by have := num_len_le h2; omega
  have H3 := Lib.hid h3
  clear h1 h2 h3
  go_enter_defers Try.func18, Try.ntmps18
  go_wp2_with fail
  refine C1.out.mono ?_
  rintro e w1 hg1
  obtain ⟨hkx, rfl, hsx⟩ := ok_num hg1
  clear hg1
  have D1 := Lib.hid (D0.out.gets hkx hsx)
  clear hkx hsx
  obtain ⟨⟨c0, c1, c2⟩, c3, c4, c5, c6, c7, c8, c9⟩ := msg_cells D1.out.res
  have q0 := D1.out.frozen 0
  have q1 := D1.out.frozen 1
  have q2 := D1.out.frozen 2
  have q3 := D1.out.frozen 3
  have q4 := D1.out.frozen 4
  have q5 := D1.out.frozen 5
  have q6 := D1.out.frozen 6
  have q7 := D1.out.frozen 7
  have q8 := D1.out.frozen 8
  have q9 := D1.out.frozen 9
  simp only [Mesg.none, Mesg.noOp, Mesg.zero] at c0 c1 c2 c3 c4 c5 c6 c7 c8 c9
  have E1 := Lib.hid (D1.out.put 0 (.int .i64 a) (by omega) (m' := ⟨a, 0, [], ⟨0, 0, ⟨0, 0⟩, ⟨0, 0⟩, 0⟩⟩) rfl rfl)
  have C2 := Lib.hid (src_number _ l1 _ E1.out.src hl1)
  rw [H2.out] at C2
  go_wp2_with fail
  refine C2.out.mono ?_
  rintro e w2 hg2
  clear c0 c1 c2 c3 c4 c5 c6 c7 c8 c9 q0 q1 q2 q3 q4 q5 q6 q7 q8 q9
  obtain ⟨hkx, rfl, hsx⟩ := ok_num hg2
  clear hg2
  have D2 := Lib.hid (E1.out.gets hkx hsx)
  clear hkx hsx
  obtain ⟨⟨c0, c1, c2⟩, c3, c4, c5, c6, c7, c8, c9⟩ := msg_cells D2.out.res
  have q0 := D2.out.frozen 0
  have q1 := D2.out.frozen 1
  have q2 := D2.out.frozen 2
  have q3 := D2.out.frozen 3
  have q4 := D2.out.frozen 4
  have q5 := D2.out.frozen 5
  have q6 := D2.out.frozen 6
  have q7 := D2.out.frozen 7
  have q8 := D2.out.frozen 8
  have q9 := D2.out.frozen 9
  simp only at c0 c1 c2 c3 c4 c5 c6 c7 c8 c9
  have E2 := Lib.hid (D2.out.put 1 (.int .i64 b) (by omega) (m' := ⟨a, b, [], ⟨0, 0, ⟨0, 0⟩, ⟨0, 0⟩, 0⟩⟩) rfl rfl)
  have C3 := Lib.hid (src_list _ l2 _ E2.out.src hl2)
  rw [H3.out] at C3
  go_wp2_with fail
  refine C3.out.mono ?_
  rintro e w3 hg3
  clear c0 c1 c2 c3 c4 c5 c6 c7 c8 c9 q0 q1 q2 q3 q4 q5 q6 q7 q8 q9
  obtain ⟨hkx, rfl⟩ := bad_num hg3
  clear hg3
  have DX := Lib.hid (E2.out.badly hkx)
  go_wp2
  exact dec_door _ n _ _ _ w DX.out.1 DX.out.2.1 DX.out.2.2 rfl rfl

set_option maxRecDepth 100000 in
set_option maxHeartbeats 2000000 in
theorem dec_D (s : ByteArray) (a b : Int) (kn : List Int) (l1 l2 l3 : List UInt8) (n : Nat) (w : World) (hs : s.size ≤ 1000000) (h1 : Mesg.num s.data.toList = .ok a l1) (h2 : Mesg.num l1 = .ok b l2) (h3 : Mesg.list l2 = .ok kn l3) (h4 : Mesg.rop l3 = .error n) :
    Calls Try.prog 18 #[.string s] w fun e w' => decV (.error n) w' e ∧ Below w.heap.size w w' := by
  have D0 := Lib.hid (dec_start w s)
  have C1 := Lib.hid (src_number _ _ _ D0.out.src (by rw [size_list]; omega))
  have hl1 : l1.length ≤ 1000000 := by have := num_len_le h1; rw [size_list] at this; omega
  rw [h1] at C1
  have hmf := run_makeFunc
  have H2 := Lib.hid h2
  have hl2 : l2.length ≤ 1000000 := by have := num_len_le h2; omega
  have hl3 : l3.length ≤ 1000000 := by have := list_len_le h3; omega
  have H3 := Lib.hid h3
  have H4 := Lib.hid h4
  clear h1 h2 h3 h4
  go_enter_defers Try.func18, Try.ntmps18
  go_wp2_with fail
  refine C1.out.mono ?_
  rintro e w1 hg1
  obtain ⟨hkx, rfl, hsx⟩ := ok_num hg1
  clear hg1
  have D1 := Lib.hid (D0.out.gets hkx hsx)
  clear hkx hsx
  obtain ⟨⟨c0, c1, c2⟩, c3, c4, c5, c6, c7, c8, c9⟩ := msg_cells D1.out.res
  have q0 := D1.out.frozen 0
  have q1 := D1.out.frozen 1
  have q2 := D1.out.frozen 2
  have q3 := D1.out.frozen 3
  have q4 := D1.out.frozen 4
  have q5 := D1.out.frozen 5
  have q6 := D1.out.frozen 6
  have q7 := D1.out.frozen 7
  have q8 := D1.out.frozen 8
  have q9 := D1.out.frozen 9
  simp only [Mesg.none, Mesg.noOp, Mesg.zero] at c0 c1 c2 c3 c4 c5 c6 c7 c8 c9
  have E1 := Lib.hid (D1.out.put 0 (.int .i64 a) (by omega) (m' := ⟨a, 0, [], ⟨0, 0, ⟨0, 0⟩, ⟨0, 0⟩, 0⟩⟩) rfl rfl)
  have C2 := Lib.hid (src_number _ l1 _ E1.out.src hl1)
  rw [H2.out] at C2
  go_wp2_with fail
  refine C2.out.mono ?_
  rintro e w2 hg2
  clear c0 c1 c2 c3 c4 c5 c6 c7 c8 c9 q0 q1 q2 q3 q4 q5 q6 q7 q8 q9
  obtain ⟨hkx, rfl, hsx⟩ := ok_num hg2
  clear hg2
  have D2 := Lib.hid (E1.out.gets hkx hsx)
  clear hkx hsx
  obtain ⟨⟨c0, c1, c2⟩, c3, c4, c5, c6, c7, c8, c9⟩ := msg_cells D2.out.res
  have q0 := D2.out.frozen 0
  have q1 := D2.out.frozen 1
  have q2 := D2.out.frozen 2
  have q3 := D2.out.frozen 3
  have q4 := D2.out.frozen 4
  have q5 := D2.out.frozen 5
  have q6 := D2.out.frozen 6
  have q7 := D2.out.frozen 7
  have q8 := D2.out.frozen 8
  have q9 := D2.out.frozen 9
  simp only at c0 c1 c2 c3 c4 c5 c6 c7 c8 c9
  have E2 := Lib.hid (D2.out.put 1 (.int .i64 b) (by omega) (m' := ⟨a, b, [], ⟨0, 0, ⟨0, 0⟩, ⟨0, 0⟩, 0⟩⟩) rfl rfl)
  have C3 := Lib.hid (src_list _ l2 _ E2.out.src hl2)
  rw [H3.out] at C3
  go_wp2_with fail
  refine C3.out.mono ?_
  rintro e w3 hg3
  clear c0 c1 c2 c3 c4 c5 c6 c7 c8 c9 q0 q1 q2 q3 q4 q5 q6 q7 q8 q9
  obtain ⟨hkx, ⟨v3, rfl, hsl3, hfar3⟩, hsx⟩ := hg3
  have D3 := Lib.hid (E2.out.gets hkx hsx)
  have E3 := Lib.hid (D3.out.set 2 v3 (by omega) (m' := ⟨a, b, kn, ⟨0, 0, ⟨0, 0⟩, ⟨0, 0⟩, 0⟩⟩) (v' := v3) rfl hsl3 (fun g hg => Nat.lt_of_lt_of_le E2.out.src.lt (hfar3 g hg)))
  obtain ⟨a3, len3, cap3, rfl⟩ : ∃ x y z, v3 = .slice x y z := (by obtain ⟨x, z, h, _⟩ := hsl3; exact ⟨_, _, _, h⟩)
  clear hkx hsx hsl3 hfar3
  obtain ⟨⟨c0, c1, c2⟩, c3, c4, c5, c6, c7, c8, c9⟩ := msg_cells D3.out.res
  have q0 := D3.out.frozen 0
  have q1 := D3.out.frozen 1
  have q2 := D3.out.frozen 2
  have q3 := D3.out.frozen 3
  have q4 := D3.out.frozen 4
  have q5 := D3.out.frozen 5
  have q6 := D3.out.frozen 6
  have q7 := D3.out.frozen 7
  have q8 := D3.out.frozen 8
  have q9 := D3.out.frozen 9
  simp only at c0 c1 c2 c3 c4 c5 c6 c7 c8 c9
  have C4 := Lib.hid (src_op _ l3 _ E3.out.src hl3)
  rw [H4.out] at C4
  go_wp2_with fail
  refine C4.out.mono ?_
  rintro e w4 hg4
  clear c0 c1 c2 c3 c4 c5 c6 c7 c8 c9 q0 q1 q2 q3 q4 q5 q6 q7 q8 q9
  obtain ⟨hkx, rfl⟩ := bad_num hg4
  clear hg4
  have DX := Lib.hid (E3.out.badly hkx)
  go_wp2
  exact dec_door _ n _ _ _ w DX.out.1 DX.out.2.1 DX.out.2.2 rfl rfl

set_option maxRecDepth 100000 in
set_option maxHeartbeats 2000000 in
theorem dec_E (s : ByteArray) (a b : Int) (kn : List Int) (o : Mesg.Op) (l1 l2 l3 l4 : List UInt8) (w : World) (hs : s.size ≤ 1000000) (h1 : Mesg.num s.data.toList = .ok a l1) (h2 : Mesg.num l1 = .ok b l2) (h3 : Mesg.list l2 = .ok kn l3) (h4 : Mesg.rop l3 = .ok o l4) (hz : l4 ≠ []) :
    Calls Try.prog 18 #[.string s] w fun e w' => decV (.error 2) w' e ∧ Below w.heap.size w w' := by
  have D0 := Lib.hid (dec_start w s)
  have C1 := Lib.hid (src_number _ _ _ D0.out.src (by rw [size_list]; omega))
  have hl1 : l1.length ≤ 1000000 := by have := num_len_le h1; rw [size_list] at this; omega
  rw [h1] at C1
  have hmf := run_makeFunc
  have H2 := Lib.hid h2
  have hl2 : l2.length ≤ 1000000 := by have := num_len_le h2; omega
  have hl3 : l3.length ≤ 1000000 := by have := list_len_le h3; omega
  have H3 := Lib.hid h3
  have H4 := Lib.hid h4
  clear h1 h2 h3 h4
  go_enter_defers Try.func18, Try.ntmps18
  go_wp2_with fail
  refine C1.out.mono ?_
  rintro e w1 hg1
  obtain ⟨hkx, rfl, hsx⟩ := ok_num hg1
  clear hg1
  have D1 := Lib.hid (D0.out.gets hkx hsx)
  clear hkx hsx
  obtain ⟨⟨c0, c1, c2⟩, c3, c4, c5, c6, c7, c8, c9⟩ := msg_cells D1.out.res
  have q0 := D1.out.frozen 0
  have q1 := D1.out.frozen 1
  have q2 := D1.out.frozen 2
  have q3 := D1.out.frozen 3
  have q4 := D1.out.frozen 4
  have q5 := D1.out.frozen 5
  have q6 := D1.out.frozen 6
  have q7 := D1.out.frozen 7
  have q8 := D1.out.frozen 8
  have q9 := D1.out.frozen 9
  simp only [Mesg.none, Mesg.noOp, Mesg.zero] at c0 c1 c2 c3 c4 c5 c6 c7 c8 c9
  have E1 := Lib.hid (D1.out.put 0 (.int .i64 a) (by omega) (m' := ⟨a, 0, [], ⟨0, 0, ⟨0, 0⟩, ⟨0, 0⟩, 0⟩⟩) rfl rfl)
  have C2 := Lib.hid (src_number _ l1 _ E1.out.src hl1)
  rw [H2.out] at C2
  go_wp2_with fail
  refine C2.out.mono ?_
  rintro e w2 hg2
  clear c0 c1 c2 c3 c4 c5 c6 c7 c8 c9 q0 q1 q2 q3 q4 q5 q6 q7 q8 q9
  obtain ⟨hkx, rfl, hsx⟩ := ok_num hg2
  clear hg2
  have D2 := Lib.hid (E1.out.gets hkx hsx)
  clear hkx hsx
  obtain ⟨⟨c0, c1, c2⟩, c3, c4, c5, c6, c7, c8, c9⟩ := msg_cells D2.out.res
  have q0 := D2.out.frozen 0
  have q1 := D2.out.frozen 1
  have q2 := D2.out.frozen 2
  have q3 := D2.out.frozen 3
  have q4 := D2.out.frozen 4
  have q5 := D2.out.frozen 5
  have q6 := D2.out.frozen 6
  have q7 := D2.out.frozen 7
  have q8 := D2.out.frozen 8
  have q9 := D2.out.frozen 9
  simp only at c0 c1 c2 c3 c4 c5 c6 c7 c8 c9
  have E2 := Lib.hid (D2.out.put 1 (.int .i64 b) (by omega) (m' := ⟨a, b, [], ⟨0, 0, ⟨0, 0⟩, ⟨0, 0⟩, 0⟩⟩) rfl rfl)
  have C3 := Lib.hid (src_list _ l2 _ E2.out.src hl2)
  rw [H3.out] at C3
  go_wp2_with fail
  refine C3.out.mono ?_
  rintro e w3 hg3
  clear c0 c1 c2 c3 c4 c5 c6 c7 c8 c9 q0 q1 q2 q3 q4 q5 q6 q7 q8 q9
  obtain ⟨hkx, ⟨v3, rfl, hsl3, hfar3⟩, hsx⟩ := hg3
  have D3 := Lib.hid (E2.out.gets hkx hsx)
  have E3 := Lib.hid (D3.out.set 2 v3 (by omega) (m' := ⟨a, b, kn, ⟨0, 0, ⟨0, 0⟩, ⟨0, 0⟩, 0⟩⟩) (v' := v3) rfl hsl3 (fun g hg => Nat.lt_of_lt_of_le E2.out.src.lt (hfar3 g hg)))
  obtain ⟨a3, len3, cap3, rfl⟩ : ∃ x y z, v3 = .slice x y z := (by obtain ⟨x, z, h, _⟩ := hsl3; exact ⟨_, _, _, h⟩)
  clear hkx hsx hsl3 hfar3
  obtain ⟨⟨c0, c1, c2⟩, c3, c4, c5, c6, c7, c8, c9⟩ := msg_cells D3.out.res
  have q0 := D3.out.frozen 0
  have q1 := D3.out.frozen 1
  have q2 := D3.out.frozen 2
  have q3 := D3.out.frozen 3
  have q4 := D3.out.frozen 4
  have q5 := D3.out.frozen 5
  have q6 := D3.out.frozen 6
  have q7 := D3.out.frozen 7
  have q8 := D3.out.frozen 8
  have q9 := D3.out.frozen 9
  simp only at c0 c1 c2 c3 c4 c5 c6 c7 c8 c9
  have C4 := Lib.hid (src_op _ l3 _ E3.out.src hl3)
  rw [H4.out] at C4
  go_wp2_with fail
  refine C4.out.mono ?_
  rintro e w4 hg4
  clear c0 c1 c2 c3 c4 c5 c6 c7 c8 c9 q0 q1 q2 q3 q4 q5 q6 q7 q8 q9
  obtain ⟨hkx, ⟨v4, rfl, hv4⟩, hsx⟩ := hg4
  have hv4' : v4 = .agg #[.int .i64 o.kind, .int .i64 o.epoch, .int .i64 o.id.time, .int .i64 o.id.site, .int .i64 o.ref.time, .int .i64 o.ref.site, .int .i64 o.rune] := hv4
  subst hv4'
  have D4 := Lib.hid (E3.out.gets hkx hsx)
  clear hkx hsx hv4
  obtain ⟨⟨c0, c1, c2⟩, c3, c4, c5, c6, c7, c8, c9⟩ := msg_cells D4.out.res
  have q0 := D4.out.frozen 0
  have q1 := D4.out.frozen 1
  have q2 := D4.out.frozen 2
  have q3 := D4.out.frozen 3
  have q4 := D4.out.frozen 4
  have q5 := D4.out.frozen 5
  have q6 := D4.out.frozen 6
  have q7 := D4.out.frozen 7
  have q8 := D4.out.frozen 8
  have q9 := D4.out.frozen 9
  simp only at c0 c1 c2 c3 c4 c5 c6 c7 c8 c9
  have E4 := Lib.hid (((((((D4.out.put 3 (.int .i64 o.kind) (by omega) (m' := ⟨a, b, kn, ⟨o.kind, 0, ⟨0, 0⟩, ⟨0, 0⟩, 0⟩⟩) rfl rfl).put 4 (.int .i64 o.epoch) (by omega) (m' := ⟨a, b, kn, ⟨o.kind, o.epoch, ⟨0, 0⟩, ⟨0, 0⟩, 0⟩⟩) rfl rfl).put 5 (.int .i64 o.id.time) (by omega) (m' := ⟨a, b, kn, ⟨o.kind, o.epoch, ⟨o.id.time, 0⟩, ⟨0, 0⟩, 0⟩⟩) rfl rfl).put 6 (.int .i64 o.id.site) (by omega) (m' := ⟨a, b, kn, ⟨o.kind, o.epoch, o.id, ⟨0, 0⟩, 0⟩⟩) rfl rfl).put 7 (.int .i64 o.ref.time) (by omega) (m' := ⟨a, b, kn, ⟨o.kind, o.epoch, o.id, ⟨o.ref.time, 0⟩, 0⟩⟩) rfl rfl).put 8 (.int .i64 o.ref.site) (by omega) (m' := ⟨a, b, kn, ⟨o.kind, o.epoch, o.id, o.ref, 0⟩⟩) rfl rfl).put 9 (.int .i64 o.rune) (by omega) (m' := ⟨a, b, kn, o⟩) rfl rfl)
  have C5 := Lib.hid (src_end_no _ l4 _ E4.out.src hz)
  go_wp2_with fail
  refine C5.out.mono ?_
  rintro e w5 ⟨rfl, rfl⟩
  clear c0 c1 c2 c3 c4 c5 c6 c7 c8 c9 q0 q1 q2 q3 q4 q5 q6 q7 q8 q9
  go_wp2
  exact dec_door _ 2 _ _ _ w E4.out.res E4.out.err E4.out.below rfl rfl

set_option maxRecDepth 100000 in
set_option maxHeartbeats 2000000 in
theorem dec_F (s : ByteArray) (a b : Int) (kn : List Int) (o : Mesg.Op) (l1 l2 l3 l4 : List UInt8) (w : World) (hs : s.size ≤ 1000000) (h1 : Mesg.num s.data.toList = .ok a l1) (h2 : Mesg.num l1 = .ok b l2) (h3 : Mesg.list l2 = .ok kn l3) (h4 : Mesg.rop l3 = .ok o l4) (hz : l4 = []) (hm : Mesg.may ⟨a, b, kn, o⟩ = false) :
    Calls Try.prog 18 #[.string s] w fun e w' => decV (.error 2) w' e ∧ Below w.heap.size w w' := by
  have D0 := Lib.hid (dec_start w s)
  have C1 := Lib.hid (src_number _ _ _ D0.out.src (by rw [size_list]; omega))
  have hl1 : l1.length ≤ 1000000 := by have := num_len_le h1; rw [size_list] at this; omega
  rw [h1] at C1
  have hmf := run_makeFunc
  have H2 := Lib.hid h2
  have hl2 : l2.length ≤ 1000000 := by have := num_len_le h2; omega
  have hl3 : l3.length ≤ 1000000 := by have := list_len_le h3; omega
  have hkl : kn.length ≤ 1000000000 := by have := list_len_max h3; omega
  have H3 := Lib.hid h3
  have H4 := Lib.hid h4
  have HCK : Hid (checkN ⟨a, b, kn, o⟩ = 1) := Lib.hid (by unfold checkN; rw [hm]; rfl)
  clear h1 h2 h3 h4 hm
  go_enter_defers Try.func18, Try.ntmps18
  go_wp2_with fail
  refine C1.out.mono ?_
  rintro e w1 hg1
  obtain ⟨hkx, rfl, hsx⟩ := ok_num hg1
  clear hg1
  have D1 := Lib.hid (D0.out.gets hkx hsx)
  clear hkx hsx
  obtain ⟨⟨c0, c1, c2⟩, c3, c4, c5, c6, c7, c8, c9⟩ := msg_cells D1.out.res
  have q0 := D1.out.frozen 0
  have q1 := D1.out.frozen 1
  have q2 := D1.out.frozen 2
  have q3 := D1.out.frozen 3
  have q4 := D1.out.frozen 4
  have q5 := D1.out.frozen 5
  have q6 := D1.out.frozen 6
  have q7 := D1.out.frozen 7
  have q8 := D1.out.frozen 8
  have q9 := D1.out.frozen 9
  simp only [Mesg.none, Mesg.noOp, Mesg.zero] at c0 c1 c2 c3 c4 c5 c6 c7 c8 c9
  have E1 := Lib.hid (D1.out.put 0 (.int .i64 a) (by omega) (m' := ⟨a, 0, [], ⟨0, 0, ⟨0, 0⟩, ⟨0, 0⟩, 0⟩⟩) rfl rfl)
  have C2 := Lib.hid (src_number _ l1 _ E1.out.src hl1)
  rw [H2.out] at C2
  go_wp2_with fail
  refine C2.out.mono ?_
  rintro e w2 hg2
  clear c0 c1 c2 c3 c4 c5 c6 c7 c8 c9 q0 q1 q2 q3 q4 q5 q6 q7 q8 q9
  obtain ⟨hkx, rfl, hsx⟩ := ok_num hg2
  clear hg2
  have D2 := Lib.hid (E1.out.gets hkx hsx)
  clear hkx hsx
  obtain ⟨⟨c0, c1, c2⟩, c3, c4, c5, c6, c7, c8, c9⟩ := msg_cells D2.out.res
  have q0 := D2.out.frozen 0
  have q1 := D2.out.frozen 1
  have q2 := D2.out.frozen 2
  have q3 := D2.out.frozen 3
  have q4 := D2.out.frozen 4
  have q5 := D2.out.frozen 5
  have q6 := D2.out.frozen 6
  have q7 := D2.out.frozen 7
  have q8 := D2.out.frozen 8
  have q9 := D2.out.frozen 9
  simp only at c0 c1 c2 c3 c4 c5 c6 c7 c8 c9
  have E2 := Lib.hid (D2.out.put 1 (.int .i64 b) (by omega) (m' := ⟨a, b, [], ⟨0, 0, ⟨0, 0⟩, ⟨0, 0⟩, 0⟩⟩) rfl rfl)
  have C3 := Lib.hid (src_list _ l2 _ E2.out.src hl2)
  rw [H3.out] at C3
  go_wp2_with fail
  refine C3.out.mono ?_
  rintro e w3 hg3
  clear c0 c1 c2 c3 c4 c5 c6 c7 c8 c9 q0 q1 q2 q3 q4 q5 q6 q7 q8 q9
  obtain ⟨hkx, ⟨v3, rfl, hsl3, hfar3⟩, hsx⟩ := hg3
  have D3 := Lib.hid (E2.out.gets hkx hsx)
  have E3 := Lib.hid (D3.out.set 2 v3 (by omega) (m' := ⟨a, b, kn, ⟨0, 0, ⟨0, 0⟩, ⟨0, 0⟩, 0⟩⟩) (v' := v3) rfl hsl3 (fun g hg => Nat.lt_of_lt_of_le E2.out.src.lt (hfar3 g hg)))
  obtain ⟨a3, len3, cap3, rfl⟩ : ∃ x y z, v3 = .slice x y z := (by obtain ⟨x, z, h, _⟩ := hsl3; exact ⟨_, _, _, h⟩)
  clear hkx hsx hsl3 hfar3
  obtain ⟨⟨c0, c1, c2⟩, c3, c4, c5, c6, c7, c8, c9⟩ := msg_cells D3.out.res
  have q0 := D3.out.frozen 0
  have q1 := D3.out.frozen 1
  have q2 := D3.out.frozen 2
  have q3 := D3.out.frozen 3
  have q4 := D3.out.frozen 4
  have q5 := D3.out.frozen 5
  have q6 := D3.out.frozen 6
  have q7 := D3.out.frozen 7
  have q8 := D3.out.frozen 8
  have q9 := D3.out.frozen 9
  simp only at c0 c1 c2 c3 c4 c5 c6 c7 c8 c9
  have C4 := Lib.hid (src_op _ l3 _ E3.out.src hl3)
  rw [H4.out] at C4
  go_wp2_with fail
  refine C4.out.mono ?_
  rintro e w4 hg4
  clear c0 c1 c2 c3 c4 c5 c6 c7 c8 c9 q0 q1 q2 q3 q4 q5 q6 q7 q8 q9
  obtain ⟨hkx, ⟨v4, rfl, hv4⟩, hsx⟩ := hg4
  have hv4' : v4 = .agg #[.int .i64 o.kind, .int .i64 o.epoch, .int .i64 o.id.time, .int .i64 o.id.site, .int .i64 o.ref.time, .int .i64 o.ref.site, .int .i64 o.rune] := hv4
  subst hv4'
  have D4 := Lib.hid (E3.out.gets hkx hsx)
  clear hkx hsx hv4
  obtain ⟨⟨c0, c1, c2⟩, c3, c4, c5, c6, c7, c8, c9⟩ := msg_cells D4.out.res
  have q0 := D4.out.frozen 0
  have q1 := D4.out.frozen 1
  have q2 := D4.out.frozen 2
  have q3 := D4.out.frozen 3
  have q4 := D4.out.frozen 4
  have q5 := D4.out.frozen 5
  have q6 := D4.out.frozen 6
  have q7 := D4.out.frozen 7
  have q8 := D4.out.frozen 8
  have q9 := D4.out.frozen 9
  simp only at c0 c1 c2 c3 c4 c5 c6 c7 c8 c9
  have E4 := Lib.hid (((((((D4.out.put 3 (.int .i64 o.kind) (by omega) (m' := ⟨a, b, kn, ⟨o.kind, 0, ⟨0, 0⟩, ⟨0, 0⟩, 0⟩⟩) rfl rfl).put 4 (.int .i64 o.epoch) (by omega) (m' := ⟨a, b, kn, ⟨o.kind, o.epoch, ⟨0, 0⟩, ⟨0, 0⟩, 0⟩⟩) rfl rfl).put 5 (.int .i64 o.id.time) (by omega) (m' := ⟨a, b, kn, ⟨o.kind, o.epoch, ⟨o.id.time, 0⟩, ⟨0, 0⟩, 0⟩⟩) rfl rfl).put 6 (.int .i64 o.id.site) (by omega) (m' := ⟨a, b, kn, ⟨o.kind, o.epoch, o.id, ⟨0, 0⟩, 0⟩⟩) rfl rfl).put 7 (.int .i64 o.ref.time) (by omega) (m' := ⟨a, b, kn, ⟨o.kind, o.epoch, o.id, ⟨o.ref.time, 0⟩, 0⟩⟩) rfl rfl).put 8 (.int .i64 o.ref.site) (by omega) (m' := ⟨a, b, kn, ⟨o.kind, o.epoch, o.id, o.ref, 0⟩⟩) rfl rfl).put 9 (.int .i64 o.rune) (by omega) (m' := ⟨a, b, kn, o⟩) rfl rfl)
  have C5 := Lib.hid (src_end _ l4 _ E4.out.src hz)
  go_wp2_with fail
  refine C5.out.mono ?_
  rintro e w5 ⟨rfl, rfl⟩
  clear c0 c1 c2 c3 c4 c5 c6 c7 c8 c9 q0 q1 q2 q3 q4 q5 q6 q7 q8 q9
  obtain ⟨⟨c0, c1, c2⟩, c3, c4, c5, c6, c7, c8, c9⟩ := msg_cells E4.out.res
  simp only at c0 c1 c2 c3 c4 c5 c6 c7 c8 c9
  have C6 := Lib.hid (mesg_Check ⟨a, b, kn, o⟩ (.slice a3 len3 cap3) _ E4.out.know hkl)
  unfold msgV at C6
  simp only at C6
  generalize hWW : (((((((w4.setCell ⟨w.heap.size, 3, none⟩ (.int .i64 o.kind)).setCell ⟨w.heap.size, 4, none⟩ (.int .i64 o.epoch)).setCell ⟨w.heap.size, 5, none⟩ (.int .i64 o.id.time)).setCell ⟨w.heap.size, 6, none⟩ (.int .i64 o.id.site)).setCell ⟨w.heap.size, 7, none⟩ (.int .i64 o.ref.time)).setCell ⟨w.heap.size, 8, none⟩ (.int .i64 o.ref.site)).setCell ⟨w.heap.size, 9, none⟩ (.int .i64 o.rune)) = W5 at *
  clear hWW
  go_wp2_with fail
  refine C6.out.mono ?_
  rintro e w6 ⟨rfl, hb6⟩
  rw [HCK.out]
  have F1 := Lib.hid (E4.out.res.keep (Keep.of_grew hb6 Non) (fun h => h))
  have F2 := Lib.hid (E4.out.err.keep (Keep.of_grew hb6 Non) (fun h => h))
  have F3 := Lib.hid (grew E4.out.below hb6)
  have F4 := Lib.hid (E4.out.know.below hb6)
  clear hb6 c0 c1 c2 c3 c4 c5 c6 c7 c8 c9
  go_wp2
  exact dec_door _ 2 _ _ _ w F1.out F2.out F3.out rfl rfl

set_option maxRecDepth 100000 in
set_option maxHeartbeats 2000000 in
theorem dec_G (s : ByteArray) (a b : Int) (kn : List Int) (o : Mesg.Op) (l1 l2 l3 l4 : List UInt8) (w : World) (hs : s.size ≤ 1000000) (h1 : Mesg.num s.data.toList = .ok a l1) (h2 : Mesg.num l1 = .ok b l2) (h3 : Mesg.list l2 = .ok kn l3) (h4 : Mesg.rop l3 = .ok o l4) (hz : l4 = []) (hm : Mesg.may ⟨a, b, kn, o⟩ = true) :
    Calls Try.prog 18 #[.string s] w fun e w' => decV (.ok ⟨a, b, kn, o⟩ []) w' e ∧ Below w.heap.size w w' := by
  have D0 := Lib.hid (dec_start w s)
  have C1 := Lib.hid (src_number _ _ _ D0.out.src (by rw [size_list]; omega))
  have hl1 : l1.length ≤ 1000000 := by have := num_len_le h1; rw [size_list] at this; omega
  rw [h1] at C1
  have hmf := run_makeFunc
  have H2 := Lib.hid h2
  have hl2 : l2.length ≤ 1000000 := by have := num_len_le h2; omega
  have hl3 : l3.length ≤ 1000000 := by have := list_len_le h3; omega
  have hkl : kn.length ≤ 1000000000 := by have := list_len_max h3; omega
  have H3 := Lib.hid h3
  have H4 := Lib.hid h4
  have HCK : Hid (checkN ⟨a, b, kn, o⟩ = 0) := Lib.hid (by unfold checkN; rw [hm]; rfl)
  clear h1 h2 h3 h4 hm
  go_enter_defers Try.func18, Try.ntmps18
  go_wp2_with fail
  refine C1.out.mono ?_
  rintro e w1 hg1
  obtain ⟨hkx, rfl, hsx⟩ := ok_num hg1
  clear hg1
  have D1 := Lib.hid (D0.out.gets hkx hsx)
  clear hkx hsx
  obtain ⟨⟨c0, c1, c2⟩, c3, c4, c5, c6, c7, c8, c9⟩ := msg_cells D1.out.res
  have q0 := D1.out.frozen 0
  have q1 := D1.out.frozen 1
  have q2 := D1.out.frozen 2
  have q3 := D1.out.frozen 3
  have q4 := D1.out.frozen 4
  have q5 := D1.out.frozen 5
  have q6 := D1.out.frozen 6
  have q7 := D1.out.frozen 7
  have q8 := D1.out.frozen 8
  have q9 := D1.out.frozen 9
  simp only [Mesg.none, Mesg.noOp, Mesg.zero] at c0 c1 c2 c3 c4 c5 c6 c7 c8 c9
  have E1 := Lib.hid (D1.out.put 0 (.int .i64 a) (by omega) (m' := ⟨a, 0, [], ⟨0, 0, ⟨0, 0⟩, ⟨0, 0⟩, 0⟩⟩) rfl rfl)
  have C2 := Lib.hid (src_number _ l1 _ E1.out.src hl1)
  rw [H2.out] at C2
  go_wp2_with fail
  refine C2.out.mono ?_
  rintro e w2 hg2
  clear c0 c1 c2 c3 c4 c5 c6 c7 c8 c9 q0 q1 q2 q3 q4 q5 q6 q7 q8 q9
  obtain ⟨hkx, rfl, hsx⟩ := ok_num hg2
  clear hg2
  have D2 := Lib.hid (E1.out.gets hkx hsx)
  clear hkx hsx
  obtain ⟨⟨c0, c1, c2⟩, c3, c4, c5, c6, c7, c8, c9⟩ := msg_cells D2.out.res
  have q0 := D2.out.frozen 0
  have q1 := D2.out.frozen 1
  have q2 := D2.out.frozen 2
  have q3 := D2.out.frozen 3
  have q4 := D2.out.frozen 4
  have q5 := D2.out.frozen 5
  have q6 := D2.out.frozen 6
  have q7 := D2.out.frozen 7
  have q8 := D2.out.frozen 8
  have q9 := D2.out.frozen 9
  simp only at c0 c1 c2 c3 c4 c5 c6 c7 c8 c9
  have E2 := Lib.hid (D2.out.put 1 (.int .i64 b) (by omega) (m' := ⟨a, b, [], ⟨0, 0, ⟨0, 0⟩, ⟨0, 0⟩, 0⟩⟩) rfl rfl)
  have C3 := Lib.hid (src_list _ l2 _ E2.out.src hl2)
  rw [H3.out] at C3
  go_wp2_with fail
  refine C3.out.mono ?_
  rintro e w3 hg3
  clear c0 c1 c2 c3 c4 c5 c6 c7 c8 c9 q0 q1 q2 q3 q4 q5 q6 q7 q8 q9
  obtain ⟨hkx, ⟨v3, rfl, hsl3, hfar3⟩, hsx⟩ := hg3
  have D3 := Lib.hid (E2.out.gets hkx hsx)
  have E3 := Lib.hid (D3.out.set 2 v3 (by omega) (m' := ⟨a, b, kn, ⟨0, 0, ⟨0, 0⟩, ⟨0, 0⟩, 0⟩⟩) (v' := v3) rfl hsl3 (fun g hg => Nat.lt_of_lt_of_le E2.out.src.lt (hfar3 g hg)))
  obtain ⟨a3, len3, cap3, rfl⟩ : ∃ x y z, v3 = .slice x y z := (by obtain ⟨x, z, h, _⟩ := hsl3; exact ⟨_, _, _, h⟩)
  clear hkx hsx hsl3 hfar3
  obtain ⟨⟨c0, c1, c2⟩, c3, c4, c5, c6, c7, c8, c9⟩ := msg_cells D3.out.res
  have q0 := D3.out.frozen 0
  have q1 := D3.out.frozen 1
  have q2 := D3.out.frozen 2
  have q3 := D3.out.frozen 3
  have q4 := D3.out.frozen 4
  have q5 := D3.out.frozen 5
  have q6 := D3.out.frozen 6
  have q7 := D3.out.frozen 7
  have q8 := D3.out.frozen 8
  have q9 := D3.out.frozen 9
  simp only at c0 c1 c2 c3 c4 c5 c6 c7 c8 c9
  have C4 := Lib.hid (src_op _ l3 _ E3.out.src hl3)
  rw [H4.out] at C4
  go_wp2_with fail
  refine C4.out.mono ?_
  rintro e w4 hg4
  clear c0 c1 c2 c3 c4 c5 c6 c7 c8 c9 q0 q1 q2 q3 q4 q5 q6 q7 q8 q9
  obtain ⟨hkx, ⟨v4, rfl, hv4⟩, hsx⟩ := hg4
  have hv4' : v4 = .agg #[.int .i64 o.kind, .int .i64 o.epoch, .int .i64 o.id.time, .int .i64 o.id.site, .int .i64 o.ref.time, .int .i64 o.ref.site, .int .i64 o.rune] := hv4
  subst hv4'
  have D4 := Lib.hid (E3.out.gets hkx hsx)
  clear hkx hsx hv4
  obtain ⟨⟨c0, c1, c2⟩, c3, c4, c5, c6, c7, c8, c9⟩ := msg_cells D4.out.res
  have q0 := D4.out.frozen 0
  have q1 := D4.out.frozen 1
  have q2 := D4.out.frozen 2
  have q3 := D4.out.frozen 3
  have q4 := D4.out.frozen 4
  have q5 := D4.out.frozen 5
  have q6 := D4.out.frozen 6
  have q7 := D4.out.frozen 7
  have q8 := D4.out.frozen 8
  have q9 := D4.out.frozen 9
  simp only at c0 c1 c2 c3 c4 c5 c6 c7 c8 c9
  have E4 := Lib.hid (((((((D4.out.put 3 (.int .i64 o.kind) (by omega) (m' := ⟨a, b, kn, ⟨o.kind, 0, ⟨0, 0⟩, ⟨0, 0⟩, 0⟩⟩) rfl rfl).put 4 (.int .i64 o.epoch) (by omega) (m' := ⟨a, b, kn, ⟨o.kind, o.epoch, ⟨0, 0⟩, ⟨0, 0⟩, 0⟩⟩) rfl rfl).put 5 (.int .i64 o.id.time) (by omega) (m' := ⟨a, b, kn, ⟨o.kind, o.epoch, ⟨o.id.time, 0⟩, ⟨0, 0⟩, 0⟩⟩) rfl rfl).put 6 (.int .i64 o.id.site) (by omega) (m' := ⟨a, b, kn, ⟨o.kind, o.epoch, o.id, ⟨0, 0⟩, 0⟩⟩) rfl rfl).put 7 (.int .i64 o.ref.time) (by omega) (m' := ⟨a, b, kn, ⟨o.kind, o.epoch, o.id, ⟨o.ref.time, 0⟩, 0⟩⟩) rfl rfl).put 8 (.int .i64 o.ref.site) (by omega) (m' := ⟨a, b, kn, ⟨o.kind, o.epoch, o.id, o.ref, 0⟩⟩) rfl rfl).put 9 (.int .i64 o.rune) (by omega) (m' := ⟨a, b, kn, o⟩) rfl rfl)
  have C5 := Lib.hid (src_end _ l4 _ E4.out.src hz)
  go_wp2_with fail
  refine C5.out.mono ?_
  rintro e w5 ⟨rfl, rfl⟩
  clear c0 c1 c2 c3 c4 c5 c6 c7 c8 c9 q0 q1 q2 q3 q4 q5 q6 q7 q8 q9
  obtain ⟨⟨c0, c1, c2⟩, c3, c4, c5, c6, c7, c8, c9⟩ := msg_cells E4.out.res
  simp only at c0 c1 c2 c3 c4 c5 c6 c7 c8 c9
  have C6 := Lib.hid (mesg_Check ⟨a, b, kn, o⟩ (.slice a3 len3 cap3) _ E4.out.know hkl)
  unfold msgV at C6
  simp only at C6
  generalize hWW : (((((((w4.setCell ⟨w.heap.size, 3, none⟩ (.int .i64 o.kind)).setCell ⟨w.heap.size, 4, none⟩ (.int .i64 o.epoch)).setCell ⟨w.heap.size, 5, none⟩ (.int .i64 o.id.time)).setCell ⟨w.heap.size, 6, none⟩ (.int .i64 o.id.site)).setCell ⟨w.heap.size, 7, none⟩ (.int .i64 o.ref.time)).setCell ⟨w.heap.size, 8, none⟩ (.int .i64 o.ref.site)).setCell ⟨w.heap.size, 9, none⟩ (.int .i64 o.rune)) = W5 at *
  clear hWW
  go_wp2_with fail
  refine C6.out.mono ?_
  rintro e w6 ⟨rfl, hb6⟩
  rw [HCK.out]
  have F1 := Lib.hid (E4.out.res.keep (Keep.of_grew hb6 Non) (fun h => h))
  have F2 := Lib.hid (E4.out.err.keep (Keep.of_grew hb6 Non) (fun h => h))
  have F3 := Lib.hid (grew E4.out.below hb6)
  have F4 := Lib.hid (E4.out.know.below hb6)
  clear hb6 c0 c1 c2 c3 c4 c5 c6 c7 c8 c9
  obtain ⟨⟨c0, c1, c2⟩, c3, c4, c5, c6, c7, c8, c9⟩ := msg_cells F1.out
  simp only at c0 c1 c2 c3 c4 c5 c6 c7 c8 c9
  have q0 := F1.out.frozen 0
  have q1 := F1.out.frozen 1
  have q2 := F1.out.frozen 2
  have q3 := F1.out.frozen 3
  have q4 := F1.out.frozen 4
  have q5 := F1.out.frozen 5
  have q6 := F1.out.frozen 6
  have q7 := F1.out.frozen 7
  have q8 := F1.out.frozen 8
  have q9 := F1.out.frozen 9
  have p0 := F2.out.cell 0 (by simp)
  have p1 := F2.out.frozen 0
  simp only [List.getElem_cons_zero] at p0
  have k0 := setMsg_keep w6 w.heap.size ⟨a, b, kn, o⟩ (.slice a3 len3 cap3)
  have G1 := Lib.hid (setMsg_holds F1.out ⟨a, b, kn, o⟩ (.slice a3 len3 cap3))
  have G2 := Lib.hid (F2.out.keep k0 (fun e => by have e : w.heap.size + 1 = w.heap.size := e; omega))
  have kk : Keep (Just (w.heap.size + 1)) (setMsg w6 w.heap.size ⟨a, b, kn, o⟩ (.slice a3 len3 cap3)) ((setMsg w6 w.heap.size ⟨a, b, kn, o⟩ (.slice a3 len3 cap3)).setCell ⟨w.heap.size + 1, 0, none⟩ (.int .i64 0)) := Keep.setCell _ _ _ _
  have I1 := Lib.hid (G1.out.keep kk (fun e => by have e : w.heap.size = w.heap.size + 1 := e; omega))
  have I2 := Lib.hid (G2.out.set 0 (.int .i64 0) (by simp))
  have I3 : Hid (Below w.heap.size w ((setMsg w6 w.heap.size ⟨a, b, kn, o⟩ (.slice a3 len3 cap3)).setCell ⟨w.heap.size + 1, 0, none⟩ (.int .i64 0))) := Lib.hid ((F3.out.trans (k0.below F3.out.size (fun i e => by have e : i = w.heap.size := e; omega))).setCell (by simp) _)
  have I4 := Lib.hid ((F4.out.keep k0 (fun g hg e => by have e : g = w.heap.size := e; have := E4.out.far g hg; omega)).keep kk (fun g hg e => by have e : g = w.heap.size + 1 := e; have := E4.out.far g hg; omega))
  clear k0 kk
  unfold setMsg at I1 I2 I3 I4
  simp only at I1 I2 I3 I4
  go_wp2
  exact dec_back _ ⟨a, b, kn, o⟩ _ _ _ w I1.out I2.out I3.out I4.out rfl rfl

theorem mesg_Decode (s : ByteArray) (w : World) (hs : s.size ≤ 1000000) :
    Calls Try.prog 18 #[.string s] w fun e w' => decV (Mesg.decode s.data.toList) w' e ∧ Below w.heap.size w w' := by
  cases h1 : Mesg.num s.data.toList with
  | error n =>
    have e : Mesg.decode s.data.toList = .error n := by simp [Mesg.decode, Mesg.rmsg, Mesg.Got.on, h1]
    rw [e]; exact dec_A s n w hs h1
  | ok a l1 =>
    cases h2 : Mesg.num l1 with
    | error n =>
      have e : Mesg.decode s.data.toList = .error n := by simp [Mesg.decode, Mesg.rmsg, Mesg.Got.on, h1, h2]
      rw [e]; exact dec_B s a l1 n w hs h1 h2
    | ok b l2 =>
      cases h3 : Mesg.list l2 with
      | error n =>
        have e : Mesg.decode s.data.toList = .error n := by simp [Mesg.decode, Mesg.rmsg, Mesg.Got.on, h1, h2, h3]
        rw [e]; exact dec_C s a b l1 l2 n w hs h1 h2 h3
      | ok kn l3 =>
        cases h4 : Mesg.rop l3 with
        | error n =>
          have e : Mesg.decode s.data.toList = .error n := by simp [Mesg.decode, Mesg.rmsg, Mesg.Got.on, h1, h2, h3, h4]
          rw [e]; exact dec_D s a b kn l1 l2 l3 n w hs h1 h2 h3 h4
        | ok o l4 =>
          by_cases hz : l4 = []
          · cases hm : Mesg.may ⟨a, b, kn, o⟩ with
            | false =>
              have e : Mesg.decode s.data.toList = .error 2 := by simp [Mesg.decode, Mesg.rmsg, Mesg.Got.on, h1, h2, h3, h4, hz, hm]
              rw [e]; exact dec_F s a b kn o l1 l2 l3 l4 w hs h1 h2 h3 h4 hz hm
            | true =>
              have e : Mesg.decode s.data.toList = .ok ⟨a, b, kn, o⟩ [] := by simp [Mesg.decode, Mesg.rmsg, Mesg.Got.on, h1, h2, h3, h4, hz, hm]
              rw [e]; exact dec_G s a b kn o l1 l2 l3 l4 w hs h1 h2 h3 h4 hz hm
          · have e : Mesg.decode s.data.toList = .error 2 := by simp [Mesg.decode, Mesg.rmsg, Mesg.Got.on, h1, h2, h3, h4, hz]
            rw [e]; exact dec_E s a b kn o l1 l2 l3 l4 w hs h1 h2 h3 h4 hz
end Go.Proofs.Ytohlnhnelkoakaa
