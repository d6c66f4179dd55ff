/- Messages in a map that is keyed by their site and Seq: how they lie in memory. -/
import Derived.Test.YtjklfjgdmklimaaMesgSame0
import Derived.DeepKeys4
import Derived.Maps.OwnSet
import Derived.Maps.RangeWalk
namespace Go.Proofs.Ytjklfjgdmklimaa
open Go.RowKit Go.Maps
set_option linter.unusedVariables false

theorem laidOut0 : laidOutB Try.prog = true := by kernel_rfl

/-- A number that an int may be. -/
def I64 (a : Int) : Prop := -9223372036854775808 ≤ a ∧ a ≤ 9223372036854775807
theorem I64.wf {a : Int} (h : I64 a) : (Lit.int .i64 a).wf = true := WalkArith.wf_i64 h
theorem I64.of_wf {a : Int} (h : (Lit.int .i64 a).wf = true) : I64 a := by
  simp [Lit.wf, IntKind.min, IntKind.max, IntKind.signed, IntKind.bits] at h
  unfold I64
  omega

/-- What a site and a Seq are told as among the keys. -/
def kl (a b : Int) : Lit := .string (keyBytes [.int .i64 a, .int .i64 b])
def keyV (p : Int × Int) : Value := .agg #[.int .i64 p.1, .int .i64 p.2]

/-- What is asked of the type of the keys. -/
structure PairKey (k : TypeId) : Prop where
  keyed : Keyed Try.prog k
  make : ∀ a b, I64 a → I64 b → keyOf Try.prog k (keyV (a, b)) = some (kl a b)
  inv : ∀ v l, keyOf Try.prog k v = some l → ∃ a b, v = keyV (a, b) ∧ I64 a ∧ I64 b

theorem PairKey.inj {k : TypeId} (K : PairKey k) {a b c d : Int} (ha : I64 a) (hb : I64 b) (hc : I64 c) (hd : I64 d) (h : kl a b = kl c d) : a = c ∧ b = d := by
  have := K.keyed.inj (K.make a b ha hb) (by rw [h]; exact K.make c d hc hd)
  simp [keyV] at this
  exact this
theorem PairKey.is {k : TypeId} (K : PairKey k) {a b : Int} (ha : I64 a) (hb : I64 b) : WideAt.IsKeyLit (kl a b) := K.keyed.key (K.make a b ha hb)

set_option maxRecDepth 100000 in
theorem pair_key {k : TypeId} {fs : Array Field} (hu : Try.prog.underlying k = some (.struct fs)) (hkt : Try.prog.keyType k = true) (hc : Try.prog.cellsOf k = 2) (hk : Keyed Try.prog k)
    (hn : fs.all (·.name != "_") = true) (hf : fs.toList.map (fun f => (f.type, f.offset)) = [(3, 0), (3, 1)]) : PairKey k := by
  have hc3 : Try.prog.cellsOf 3 = 1 := by kernel_rfl
  obtain ⟨f0, f1, hfs⟩ : ∃ f0 f1, fs.toList = [f0, f1] := by
    match hfs : fs.toList with
    | [] => rw [hfs] at hf; simp at hf
    | [_] => rw [hfs] at hf; simp at hf
    | [f0, f1] => exact ⟨f0, f1, rfl⟩
    | _ :: _ :: _ :: _ => rw [hfs] at hf; simp at hf
  rw [hfs] at hf
  simp at hf
  obtain ⟨⟨t0, o0⟩, t1, o1⟩ := hf
  obtain ⟨n, hn1⟩ : ∃ n, Try.prog.types.size = n + 1 := ⟨Try.prog.types.size - 1, by have : 0 < Try.prog.types.size := of_decide_eq_true (by kernel_rfl); omega⟩
  refine ⟨hk, fun a b ha hb => ?_, fun v l h => ?_⟩
  · have hfm : (keyV (a, b)).formed Try.prog k = true := by simp [keyV, Value.formed, hu, hc]
    unfold keyOf
    rw [hu]
    simp only [hkt, hfm, Bool.and_self, if_true]
    rw [hn1]
    have e : Try.prog.keyLits (n + 1 + 1) k (keyV (a, b)).cells.toList = some [.int .i64 a, .int .i64 b] := by
      simp [Program.keyLits, hu, keyV, Try.underlying3, Value.cells, hc, hc3, hfs, t0, o0, t1, o1, hn, ha.wf, hb.wf]
    rw [e]
    rfl
  · unfold keyOf at h
    rw [hu] at h
    simp only [hkt, Bool.true_and] at h
    split at h
    · rename_i hfm
      obtain ⟨cs, rfl, hsz⟩ : ∃ cs : Array Value, v = .agg cs ∧ cs.size = 2 := by
        cases v <;> simp [Value.formed, hu, hc] at hfm
        exact ⟨_, rfl, hfm⟩
      rw [hn1] at h
      obtain ⟨c0, c1, hcs⟩ : ∃ c0 c1, cs.toList = [c0, c1] := by
        have h2 : cs.toList.length = 2 := by simpa using hsz
        match hcs : cs.toList with
        | [] => rw [hcs] at h2; simp at h2
        | [_] => rw [hcs] at h2; simp at h2
        | [c0, c1] => exact ⟨c0, c1, rfl⟩
        | _ :: _ :: _ :: _ => rw [hcs] at h2; simp at h2
      have one : ∀ c x, Try.prog.keyLits (n + 1) 3 [c] = some x → ∃ a, c = .int .i64 a ∧ I64 a := by
        intro c x hx
        unfold Program.keyLits at hx
        have hu3 := Try.underlying3
        generalize Try.prog.underlying 3 = u at hx hu3
        subst hu3
        cases c <;> simp at hx
        obtain ⟨⟨rfl, hw⟩, _⟩ := hx
        exact ⟨_, rfl, I64.of_wf hw⟩
      simp only [Value.cells, hcs] at h
      unfold Program.keyLits at h
      rw [hu] at h
      simp only [hc, hfs, hn, List.length_cons, List.length_nil, and_self, if_true, List.mapM_cons, List.mapM_nil, t0, o0, t1, o1, hc3, List.drop_zero, List.take_succ_cons, List.take_zero, List.drop_succ_cons] at h
      cases h0 : Try.prog.keyLits (n + 1) 3 [c0] with
      | none => simp [h0] at h
      | some x0 =>
        cases h1 : Try.prog.keyLits (n + 1) 3 [c1] with
        | none => simp [h0, h1] at h
        | some x1 =>
          obtain ⟨a, rfl, ha⟩ := one _ _ h0
          obtain ⟨b, rfl, hb⟩ := one _ _ h1
          exact ⟨a, b, by unfold keyV; rw [← hcs], ha, hb⟩
    · cases h

/-- A message's value, taken apart. -/
structure Head where
  site : Int
  seq : Int
  op : Mesg.Op
  b : Option Nat
  n : Nat
  c : Nat
def Head.sl (h : Head) : Value := .slice (h.b.map fun b => ⟨b, 0, none⟩) h.n h.c
def Head.enc (h : Head) : Value := .agg #[.int .i64 h.site, .int .i64 h.seq, h.sl, .int .i64 h.op.kind, .int .i64 h.op.epoch, .int .i64 h.op.id.time, .int .i64 h.op.id.site, .int .i64 h.op.ref.time, .int .i64 h.op.ref.site, .int .i64 h.op.rune]
def numD (a : Int) : DataW Unit := .lit (.int .i64 a)
def Head.dat (h : Head) : DataW Unit := .agg [numD h.site, numD h.seq, numD (match h.b with | none => -1 | some b => (b : Int)), numD h.n, numD h.c, numD h.op.kind, numD h.op.epoch, numD h.op.id.time, numD h.op.id.site, numD h.op.ref.time, numD h.op.ref.site, numD h.op.rune]
theorem Head.enc_inj {x y : Head} (h : x.enc = y.enc) : x = y := by
  obtain ⟨s, q, ⟨k, e, ⟨i1, i2⟩, ⟨r1, r2⟩, ru⟩, b, n, c⟩ := x
  obtain ⟨s', q', ⟨k', e', ⟨i1', i2'⟩, ⟨r1', r2'⟩, ru'⟩, b', n', c'⟩ := y
  simp [Head.enc, Head.sl] at h
  obtain ⟨rfl, rfl, ⟨hb, rfl, rfl⟩, rfl, rfl, rfl, rfl, rfl, rfl, rfl⟩ := h
  congr 1
  cases b <;> cases b' <;> simp at hb ⊢
  exact hb
theorem Head.dat_inj {x y : Head} (h : x.dat = y.dat) : x = y := by
  obtain ⟨s, q, ⟨k, e, ⟨i1, i2⟩, ⟨r1, r2⟩, ru⟩, b, n, c⟩ := x
  obtain ⟨s', q', ⟨k', e', ⟨i1', i2'⟩, ⟨r1', r2'⟩, ru'⟩, b', n', c'⟩ := y
  simp [Head.dat, numD] at h
  obtain ⟨rfl, rfl, hb, hn, hc, rfl, rfl, rfl, rfl, rfl, rfl, rfl⟩ := h
  have e1 : n = n' := by omega
  have e2 : c = c' := by omega
  subst e1 e2
  congr 1
  cases b <;> cases b' <;> simp at hb ⊢ <;> omega

open Classical in
/-- How a message in the map reads. -/
noncomputable def msgElem (v : Value) : Option (DataW Unit × List MemPlace) := if h : ∃ x : Head, v = x.enc then some ((Classical.choose h).dat, []) else none
theorem msgElem_enc (x : Head) : msgElem x.enc = some (x.dat, []) := by
  have h : ∃ y : Head, x.enc = y.enc := ⟨x, rfl⟩
  unfold msgElem
  rw [dif_pos h]
  rw [← Head.enc_inj (Classical.choose_spec h)]
theorem msgElem_inv {v : Value} {y : DataW Unit × List MemPlace} (h : msgElem v = some y) : ∃ x : Head, v = x.enc ∧ y = (x.dat, []) := by
  unfold msgElem at h
  split at h
  · rename_i hx
    injection h with h
    exact ⟨_, Classical.choose_spec hx, h.symm⟩
  · cases h

/-- A message that is kept: what it is, its list's block and room. -/
structure Ent where
  m : Mesg.Msg
  b : Nat
  c : Nat
def Ent.sl (x : Ent) : Value := .slice (some ⟨x.b, 0, none⟩) x.m.know.length x.c
def Ent.head (x : Ent) : Head := ⟨x.m.site, x.m.seq, x.m.op, some x.b, x.m.know.length, x.c⟩
def Ent.val (x : Ent) : Value := msgV x.m x.sl
theorem Ent.enc (x : Ent) : x.head.enc = x.val := rfl
def noHead : Head := ⟨0, 0, Mesg.noOp, none, 0, 0⟩
theorem noHead_enc : noHead.enc = msgV Mesg.none (.slice none 0 0) := rfl

/-- What is asked of a message's key. -/
def Ent.ok (x : Ent) : Prop := I64 x.m.site ∧ I64 x.m.seq
def Mesg.Msg.key (m : Mesg.Msg) : Int × Int := (m.site, m.seq)

/-- A map as read holds just these messages. -/
structure Reads (D : DataW Unit) (es : List Ent) : Prop where
  apart : es.Pairwise fun x y => Mesg.Msg.key x.m ≠ Mesg.Msg.key y.m
  size : Maps.size D = es.length
  ok : ∀ x ∈ es, x.ok
  yes : ∀ x ∈ es, Maps.has D (kl x.m.site x.m.seq) = true ∧ ∀ z, D.atKey (kl x.m.site x.m.seq) z = x.head.dat
  no : ∀ a b, I64 a → I64 b → (∀ x ∈ es, Mesg.Msg.key x.m ≠ (a, b)) → Maps.has D (kl a b) = false

theorem Reads.nil : Reads (.map []) [] := ⟨.nil, rfl, by simp, by simp, fun a b _ _ _ => rfl⟩

/-- The messages but those of one key. -/
def but (es : List Ent) (k : Int × Int) : List Ent := es.filter fun x => decide (Mesg.Msg.key x.m ≠ k)
theorem mem_but {es : List Ent} {k : Int × Int} {x : Ent} : x ∈ but es k ↔ x ∈ es ∧ Mesg.Msg.key x.m ≠ k := by simp [but]

theorem length_but : ∀ {es : List Ent} (k : Int × Int), es.Pairwise (fun x y => Mesg.Msg.key x.m ≠ Mesg.Msg.key y.m) → (but es k).length + (if ∃ x ∈ es, Mesg.Msg.key x.m = k then 1 else 0) = es.length
  | [], k, _ => by simp [but]
  | x :: es, k, h => by
    obtain ⟨h1, h2⟩ := List.pairwise_cons.1 h
    have ih := length_but k h2
    by_cases e : Mesg.Msg.key x.m = k
    · have hn : ¬ ∃ y ∈ es, Mesg.Msg.key y.m = k := by
        rintro ⟨y, hy, ey⟩
        exact h1 y hy (e.trans ey.symm)
      rw [if_neg hn] at ih
      have e2 : but (x :: es) k = but es k := by simp [but, e]
      rw [e2, if_pos ⟨x, by simp, e⟩]
      simp
      omega
    · have e2 : but (x :: es) k = x :: but es k := by simp [but, e]
      rw [e2]
      have e3 : (∃ y ∈ x :: es, Mesg.Msg.key y.m = k) ↔ ∃ y ∈ es, Mesg.Msg.key y.m = k := by simp [e]
      simp only [e3]
      simp
      omega

theorem Reads.find {D : DataW Unit} {es : List Ent} (h : Reads D es) {a b : Int} (ha : I64 a) (hb : I64 b) :
    (Maps.has D (kl a b) = true ∧ ∃ x ∈ es, Mesg.Msg.key x.m = (a, b) ∧ ∀ z, D.atKey (kl a b) z = x.head.dat) ∨ (Maps.has D (kl a b) = false ∧ ∀ x ∈ es, Mesg.Msg.key x.m ≠ (a, b)) := by
  by_cases hx : ∃ x ∈ es, Mesg.Msg.key x.m = (a, b)
  · obtain ⟨x, hx, e⟩ := hx
    have h1 : x.m.site = a := congrArg Prod.fst e
    have h2 : x.m.seq = b := congrArg Prod.snd e
    have := h.yes x hx
    rw [h1, h2] at this
    exact .inl ⟨this.1, x, hx, e, this.2⟩
  · have hn : ∀ x ∈ es, Mesg.Msg.key x.m ≠ (a, b) := fun x hx' e => hx ⟨x, hx', e⟩
    exact .inr ⟨h.no a b ha hb hn, hn⟩

theorem Reads.del {D : DataW Unit} {es : List Ent} {k : TypeId} (K : PairKey k) (h : Reads D es) (hD : Tidy D) {a b : Int} (ha : I64 a) (hb : I64 b) : Reads (D.del (kl a b)) (but es (a, b)) := by
  refine ⟨h.apart.filter _, ?_, fun x hx => h.ok x (mem_but.1 hx).1, fun x hx => ?_, fun c d hc hd hn => ?_⟩
  · have e1 := Maps.size_del (k := kl a b) hD
    have e2 := length_but (a, b) h.apart
    rw [h.size] at e1
    rcases h.find ha hb with ⟨h1, x, hx, e, _⟩ | ⟨h1, hn⟩
    · rw [if_pos h1] at e1
      rw [if_pos ⟨x, hx, e⟩] at e2
      omega
    · rw [h1] at e1
      rw [if_neg (fun ⟨x, hx, e⟩ => hn x hx e)] at e2
      simp at e1
      omega
  · obtain ⟨hx, hne⟩ := mem_but.1 hx
    have hk : kl x.m.site x.m.seq ≠ kl a b := fun e => hne (by
      obtain ⟨e1, e2⟩ := K.inj (h.ok x hx).1 (h.ok x hx).2 ha hb e
      simp [Mesg.Msg.key, e1, e2])
    exact ⟨by rw [Maps.has_del_other hk]; exact (h.yes x hx).1, fun z => by rw [Maps.atKey_del_other hk]; exact (h.yes x hx).2 z⟩
  · by_cases e : (c, d) = (a, b)
    · obtain ⟨rfl, rfl⟩ := Prod.mk.inj e
      exact Maps.has_del_same
    · have hk : kl c d ≠ kl a b := fun e' => e (by obtain ⟨e1, e2⟩ := K.inj hc hd ha hb e'; rw [e1, e2])
      rw [Maps.has_del_other hk]
      refine h.no c d hc hd (fun x hx e' => ?_)
      exact hn x (mem_but.2 ⟨hx, by rw [e']; exact e⟩) e'

theorem Reads.put {D : DataW Unit} {es : List Ent} {k : TypeId} (K : PairKey k) (h : Reads D es) (hD : Tidy D) (x : Ent) (hx : x.ok) : Reads (D.put (kl x.m.site x.m.seq) x.head.dat) (but es (Mesg.Msg.key x.m) ++ [x]) := by
  obtain ⟨ha, hb⟩ := hx
  have hkey : ∀ y ∈ es, Mesg.Msg.key y.m ≠ Mesg.Msg.key x.m → kl y.m.site y.m.seq ≠ kl x.m.site x.m.seq := fun y hy hne e => hne (by
    obtain ⟨e1, e2⟩ := K.inj (h.ok y hy).1 (h.ok y hy).2 ha hb e
    simp [Mesg.Msg.key, e1, e2])
  refine ⟨?_, ?_, ?_, ?_, ?_⟩
  · rw [List.pairwise_append]
    refine ⟨h.apart.filter _, by simp, fun y hy z hz => ?_⟩
    rw [List.mem_singleton.1 hz]
    exact (mem_but.1 hy).2
  · have e1 := Maps.size_put (k := kl x.m.site x.m.seq) hD x.head.dat
    have e2 := length_but (Mesg.Msg.key x.m) h.apart
    rw [h.size] at e1
    rw [e1]
    simp
    rcases h.find ha hb with ⟨h1, y, hy, e, _⟩ | ⟨h1, hn⟩
    · rw [if_pos h1]
      rw [if_pos ⟨y, hy, e⟩] at e2
      omega
    · rw [h1]
      rw [if_neg (fun ⟨y, hy, e⟩ => hn y hy e)] at e2
      simp
      omega
  · intro y hy
    rcases List.mem_append.1 hy with hy | hy
    · exact h.ok y (mem_but.1 hy).1
    · rw [List.mem_singleton.1 hy]; exact ⟨ha, hb⟩
  · intro y hy
    rcases List.mem_append.1 hy with hy | hy
    · obtain ⟨hy, hne⟩ := mem_but.1 hy
      have := hkey y hy hne
      exact ⟨by rw [Maps.has_put_other this]; exact (h.yes y hy).1, fun z => by rw [Maps.atKey_put_other this]; exact (h.yes y hy).2 z⟩
    · rw [List.mem_singleton.1 hy]
      exact ⟨Maps.has_put_same hD.isMap (K.is ha hb) _, fun z => Maps.atKey_put_same hD.isMap (K.is ha hb) _ z⟩
  · intro c d hc hd hn
    have e : (c, d) ≠ (x.m.site, x.m.seq) := fun e => hn x (by simp) e.symm
    have hk : kl c d ≠ kl x.m.site x.m.seq := fun e' => e (by obtain ⟨e1, e2⟩ := K.inj hc hd ha hb e'; rw [e1, e2])
    rw [Maps.has_put_other hk]
    refine h.no c d hc hd (fun y hy e' => ?_)
    exact hn y (List.mem_append_left _ (mem_but.2 ⟨hy, by rw [e']; exact e⟩)) e'

/-- A map of messages at mp; their lists lie in blocks of S. -/
structure MsgMap (w : World) (k : TypeId) (mp : Nat) (S : Nat → Prop) (es : List Ent) : Prop where
  own : ∃ D, w.ownsMap Try.prog k msgElem mp es.length D ∧ Reads D es
  know : ∀ x ∈ es, SliceI w x.sl x.m.know ∧ S x.b

theorem ownsMap_tight {w : World} {k : TypeId} {R : Value → Option (DataW Unit × List MemPlace)} {b n : Nat} {D : DataW Unit} (h : w.ownsMap Try.prog k R b n D) : w.ownsMap Try.prog k R b (Maps.size D) D := by
  obtain ⟨es, clock, hb, F, hs, rfl⟩ := h
  exact ⟨es, clock, hb, F, by simp [Maps.size, length_sorted], rfl⟩

theorem ownsMap_kept {S : Nat → Prop} {w w' : World} {k : TypeId} {R : Value → Option (DataW Unit × List MemPlace)} {b n : Nat} {D : DataW Unit} (h : w.ownsMap Try.prog k R b n D) (hk : Keep S w w') (hn : ¬ S b) : w'.ownsMap Try.prog k R b n D := by
  have hl := h.lt
  obtain ⟨es, clock, hb, r⟩ := h
  exact ⟨es, clock, (hk.block b hl hn).trans hb, r⟩

theorem MsgMap.lt {w : World} {k : TypeId} {mp : Nat} {S : Nat → Prop} {es : List Ent} (h : MsgMap w k mp S es) : mp < w.heap.size := by
  obtain ⟨D, hD, _⟩ := h.own
  exact hD.lt
theorem Ent.know_keep {w w' : World} {S : Nat → Prop} {x : Ent} (h : SliceI w x.sl x.m.know) (hk : Keep S w w') (hn : ¬ S x.b) : SliceI w' x.sl x.m.know := h.keep hk (fun g hg => by
  have : x.b = g := Option.some.inj hg
  rw [← this]; exact hn)
theorem MsgMap.keep {w w' : World} {k : TypeId} {mp : Nat} {S S' : Nat → Prop} {es : List Ent} (h : MsgMap w k mp S es) (hk : Keep S' w w') (hm : ¬ S' mp) (hn : ∀ b, S b → ¬ S' b) : MsgMap w' k mp S es := by
  obtain ⟨D, hD, hr⟩ := h.own
  exact ⟨⟨D, ownsMap_kept hD hk hm, hr⟩, fun x hx => ⟨Ent.know_keep (h.know x hx).1 hk (hn x.b (h.know x hx).2), (h.know x hx).2⟩⟩
theorem MsgMap.below {w w' : World} {k : TypeId} {mp : Nat} {S : Nat → Prop} {es : List Ent} (h : MsgMap w k mp S es) (hb : Below w.heap.size w w') : MsgMap w' k mp S es := h.keep (Keep.of_grew hb Non) (fun h => h) (fun _ _ h => h)
theorem MsgMap.mono {w : World} {k : TypeId} {mp : Nat} {S S' : Nat → Prop} {es : List Ent} (h : MsgMap w k mp S es) (hs : ∀ b, S b → S' b) : MsgMap w k mp S' es := ⟨h.own, fun x hx => ⟨(h.know x hx).1, hs _ (h.know x hx).2⟩⟩
theorem MsgMap.nil (w : World) (k : TypeId) (S : Nat → Prop) : MsgMap (w.alloc (.map #[] 0)) k w.heap.size S [] := ⟨⟨_, World.ownsMap_made w Try.prog k msgElem, Reads.nil⟩, by simp⟩
theorem MsgMap.ok {w : World} {k : TypeId} {mp : Nat} {S : Nat → Prop} {es : List Ent} (h : MsgMap w k mp S es) : ∀ x ∈ es, x.ok := by
  obtain ⟨D, _, hr⟩ := h.own
  exact hr.ok
theorem MsgMap.apart {w : World} {k : TypeId} {mp : Nat} {S : Nat → Prop} {es : List Ent} (h : MsgMap w k mp S es) : es.Pairwise fun x y => Mesg.Msg.key x.m ≠ Mesg.Msg.key y.m := by
  obtain ⟨D, _, hr⟩ := h.own
  exact hr.apart

/-- 'len(m)'. -/
theorem MsgMap.len {w : World} {k t : TypeId} {mp : Nat} {S : Nat → Prop} {es : List Ent} (h : MsgMap w k mp S es) (ht : Try.prog.underlying t = some (.map k 40)) (ty : TypeId) : (Builtin.len_ #[t] ty #[.map (some mp)]).run Try.prog w = .ok (.int .i64 (es.length : Int)) w := by
  obtain ⟨D, hD, hr⟩ := h.own
  rw [← hr.size]
  exact hD.len ht ty

theorem zero_msg (w : World) : (zeroValue 40).run Try.prog w = .ok (msgV Mesg.none (.slice none 0 0)) w := Try.zeroValue40 w

/-- The message of a key. -/
def at? (es : List Ent) (k : Int × Int) : Option Ent := es.find? fun x => decide (Mesg.Msg.key x.m = k)
theorem at_some {es : List Ent} {k : Int × Int} {x : Ent} (h : at? es k = some x) : x ∈ es ∧ Mesg.Msg.key x.m = k := ⟨List.mem_of_find?_eq_some h, by simpa using List.find?_some h⟩
theorem at_none {es : List Ent} {k : Int × Int} (h : at? es k = none) : ∀ x ∈ es, Mesg.Msg.key x.m ≠ k := fun x hx => by simpa using (List.find?_eq_none.1 h) x hx

/-- 'm, ok := s[k]'. -/
theorem MsgMap.look {w : World} {k t : TypeId} {mp : Nat} {S : Nat → Prop} {es : List Ent} (K : PairKey k) (h : MsgMap w k mp S es) (ht : Try.prog.underlying t = some (.map k 40)) {a b : Int} (ha : I64 a) (hb : I64 b) :
    (Instr.lookup t (.map (some mp)) (keyV (a, b)) true).run Try.prog w = .ok (.tuple #[(match at? es (a, b) with | some x => x.val | none => msgV Mesg.none (.slice none 0 0)), .bool (at? es (a, b)).isSome]) w := by
  obtain ⟨D, hD, hr⟩ := h.own
  obtain ⟨v, ps, hrun, hv⟩ := hD.look_ok K.keyed ht (zero_msg w) (zd := noHead.dat) (zp := []) (by rw [← noHead_enc]; exact msgElem_enc _) (K.make a b ha hb)
  rw [hrun]
  cases hat : at? es (a, b) with
  | none =>
    have hn := hr.no a b ha hb (at_none hat)
    rw [Maps.atKey_of_not_has hn] at hv
    obtain ⟨x, rfl, hx⟩ := msgElem_inv hv
    have : x = noHead := Head.dat_inj (congrArg Prod.fst hx).symm
    rw [hn, this]
    rfl
  | some y =>
    obtain ⟨hy, e⟩ := at_some hat
    have h1 : y.m.site = a := congrArg Prod.fst e
    have h2 : y.m.seq = b := congrArg Prod.snd e
    have hyes := hr.yes y hy
    rw [h1, h2] at hyes
    rw [hyes.2] at hv
    obtain ⟨x, rfl, hx⟩ := msgElem_inv hv
    have : x = y.head := Head.dat_inj (congrArg Prod.fst hx).symm
    rw [hyes.1, this]
    rfl

/-- 's[k] = m'. -/
theorem MsgMap.store {w : World} {k t : TypeId} {mp : Nat} {S : Nat → Prop} {es : List Ent} (K : PairKey k) (h : MsgMap w k mp S es) (ht : Try.prog.underlying t = some (.map k 40)) (hl : es.length ≤ 1000000) (x : Ent) (hx : x.ok) (hs : SliceI w x.sl x.m.know) (hS : S x.b) (hSm : ¬ S mp) :
    ∃ w', (Instr.mapUpdate t (.map (some mp)) (keyV (Mesg.Msg.key x.m)) x.val).run Try.prog w = .ok () w' ∧ MsgMap w' k mp S (but es (Mesg.Msg.key x.m) ++ [x]) ∧ Keep (Just mp) w w' := by
  obtain ⟨D, hD, hr⟩ := h.own
  obtain ⟨w', hrun, hown, hturn⟩ := hD.store K.keyed ht (by unfold maxLen; omega) (K.make x.m.site x.m.seq hx.1 hx.2) (val := x.val) (msgElem_enc x.head)
  have hk : Keep (Just mp) w w' := (Keep.of_grown hturn.grown).more (fun i _ e => by injection e)
  have hr' := hr.put K (hD.tidy K.keyed) x hx
  have hne : ∀ b, S b → ¬ Just mp b := fun b hb e => hSm (by rw [← (show b = mp from e)]; exact hb)
  refine ⟨w', hrun, ⟨⟨_, ?_, hr'⟩, fun y hy => ?_⟩, hk⟩
  · rw [← hr'.size]; exact ownsMap_tight hown
  · rcases List.mem_append.1 hy with hy | hy
    · have hy := (mem_but.1 hy).1
      exact ⟨Ent.know_keep (h.know y hy).1 hk (hne _ (h.know y hy).2), (h.know y hy).2⟩
    · rw [List.mem_singleton.1 hy]
      exact ⟨Ent.know_keep hs hk (hne _ hS), hS⟩

/-- 'delete(s, k)'. -/
theorem MsgMap.drop {w : World} {k t : TypeId} {mp : Nat} {S : Nat → Prop} {es : List Ent} (K : PairKey k) (h : MsgMap w k mp S es) (ht : Try.prog.underlying t = some (.map k 40)) {a b : Int} (ha : I64 a) (hb : I64 b) (hSm : ¬ S mp) (ty : TypeId) :
    ∃ w', (Builtin.delete_ #[t, k] ty #[.map (some mp), keyV (a, b)]).run Try.prog w = .ok (.tuple #[]) w' ∧ MsgMap w' k mp S (but es (a, b)) ∧ Keep (Just mp) w w' := by
  obtain ⟨D, hD, hr⟩ := h.own
  obtain ⟨w', hrun, hown, hturn⟩ := hD.drop K.keyed ht (K.make a b ha hb) ty
  have hk : Keep (Just mp) w w' := (Keep.of_grown hturn.grown).more (fun i _ e => by injection e)
  have hr' := hr.del K (hD.tidy K.keyed) ha hb
  have hne : ∀ b, S b → ¬ Just mp b := fun b hb e => hSm (by rw [← (show b = mp from e)]; exact hb)
  refine ⟨w', hrun, ⟨⟨_, ?_, hr'⟩, fun y hy => ?_⟩, hk⟩
  · rw [← hr'.size]; exact ownsMap_tight hown
  · have hy := (mem_but.1 hy).1
    exact ⟨Ent.know_keep (h.know y hy).1 hk (hne _ (h.know y hy).2), (h.know y hy).2⟩
end Go.Proofs.Ytjklfjgdmklimaa
