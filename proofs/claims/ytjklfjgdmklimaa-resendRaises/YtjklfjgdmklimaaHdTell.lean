/- What tell of hold comes to. -/
import Derived.Test.YtjklfjgdmklimaaHdTell0
import Derived.StillTailTactics
import Derived.BigRegion
namespace Go.Proofs.Ytjklfjgdmklimaa
open Go.RowKit Go.Maps
set_option linter.unusedVariables false

/-- Where tell stands. -/
structure TellW (w : World) (F : Nat → Prop) (p : Nat) (s0 : Hold.St) (cb cc mp : Nat) (S : Nat → Prop) (T : Value) (xs : List (Mesg.Msg × Value)) (s : Hold.St) (es : List Ent) (wr : World) : Prop where
  hold : HoldW wr F p s cb cc mp S es
  own : OwnM wr T xs
  new : ∀ g, T.ownBlock = some g → w.heap.size ≤ g
  know : ∀ q ∈ xs, SliceI wr q.2 q.1.know ∧ ∀ g, q.2.ownBlock = some g → S g
  keep : Keep F w wr
  math : Hold.tell s0.l.length s0 = (xs.map Prod.fst ++ (Hold.tell s.l.length s).1, (Hold.tell s.l.length s).2)
  few : xs.length + s.l.length ≤ 1001

/-- 'delete(s, k)'. -/
theorem wp_delete_msg {ops : Array Oper} {rest : List Oper} {o : Oper} {a : Act} {w : World} {Q : Exit → Act → World → Prop} (hgd : o.guard = none) (m x : Operand) {t k : TypeId} (ho : o.op = Op.call { callee := Callee.builtin Builtin.delete, args := #[m, x], argTypes := #[t, k] })
    (K : PairKey k) (ht : Try.prog.underlying t = some (.map k 40)) {mp : Nat} {S : Nat → Prop} {es : List Ent} (h : MsgMap w k mp S es) (hSm : ¬ S mp) {c d : Int} (hc : I64 c) (hd : I64 d) (hm : a.eval m = .map (some mp)) (hx : a.eval x = .agg #[.int .i64 c, .int .i64 d])
    (hK : ∀ w', MsgMap w' k mp S (but es (c, d)) → Keep (Just mp) w w' → wpList Try.prog ops Q rest (a.put o.dst (.tuple #[])) w') : wpList Try.prog ops Q (o :: rest) a w := by
  obtain ⟨w', hrun, hmm, hk⟩ := MsgMap.drop K h ht hc hd hSm o.type
  refine wpList_plain hgd fun K' hK' => ?_
  unfold Oper.wp
  unfold keyV at hrun
  simp [execOp, ho, resolve, invoke, builtin, hm, hx, hrun, Result.andThen]
  exact hK' _ _ (hK w' hmm hk)

/-- 's = append(s, ..)', the new elements lying in a row just made for that, in a world drawn from since. -/
theorem wp_append_litd {ops : Array Oper} {rest : List Oper} {o : Oper} {a : Act} {w : World} {Q : Exit → Act → World → Prop} (hgd : o.guard = none) (s x : Operand) {t e : TypeId}
    (ho : o.op = .call { callee := .builtin .append, args := #[s, x], argTypes := #[t, t] }) (ht : Try.prog.underlying t = some (.slice e)) {z : Value} {size bytes : Nat}
    (hinf : (Try.prog.info? e).map (fun i => (i.zero, i.size, i.bytes)) = some (some z, size, bytes)) (hzs : z.cells.size = size) (hsz : 0 < size) (hby : bytes ≤ 1000)
    (v : Value) (n : Nat) (xs : List Value) (hs : a.eval s = v) (hown : Owns w e size v n xs)
    (m : Nat) (news : List Value) (cs : Array Value) (hcs : cs = news.toArray) (hx : a.eval x = .slice (some ⟨w.heap.size, 0, none⟩) m m) (hl : news.length = m * size) (h1 : ∀ u ∈ news, u.oneCell' = true)
    (hlen : n + m ≤ 1000000000)
    (h : ∀ v' w', Owns w' e size v' (n + m) (xs ++ news) → Keep (At v) w w' → Near w v v' → wpList Try.prog ops Q rest (a.put o.dst v') w') :
    wpList Try.prog ops Q (o :: rest) a (w.alloc (.cells cs e)).drew := by
  subst hcs
  refine wp_append_any hgd s x ho ht hinf hzs hsz hby v n xs hs (World.ownsRow.drew (World.ownsRow.alloc hown _)) ⟨w.heap.size, 0, none⟩ m m news hx hl ?_ h1 hlen ?_
  · intro j u hu
    rw [show (⟨w.heap.size, 0, none⟩ : Addr).add j = ⟨w.heap.size, j, none⟩ from by unfold Addr.add; split <;> simp_all]
    show (w.alloc (.cells news.toArray e)).cell? _ = _
    rw [cell_of_row _ _ _ _ _ _ (heap_alloc_new _ _)]
    simpa using hu
  · intro v' w' k1 k2 k3
    refine h v' w' k1 (((Keep.alloc _ w _).trans (Keep.of_grew (grew_drew _) (At v)) (fun i _ hi => hi)).trans k2 (fun i _ hi => hi)) (fun g hg => ?_)
    rcases k3 g hg with k | k
    · exact .inl k
    · exact .inr (by simp at k; omega)

/-- One message more is told. -/
theorem TellW.more {w wr w4 w5 w6 : World} {F : Nat → Prop} {p : Nat} {s0 s : Hold.St} {cb cc mp : Nat} {S : Nat → Prop} {T T2 : Value} {xs : List (Mesg.Msg × Value)} {es : List Ent} (h0 : ∀ b, F b → b < w.heap.size) (h : TellW w F p s0 cb cc mp S T xs s es wr) {x : Ent} (hx : x ∈ es) (hnx : Hold.next s = some x.m)
    {w3 : World} (hb3 : Below wr.heap.size wr w3) (hm : MsgMap w4 71 mp S (but es (Mesg.Msg.key x.m))) (hk4 : Keep (Just mp) w3 w4) (h5 : w5 = w4.setCell ⟨cb, x.m.site.toNat, none⟩ (.int .i64 x.m.seq))
    (ho : Owns w6 40 10 T2 (xs.length + 1) (msgCells xs ++ msgL x.m x.sl)) (hk6 : Keep (At T) w5 w6) (hn : Near w5 T T2) :
    TellW w F p s0 cb cc mp S T2 (xs ++ [(x.m, x.sl)]) (Hold.deliver s x.m) (but es (Mesg.Msg.key x.m)) w6 ∧ mapSize w6 mp < mapSize wr mp := by
  have hH3 := h.hold.below hb3
  have hT := hH3.told hx hm hk4 (w2 := w4.setCell ⟨cb, x.m.site.toNat, none⟩ (.int .i64 x.m.seq)) rfl
  have hk5 : Keep F w3 w5 := by rw [h5]; exact hT.2
  have hFT : ∀ b, F b → ¬ At T b := fun b hb e => by have := h.new b e; have := h0 b hb; omega
  have hH5 : HoldW w5 F p (Hold.deliver s x.m) cb cc mp S (but es (Mesg.Msg.key x.m)) := by rw [h5]; exact hT.1
  have hH6 := hH5.keep hk6 hFT
  have hKK : Keep (fun b => b = mp ∨ b = cb ∨ At T b) wr w6 := by
    refine Keep.trans (S' := fun b => b = mp ∨ b = cb ∨ At T b) (Keep.of_grew hb3 _) ?_ (fun _ _ e => e)
    refine Keep.trans (S := fun b => b = mp ∨ b = cb ∨ At T b) (S' := At T) ?_ hk6 (fun _ _ e => .inr (.inr e))
    rw [h5]
    exact (hk4.more (fun _ _ e => .inl e)).trans (Keep.setCell _ _ _ _) (fun _ _ e => .inr (.inl e))
  have hSK : ∀ b, S b → ¬ (b = mp ∨ b = cb ∨ At T b) := fun b hb e => by
    rcases e with e | e | e
    · exact (h.hold.off b hb).2.1 e
    · exact (h.hold.off b hb).2.2 e
    · exact hFT b (h.hold.ins b hb) e
  have hxl : x.m ∈ s.l := by rw [← h.hold.is]; exact List.mem_map_of_mem hx
  have hln := Hold.but_length h.hold.ok.apart hxl
  have hsz5 : w3.heap.size ≤ w5.heap.size := hk5.size
  refine ⟨⟨hH6, ?_, fun g hg => ?_, fun q hq => ?_, ?_, ?_, ?_⟩, ?_⟩
  · unfold OwnM
    rw [List.length_append, msgCells_append]
    simpa [msgCells] using ho
  · rcases hn g hg with e | e
    · exact h.new g e
    · exact Nat.le_trans (Nat.le_trans (Nat.le_trans h.keep.size hb3.size) hsz5) e
  · rcases List.mem_append.1 hq with hq | hq
    · have := h.know q hq
      exact ⟨this.1.keep hKK (fun g hg => hSK g (this.2 g hg)), this.2⟩
    · rw [List.mem_singleton.1 hq]
      have := h.hold.map.know x hx
      exact ⟨Ent.know_keep this.1 hKK (hSK _ this.2), fun g hg => by have e : x.b = g := Option.some.inj hg; rw [← e]; exact this.2⟩
  · exact ((h.keep.trans (Keep.of_grew hb3 F) (fun _ _ e => e)).trans hk5 (fun _ _ e => e)).trans (hk6.more (S' := fun b => F b ∨ At T b) (fun _ _ e => .inr e)) (fun b hb e => by
      rcases e with e | e
      · exact e
      · have := h.new b e; omega)
  · rw [h.math]
    have e1 : s.l.length = (Hold.deliver s x.m).l.length + 1 := by
      show s.l.length = (Hold.but s.l (Hold.key x.m)).length + 1
      omega
    rw [e1, Hold.tell_some hnx]
    simp
  · have := h.few
    show (xs ++ [(x.m, x.sl)]).length + (Hold.but s.l (Hold.key x.m)).length ≤ 1001
    simp
    omega
  · rw [hH6.map.size, h.hold.map.size]
    have e1 : (but es (Mesg.Msg.key x.m)).length = (Hold.but s.l (Hold.key x.m)).length := by rw [← but_map h.hold.is]; simp [Mesg.Msg.key, Hold.key]
    have e2 : es.length = s.l.length := by rw [← h.hold.is]; simp
    omega

set_option maxRecDepth 100000 in
set_option maxHeartbeats 20000000 in
theorem hold_tell {w : World} {F : Nat → Prop} {p : Nat} {s0 : Hold.St} {cb cc mp : Nat} {S : Nat → Prop} {es0 : List Ent} (h0 : HoldW w F p s0 cb cc mp S es0) :
    Calls Try.prog 35 #[.pointer (some ⟨p, 0, none⟩)] w fun e w' => ∃ T xs es, e = .returned T ∧ TellW w F p s0 cb cc mp S T xs (Hold.tell s0.l.length s0).2 es w' ∧ xs.map Prod.fst = (Hold.tell s0.l.length s0).1 := by
  have H0 := Lib.hid h0
  have HLT := Lib.hid h0.lt
  clear h0
  go_enter Try.func35, Try.ntmps35
  go_wp2
  refine wp_scope_again 0 (fun a' wr => ∃ (T : Value) (xs : List (Mesg.Msg × Value)) (s : Hold.St) (es : List Ent) (u4 u5 u6 u7 u8 u9 u10 u11 u12 u13 u14 u15 u16 u17 u18 u19 u20 u21 u22 u23 u24 u25 u26 u27 u28 u29 u30 u31 u32 u33 u34 u35 u36 u37 u38 u39 u40 u41 u42 u43 u44 u45 u46 u47 u48 u49 u50 u51 u52 u53 u54 u55 u56 : Value), a' = { tmps := #[.pointer (some ⟨p, 0, none⟩), undef, .slice none 0 0, T, u4, u5, u6, u7, u8, u9, u10, u11, u12, u13, u14, u15, u16, u17, u18, u19, u20, u21, u22, u23, u24, u25, u26, u27, u28, u29, u30, u31, u32, u33, u34, u35, u36, u37, u38, u39, u40, u41, u42, u43, u44, u45, u46, u47, u48, u49, u50, u51, u52, u53, u54, u55, u56], defers := [] } ∧ TellW w F p s0 cb cc mp S T xs s es wr) (fun _ wr => mapSize wr mp) rfl ?first ?pass
  case first =>
    go_wp2
    exact ⟨.slice none 0 0, [], s0, es0, _, _, _, _, _, _, _, _, _, _, _, _, _, _, _, _, _, _, _, _, _, _, _, _, _, _, _, _, _, _, _, _, _, _, _, _, _, _, _, _, _, _, _, _, _, _, _, _, _, _, _, _, _, rfl, ⟨H0.out, OwnM.nil _, fun g hg => (by cases hg), by simp, Keep.refl _ _, by simp, by have h1 := H0.out.ok.full; have h2 := H0.out.ok.room; simp; omega⟩⟩
  case pass =>
    rintro a' wo ⟨T, xs, s, es, u4, u5, u6, u7, u8, u9, u10, u11, u12, u13, u14, u15, u16, u17, u18, u19, u20, u21, u22, u23, u24, u25, u26, u27, u28, u29, u30, u31, u32, u33, u34, u35, u36, u37, u38, u39, u40, u41, u42, u43, u44, u45, u46, u47, u48, u49, u50, u51, u52, u53, u54, u55, u56, rfl, hT⟩
    have HT := Lib.hid hT
    obtain ⟨ta, tc, rfl⟩ := hT.own.form
    have hsites := hT.hold.ok.sites
    have hxe : es.length ≤ 1001 := by
      have h1 := hT.hold.ok.full
      have h2 := hT.hold.ok.room
      rw [← hT.hold.is] at h1
      simp at h1
      omega
    have c1 := hT.hold.box.cell 1 (by simp)
    simp only [List.getElem_cons_succ, List.getElem_cons_zero] at c1
    unfold clockV at c1
    clear hT
    go_wp2_with fail
    go_loopw [3, 14] (fun t i wq => ∃ k : Nat, k ≤ s.clock.length ∧ t = .slice ta xs.length tc ∧ i = .int .i64 k ∧ Hold.next s = Hold.nextFrom s k (s.clock.length - k) ∧ Below wo.heap.size wo wq) (fun _ i _ => s.clock.length - (intOf i).toNat)
    case atStart => exact ⟨0, by omega, rfl, rfl, rfl, Below.refl _ _⟩
    case round =>
      obtain ⟨k, hk, rfl, rfl, hnx, hbq⟩ := hrel
      have HNX := Lib.hid hnx
      have HBQ := Lib.hid hbq
      clear hnx hbq
      by_cases hlt : k < s.clock.length
      · have hdk : decide ((k : Int) < (s.clock.length : Int)) = true := decide_eq_true (by omega)
        have hdn : decide (k < s.clock.length) = true := decide_eq_true hlt
        have hik : (k : Int) < (s.clock.length : Int) := by omega
        have HH := Lib.hid (HT.out.hold.below HBQ.out)
        have ck : wr.cell? ⟨cb, k, none⟩ = some (.int .i64 s.clock[k]) := by
          have := World.ownsRow.cellAt HH.out.clk k (by omega)
          rw [this]
          simp [intCells, hlt]
        have hco := HH.out.ok.clock s.clock[k] (List.getElem_mem hlt)
        have HGD : Hid (s.clock.getD k 0 = s.clock[k]) := Lib.hid (by rw [List.getD_eq_getElem?_getD, List.getElem?_eq_getElem hlt]; rfl)
        generalize s.clock[k] = cz at *
        have hc1 := hco.1
        have hc2 := hco.2
        have hwz : IntKind.i64.wrap (cz + 1) = cz + 1 := by rw [IntKind.wrap_i64]; omega
        have HI : Hid (I64 (k : Int) ∧ I64 (cz + 1)) := Lib.hid ⟨by unfold I64; omega, by unfold I64; omega⟩
        have HFI : Hid (Hold.find s.l ((k : Int), s.clock.getD k 0 + 1) = (at? es ((k : Int), cz + 1)).map Ent.m) := Lib.hid (by rw [HGD.out]; exact find_at HT.out.hold.is _)
        have HSK : Hid (Hold.dueAt s k = none → Hold.next s = Hold.nextFrom s (k + 1) (s.clock.length - (k + 1))) := Lib.hid (fun h => by
          rw [HNX.out, show s.clock.length - k = (s.clock.length - (k + 1)) + 1 from by omega, Hold.nextFrom_skip h])
        have HHI : Hid (∀ m, Hold.dueAt s k = some m → Hold.next s = some m) := Lib.hid (fun m h => by
          rw [HNX.out, show s.clock.length - k = (s.clock.length - (k + 1)) + 1 from by omega, Hold.nextFrom_hit h])
        have HKL := Lib.hid hlt
        have HB1 := Lib.hid (grew_alloc wr (.cells #[.int .i64 (k : Int), .int .i64 (cz + 1)] 71))
        have HK1 := Lib.hid (Holds.new wr [.int .i64 (k : Int), .int .i64 (cz + 1)] 71)
        clear hco hc1 hc2 hlt
        go_wp2_with fail
        generalize (wr.alloc (.cells _ 71)) = W1 at *
        have HW1 := Lib.hid (HH.out.below HB1.out)
        have k0 := HK1.out.cell 0 (by simp)
        have k1 := HK1.out.cell 1 (by simp)
        have p2 := HW1.out.box.cell 2 (by simp)
        have HK3 := Lib.hid (HK1.out.keep (S := Non) (Keep.alloc _ _ (.cells (msgL Mesg.none (.slice none 0 0)).toArray 40)) (fun h => h))
        have k0' := HK3.out.cell 0 (by simp)
        have k1' := HK3.out.cell 1 (by simp)
        have HW3 := Lib.hid (HW1.out.below (grew_alloc _ (.cells (msgL Mesg.none (.slice none 0 0)).toArray 40)))
        have p2' := HW3.out.box.cell 2 (by simp)
        simp only [List.getElem_cons_succ, List.getElem_cons_zero] at k0 k1 p2 k0' k1' p2'
        simp only [msgL, Mesg.none, Mesg.noOp, Mesg.zero] at k0' k1' p2'
        have HLK : Hid (∀ W', Below W1.heap.size W1 W' → (Instr.lookup 67 (.map (some mp)) (.agg #[.int .i64 (k : Int), .int .i64 (cz + 1)]) true).run Try.prog W' = .ok (.tuple #[(match at? es ((k : Int), cz + 1) with | some x => x.val | none => msgV Mesg.none (.slice none 0 0)), .bool (at? es ((k : Int), cz + 1)).isSome]) W') := Lib.hid (fun W' hb => MsgMap.look place_key (HW1.out.map.below hb) place_map HI.out.1 HI.out.2)
        cases hat : at? es ((k : Int), cz + 1) with
        | none =>
          have HNN := Lib.hid (HSK.out (by unfold Hold.dueAt; rw [HFI.out, hat]; rfl))
          rw [hat] at HLK
          clear hat
          have q1 := HLK.out W1.drew (grew_drew _)
          have q2 := HLK.out ((W1.alloc (.cells (msgL Mesg.none (.slice none 0 0)).toArray 40)).drew) (grew (grew_alloc _ _) (grew_drew _))
          simp only [msgV, msgL, Mesg.none, Mesg.noOp, Mesg.zero, Option.isSome_none] at q1 q2
          go_region
          all_goals
            clear k0' k1' p2' q1 q2 k0 k1 p2 HK3 HW3 HLK
            go_wp2
            go_roundw
            case rel => exact ⟨k + 1, by have := HKL.out; omega, rfl, by go_num, HNN.out, grew HBQ.out (grew HB1.out (grew (grew_alloc _ _) (grew_drew _)))⟩
            case measure => simp [intOf]; have := HKL.out; omega
        | some x =>
          obtain ⟨hxm, hxk⟩ := at_some hat
          have HXM := Lib.hid hxm
          have HXK := Lib.hid hxk
          have hsite : x.m.site = (k : Int) := congrArg Prod.fst hxk
          have hseq : x.m.seq = cz + 1 := congrArg Prod.snd hxk
          have HSQ := Lib.hid (And.intro hsite hseq)
          have hml : x.m ∈ s.l := by rw [← HT.out.hold.is]; exact List.mem_map_of_mem hxm
          have HMY := Lib.hid (HT.out.hold.ok.may x.m hml)
          have HDA : Hid (Hold.dueAt s k = if Hold.due s.clock x.m then some x.m else none) := Lib.hid (by unfold Hold.dueAt; rw [HFI.out, hat]; rfl)
          rw [hat] at HLK
          have q1 := HLK.out W1.drew (grew_drew _)
          have q2 := HLK.out ((W1.alloc (.cells (msgL Mesg.none (.slice none 0 0)).toArray 40)).drew) (grew (grew_alloc _ _) (grew_drew _))
          simp only [Ent.val, Ent.sl, msgV, msgL, Mesg.none, Mesg.noOp, Mesg.zero, Option.isSome_some] at q1 q2
          clear hat hxm hxk hsite hseq hml
          go_region
          all_goals
            clear k0' k1' p2' q1 q2 k0 k1 p2 HK3 HW3 HLK
            have HB2 := Lib.hid (grew (grew_alloc W1 (.cells (msgL x.m x.sl).toArray 40)) (grew_drew _))
            have HM2 : Hid (Holds ((W1.alloc (.cells (msgL x.m x.sl).toArray 40)).drew) W1.heap.size (msgL x.m x.sl) 40) := Lib.hid (Holds.new W1 (msgL x.m x.sl) 40)
            unfold msgL Ent.sl at HB2 HM2
            go_wp2_with fail
            generalize (W1.alloc (.cells _ 40)).drew = W2 at *
            have HW2 := Lib.hid (HW1.out.below HB2.out)
            have HS2 := Lib.hid (HW2.out.map.know x HXM.out).1
            refine (hold_due ⟨_, _, _, _, _, HW2.out⟩ x.m x.sl HS2.out HMY.out.1 HMY.out.2).mono ?_
            rintro e w3 ⟨rfl, hb3⟩
            have HB3 := Lib.hid (grew HB1.out (grew HB2.out hb3))
            have HM3 := Lib.hid (HM2.out.keep (Keep.of_grew hb3 Non) (fun h => h))
            have HK4 := Lib.hid ((HK1.out.keep (Keep.of_grew HB2.out Non) (fun h => h)).keep (Keep.of_grew hb3 Non) (fun h => h))
            clear hb3
            cases hdu : Hold.due s.clock x.m
            · have HNN := Lib.hid (HSK.out (by rw [HDA.out, hdu]; rfl))
              clear hdu
              go_wp2
              go_roundw
              case rel => exact ⟨k + 1, by have := HKL.out; omega, rfl, by go_num, HNN.out, grew HBQ.out HB3.out⟩
              case measure => simp [intOf]; have := HKL.out; omega
            · have HNX2 := Lib.hid (HHI.out x.m (by rw [HDA.out, hdu]; rfl))
              clear hdu
              have HW4 := Lib.hid (HT.out.hold.below (grew HBQ.out HB3.out))
              have p2 := HW4.out.box.cell 2 (by simp)
              have k0 := HK4.out.cell 0 (by simp)
              have k1 := HK4.out.cell 1 (by simp)
              simp only [List.getElem_cons_succ, List.getElem_cons_zero] at p2 k0 k1
              have HMP : Hid (mp < W1.heap.size ∧ cb < W1.heap.size) := Lib.hid ⟨HW1.out.map.lt, HW1.out.lt cb HW1.out.inc⟩
              go_wp2_with fail
              go_still_tail 5, (by kernel_rfl)
              repeat still_step
              change wpList _ _ _ _ _ w3.drew
              go_wp2_with (at_delete; refine wp_delete_msg rfl (.tmp 41) (.tmp 42) rfl place_key place_map (HW4.out.map.below (grew_drew _)) (fun e => (HT.out.hold.off mp e).2.1 rfl) HI.out.1 HI.out.2 rfl rfl ?_; intro w4 hm4 hk4; have HM4 := Lib.hid hm4; have HK5 := Lib.hid ((Keep.of_grew (grew_drew w3) (Just mp)).trans hk4 (fun _ _ e => e)); clear hm4 hk4)
              go_frame
              have HX4 := Lib.hid (HM3.out.keep HK5.out (fun e => by have e : W1.heap.size = mp := e; have := HMP.out.1; omega))
              have HC4 : Hid (OwnI w4 (clockV cb s.clock.length cc) s.clock) := Lib.hid (HW4.out.clk.keep HK5.out (fun g hg e => by
                have e1 : cb = g := Option.some.inj hg
                have e2 : g = mp := e
                exact HW4.out.pm.2.2 (by omega)))
              have b1 := (HW4.out.box.keep HK5.out (fun e => HW4.out.pm.1 e)).cell 1 (by simp)
              simp only [List.getElem_cons_succ, List.getElem_cons_zero] at b1
              unfold clockV at b1
              have x1 := (msg_cells (m := x.m) (v := .slice (some ⟨x.b, 0, none⟩) x.m.know.length x.c) HX4.out).1.2.1
              obtain ⟨z4, hz4⟩ := OwnI.has HC4.out (j := k) HKL.out
              have f4 := OwnI.free HC4.out k
              go_region
              all_goals
                have HX5 := Lib.hid (HX4.out.keep (Keep.setCell w4 cb k (.int .i64 x.m.seq)) (fun e => by have e : W1.heap.size = cb := e; have := HMP.out.2; omega))
                obtain ⟨⟨l0, l1, l2⟩, l3, l4, l5, l6, l7, l8, l9⟩ := msg_cells (m := x.m) (v := .slice (some ⟨x.b, 0, none⟩) x.m.know.length x.c) HX5.out
                have HKW : Hid (Keep (fun b => b = mp ∨ b = cb) wo (w4.setCell ⟨cb, k, none⟩ (.int .i64 x.m.seq))) := Lib.hid (((Keep.of_grew (grew HBQ.out HB3.out) (fun b => b = mp ∨ b = cb)).trans HK5.out (fun _ _ e => .inl e)).trans (Keep.setCell w4 cb k (.int .i64 x.m.seq)) (fun _ _ e => .inr e))
                have HOW : Hid (Owns (w4.setCell ⟨cb, k, none⟩ (.int .i64 x.m.seq)) 40 10 (.slice ta xs.length tc) xs.length (msgCells xs)) := Lib.hid (Owns.keep HT.out.own HKW.out (fun g hg e => by
                  have h1 := HT.out.new g hg
                  have h2 := HLT.out mp HT.out.hold.inm
                  have h3 := HLT.out cb HT.out.hold.inc
                  rcases e with e | e <;> omega))
                generalize hW5 : w4.setCell ⟨cb, k, none⟩ (.int .i64 x.m.seq) = W5 at *
                have HEQ := Lib.hid hW5
                clear hW5
                have hxl : xs.length ≤ 1000000 := by have := HT.out.few; omega
                have HONE := Lib.hid (msgL_one x.m (v := .slice (some ⟨x.b, 0, none⟩) x.m.know.length x.c) rfl)
                go_wp2_with (at_builtin; refine wp_append_litd (w := W5) rfl (.tmp 51) (.tmp 53) rfl Try.underlying22 info_msg rfl (by decide) (by decide) (.slice ta xs.length tc) xs.length (msgCells xs) rfl HOW.out 1 [.int .i64 x.m.site, .int .i64 x.m.seq, .slice (some ⟨x.b, 0, none⟩) x.m.know.length x.c, .int .i64 x.m.op.kind, .int .i64 x.m.op.epoch, .int .i64 x.m.op.id.time, .int .i64 x.m.op.id.site, .int .i64 x.m.op.ref.time, .int .i64 x.m.op.ref.site, .int .i64 x.m.op.rune] _ rfl rfl rfl HONE.out (by omega) ?_; intro T2 w6 ho6 hk6 hn6; have HM6 := Lib.hid (And.intro ho6 (And.intro hk6 hn6)); clear ho6 hk6 hn6)
                go_step3
                have hmore := HT.out.more HLT.out HXM.out HNX2.out (grew HBQ.out HB3.out) (by rw [HXK.out]; exact HM4.out) HK5.out (w5 := W5) (by rw [← HEQ.out, HSQ.out.1]; rfl) HM6.out.1 HM6.out.2.1 HM6.out.2.2
                exact ⟨rfl, ⟨T2, _, _, _, _, _, _, _, _, _, _, _, _, _, _, _, _, _, _, _, _, _, _, _, _, _, _, _, _, _, _, _, _, _, _, _, _, _, _, _, _, _, _, _, _, _, _, _, _, _, _, _, _, _, _, _, _, rfl, hmore.1⟩, hmore.2⟩
      · have hdn : decide (k < s.clock.length) = false := decide_eq_false hlt
        have hdk : decide ((k : Int) < (s.clock.length : Int)) = false := decide_eq_false (by omega)
        have HNO : Hid (Hold.next s = none) := Lib.hid (by rw [HNX.out, show s.clock.length - k = 0 from by omega]; rfl)
        clear hlt
        go_wp2
        simp only [Exit.jump]
        go_ret
        have hmath := HT.out.math
        rw [Hold.tell_none HNO.out] at hmath
        have hf := HBQ.out
        refine ⟨_, xs, es, rfl, ?_, by rw [hmath]; simp⟩
        rw [hmath]
        exact ⟨HT.out.hold.below hf, HT.out.own.below hf, HT.out.new, fun q hq => ⟨(HT.out.know q hq).1.below hf, (HT.out.know q hq).2⟩, HT.out.keep.trans (Keep.of_grew hf F) (fun _ _ e => e), by rw [Hold.tell_none HNO.out]; exact hmath, HT.out.few⟩
end Go.Proofs.Ytjklfjgdmklimaa
