/- A network's texts in memory: taken out, copied, turned. -/
import Derived.Test.YtlihdnlojbmhjaaLinkBag
import Derived.Lib.OwnBridge
namespace Go.Proofs.Ytlihdnlojbmhjaa
open Go.RowKit Go.Maps
set_option linter.unusedVariables false

theorem Txt.block {w : World} {S : Nat → Prop} {x : SV} {l : List UInt8} (h : Txt w S x l) {b : Nat} (ha : x.a = some ⟨b, 0, none⟩) (hl : l ≠ []) : S b ∧ b < w.heap.size ∧ RowIs w b l := by
  rcases h.2.2 with h0 | ⟨b', ha', hs, hb, hr⟩
  · exact absurd h0 hl
  · rw [ha] at ha'
    injection ha' with ha'
    injection ha' with ha'
    subst ha'
    exact ⟨hs, hb, hr⟩

/-- A text lies neither in the row nor in the box. -/
theorem Bag.away {w : World} {S : Nat → Prop} {g : Nat} {V : Value} {ps : List (SV × List UInt8)} (h : Bag w S g V ps) {p : SV × List UInt8} (hp : p ∈ ps) {b : Nat} (ha : p.1.a = some ⟨b, 0, none⟩) (hl : p.2 ≠ []) : ¬ At V b ∧ ¬ b = g := by
  have hpos : 0 < ps.length := List.length_pos_of_mem hp
  obtain ⟨hs, hb, hr⟩ := (h.txt p hp).block ha hl
  have hc := (hr 0 (List.length_pos_iff.2 hl)).1
  constructor
  · intro hr
    have hr : V.ownBlock = some b := hr
    rcases h.own.2 with ⟨rfl, _⟩ | ⟨g', cap, cur, rfl, _, hg, hcap, _, hsz, htake⟩
    · simp [Value.ownBlock] at hr
    · have e : g' = b := by simpa [Value.ownBlock] using hr
      subst e
      rw [cell_of_row _ _ _ _ _ _ hg] at hc
      have h0 : cur.toList[0]? = some (ps[0].1.enc) := by
        have := congrArg (fun l => l[0]?) htake
        simp only [List.getElem?_take] at this
        rw [if_pos (by omega)] at this
        rw [this]
        simp [hpos]
      rw [← Array.getElem?_toList] at hc
      rw [h0] at hc
      simp [SV.enc] at hc
  · rintro rfl
    have := h.box.cell 0 (by simp)
    rw [this] at hc
    obtain ⟨a, cap, rfl⟩ := h.form
    simp at hc

theorem bag_Delete (w : World) (S : Nat → Prop) (g : Nat) (V : Value) (ps : List (SV × List UInt8)) (i : Nat) (h : Bag w S g V ps) (hi : i < ps.length) :
    Calls Try.prog 27 #[V, .int .i64 (i : Int), .int .i64 ((i + 1 : Nat) : Int)] w fun e w' => ∃ a cap, e = .returned (.slice a (ps.length - 1) cap) ∧ Owns w' 61 1 (.slice a (ps.length - 1) cap) (ps.length - 1) ((ps.eraseIdx i).map fun p => p.1.enc) ∧ (Value.slice a (ps.length - 1) cap).ownBlock = V.ownBlock ∧ Keep (At V) w w' := by
  have ho : w.ownsRow 0 61 1 V ps.length ((ps.map Prod.fst).map SV.enc) := by
    have := h.own
    unfold Owns at this
    rw [List.map_map]
    exact this
  have hv : V ≠ .slice none 0 0 := by
    rintro rfl
    rcases h.own.2 with ⟨_, h0⟩ | ⟨g', cap, cur, e, _⟩
    · omega
    · cases e
  obtain ⟨r, cap, rfl, _, hrl, hcap, hcm, hlen, hH⟩ := Lib.holds_of_ownsRow ho hv
  obtain ⟨i0, hi0, _, hz1, _⟩ := info_parts info_bs
  unfold maxLen at hcm
  have hds : (ps.map Prod.fst).toArray.size = ps.length := by simp
  have C := AnyE.slices_Delete delLays SV.enc (fun _ => rfl) ⟨none, 0, 0⟩ Try.zeroValue61 i0 hi0 hz1 r 0 cap i (i + 1) (ps.map Prod.fst).toArray w hH (by rw [hds]; exact hcap) (by omega) (by omega) (by rw [hds]; omega)
  rw [hds] at C
  refine C.mono ?_
  rintro e w' ⟨rfl, q, rfl⟩
  have e1 : ps.length - (i + 1 - i) = ps.length - 1 := by omega
  rw [e1]
  refine ⟨_, cap, rfl, ?_, rfl, ?_⟩
  · have hy : ((ps.map Prod.fst).take i ++ (ps.map Prod.fst).drop (i + 1) ++ List.replicate (i + 1 - i) (⟨none, 0, 0⟩ : SV)).length = ps.length := by simp; omega
    have hu := Lib.ownsRow_putRow (q := q) (k := ps.length - 1) ho hy (by omega)
    have e2 : ((ps.map Prod.fst).take i ++ (ps.map Prod.fst).drop (i + 1) ++ List.replicate (i + 1 - i) (⟨none, 0, 0⟩ : SV)).take (ps.length - 1) = (ps.eraseIdx i).map Prod.fst := by
      rw [List.take_append_of_le_length (by simp; omega), List.take_of_length_le (by simp; omega), List.eraseIdx_eq_take_drop_succ, List.map_append, List.map_take, List.map_drop]
    rw [e2, List.map_map] at hu
    exact hu
  · refine ⟨rfl, rfl, rfl, by simp [Sort.putRow, Sort.mapBlock, Sort.ahead], fun k hk hn => ?_⟩
    have hn : ¬ some r = some k := hn
    have hne : r ≠ k := fun e => hn (congrArg some e)
    simp [Sort.putRow, Sort.mapBlock, Sort.ahead, Array.getElem?_modify, hne]

/-- A text less. -/
theorem Bag.less {w w2 : World} {S : Nat → Prop} {g : Nat} {V V2 : Value} {ps : List (SV × List UInt8)} {i : Nat} (h : Bag w S g V ps) (hi : i < ps.length)
    (ho : Owns w2 61 1 V2 (ps.length - 1) ((ps.eraseIdx i).map fun p => p.1.enc)) (hv : V2.ownBlock = V.ownBlock) (hk : Keep (At V) w w2) :
    IsBag (w2.setCell ⟨g, 0, none⟩ V2) S g ((ps.map Prod.snd).eraseIdx i) ∧ Keep S w (w2.setCell ⟨g, 0, none⟩ V2) := by
  have kk : Keep (Just g) w2 (w2.setCell ⟨g, 0, none⟩ V2) := Keep.setCell _ _ _ _
  have hne : ∀ r, V.ownBlock = some r → r ≠ g := fun r hr => h.other hr
  have hkS : Keep S w w2 := hk.more (fun r _ hr => h.row r hr)
  have hsz2 : (w2.setCell ⟨g, 0, none⟩ V2).heap.size = w2.heap.size := by simp [World.setCell]
  have hlen : (ps.eraseIdx i).length = ps.length - 1 := List.length_eraseIdx_of_lt hi
  refine ⟨⟨V2, ps.eraseIdx i, ⟨h.me, ?_, ?_, ?_, ?_, ?_, ?_⟩, by rw [List.eraseIdx_eq_take_drop_succ, List.eraseIdx_eq_take_drop_succ, List.map_append, List.map_take, List.map_drop]⟩, hkS.trans kk (fun j _ hj => by have hj : j = g := hj; subst hj; exact h.me)⟩
  · have := (h.box.keep hk (fun hr => hne g hr rfl)).set 0 V2 (by simp)
    simpa using this
  · rw [hlen]
    exact ho.keep kk (fun r hr e => by have e : r = g := e; exact hne r (by rw [← hv]; exact hr) e)
  · intro r hr
    exact h.row r (by rw [← hv]; exact hr)
  · intro p hp
    have hp' : p ∈ ps := List.mem_of_mem_eraseIdx hp
    exact ((h.txt p hp').keep hk (fun b ha hl => (h.away hp' ha hl).1)).keep kk (fun b ha hl => (h.away hp' ha hl).2)
  · exact h.part.sublist (List.eraseIdx_sublist ps i)
  · intro b hb
    rw [hsz2]
    exact Nat.lt_of_lt_of_le (h.lt b hb) hk.size

/-- A byte turned. -/
theorem Bag.turned {w : World} {S : Nat → Prop} {g : Nat} {V : Value} {ps : List (SV × List UInt8)} {i at_ b : Nat} {x : SV} {l : List UInt8} (h : Bag w S g V ps) (hi : ps[i]? = some (x, l)) (ha : x.a = some ⟨b, 0, none⟩) (hat : at_ < l.length) (c : UInt8) :
    IsBag (w.setCell ⟨b, at_, none⟩ (.int .u8 (c.toNat : Int))) S g ((ps.map Prod.snd).set i (l.set at_ c)) ∧ Keep S w (w.setCell ⟨b, at_, none⟩ (.int .u8 (c.toNat : Int))) := by
  have hl : l ≠ [] := fun e => by rw [e] at hat; simp at hat
  obtain ⟨hil, hie⟩ := List.getElem?_eq_some_iff.1 hi
  have hmem : (x, l) ∈ ps := by rw [← hie]; exact List.getElem_mem hil
  obtain ⟨hs, hb, hr⟩ := (h.txt _ hmem).block ha hl
  obtain ⟨hrow, hbox⟩ := h.away hmem ha hl
  have kk : Keep (Just b) w (w.setCell ⟨b, at_, none⟩ (.int .u8 (c.toNat : Int))) := Keep.setCell _ _ _ _
  have hsz : (w.setCell ⟨b, at_, none⟩ (.int .u8 (c.toNat : Int))).heap.size = w.heap.size := by simp [World.setCell]
  have hl2 : l.set at_ c ≠ [] := by simp [hl]
  have htw : Txt (w.setCell ⟨b, at_, none⟩ (.int .u8 (c.toNat : Int))) S x (l.set at_ c) := by
    obtain ⟨h1, h2, _⟩ := h.txt _ hmem
    exact ⟨by rw [List.length_set]; exact h1, by rw [List.length_set]; exact h2, .inr ⟨b, ha, hs, by rw [hsz]; exact hb, hr.set at_ c hat⟩⟩
  have hfst : ∀ j (hj : j < (ps.set i (x, l.set at_ c)).length) (hj' : j < ps.length), (ps.set i (x, l.set at_ c))[j].1 = ps[j].1 ∧ ((ps.set i (x, l.set at_ c))[j].2 ≠ [] ↔ ps[j].2 ≠ []) := by
    intro j hj hj'
    rw [List.getElem_set]
    split
    · rename_i e
      subst e
      rw [hie]
      exact ⟨rfl, ⟨fun _ => hl, fun _ => hl2⟩⟩
    · exact ⟨rfl, Iff.rfl⟩
  have hlen : (ps.set i (x, l.set at_ c)).length = ps.length := by simp
  refine ⟨⟨V, ps.set i (x, l.set at_ c), ⟨h.me, h.box.keep kk (fun e => hbox e.symm), ?_, h.row, ?_, ?_, ?_⟩, by rw [List.map_set]⟩, kk.more (fun j _ e => by have e : j = b := e; rw [e]; exact hs)⟩
  · have e : (ps.set i (x, l.set at_ c)).map (fun p => p.1.enc) = ps.map (fun p => p.1.enc) := by
      apply List.ext_getElem (by simp)
      intro j h1 h2
      simp only [List.getElem_map]
      rw [(hfst j (by simpa using h1) (by simpa using h2)).1]
    rw [e, hlen]
    exact h.own.keep kk (fun r hq e => by have e : r = b := e; rw [e] at hq; exact hrow hq)
  · intro p hp
    obtain ⟨j, hj, rfl⟩ := List.getElem_of_mem hp
    by_cases hji : i = j
    · subst hji
      simp only [List.getElem_set_self]
      exact htw
    · have hj' : j < ps.length := by simpa using hj
      simp only [List.getElem_set_ne hji]
      refine (h.txt _ (List.getElem_mem hj')).keep kk (fun b' ha' hl' e => ?_)
      have e : b' = b := e
      subst e
      have hpw := List.pairwise_iff_getElem.1 h.part
      rcases Nat.lt_or_gt_of_ne hji with hlt | hlt
      · exact hpw i j hil hj' hlt b' (by rw [hie]; exact ha) ha' (by rw [hie]; exact hl) hl'
      · exact hpw j i hj' hil hlt b' ha' (by rw [hie]; exact ha) hl' (by rw [hie]; exact hl)
  · rw [List.pairwise_iff_getElem]
    intro j k hj hk hjk b' h1 h2 h3 h4
    have hj' : j < ps.length := by simpa using hj
    have hk' : k < ps.length := by simpa using hk
    rw [(hfst j hj hj').1] at h1
    rw [(hfst k hk hk').1] at h2
    exact List.pairwise_iff_getElem.1 h.part j k hj' hk' hjk b' h1 h2 ((hfst j hj hj').2.1 h3) ((hfst k hk hk').2.1 h4)
  · intro b' hb'
    rw [hsz]
    exact h.lt b' hb'

theorem OwnB.row {w : World} {v : Value} {l : List UInt8} (h : OwnB w v l) (hl : l ≠ []) : ∃ b cap, v = .slice (some ⟨b, 0, none⟩) l.length cap ∧ l.length ≤ cap ∧ b < w.heap.size ∧ RowIs w b l := by
  rcases h.2 with ⟨_, h0⟩ | ⟨b, cap, cur, rfl, _, hg, hn, _⟩
  · exact absurd (List.eq_nil_of_length_eq_zero h0) hl
  · refine ⟨b, cap, rfl, hn, (Array.getElem?_eq_some_iff.1 hg).1, fun j hj => ⟨?_, World.ownsRow.frozenAt h j⟩⟩
    rw [World.ownsRow.cellAt h j (by omega)]
    simp [byteCells, hj]

set_option maxHeartbeats 1000000 in
theorem txt_Clone (w : World) (S : Nat → Prop) (x : SV) (l : List UInt8) (h : Txt w S x l) (hm : l.length ≤ 1000000) :
    Calls Try.prog 28 #[x.enc] w fun e w' => ∃ x' : SV, e = .returned x'.enc ∧ Txt w' (fun b => w.heap.size ≤ b) x' l ∧ Below w.heap.size w w' := by
  obtain ⟨a, n, c⟩ := x
  obtain ⟨h1, h2, h3⟩ := h
  simp only at h1 h2 h3
  subst h1
  unfold SV.enc
  simp only
  cases a with
  | none =>
    have hl : l = [] := by
      rcases h3 with h3 | ⟨b, ha, _⟩
      · exact h3
      · cases ha
    subst hl
    have hnil : (binOp .eql 61 (.slice none 0 c) (.slice none 0 0)).run Try.prog w = .ok (.bool true) w := by
      simp only [binOp]
      simp [run_equal_slice_nil w 61 5 _ _ _ Try.underlying61]
    clear h3
    go_enter Try.func28, Try.ntmps28
    go_wp2
    go_ret
    exact ⟨⟨none, 0, 0⟩, rfl, ⟨rfl, by simp, .inl rfl⟩, Below.refl _ _⟩
  | some ad =>
    have HN : Hid (∀ j u, (byteCells l)[j]? = some u → (w.alloc (.cells #[] 5)).cell? (ad.add j) = some u) := Lib.hid (fun j u hu => by
      have hj : j < l.length := by
        have := (List.getElem?_eq_some_iff.1 hu).1
        simpa [byteCells] using this
      rcases h3 with h3 | ⟨b, ha, hs, hb, hr⟩
      · subst h3; simp at hj
      · injection ha with ha
        subst ha
        rw [show (⟨b, 0, none⟩ : Addr).add j = ⟨b, j, none⟩ from by unfold Addr.add; split <;> simp_all, (grew_alloc w _).cell (p := ⟨b, j, none⟩) hb, (hr j hj).1]
        simpa [byteCells, List.getElem?_eq_getElem hj] using hu)
    have HO : Hid (Owns (w.alloc (.cells #[] 5)) 5 1 (.slice (some ⟨w.heap.size, 0, none⟩) 0 0) 0 []) := Lib.hid (by
      have := World.ownsRow_lit (base := 0) (e := 5) (size := 1) w #[] 0 (Nat.zero_le _) (by unfold maxLen; omega) rfl
      exact this)
    have hnil : (binOp .eql 61 (.slice (some ad) l.length c) (.slice none 0 0)).run Try.prog w = .ok (.bool false) w := by
      simp only [binOp]
      simp [run_equal_slice_nil w 61 5 _ _ _ Try.underlying61]
    have HM := Lib.hid hm
    clear h3 h2 hm
    go_enter Try.func28, Try.ntmps28
    go_wp2_with (at_builtin; refine wp_append_any rfl (.tmp 5) (.tmp 6) rfl Try.underlying61 info_u8 rfl (by decide) (by decide) _ 0 [] rfl HO.out ad l.length c (byteCells l) rfl (by simp [byteCells]) HN.out (by intro u hu; obtain ⟨c, _, rfl⟩ := List.mem_map.1 hu; rfl) (by have := HM.out; omega) ?_; intro v' w' ho hk hn)
    go_ret
    have ho' : OwnB w' v' l := by
      rw [Nat.zero_add, List.nil_append] at ho
      exact ho
    have hbel : Below w.heap.size w w' := ((Keep.alloc _ w _).trans hk (fun i _ hi => hi)).fresh fun i hi hs => by
      have : w.heap.size = i := Option.some.inj hs
      omega
    by_cases hl : l = []
    · subst hl
      rcases ho'.2 with ⟨rfl, _⟩ | ⟨b, cap, cur, rfl, _, _, hcap, _⟩
      · exact ⟨⟨none, 0, 0⟩, rfl, ⟨rfl, by simp, .inl rfl⟩, hbel⟩
      · exact ⟨⟨some ⟨b, 0, none⟩, 0, cap⟩, rfl, ⟨rfl, hcap, .inl rfl⟩, hbel⟩
    · obtain ⟨b, cap, rfl, hcap, hb, hr⟩ := ho'.row hl
      refine ⟨⟨some ⟨b, 0, none⟩, l.length, cap⟩, rfl, ⟨rfl, hcap, .inr ⟨b, rfl, ?_, hb, hr⟩⟩, hbel⟩
      rcases hn b rfl with k | k
      · have : w.heap.size = b := Option.some.inj k
        omega
      · simp at k; omega
end Go.Proofs.Ytlihdnlojbmhjaa
