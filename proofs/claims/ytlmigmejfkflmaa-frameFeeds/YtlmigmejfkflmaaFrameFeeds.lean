/- The walk of FrameFeeds. -/
import Derived.Test.YtlmigmejfkflmaaFrameLaws2
import Derived.Deep.RegionWith
namespace Go.Proofs.Ytlmigmejfkflmaa
open Go.RowKit
set_option linter.unusedVariables false

/-- Both readers, in one state. -/
structure Both (w : World) (g : Nat) (wr : World) (s : Frame.R) (vr : Value) (lg : Bool) : Prop where
  rd : Rd wr g vr s.piece s.bad
  hold : Holds wr (g + 1) [.string (tx s.piece), .bool lg, .int .i64 (s.bad : Int)] 33
  long : lg = true → 5000 ≤ s.piece.length
  off : ¬ RdAt g vr (g + 1)
  low : ∀ x, RdAt g vr x → g ≤ x
  room : s.piece.length ≤ 5000
  below : Below g w wr

/-- Both have been fed a text: what each told. -/
structure Told (w : World) (g : Nat) (wr : World) (s : Frame.R) (t1 t2 : Value) : Prop where
  both : ∃ vr lg, Both w g wr s vr lg
  one : SliceS wr t1 (strs s.told)
  two : SliceS wr t2 (strs s.told)

/-- The first reader has been fed, the second one not yet. -/
structure First (w : World) (g : Nat) (wr w1 : World) (s s' : Frame.R) (vr : Value) (lg : Bool) (t1 v1 : Value) : Prop where
  was : Both w g wr s vr lg
  fed : Fed wr g vr w1 t1 s' v1
structure Second (w : World) (g : Nat) (wr w1 : World) (s s' : Frame.R) (vr : Value) (lg : Bool) (t2 : Value) (lg' : Bool) : Prop where
  was : Both w g wr s vr lg
  fed : FedK wr (g + 1) w1 t2 s' lg'

theorem SliceS.keep {S : Nat → Prop} {w w' : World} {v : Value} {ts : List ByteArray} (h : OwnS w v ts) (hk : Keep S w w') (hn : ∀ g, v.ownBlock = some g → ¬ S g) : SliceS w' v ts := (h.keep hk hn).slice

theorem First.then {w : World} {g : Nat} {wr w1 w2 : World} {s s' : Frame.R} {vr : Value} {lg : Bool} {t1 v1 t2 : Value} {lg' : Bool} (h : First w g wr w1 s s' vr lg t1 v1) (hf : FedK w1 (g + 1) w2 t2 s' lg') (hr : s'.piece.length ≤ 5000) : Told w g w2 s' t1 t2 := by
  have hg1 : g + 1 < wr.heap.size := h.was.hold.lt
  have hne : ∀ x, RdAt g v1 x → ¬ Just (g + 1) x := fun x hx e => by
    have e : x = g + 1 := e
    subst e
    rcases h.fed.near _ hx with k | k
    · exact h.was.off k
    · omega
  refine ⟨⟨v1, lg', h.fed.rd.keep hf.keep hne, hf.hold, hf.long, fun hx => hne _ hx rfl, fun x hx => ?_, hr, ?_⟩, SliceS.keep h.fed.own hf.keep (fun x hx e => ?_), hf.own.slice⟩
  · rcases h.fed.near x hx with k | k
    · exact h.was.low x k
    · omega
  · refine h.was.below.trans ((h.fed.keep.below (by omega) h.was.low).trans (hf.keep.below (by have := h.fed.keep.size; omega) (fun x hx => ?_)))
    have hx : x = g + 1 := hx
    omega
  · have hx' := (h.fed.far x hx).1
    have e : x = g + 1 := e
    omega

theorem Second.then {w : World} {g : Nat} {wr w1 w2 : World} {s s' : Frame.R} {vr : Value} {lg : Bool} {t1 v1 t2 : Value} {lg' : Bool} (h : Second w g wr w1 s s' vr lg t2 lg') (hf : Fed w1 g vr w2 t1 s' v1) (hr : s'.piece.length ≤ 5000) : Told w g w2 s' t1 t2 := by
  have hg1 : g + 1 < wr.heap.size := h.was.hold.lt
  have hw1 := h.fed.keep.size
  refine ⟨⟨v1, lg', hf.rd, h.fed.hold.keep hf.keep h.was.off, h.fed.long, fun hx => ?_, fun x hx => ?_, hr, ?_⟩, hf.own.slice, SliceS.keep h.fed.own hf.keep (fun x hx e => ?_)⟩
  · rcases hf.near _ hx with k | k
    · exact h.was.off k
    · omega
  · rcases hf.near x hx with k | k
    · exact h.was.low x k
    · omega
  · refine h.was.below.trans ((h.fed.keep.below (by omega) (fun x hx => ?_)).trans (hf.keep.below (by omega) h.was.low))
    have hx : x = g + 1 := hx
    omega
  · have h1 := h.fed.far x hx
    have h2 := h.was.rd.lt e
    omega

theorem Second.rd {w : World} {g : Nat} {wr w1 : World} {s s' : Frame.R} {vr : Value} {lg : Bool} {t2 : Value} {lg' : Bool} (h : Second w g wr w1 s s' vr lg t2 lg') : Rd w1 g vr s.piece s.bad :=
  h.was.rd.keep h.fed.keep (fun x hx e => h.was.off (by have e : x = g + 1 := e; rw [e] at hx; exact hx))
theorem First.hold {w : World} {g : Nat} {wr w1 : World} {s s' : Frame.R} {vr : Value} {lg : Bool} {t1 v1 : Value} (h : First w g wr w1 s s' vr lg t1 v1) : Holds w1 (g + 1) [.string (tx s.piece), .bool lg, .int .i64 (s.bad : Int)] 33 :=
  h.was.hold.keep h.fed.keep h.was.off

theorem Both.new (w : World) : Both w w.heap.size ((w.alloc (.cells #[.slice none 0 0, .int .i64 0] 44)).alloc (.cells #[.string ⟨#[]⟩, .bool false, .int .i64 0] 33)) ⟨[], 0, []⟩ (.slice none 0 0) false := by
  have h1 := Rd.new w
  have hlow : ∀ x, RdAt w.heap.size (.slice none 0 0) x → x = w.heap.size := fun x hx => by
    rcases hx with h | h
    · exact h
    · simp [At, Value.ownBlock] at h
  refine ⟨h1.keep (Keep.alloc Non _ _) (fun _ _ h => h), ?_, by simp, fun h => by have := hlow _ h; omega, fun x hx => by rw [hlow x hx]; exact Nat.le_refl _, by simp, grew (grew_alloc _ _) (grew_alloc _ _)⟩
  have h2 := Holds.new (w.alloc (.cells #[.slice none 0 0, .int .i64 0] 44)) [.string ⟨#[]⟩, .bool false, .int .i64 0] 33
  rw [heap_push_size] at h2
  exact h2

theorem Both.grew {w : World} {g : Nat} {wr w1 : World} {s : Frame.R} {vr : Value} {lg : Bool} (h : Both w g wr s vr lg) (hb : Below wr.heap.size wr w1) : Both w g w1 s vr lg :=
  ⟨h.rd.keep (Keep.of_grew hb Non) (fun _ _ h => h), h.hold.keep (Keep.of_grew hb Non) (fun h => h), h.long, h.off, h.low, h.room, h.below.trans (hb.mono (by have := h.hold.lt; omega))⟩
theorem Both.drew {w : World} {g : Nat} {wr : World} {s : Frame.R} {vr : Value} {lg : Bool} (h : Both w g wr s vr lg) : Both w g wr.drew s vr lg := h.grew (grew_drew wr)
theorem Both.strip {w : World} {g : Nat} {wr : World} {s : Frame.R} {vr : Value} {lg : Bool} (h : Both w g wr s vr lg) : Both w g wr ⟨s.piece, s.bad, []⟩ vr lg := ⟨h.rd, h.hold, h.long, h.off, h.low, h.room, h.below⟩
theorem First.below {w : World} {g : Nat} {wr w1 : World} {s s' : Frame.R} {vr : Value} {lg : Bool} {t1 v1 : Value} (h : First w g wr w1 s s' vr lg t1 v1) : Below g w w1 :=
  h.was.below.trans (h.fed.keep.below (by have := h.was.hold.lt; omega) h.was.low)
theorem Second.below {w : World} {g : Nat} {wr w1 : World} {s s' : Frame.R} {vr : Value} {lg : Bool} {t2 : Value} {lg' : Bool} (h : Second w g wr w1 s s' vr lg t2 lg') : Below g w w1 :=
  h.was.below.trans (h.fed.keep.below (by have := h.was.hold.lt; omega) (fun x hx => by have hx : x = g + 1 := hx; omega))
theorem Told.grew {w : World} {g : Nat} {wr w1 : World} {s : Frame.R} {t1 t2 : Value} (h : Told w g wr s t1 t2) (hb : Below wr.heap.size wr w1) : Told w g w1 s t1 t2 := by
  obtain ⟨⟨vr, lg, h1⟩, h2, h3⟩ := h
  exact ⟨⟨vr, lg, h1.grew hb⟩, h2.below hb, h3.below hb⟩
theorem Told.cell {w : World} {g : Nat} {wr : World} {s : Frame.R} {t1 t2 : Value} (h : Told w g wr s t1 t2) : wr.cell? ⟨g + 1, 2, none⟩ = some (.int .i64 (s.bad : Int)) := by
  obtain ⟨⟨vr, lg, h1⟩, h2, h3⟩ := h
  exact h1.hold.cell 2 (by simp)
theorem told_Bad {w : World} {g : Nat} {wr : World} {s : Frame.R} {t1 t2 : Value} (h : Told w g wr s t1 t2) : Calls Try.prog 18 #[ptr g] wr fun e w' => e = .returned (.int .i64 (s.bad : Int)) ∧ wr = w' := by
  obtain ⟨⟨vr, lg, h1⟩, h2, h3⟩ := h
  exact frame_Bad g vr _ _ wr h1.rd

set_option maxRecDepth 100000 in
set_option maxHeartbeats 4000000 in
theorem walk_FrameFeeds (a : Option Addr) (len cap : Nat) (ss : List ByteArray) (w : World) (hv : IsStrs w a len cap ss) :
    Calls Try.prog 4 #[.slice a len cap] w fun e w' => e = .returned (.bool true) ∧ Below w.heap.size w w' := by
  obtain ⟨ts, hsl, hm, hz⟩ := hv.slice
  generalize hV : Value.slice a len cap = V at *
  clear hV hv
  have HSL := Lib.hid hsl
  have HM := Lib.hid hm
  have HZ := Lib.hid hz
  clear hm hz
  by_cases hsh : shortB ts = true
  · obtain ⟨h40, h3000⟩ := of_decide_eq_true hsh
    have HSH := Lib.hid hsh
    have H3 := Lib.hid h3000
    clear h3000 hsh
    obtain ⟨a, cap, rfl, hcap, hrow⟩ := hsl
    have HROW := Lib.hid hrow
    clear hrow
    go_enter Try.func4, Try.ntmps4
    go_wp2_with fail
    refine (law03_short _ ts _ HSL.out HM.out HZ.out).mono ?_
    rintro e w1 ⟨rfl, rfl⟩
    rw [HSH.out]
    go_wp2_with fail
    refine (frame_New _).mono ?_
    rintro e w3 ⟨rfl, rfl⟩
    unfold ptr
    go_wp2
    go_loopw [5] (fun i wr => ∃ (k : Nat) (p : List UInt8) (b : Nat) (vr : Value) (lg : Bool), k ≤ ts.length ∧ i = .int .i64 k ∧ b ≤ 3000 * k ∧ Both w w.heap.size wr ⟨p, b, []⟩ vr lg) (fun i _ => ts.length - (intOf i).toNat)
    case atStart => exact ⟨0, [], 0, _, false, by omega, rfl, by omega, Both.new w⟩
    case round =>
      obtain ⟨k, p, b, vr, lg, hk, rfl, hbk, hboth⟩ := hrel
      have HB := Lib.hid hboth
      clear hboth
      by_cases hlt : k < ts.length
      · have hdk : decide ((k : Int) < (ts.length : Int)) = true := by simp; omega
        have hdn : decide (k < ts.length) = true := by simpa using hlt
        have hia : (k : Int) < (ts.length : Int) := by omega
        rcases HROW.out with h | ⟨blk, off, rfl, hblk, hcells⟩
        · subst h; simp at hlt
        · have hcell : ∀ x, Below w.heap.size w x → x.cell? ⟨blk, off + k, none⟩ = some (.string ts[k]) := fun x hx => by
            rw [hx.cell (p := ⟨blk, off + k, none⟩) hblk]; exact hcells k hlt
          have HC := Lib.hid hcell
          have hcell := hcell wr HB.out.below
          clear hcells
          have h3 := H3.out _ (List.getElem_mem hlt)
          generalize ts[k] = T at *
          have hroom := HB.out.room
          simp only at hroom
          have hr1 := Frame.feed_piece T.data.toList ⟨p, b, []⟩ hroom
          have hr2 := Frame.feed_bad T.data.toList ⟨p, b, []⟩
          have hr3 := feed_toldlen T.data.toList ⟨p, b, []⟩
          rw [size_list] at hr2 hr3
          simp only [List.length_nil] at hr2 hr3
          have HR3 : Hid ((strs (Frame.feed ⟨p, b, []⟩ T.data.toList).told).length ≤ 3000) := Lib.hid (by unfold strs; rw [List.length_map]; omega)
          generalize hst : Frame.feed ⟨p, b, []⟩ T.data.toList = st at *
          have HST := Lib.hid hst
          clear hst hr3
          go_wp2
          go_region_with (first
            | (go_at_call 16; (refine (frame_Feed w.heap.size vr p b T _ HP2.out.rd hroom (by omega)).mono ?_); rintro e w1 ⟨t1, v1, rfl, hf⟩; rw [HST.out] at hf; have HT := Lib.hid (HP2.out.then hf hr1); clear hf)
            | (go_at_call 16; (refine (frame_Feed w.heap.size vr p b T _ HB.out.drew.rd hroom (by omega)).mono ?_); rintro e w1 ⟨t1, v1, rfl, hf⟩; rw [HST.out] at hf; have HP1 := Lib.hid (First.mk HB.out.drew hf); have hcell1 := HC.out w1 HP1.out.below; clear hf)
            | (go_at_call 17; (refine (ref03_Feed (w.heap.size + 1) p lg b T _ HP1.out.hold HB.out.long hroom (by omega)).mono ?_); rintro e w1 ⟨t1, v1, rfl, hf⟩; rw [HST.out] at hf; have HT := Lib.hid (HP1.out.then hf hr1); clear hf)
            | (go_at_call 17; (refine (ref03_Feed (w.heap.size + 1) p lg b T _ HB.out.drew.hold HB.out.long hroom (by omega)).mono ?_); rintro e w1 ⟨t1, v1, rfl, hf⟩; rw [HST.out] at hf; have HP2 := Lib.hid (Second.mk HB.out.drew hf); have hcell1 := HC.out w1 HP2.out.below; clear hf)
            | (go_at_call 15; (refine (ref03_Texts _ _ _ _ _ HT.out.one HT.out.two (by have := HR3.out; omega) (by have := HR3.out; unfold maxLen; omega)).mono ?_); rintro e w3 ⟨rfl, hb3⟩; rw [show sameS (strs st.told) (strs st.told) = true from by simp [sameS]]; have HT3 := Lib.hid (HT.out.grew hb3); have cbad := HT3.out.cell; clear hb3)
            | (go_at_call 18; (refine (told_Bad HT3.out).mono ?_); rintro e w4 ⟨rfl, rfl⟩))
          all_goals
            go_wp2
            go_roundw
            case rel =>
              obtain ⟨vr', lg', hb'⟩ := HT3.out.both
              exact ⟨k + 1, st.piece, st.bad, vr', lg', by omega, by go_num, by omega, hb'.strip⟩
            case measure => simp [intOf]; omega
      · have hdn : decide (k < ts.length) = false := by simpa using hlt
        go_wp2_with fail
        refine (law03_live _).mono ?_
        rintro e w3 ⟨rfl, hb3⟩
        go_wp2
        go_ret
        exact ⟨rfl, grew HB.out.below hb3⟩
  · have HSH : Hid (shortB ts = false) := Lib.hid (by simpa using hsh)
    clear hsh hsl
    go_enter Try.func4, Try.ntmps4
    go_wp2_with fail
    refine (law03_short _ ts _ HSL.out HM.out HZ.out).mono ?_
    rintro e w1 ⟨rfl, rfl⟩
    rw [HSH.out]
    go_wp2_with fail
    refine (law03_live _).mono ?_
    rintro e w3 ⟨rfl, hb3⟩
    go_wp2
    go_ret
    exact ⟨rfl, hb3⟩
end Go.Proofs.Ytlmigmejfkflmaa
