/- What live of layer 19 comes to. -/
import Derived.Test.YtepddieblankpaaDoorSeDuo
namespace Srch
open Go
def ls3 : List ByteArray := [⟨#[108, 115]⟩, ⟨#[99, 100]⟩, ⟨#[108, 115, 32, 120]⟩]
def ls2 : List ByteArray := [⟨#[108, 115]⟩, ⟨#[99, 100]⟩]
def tl : ByteArray := ⟨#[108]⟩
def tlz : ByteArray := ⟨#[108, 122]⟩
theorem enc_l : ByteArray.empty ++ Utf8.encode 108 = tl := by kernel_rfl
theorem enc_lz : tl ++ Utf8.encode 122 = tlz := by kernel_rfl
theorem fit1 : lastFit ls3 tl 3 = some 2 := by kernel_rfl
theorem fit2 : lastFit ls3 tl 2 = some 0 := by kernel_rfl
theorem fit3 : lastFit ls3 tl 0 = none := by kernel_rfl
theorem fit4 : lastFit ls3 tlz 1 = none := by kernel_rfl
theorem cnt0 : Go.Lib.runeCount ByteArray.empty = 0 := by kernel_rfl
theorem cnt1 : Go.Lib.runeCount tl = 1 := by kernel_rfl
theorem fit1' : lastFit ls3 tl ls3.length = some 2 := fit1
def mine : ByteArray := ⟨#[109, 105, 110, 101]⟩
end Srch
namespace Go.Proofs.YtepddieblankpaaDoor
open Go.RowKit Go.Shelf
set_option linter.unusedVariables false

/-- A search and a Browse, just made. -/
theorem Duo.made {w0 w1 w2 : World} {p : Nat} {v : Value} {ts tb : List ByteArray} {own : ByteArray} {pb : Nat} {a : Option Addr} {cap : Nat} (hk : Kit w0) (hs : Sea w1 p v ts ByteArray.empty 0 false) (hb : Below w0.heap.size w0 w1) (hp : w0.heap.size ≤ p) (hv : ∀ g, v.ownBlock = some g → w0.heap.size ≤ g ∧ g < w1.heap.size)
    (hr : Bro w2 pb a cap tb own tb.length) (hl : ∀ k, BroB pb a k → w1.heap.size ≤ k) (hb2 : Below w1.heap.size w1 w2) : Duo w0 w2 p v ts ByteArray.empty 0 false pb a cap tb own tb.length :=
  ⟨hs.below hb2, hr, (hk.below hb).below hb2, grew hb hb2, hp, fun i hi => ⟨Nat.le_trans hb.size (hl i hi), fun e => by have := hl i hi; have := hs.box.lt; omega, fun e => by have := hl i hi; have := (hv i e).2; omega⟩, hk.lt.2.1, hk.lt.2.2, hk.lt.1⟩

set_option maxRecDepth 100000 in
set_option maxHeartbeats 8000000 in
theorem law19_live (w : World) (hk : Kit w) : Calls Tryd.prog 15 #[] w fun e w' => e = .returned (.bool true) ∧ Below w.heap.size w w' := by
  have HK := Lib.hid hk
  clear hk
  go_enter Tryd.func15, Tryd.ntmps15
  go_wp2_with fail
  refine (search_New _ Srch.ls3 _ (lit_texts w Srch.ls3 _) (by decide) (by decide) (HK.out.1.below (grew_alloc _ _))).mono ?_
  rintro e w1 ⟨p, v, rfl, hp, hv, hs, hb⟩
  have H1 := Lib.hid (And.intro hs (And.intro (grew (grew_alloc w _) hb) (And.intro (show w.heap.size ≤ p from by simp at hp; omega) (fun g hg => show w.heap.size ≤ g ∧ g < w1.heap.size from ⟨by have := (hv g hg).1; simp at this; omega, (hv g hg).2⟩))))
  clear hp hv hs hb
  go_wp2_with fail
  refine (browse_Start _ Srch.ls2 _ _ (lit_texts w1 Srch.ls2 _) (by decide)).mono ?_
  rintro e w2 ⟨pb, a, cap, rfl, hr, hl, hb⟩
  have D0 : Hid (Duo w w2 p v Srch.ls3 ByteArray.empty 0 false pb a cap Srch.ls2 ⟨#[111, 119, 110]⟩ 2) := Lib.hid (Duo.made HK.out H1.out.1 H1.out.2.1 H1.out.2.2.1 H1.out.2.2.2 hr (fun k hk => by have := (hl k hk).1; simp at this; omega) (grew (grew_alloc w1 _) hb))
  clear hr hl hb H1
  go_wp2_with fail
  refine (search_Type D0.out.sea (r := 108) (by decide) (by decide) (by rw [Srch.cnt0]; decide) (k := 3) (by decide) rfl).mono ?_
  rintro e w3 ⟨rfl, hs, hk⟩
  have D1 : Hid (Duo w w3 p v Srch.ls3 Srch.tl 2 true pb a cap Srch.ls2 ⟨#[111, 119, 110]⟩ 2) := Lib.hid (by rw [Srch.enc_l, Srch.fit1] at hs; exact D0.out.ask hs hk)
  clear hs hk D0
  rw [Srch.enc_l, Srch.fit1]
  go_wp2_with fail
  refine (search_Found_yes (pl := 2) D1.out.sea (by decide)).mono ?_
  rintro e w4 ⟨rfl, hb⟩
  have D2 : Hid (Duo w w4 p v Srch.ls3 Srch.tl 2 true pb a cap Srch.ls2 ⟨#[111, 119, 110]⟩ 2) := Lib.hid (D1.out.below hb)
  clear hb D1
  rw [show Srch.ls3[2]'(by decide) = (⟨#[108, 115, 32, 120]⟩ : ByteArray) from rfl]
  go_wp2_with fail
  refine (search_Back (pl := 2) D2.out.sea (by decide)).mono ?_
  rintro e w5 ⟨rfl, hs, hk⟩
  have D3 : Hid (Duo w w5 p v Srch.ls3 Srch.tl 0 true pb a cap Srch.ls2 ⟨#[111, 119, 110]⟩ 2) := Lib.hid (by rw [Srch.fit2] at hs; exact D2.out.ask hs hk)
  clear hs hk D2
  rw [Srch.fit2]
  go_wp2_with fail
  refine (search_Found_yes (pl := 0) D3.out.sea (by decide)).mono ?_
  rintro e w6 ⟨rfl, hb⟩
  have D4 : Hid (Duo w w6 p v Srch.ls3 Srch.tl 0 true pb a cap Srch.ls2 ⟨#[111, 119, 110]⟩ 2) := Lib.hid (D3.out.below hb)
  clear hb D3
  rw [show Srch.ls3[0]'(by decide) = (⟨#[108, 115]⟩ : ByteArray) from rfl]
  go_wp2_with fail
  refine (search_Back (pl := 0) D4.out.sea (by decide)).mono ?_
  rintro e w7 ⟨rfl, hs, hk⟩
  have D5 : Hid (Duo w w7 p v Srch.ls3 Srch.tl 0 true pb a cap Srch.ls2 ⟨#[111, 119, 110]⟩ 2) := Lib.hid (by rw [Srch.fit3] at hs; exact D4.out.ask hs hk)
  clear hs hk D4
  rw [Srch.fit3]
  go_wp2_with fail
  refine (search_Type D5.out.sea (r := 122) (by decide) (by decide) (by rw [Srch.cnt1]; decide) (k := 1) (by decide) rfl).mono ?_
  rintro e w8 ⟨rfl, hs, hk⟩
  have D6 : Hid (Duo w w8 p v Srch.ls3 Srch.tlz 0 false pb a cap Srch.ls2 ⟨#[111, 119, 110]⟩ 2) := Lib.hid (by rw [Srch.enc_lz, Srch.fit4] at hs; exact D5.out.ask hs hk)
  clear hs hk D5
  rw [Srch.enc_lz, Srch.fit4]
  go_wp2_with fail
  refine (search_Found_no D6.out.sea.box).mono ?_
  rintro e w9 ⟨rfl, hw⟩
  have D7 : Hid (Duo w w9 p v Srch.ls3 Srch.tlz 0 false pb a cap Srch.ls2 ⟨#[111, 119, 110]⟩ 2) := Lib.hid (by rw [← hw]; exact D6.out)
  clear D6
  clear hw
  go_wp2_with fail
  refine (search_Rub_more D7.out.sea D7.out.kit.2 (fun e => by have := D7.out.low; have := D7.out.tab.1; omega) (fun e => by have := D7.out.low; have := D7.out.tab.2.1; omega) (r := 122) (.inl (by decide)) Srch.enc_lz.symm (by decide) (by decide)).mono ?_
  rintro e w10 ⟨rfl, hs, hk⟩
  have D8 : Hid (Duo w w10 p v Srch.ls3 Srch.tl 2 true pb a cap Srch.ls2 ⟨#[111, 119, 110]⟩ 2) := Lib.hid (by rw [Srch.fit1'] at hs; exact D7.out.ask hs hk)
  clear hs hk D7
  rw [Srch.fit1']
  go_wp2_with fail
  refine (search_Found_yes (pl := 2) D8.out.sea (by decide)).mono ?_
  rintro e w11 ⟨rfl, hb⟩
  have D9 : Hid (Duo w w11 p v Srch.ls3 Srch.tl 2 true pb a cap Srch.ls2 ⟨#[111, 119, 110]⟩ 2) := Lib.hid (D8.out.below hb)
  clear hb D8
  rw [show Srch.ls3[2]'(by decide) = (⟨#[108, 115, 32, 120]⟩ : ByteArray) from rfl]
  go_wp2_with fail
  refine (browse_Edit D9.out.bro Srch.mine).mono ?_
  rintro e w12 ⟨⟨u, rfl⟩, hs, hk⟩
  have D10 : Hid (Duo w w12 p v Srch.ls3 Srch.tl 2 true pb a cap Srch.ls2 Srch.mine 2) := Lib.hid (D9.out.turn hs hk)
  clear hs hk D9
  go_wp2_with fail
  refine (browse_Up D10.out.bro).mono ?_
  rintro e w13 ⟨rfl, hs, hk⟩
  have D11 : Hid (Duo w w13 p v Srch.ls3 Srch.tl 2 true pb a cap Srch.ls2 Srch.mine 1) := Lib.hid (D10.out.move hs hk)
  clear hs hk D10
  go_wp2_with fail
  refine (browse_Up D11.out.bro).mono ?_
  rintro e w14 ⟨rfl, hs, hk⟩
  have D12 : Hid (Duo w w14 p v Srch.ls3 Srch.tl 2 true pb a cap Srch.ls2 Srch.mine 0) := Lib.hid (D11.out.move hs hk)
  clear hs hk D11
  go_wp2_with fail
  refine (browse_Up D12.out.bro).mono ?_
  rintro e w15 ⟨rfl, hs, hk⟩
  have D13 : Hid (Duo w w15 p v Srch.ls3 Srch.tl 2 true pb a cap Srch.ls2 Srch.mine 0) := Lib.hid (D12.out.move hs hk)
  clear hs hk D12
  go_wp2_with fail
  refine (browse_Line D13.out.bro).mono ?_
  rintro e w16 ⟨rfl, hq⟩
  have hb : Below w15.heap.size w15 w16 := by obtain ⟨n, rfl⟩ := hq; exact grew_drewN _ _
  have D14 : Hid (Duo w w16 p v Srch.ls3 Srch.tl 2 true pb a cap Srch.ls2 Srch.mine 0) := Lib.hid (D13.out.below hb)
  clear hb D13
  rw [show lineOf Srch.ls2 Srch.mine 0 = (⟨#[108, 115]⟩ : ByteArray) from rfl]
  go_wp2_with fail
  refine (browse_Down D14.out.bro).mono ?_
  rintro e w17 ⟨rfl, hs, hk⟩
  have D15 : Hid (Duo w w17 p v Srch.ls3 Srch.tl 2 true pb a cap Srch.ls2 Srch.mine 1) := Lib.hid (D14.out.move hs hk)
  clear hs hk D14
  rw [show canDown Srch.ls2.length 0 = true from rfl]
  go_wp2_with fail
  refine (browse_Down D15.out.bro).mono ?_
  rintro e w18 ⟨rfl, hs, hk⟩
  have D16 : Hid (Duo w w18 p v Srch.ls3 Srch.tl 2 true pb a cap Srch.ls2 Srch.mine 2) := Lib.hid (D15.out.move hs hk)
  clear hs hk D15
  rw [show canDown Srch.ls2.length 1 = true from rfl]
  go_wp2_with fail
  refine (browse_Down D16.out.bro).mono ?_
  rintro e w19 ⟨rfl, hs, hk⟩
  have D17 : Hid (Duo w w19 p v Srch.ls3 Srch.tl 2 true pb a cap Srch.ls2 Srch.mine 2) := Lib.hid (D16.out.move hs hk)
  clear hs hk D16
  rw [show canDown Srch.ls2.length 2 = false from rfl]
  go_wp2_with fail
  refine (browse_Line D17.out.bro).mono ?_
  rintro e w20 ⟨rfl, hq⟩
  have hb : Below w19.heap.size w19 w20 := by obtain ⟨n, rfl⟩ := hq; exact grew_drewN _ _
  have D18 : Hid (Duo w w20 p v Srch.ls3 Srch.tl 2 true pb a cap Srch.ls2 Srch.mine 2) := Lib.hid (D17.out.below hb)
  clear hb D17
  rw [show lineOf Srch.ls2 Srch.mine 2 = (⟨#[109, 105, 110, 101]⟩ : ByteArray) from rfl]
  go_wp2_with fail
  refine (search_Query D18.out.sea.box).mono ?_
  rintro e w21 ⟨rfl, hw⟩
  have D19 : Hid (Duo w w21 p v Srch.ls3 Srch.tl 2 true pb a cap Srch.ls2 Srch.mine 2) := Lib.hid (by rw [← hw]; exact D18.out)
  clear D18
  rw [show Srch.tl = (⟨#[108]⟩ : ByteArray) from rfl]
  go_wp2
  go_ret
  exact ⟨rfl, D19.out.bel⟩
end Go.Proofs.YtepddieblankpaaDoor
