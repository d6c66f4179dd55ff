/- UTF-8, plainly: runes are decoded as they were written, from either end, and counted. -/
import Derived.Lib.SpaceUEq
import Derived.Lib.RuneCountTail
import Derived.Lib.TrimUEq
import Derived.Lib.SmallJoins
import Derived.Test.YtepddieblankpaaDoorHead
namespace Ut
open Go Go.Lib

/-- A rune that may be written. -/
def Ok (r : Nat) : Prop := r < 55296 ∨ (57344 ≤ r ∧ r ≤ 1114111)
/-- A rune's bytes. -/
def enc (r : Int) : List UInt8 := (Utf8.encode r).data.toList
theorem valid_ok {r : Nat} (h : Ok r) : Utf8.valid (r : Int) = true := by
  unfold Ok at h
  simp [Utf8.valid]; omega
set_option maxRecDepth 100000 in
theorem enc1 {r : Nat} (c1 : r < 128) : enc (r : Int) = [UInt8.ofNat r] := by
  have v : Utf8.valid (r : Int) = true := valid_ok (by unfold Ok; omega)
  simp [enc, Utf8.encode, v, c1]
set_option maxRecDepth 100000 in
theorem enc2 {r : Nat} (c1 : ¬ r < 128) (c2 : r < 2048) : enc (r : Int) = [UInt8.ofNat (192 + r / 64), UInt8.ofNat (128 + r % 64)] := by
  have v : Utf8.valid (r : Int) = true := valid_ok (by unfold Ok; omega)
  simp [enc, Utf8.encode, v, c1, c2]
set_option maxRecDepth 100000 in
theorem enc3 {r : Nat} (c2 : ¬ r < 2048) (c3 : r < 65536) (hv : Ok r) : enc (r : Int) = [UInt8.ofNat (224 + r / 4096), UInt8.ofNat (128 + r / 64 % 64), UInt8.ofNat (128 + r % 64)] := by
  have v : Utf8.valid (r : Int) = true := valid_ok hv
  have c1 : ¬ r < 128 := by omega
  simp [enc, Utf8.encode, v, c1, c2, c3]
set_option maxRecDepth 100000 in
theorem enc4 {r : Nat} (c3 : ¬ r < 65536) (hv : Ok r) : enc (r : Int) = [UInt8.ofNat (240 + r / 262144), UInt8.ofNat (128 + r / 4096 % 64), UInt8.ofNat (128 + r / 64 % 64), UInt8.ofNat (128 + r % 64)] := by
  have v : Utf8.valid (r : Int) = true := valid_ok hv
  have c1 : ¬ r < 128 := by omega
  have c2 : ¬ r < 2048 := by omega
  simp [enc, Utf8.encode, v, c1, c2, c3]
theorem byte_nat {n : Nat} (h : n < 256) : (UInt8.ofNat n).toNat = n := by simp; omega

theorem enc_len {r : Nat} (hv : Ok r) : 1 ≤ (enc (r : Int)).length ∧ (enc (r : Int)).length ≤ 4 := by
  by_cases c1 : r < 128
  · rw [enc1 c1]; simp
  by_cases c2 : r < 2048
  · rw [enc2 c1 c2]; simp
  by_cases c3 : r < 65536
  · rw [enc3 c2 c3 hv]; simp
  · rw [enc4 c3 hv]; simp

/-- What is written is read, whatever is behind it. -/
theorem dec_enc {r : Nat} (hv : Ok r) (t : List UInt8) : decodeL (enc (r : Int) ++ t) = (r, (enc (r : Int)).length) := by
  have hv' := hv
  unfold Ok at hv'
  by_cases c1 : r < 128
  · rw [enc1 c1, decodeL_N]
    simp only [List.cons_append, List.nil_append, List.getD_cons_zero, byte_nat (show r < 256 by omega)]
    unfold decodeN
    rw [if_pos c1]; rfl
  by_cases c2 : r < 2048
  · rw [enc2 c1 c2, decodeL_N]
    simp only [List.cons_append, List.nil_append, List.getD_cons_zero, List.getD_cons_succ, List.length_cons, byte_nat (show 192 + r / 64 < 256 by omega), byte_nat (show 128 + r % 64 < 256 by omega)]
    unfold decodeN
    rw [if_neg (by omega), if_pos (by omega), if_pos (by omega)]
    simp only [Prod.mk.injEq]
    exact ⟨by omega, rfl⟩
  by_cases c3 : r < 65536
  · rw [enc3 c2 c3 hv, decodeL_N]
    simp only [List.cons_append, List.nil_append, List.getD_cons_zero, List.getD_cons_succ, List.length_cons, byte_nat (show 224 + r / 4096 < 256 by omega), byte_nat (show 128 + r / 64 % 64 < 256 by omega), byte_nat (show 128 + r % 64 < 256 by omega)]
    unfold decodeN
    rw [if_neg (by omega), if_neg (by omega), if_pos (by omega), if_pos (by omega)]
    simp only [Prod.mk.injEq]
    exact ⟨by omega, rfl⟩
  · rw [enc4 c3 hv, decodeL_N]
    simp only [List.cons_append, List.nil_append, List.getD_cons_zero, List.getD_cons_succ, List.length_cons, byte_nat (show 240 + r / 262144 < 256 by omega), byte_nat (show 128 + r / 4096 % 64 < 256 by omega), byte_nat (show 128 + r / 64 % 64 < 256 by omega), byte_nat (show 128 + r % 64 < 256 by omega)]
    unfold decodeN
    rw [if_neg (by omega), if_neg (by omega), if_neg (by omega), if_pos (by omega), if_pos (by omega)]
    simp only [Prod.mk.injEq]
    exact ⟨by omega, rfl⟩

theorem last1 (t : List UInt8) (c0 : UInt8) (h0 : c0.toNat < 128) : decodeLastL (t ++ [c0]) = (c0.toNat, 1) := by
  have g1 := getD_app_end t [c0] 1 (by omega) (by simp)
  unfold decodeLastL
  rw [if_neg (by simp), g1]
  rw [if_pos (by simpa using h0)]
  rfl
theorem last4 (t : List UInt8) (c0 c1 c2 c3 : UInt8) (h3 : 128 ≤ c3.toNat) (h2 : runeStartB c2 = false) (h1 : runeStartB c1 = false) (h0 : runeStartB c0 = true) (hd : (decodeL [c0, c1, c2, c3]).2 = 4) : decodeLastL (t ++ [c0, c1, c2, c3]) = decodeL [c0, c1, c2, c3] := by
  have g1 := getD_app_end t [c0, c1, c2, c3] 1 (by omega) (by simp)
  have g2 := getD_app_end t [c0, c1, c2, c3] 2 (by omega) (by simp)
  have g3 := getD_app_end t [c0, c1, c2, c3] 3 (by omega) (by simp)
  have g4 := getD_app_end t [c0, c1, c2, c3] 4 (by omega) (by simp)
  have hl : (t ++ [c0, c1, c2, c3]).length = t.length + 4 := by simp
  have hs : lastStart (t ++ [c0, c1, c2, c3]) = (t ++ [c0, c1, c2, c3]).length - 4 := by
    unfold lastStart
    simp only [g2, g3, g4]
    rw [if_neg (by omega)]
    simp only [List.length_cons, List.length_nil, List.getD_cons_succ, List.getD_cons_zero, Nat.reduceAdd, Nat.reduceSub, h2, h1, h0, Bool.false_eq_true, if_false, if_true]
    rw [if_neg (by omega), if_neg (by omega)]
  have hdrop := drop_app_end t [c0, c1, c2, c3]
  unfold decodeLastL
  rw [if_neg (by simp), g1, if_neg (by simp; omega), hs]
  simp only [List.length_cons, List.length_nil] at hdrop
  simp only [hdrop, hd]
  rw [if_pos (by omega)]

theorem start_no {n : Nat} (h : n < 64) : runeStartB (UInt8.ofNat (128 + n)) = false := by
  unfold runeStartB
  rw [byte_nat (by omega)]
  simp; omega
theorem start_yes {n : Nat} (h : 192 ≤ n) (g : n < 256) : runeStartB (UInt8.ofNat n) = true := by
  unfold runeStartB
  rw [byte_nat (by omega)]
  simp; omega

/-- What is written last is read from the end. -/
theorem last_enc {r : Nat} (hv : Ok r) (t : List UInt8) : decodeLastL (t ++ enc (r : Int)) = (r, (enc (r : Int)).length) := by
  have hd := dec_enc hv []
  rw [List.append_nil] at hd
  have hv' := hv
  unfold Ok at hv'
  by_cases c1 : r < 128
  · rw [enc1 c1, last1 _ _ (by rw [byte_nat (by omega)]; exact c1), byte_nat (by omega)]; rfl
  by_cases c2 : r < 2048
  · rw [enc2 c1 c2] at hd ⊢
    rw [last2 _ _ _ (by rw [byte_nat (by omega)]; omega) (start_yes (by omega) (by omega)) (by rw [hd]; rfl), hd]
  by_cases c3 : r < 65536
  · rw [enc3 c2 c3 hv] at hd ⊢
    rw [last3 _ _ _ _ (by rw [byte_nat (by omega)]; omega) (start_no (by omega)) (start_yes (by omega) (by omega)) (by rw [hd]; rfl), hd]
  · rw [enc4 c3 hv] at hd ⊢
    rw [last4 _ _ _ _ _ (by rw [byte_nat (by omega)]; omega) (start_no (by omega)) (start_no (by omega)) (start_yes (by omega) (by omega)) (by rw [hd]; rfl), hd]

/-- A row of runes as a text. -/
def text (q : List Int) : ByteArray := q.foldl (fun s r => s ++ Utf8.encode r) ByteArray.empty
theorem text_nil : text [] = ByteArray.empty := rfl
theorem text_snoc (q : List Int) (r : Int) : text (q ++ [r]) = text q ++ Utf8.encode r := by simp [text, List.foldl_append]
theorem foldl_data (q : List Int) (s : ByteArray) : (q.foldl (fun s r => s ++ Utf8.encode r) s).data.toList = s.data.toList ++ q.flatMap enc := by
  induction q generalizing s with
  | nil => simp
  | cons r q ih =>
    simp only [List.foldl_cons, List.flatMap_cons]
    rw [ih, Joins.data_append, List.append_assoc]
    rfl
theorem text_data (q : List Int) : (text q).data.toList = q.flatMap enc := by
  unfold text; rw [foldl_data]; rfl
theorem text_of {s : ByteArray} {q : List Int} (h : s.data.toList = q.flatMap enc) : s = text q := ByteArray.ext (Array.toList_inj.1 (by rw [h, text_data]))

theorem count_cons {r : Nat} (hv : Ok r) (s u : ByteArray) (h : s.data.toList = enc (r : Int) ++ u.data.toList) : runeCount s = 1 + runeCount u := by
  have hl := enc_len hv
  have hsz : s.size = (enc (r : Int)).length + u.size := by
    have := congrArg List.length h
    simpa using this
  have hdec : Utf8.decode s 0 = (r, (enc (r : Int)).length) := by
    have := dec_enc hv u.data.toList
    rw [← h] at this
    exact this
  have hu : s.extract (enc (r : Int)).length s.size = u := by
    apply ByteArray.ext
    apply Array.toList_inj.1
    rw [Lib.extract_data, h, List.drop_left, List.take_of_length_le (by simp; omega)]
  obtain ⟨n, hn⟩ : ∃ n, s.size = n + 1 := ⟨s.size - 1, by omega⟩
  have e1 : runeCountFrom s (n + 1) 0 = 1 + runeCountFrom s n (enc (r : Int)).length := by
    rw [runeCountFrom, if_pos (by omega), hdec, Nat.zero_add]
  have ht := tail_count s (enc (r : Int)).length n 0
  rw [hu, Nat.add_zero] at ht
  show runeCountFrom s s.size 0 = 1 + runeCountFrom u u.size 0
  rw [hn, e1, ← ht]
  congr 1
  exact fuel_enough u n u.size 0 (by omega) (by omega)
theorem count_text (q : List Int) (h : ∀ r ∈ q, ∃ n : Nat, r = n ∧ Ok n) : runeCount (text q) = q.length := by
  induction q with
  | nil => rfl
  | cons r q ih =>
    obtain ⟨n, rfl, hv⟩ := h r (by simp)
    rw [count_cons hv (text ((n : Int) :: q)) (text q) (by rw [text_data, text_data]; rfl), ih (fun x hx => h x (by simp [hx]))]
    simp only [List.length_cons]; omega
theorem text_size (q : List Int) (h : ∀ r ∈ q, ∃ n : Nat, r = n ∧ Ok n) : q.length ≤ (text q).size ∧ (text q).size ≤ 4 * q.length := by
  have e : (text q).size = (q.flatMap enc).length := by rw [← text_data]; simp
  rw [e]
  clear e
  induction q with
  | nil => simp
  | cons r q ih =>
    obtain ⟨n, rfl, hv⟩ := h r (by simp)
    have := enc_len hv
    have := ih (fun x hx => h x (by simp [hx]))
    simp only [List.flatMap_cons, List.length_append, List.length_cons]
    omega
end Ut
