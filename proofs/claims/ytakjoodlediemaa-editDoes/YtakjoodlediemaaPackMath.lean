/- Plain mathematics of numbers, texts and lists as bytes: what is written, what is read, and that each undoes the other. -/
namespace Pack

/-- How many bytes a number has behind its first one. -/
def behind (n : Nat) : Nat := if n < 248 then 0 else if n < 256 then 1 else if n < 65536 then 2 else if n < 16777216 then 3 else 4

def by1 (n : Nat) : UInt8 := UInt8.ofNat n

/-- A number's bytes. -/
def num (n : Nat) : List UInt8 :=
  if n < 248 then [by1 n]
  else if n < 256 then [248, by1 n]
  else if n < 65536 then [249, by1 (n / 256), by1 n]
  else if n < 16777216 then [250, by1 (n / 65536), by1 (n / 256), by1 n]
  else [251, by1 (n / 16777216), by1 (n / 65536), by1 (n / 256), by1 n]

theorem by1_toNat (n : Nat) : (by1 n).toNat = n % 256 := UInt8.toNat_ofNat'

theorem num_len (n : Nat) : (num n).length = 1 + behind n := by
  unfold num behind
  repeat (first | rfl | split)

/-- The number that some bytes say, the highest first. -/
def value (l : List UInt8) : Nat := l.foldl (fun n c => n * 256 + c.toNat) 0

/-- What bytes begin with: the number, how many bytes it has, and the error's number. -/
def read (l : List UInt8) : Nat × Nat × Nat :=
  match l with
  | [] => (0, 0, 3)
  | c :: r =>
    if c.toNat < 248 then (c.toNat, 1, 0)
    else if c.toNat > 251 then (0, 0, 2)
    else if r.length < c.toNat - 247 then (0, 0, 3)
    else if behind (value (r.take (c.toNat - 247))) = c.toNat - 247 then (value (r.take (c.toNat - 247)), 1 + (c.toNat - 247), 0)
    else (0, 0, 2)

theorem read_cons (c : UInt8) (r : List UInt8) : read (c :: r) =
    if c.toNat < 248 then (c.toNat, 1, 0)
    else if c.toNat > 251 then (0, 0, 2)
    else if r.length < c.toNat - 247 then (0, 0, 3)
    else if behind (value (r.take (c.toNat - 247))) = c.toNat - 247 then (value (r.take (c.toNat - 247)), 1 + (c.toNat - 247), 0)
    else (0, 0, 2) := rfl

theorem value1 (a : UInt8) : value [a] = a.toNat := by simp [value]
theorem value2 (a b : UInt8) : value [a, b] = a.toNat * 256 + b.toNat := by simp [value]
theorem value3 (a b c : UInt8) : value [a, b, c] = (a.toNat * 256 + b.toNat) * 256 + c.toNat := by simp [value]
theorem value4 (a b c d : UInt8) : value [a, b, c, d] = ((a.toNat * 256 + b.toNat) * 256 + c.toNat) * 256 + d.toNat := by simp [value]

theorem num_read (n : Nat) (t : List UInt8) (hn : n < 4294967296) : read (num n ++ t) = (n, (num n).length, 0) := by
  by_cases h0 : n < 248
  · have e : num n = [by1 n] := by unfold num; rw [if_pos h0]
    have hb : (by1 n).toNat = n := by rw [by1_toNat]; omega
    rw [e, List.singleton_append, read_cons, hb, if_pos h0]; rfl
  · by_cases h1 : n < 256
    · have e : num n = [248, by1 n] := by unfold num; rw [if_neg h0, if_pos h1]
      have hv : value (List.take ((248 : UInt8).toNat - 247) (by1 n :: t)) = n := by
        show value [by1 n] = n
        rw [value1, by1_toNat]; omega
      have hbh : behind n = 1 := by unfold behind; rw [if_neg h0, if_pos h1]
      rw [e]
      show read (248 :: by1 n :: t) = _
      rw [read_cons, if_neg (by decide), if_neg (by decide), if_neg (by show ¬ (t.length + 1) < 1; omega), hv, if_pos (by rw [hbh]; rfl)]
      rfl
    · by_cases h2 : n < 65536
      · have e : num n = [249, by1 (n / 256), by1 n] := by unfold num; rw [if_neg h0, if_neg h1, if_pos h2]
        have hv : value (List.take ((249 : UInt8).toNat - 247) (by1 (n / 256) :: by1 n :: t)) = n := by
          show value [by1 (n / 256), by1 n] = n
          rw [value2, by1_toNat, by1_toNat]; omega
        have hbh : behind n = 2 := by unfold behind; rw [if_neg h0, if_neg h1, if_pos h2]
        rw [e]
        show read (249 :: by1 (n / 256) :: by1 n :: t) = _
        rw [read_cons, if_neg (by decide), if_neg (by decide), if_neg (by show ¬ (t.length + 1 + 1) < 2; omega), hv, if_pos (by rw [hbh]; rfl)]
        rfl
      · by_cases h3 : n < 16777216
        · have e : num n = [250, by1 (n / 65536), by1 (n / 256), by1 n] := by unfold num; rw [if_neg h0, if_neg h1, if_neg h2, if_pos h3]
          have hv : value (List.take ((250 : UInt8).toNat - 247) (by1 (n / 65536) :: by1 (n / 256) :: by1 n :: t)) = n := by
            show value [by1 (n / 65536), by1 (n / 256), by1 n] = n
            rw [value3, by1_toNat, by1_toNat, by1_toNat]; omega
          have hbh : behind n = 3 := by unfold behind; rw [if_neg h0, if_neg h1, if_neg h2, if_pos h3]
          rw [e]
          show read (250 :: by1 (n / 65536) :: by1 (n / 256) :: by1 n :: t) = _
          rw [read_cons, if_neg (by decide), if_neg (by decide), if_neg (by show ¬ (t.length + 1 + 1 + 1) < 3; omega), hv, if_pos (by rw [hbh]; rfl)]
          rfl
        · have e : num n = [251, by1 (n / 16777216), by1 (n / 65536), by1 (n / 256), by1 n] := by unfold num; rw [if_neg h0, if_neg h1, if_neg h2, if_neg h3]
          have hv : value (List.take ((251 : UInt8).toNat - 247) (by1 (n / 16777216) :: by1 (n / 65536) :: by1 (n / 256) :: by1 n :: t)) = n := by
            show value [by1 (n / 16777216), by1 (n / 65536), by1 (n / 256), by1 n] = n
            rw [value4, by1_toNat, by1_toNat, by1_toNat, by1_toNat]; omega
          have hbh : behind n = 4 := by unfold behind; rw [if_neg h0, if_neg h1, if_neg h2, if_neg h3]
          rw [e]
          show read (251 :: by1 (n / 16777216) :: by1 (n / 65536) :: by1 (n / 256) :: by1 n :: t) = _
          rw [read_cons, if_neg (by decide), if_neg (by decide), if_neg (by show ¬ (t.length + 1 + 1 + 1 + 1) < 4; omega), hv, if_pos (by rw [hbh]; rfl)]
          rfl

theorem by1_of (c : UInt8) (n : Nat) (h : n % 256 = c.toNat) : by1 n = c := UInt8.toNat_inj.1 (by rw [by1_toNat]; exact h)

theorem behind_is (n k : Nat) (h : behind n = k) : (k = 1 → 248 ≤ n ∧ n < 256) ∧ (k = 2 → 256 ≤ n ∧ n < 65536) ∧ (k = 3 → 65536 ≤ n ∧ n < 16777216) ∧ (k = 4 → 16777216 ≤ n) := by
  unfold behind at h
  by_cases h0 : n < 248
  · rw [if_pos h0] at h; omega
  · rw [if_neg h0] at h
    by_cases h1 : n < 256
    · rw [if_pos h1] at h; omega
    · rw [if_neg h1] at h
      by_cases h2 : n < 65536
      · rw [if_pos h2] at h; omega
      · rw [if_neg h2] at h
        by_cases h3 : n < 16777216
        · rw [if_pos h3] at h; omega
        · rw [if_neg h3] at h; omega

/-- What is read is what was written. -/
def Reads (l : List UInt8) (n k : Nat) : Prop := n < 4294967296 ∧ k = (num n).length ∧ l = num n ++ l.drop k

theorem read_num (l : List UInt8) : (∃ n k, read l = (n, k, 0) ∧ Reads l n k) ∨ (∃ e, read l = (0, 0, e) ∧ (e = 2 ∨ e = 3)) := by
  match l with
  | [] => exact .inr ⟨3, rfl, .inr rfl⟩
  | c :: r =>
    rw [read_cons]
    have hc := c.toNat_lt
    by_cases h0 : c.toNat < 248
    · rw [if_pos h0]
      have e : num c.toNat = [c] := by unfold num; rw [if_pos h0, by1_of c _ (by omega)]
      exact .inl ⟨_, _, rfl, by omega, by rw [e]; rfl, by rw [e]; rfl⟩
    · rw [if_neg h0]
      by_cases h1 : c.toNat > 251
      · rw [if_pos h1]; exact .inr ⟨2, rfl, .inl rfl⟩
      · rw [if_neg h1]
        by_cases h2 : r.length < c.toNat - 247
        · rw [if_pos h2]; exact .inr ⟨3, rfl, .inr rfl⟩
        · rw [if_neg h2]
          by_cases h3 : behind (value (r.take (c.toNat - 247))) = c.toNat - 247
          · rw [if_pos h3]
            refine .inl ⟨_, _, rfl, ?_⟩
            have hb := behind_is _ _ h3
            rcases (by omega : c.toNat = 248 ∨ c.toNat = 249 ∨ c.toNat = 250 ∨ c.toNat = 251) with hk | hk | hk | hk
            · have e1 : c.toNat - 247 = 1 := by omega
              rw [e1] at h2 h3 hb ⊢
              match r, h2 with
              | b1 :: r, _ =>
                have g1 := b1.toNat_lt
                have hv : value (List.take 1 (b1 :: r)) = b1.toNat := value1 b1
                rw [hv] at hb ⊢
                have hr := hb.1 rfl
                have e : num b1.toNat = [c, b1] := by
                  unfold num
                  rw [if_neg (by omega), if_pos (by omega), by1_of b1 _ (by omega)]
                  rw [show c = 248 from UInt8.toNat_inj.1 hk]
                exact ⟨by omega, by rw [e]; rfl, by rw [e]; rfl⟩
            · have e1 : c.toNat - 247 = 2 := by omega
              rw [e1] at h2 h3 hb ⊢
              match r, h2 with
              | [_], h2 => exact absurd (by simp) h2
              | b1 :: b2 :: r, _ =>
                have g1 := b1.toNat_lt
                have g2 := b2.toNat_lt
                have hv : value (List.take 2 (b1 :: b2 :: r)) = b1.toNat * 256 + b2.toNat := value2 b1 b2
                rw [hv] at hb ⊢
                have hr := hb.2.1 rfl
                have e : num (b1.toNat * 256 + b2.toNat) = [c, b1, b2] := by
                  unfold num
                  rw [if_neg (by omega), if_neg (by omega), if_pos (by omega), by1_of b1 _ (by omega), by1_of b2 _ (by omega)]
                  rw [show c = 249 from UInt8.toNat_inj.1 hk]
                exact ⟨by omega, by rw [e]; rfl, by rw [e]; rfl⟩
            · have e1 : c.toNat - 247 = 3 := by omega
              rw [e1] at h2 h3 hb ⊢
              match r, h2 with
              | [_], h2 => exact absurd (by simp) h2
              | [_, _], h2 => exact absurd (by simp) h2
              | b1 :: b2 :: b3 :: r, _ =>
                have g1 := b1.toNat_lt
                have g2 := b2.toNat_lt
                have g3 := b3.toNat_lt
                have hv : value (List.take 3 (b1 :: b2 :: b3 :: r)) = (b1.toNat * 256 + b2.toNat) * 256 + b3.toNat := value3 b1 b2 b3
                rw [hv] at hb ⊢
                have hr := hb.2.2.1 rfl
                have e : num ((b1.toNat * 256 + b2.toNat) * 256 + b3.toNat) = [c, b1, b2, b3] := by
                  unfold num
                  rw [if_neg (by omega), if_neg (by omega), if_neg (by omega), if_pos (by omega), by1_of b1 _ (by omega), by1_of b2 _ (by omega), by1_of b3 _ (by omega)]
                  rw [show c = 250 from UInt8.toNat_inj.1 hk]
                exact ⟨by omega, by rw [e]; rfl, by rw [e]; rfl⟩
            · have e1 : c.toNat - 247 = 4 := by omega
              rw [e1] at h2 h3 hb ⊢
              match r, h2 with
              | [_], h2 => exact absurd (by simp) h2
              | [_, _], h2 => exact absurd (by simp) h2
              | [_, _, _], h2 => exact absurd (by simp) h2
              | b1 :: b2 :: b3 :: b4 :: r, _ =>
                have g1 := b1.toNat_lt
                have g2 := b2.toNat_lt
                have g3 := b3.toNat_lt
                have g4 := b4.toNat_lt
                have hv : value (List.take 4 (b1 :: b2 :: b3 :: b4 :: r)) = ((b1.toNat * 256 + b2.toNat) * 256 + b3.toNat) * 256 + b4.toNat := value4 b1 b2 b3 b4
                rw [hv] at hb ⊢
                have hr := hb.2.2.2 rfl
                have e : num (((b1.toNat * 256 + b2.toNat) * 256 + b3.toNat) * 256 + b4.toNat) = [c, b1, b2, b3, b4] := by
                  unfold num
                  rw [if_neg (by omega), if_neg (by omega), if_neg (by omega), if_neg (by omega), by1_of b1 _ (by omega), by1_of b2 _ (by omega), by1_of b3 _ (by omega), by1_of b4 _ (by omega)]
                  rw [show c = 251 from UInt8.toNat_inj.1 hk]
                exact ⟨by omega, by rw [e]; rfl, by rw [e]; rfl⟩
          · rw [if_neg h3]; exact .inr ⟨2, rfl, .inl rfl⟩
end Pack
