/- Plain mathematics of frames: what a text is stuffed to, what a piece is the stuffing of, what a reader tells of a stream. -/
import Derived.Test.YtlmigmejfkflmaaCrcMath3
namespace Frame

def stuff1 (c : UInt8) : List UInt8 := if c = 126 then [125, 94] else if c = 125 then [125, 93] else [c]
def stuff (l : List UInt8) : List UInt8 := l.flatMap stuff1

/-- Where the machine that reads a piece stands. -/
inductive At | plain | signed | spoilt
deriving DecidableEq

def step (s : At × List UInt8) (b : UInt8) : At × List UInt8 :=
  match s.1 with
  | .plain => if b = 125 then (.signed, s.2) else (.plain, s.2 ++ [b])
  | .signed => if b = 94 then (.plain, s.2 ++ [126]) else if b = 93 then (.plain, s.2 ++ [125]) else (.spoilt, s.2)
  | .spoilt => s

def runs (s : At × List UInt8) (p : List UInt8) : At × List UInt8 := p.foldl step s
def run (p : List UInt8) : At × List UInt8 := runs (.plain, []) p

theorem runs_append (s : At × List UInt8) (p q : List UInt8) : runs s (p ++ q) = runs (runs s p) q := by simp [runs, List.foldl_append]
theorem run_append (p q : List UInt8) : run (p ++ q) = runs (run p) q := runs_append _ _ _
theorem runs_cons (s : At × List UInt8) (c : UInt8) (q : List UInt8) : runs s (c :: q) = runs (step s c) q := rfl
theorem runs_nil (s : At × List UInt8) : runs s [] = s := rfl

theorem step_other (t : List UInt8) (b : UInt8) (h : b ≠ 125) : step (.plain, t) b = (.plain, t ++ [b]) := by simp [step, h]
theorem step_sign (t : List UInt8) : step (.plain, t) 125 = (.signed, t) := rfl
theorem step_mark (t : List UInt8) : step (.signed, t) 94 = (.plain, t ++ [126]) := rfl
theorem step_own (t : List UInt8) : step (.signed, t) 93 = (.plain, t ++ [125]) := rfl
theorem step_bad (t : List UInt8) (b : UInt8) (h : b ≠ 94) (g : b ≠ 93) : step (.signed, t) b = (.spoilt, t) := by simp [step, h, g]

theorem runs_spoilt : ∀ (p t : List UInt8), runs (.spoilt, t) p = (.spoilt, t)
  | [], _ => rfl
  | c :: p, t => by rw [runs_cons]; exact runs_spoilt p t

theorem stuff_cons (c : UInt8) (l : List UInt8) : stuff (c :: l) = stuff1 c ++ stuff l := by simp [stuff]
theorem stuff_append (a b : List UInt8) : stuff (a ++ b) = stuff a ++ stuff b := by simp [stuff]

theorem runs_stuff1 (t : List UInt8) (c : UInt8) : runs (.plain, t) (stuff1 c) = (.plain, t ++ [c]) := by
  unfold stuff1
  by_cases h : c = 126
  · subst h; rfl
  · by_cases g : c = 125
    · subst g; rfl
    · simp [h, g, runs, step]

theorem runs_stuff : ∀ (l t : List UInt8), runs (.plain, t) (stuff l) = (.plain, t ++ l)
  | [], t => by simp [stuff, runs]
  | c :: l, t => by
    rw [stuff_cons, runs_append, runs_stuff1, runs_stuff l]
    simp

theorem run_stuff (l : List UInt8) : run (stuff l) = (.plain, l) := by
  have := runs_stuff l []
  simpa [run] using this

theorem stuff1_len (c : UInt8) : 1 ≤ (stuff1 c).length ∧ (stuff1 c).length ≤ 2 := by
  unfold stuff1
  split
  · exact ⟨by simp, by simp⟩
  · split <;> exact ⟨by simp, by simp⟩

theorem stuff_len : ∀ l : List UInt8, l.length ≤ (stuff l).length ∧ (stuff l).length ≤ 2 * l.length
  | [] => by simp [stuff]
  | c :: l => by
    have h1 := stuff1_len c
    have h2 := stuff_len l
    rw [stuff_cons, List.length_append, List.length_cons]
    omega

theorem stuff1_mark (c : UInt8) : ∀ b ∈ stuff1 c, b ≠ 126 := by
  unfold stuff1
  by_cases h : c = 126
  · subst h; decide
  · by_cases g : c = 125
    · subst g; decide
    · simp [h, g]

theorem stuff_mark (l : List UInt8) : ∀ b ∈ stuff l, b ≠ 126 := by
  intro b hb
  obtain ⟨c, _, hc⟩ := List.mem_flatMap.1 hb
  exact stuff1_mark c b hc

theorem step_len (s : At × List UInt8) (b : UInt8) : (s.1 ≠ .spoilt → (step s b).1 ≠ .spoilt → 2 * s.2.length + (if s.1 = .signed then 1 else 0) + 1 ≤ 2 * (step s b).2.length + (if (step s b).1 = .signed then 1 else 0))
    ∧ (s.1 = .spoilt → (step s b).1 = .spoilt) := by
  obtain ⟨a, t⟩ := s
  cases a
  · refine ⟨fun _ _ => ?_, fun h => by cases h⟩
    by_cases h : b = 125
    · subst h; simp [step]
    · simp [step, h]; omega
  · refine ⟨fun _ h2 => ?_, fun h => by cases h⟩
    by_cases h : b = 94
    · subst h; simp [step]; omega
    · by_cases g : b = 93
      · subst g; simp [step]; omega
      · exact absurd (by simp [step, h, g]) h2
  · exact ⟨fun h => absurd rfl h, fun _ => rfl⟩

theorem runs_len : ∀ (p : List UInt8) (s : At × List UInt8), (s.1 ≠ .spoilt → (runs s p).1 ≠ .spoilt → 2 * s.2.length + (if s.1 = .signed then 1 else 0) + p.length ≤ 2 * (runs s p).2.length + (if (runs s p).1 = .signed then 1 else 0))
    ∧ (s.1 = .spoilt → (runs s p).1 = .spoilt)
  | [], s => ⟨fun _ _ => by rw [runs_nil]; simp, fun h => h⟩
  | c :: p, s => by
    have h1 := step_len s c
    have h2 := runs_len p (step s c)
    rw [runs_cons]
    refine ⟨fun a b => ?_, fun h => h2.2 (h1.2 h)⟩
    have hm : (step s c).1 ≠ .spoilt := fun h => b (h2.2 h)
    have e1 := h1.1 a hm
    have e2 := h2.1 hm b
    rw [List.length_cons]
    omega

/-- A piece that is whole has no more than two bytes for each of the text's. -/
theorem run_len (p : List UInt8) (h : (run p).1 = .plain) : p.length ≤ 2 * (run p).2.length := by
  have := (runs_len p (.plain, [])).1 (by simp) (by show (run p).1 ≠ _; rw [h]; simp)
  have e : runs (At.plain, []) p = run p := rfl
  rw [e, h] at this
  simpa using this

/-- The text of a piece, if it is what a text of at most 2000 bytes, sealed, is stuffed to. -/
def opened (p : List UInt8) : Option (List UInt8) :=
  if (run p).1 = .plain ∧ 3 ≤ (run p).2.length ∧ Crc.sum (run p).2 = 0#24 ∧ (run p).2.length ≤ 2003 then some ((run p).2.take ((run p).2.length - 3)) else none

theorem opened_long (p : List UInt8) (h : 5000 ≤ p.length) : opened p = none := by
  unfold opened
  rw [if_neg]
  rintro ⟨h1, _, _, h4⟩
  have := run_len p h1
  omega

def sealed (t : List UInt8) : List UInt8 := t ++ Crc.tail3 (Crc.sum t)

theorem sealed_len (t : List UInt8) : (sealed t).length = t.length + 3 := by simp [sealed, Crc.tail3]
theorem sealed_sum (t : List UInt8) : Crc.sum (sealed t) = 0#24 := Crc.sum_sealed t

theorem opened_sealed (t : List UInt8) (h : t.length ≤ 2000) : opened (stuff (sealed t)) = some t := by
  unfold opened
  rw [run_stuff]
  have hl := sealed_len t
  rw [if_pos ⟨rfl, by simp only; omega, sealed_sum t, by simp only; omega⟩]
  simp only
  rw [hl]
  simp [sealed]

/-- A reader: the bytes since the last mark, how many pieces were bad, the texts that were told. -/
structure R where
  piece : List UInt8
  bad : Nat
  told : List (List UInt8)
deriving DecidableEq

def fin (s : R) : R :=
  if s.piece = [] then s
  else match opened s.piece with
    | some t => ⟨[], s.bad, s.told ++ [t]⟩
    | none => ⟨[], s.bad + 1, s.told⟩

def feed1 (s : R) (c : UInt8) : R :=
  if c = 126 then fin s else if s.piece.length < 5000 then ⟨s.piece ++ [c], s.bad, s.told⟩ else s

def feed (s : R) (l : List UInt8) : R := l.foldl feed1 s

theorem feed_append (s : R) (a b : List UInt8) : feed s (a ++ b) = feed (feed s a) b := by simp [feed, List.foldl_append]
theorem feed_cons (s : R) (c : UInt8) (l : List UInt8) : feed s (c :: l) = feed (feed1 s c) l := rfl

theorem feed1_mark (s : R) : feed1 s 126 = fin s := by simp [feed1]

theorem fin_told (p : List UInt8) (b : Nat) (ts : List (List UInt8)) : fin ⟨p, b, ts⟩ = ⟨(fin ⟨p, b, []⟩).piece, (fin ⟨p, b, []⟩).bad, ts ++ (fin ⟨p, b, []⟩).told⟩ := by
  unfold fin
  by_cases h : p = []
  · simp [h]
  · simp only [h, if_false]
    cases opened p <;> simp

theorem feed1_told (p : List UInt8) (b : Nat) (ts : List (List UInt8)) (c : UInt8) : feed1 ⟨p, b, ts⟩ c = ⟨(feed1 ⟨p, b, []⟩ c).piece, (feed1 ⟨p, b, []⟩ c).bad, ts ++ (feed1 ⟨p, b, []⟩ c).told⟩ := by
  unfold feed1
  by_cases h : c = 126
  · simp only [h, if_true]; exact fin_told p b ts
  · simp only [h, if_false]
    by_cases g : p.length < 5000 <;> simp [g]

theorem feed_told : ∀ (l p : List UInt8) (b : Nat) (ts : List (List UInt8)), feed ⟨p, b, ts⟩ l = ⟨(feed ⟨p, b, []⟩ l).piece, (feed ⟨p, b, []⟩ l).bad, ts ++ (feed ⟨p, b, []⟩ l).told⟩
  | [], p, b, ts => by simp [feed]
  | c :: l, p, b, ts => by
    rw [feed_cons, feed1_told, feed_told l, feed_cons]
    conv => rhs; rw [show feed1 ⟨p, b, []⟩ c = ⟨(feed1 ⟨p, b, []⟩ c).piece, (feed1 ⟨p, b, []⟩ c).bad, (feed1 ⟨p, b, []⟩ c).told⟩ from rfl, feed_told l]
    simp

/-- Bytes that are no marks are put behind the piece, as far as there is room. -/
theorem feed_plain : ∀ (q p : List UInt8) (b : Nat) (ts : List (List UInt8)), (∀ c ∈ q, c ≠ 126) → p.length + q.length ≤ 5000 → feed ⟨p, b, ts⟩ q = ⟨p ++ q, b, ts⟩
  | [], p, b, ts, _, _ => by simp [feed]
  | c :: q, p, b, ts, hq, hl => by
    rw [List.length_cons] at hl
    have hc : c ≠ 126 := hq c (List.mem_cons_self ..)
    have e : feed1 ⟨p, b, ts⟩ c = ⟨p ++ [c], b, ts⟩ := by
      unfold feed1
      rw [if_neg hc, if_pos (by simp only; omega)]
    rw [feed_cons, e, feed_plain q _ b ts (fun d hd => hq d (List.mem_cons_of_mem _ hd)) (by simp; omega)]
    simp

/-- What stands behind the frame's first mark. -/
def body (t : List UInt8) : List UInt8 := stuff (sealed t) ++ [126]
def frame (t : List UInt8) : List UInt8 := 126 :: body t

theorem feed_body (t : List UInt8) (b : Nat) (ts : List (List UInt8)) (h : t.length ≤ 2000) : feed ⟨[], b, ts⟩ (body t) = ⟨[], b, ts ++ [t]⟩ := by
  have hl := stuff_len (sealed t)
  have hs := sealed_len t
  unfold body
  rw [feed_append, feed_plain _ _ _ _ (stuff_mark _) (by simp; omega), List.nil_append]
  rw [feed_cons, feed1_mark]
  unfold fin
  have hne : stuff (sealed t) ≠ [] := fun e => by rw [e, hs] at hl; simp at hl
  simp only [hne, if_false, opened_sealed t h]
  rfl

theorem feed_bodies : ∀ (l ts : List (List UInt8)) (b : Nat), (∀ t ∈ l, t.length ≤ 2000) → feed ⟨[], b, ts⟩ (l.flatMap body) = ⟨[], b, ts ++ l⟩
  | [], ts, b, _ => by simp [feed]
  | t :: l, ts, b, h => by
    rw [List.flatMap_cons, feed_append, feed_body t b ts (h t (List.mem_cons_self ..)), feed_bodies l _ b (fun x hx => h x (List.mem_cons_of_mem _ hx))]
    simp

theorem fin_empty (b : Nat) (ts : List (List UInt8)) : fin ⟨[], b, ts⟩ = ⟨[], b, ts⟩ := by simp [fin]

theorem feed_frame (t : List UInt8) (b : Nat) (ts : List (List UInt8)) (h : t.length ≤ 2000) : feed ⟨[], b, ts⟩ (frame t) = ⟨[], b, ts ++ [t]⟩ := by
  unfold frame
  rw [feed_cons, feed1_mark, fin_empty, feed_body t b ts h]

theorem feed_frames : ∀ (l ts : List (List UInt8)) (b : Nat), (∀ t ∈ l, t.length ≤ 2000) → feed ⟨[], b, ts⟩ (l.flatMap frame) = ⟨[], b, ts ++ l⟩
  | [], ts, b, _ => by simp [feed]
  | t :: l, ts, b, h => by
    rw [List.flatMap_cons, feed_append, feed_frame t b ts (h t (List.mem_cons_self ..)), feed_frames l _ b (fun x hx => h x (List.mem_cons_of_mem _ hx))]
    simp

/-- Frames that share their marks. -/
theorem feed_shared (l : List (List UInt8)) (h : ∀ t ∈ l, t.length ≤ 2000) : feed ⟨[], 0, []⟩ (126 :: l.flatMap body) = ⟨[], 0, l⟩ := by
  rw [feed_cons, feed1_mark, fin_empty, feed_bodies l [] 0 h, List.nil_append]

/-- What stood ahead of the first mark, and was no frame, is bad at most once. -/
theorem feed_ahead (a : List UInt8) (l : List (List UInt8)) (ha : ∀ c ∈ a, c ≠ 126) (hl : a.length ≤ 5000) (hn : (feed ⟨[], 0, []⟩ (a ++ [126])).told = []) (h : ∀ t ∈ l, t.length ≤ 2000) :
    (feed ⟨[], 0, []⟩ (a ++ l.flatMap frame)).told = l ∧ (feed ⟨[], 0, []⟩ (a ++ l.flatMap frame)).bad ≤ 1 ∧ (a = [] → (feed ⟨[], 0, []⟩ (a ++ l.flatMap frame)).bad = 0) := by
  have e1 : feed ⟨[], 0, []⟩ a = ⟨a, 0, []⟩ := by
    have := feed_plain a [] 0 [] ha (by simpa using hl)
    simpa using this
  rw [feed_append, e1]
  rw [feed_append, e1] at hn
  have e2 : feed (⟨a, 0, []⟩ : R) [126] = fin ⟨a, 0, []⟩ := by rw [feed_cons, feed1_mark]; rfl
  rw [e2] at hn
  cases l with
  | nil => simp [feed]
  | cons t l =>
    rw [List.flatMap_cons, feed_append]
    have ht := h t (List.mem_cons_self ..)
    have hl' : ∀ x ∈ l, x.length ≤ 2000 := fun x hx => h x (List.mem_cons_of_mem _ hx)
    have e3 : feed (⟨a, 0, []⟩ : R) (frame t) = feed (fin ⟨a, 0, []⟩) (body t) := by unfold frame; rw [feed_cons, feed1_mark]
    rw [e3]
    by_cases hz : a = []
    · subst hz
      rw [fin_empty, feed_body t 0 [] ht, feed_frames l _ 0 hl']
      simp
    · have hop : opened a = none := by
        unfold fin at hn
        simp only [hz, if_false] at hn
        cases hop : opened a with
        | none => rfl
        | some u => rw [hop] at hn; simp at hn
      have e4 : fin ⟨a, 0, []⟩ = ⟨[], 1, []⟩ := by unfold fin; simp [hz, hop]
      rw [e4, feed_body t 1 [] ht, feed_frames l _ 1 hl']
      simp [hz]

theorem feed1_bad (s : R) (c : UInt8) : (feed1 s c).bad ≤ s.bad + 1 := by
  unfold feed1
  split
  · unfold fin
    split
    · omega
    · split <;> simp
  · split <;> simp

theorem feed_bad : ∀ (l : List UInt8) (s : R), (feed s l).bad ≤ s.bad + l.length
  | [], s => by simp [feed]
  | c :: l, s => by
    have h1 := feed1_bad s c
    have h2 := feed_bad l (feed1 s c)
    rw [feed_cons, List.length_cons]
    omega

theorem feed1_piece (s : R) (c : UInt8) (h : s.piece.length ≤ 5000) : (feed1 s c).piece.length ≤ 5000 := by
  unfold feed1
  split
  · unfold fin
    split
    · exact h
    · split <;> simp
  · split
    · simp only [List.length_append, List.length_singleton]; omega
    · exact h

theorem feed1_toldlen (s : R) (c : UInt8) : (feed1 s c).told.length ≤ s.told.length + 1 := by
  unfold feed1
  split
  · unfold fin
    split
    · omega
    · split <;> simp
  · split <;> simp

theorem feed_piece : ∀ (l : List UInt8) (s : R), s.piece.length ≤ 5000 → (feed s l).piece.length ≤ 5000
  | [], s, h => h
  | c :: l, s, h => by rw [feed_cons]; exact feed_piece l _ (feed1_piece s c h)
end Frame
