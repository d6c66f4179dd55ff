/- Plain mathematics of messages: what is written is read, cut off it is not, and what is read is what was written. -/
import Derived.Test.YtohlnhnelkoakaaMesgMath3
namespace Mesg

/-- A way of reading tells just x of the bytes bs, whatever is behind them; and of less of them, that they are cut. -/
structure Cuts {α : Type} (R : List UInt8 → Got α) (x : α) (bs : List UInt8) : Prop where
  whole : ∀ t, R (bs ++ t) = .ok x t
  cut : ∀ c, c < bs.length → R (bs.take c) = .error 3

theorem Cuts.pure {α : Type} (x : α) : Cuts (fun l => .ok x l) x [] := ⟨fun _ => rfl, fun c h => by simp at h⟩

theorem Cuts.on {α β : Type} {R : List UInt8 → Got α} {a : α} {bs1 : List UInt8} (h : Cuts R a bs1) {f : α → List UInt8 → Got β} {x : β} {bs2 : List UInt8} (g : Cuts (f a) x bs2) : Cuts (fun l => (R l).on f) x (bs1 ++ bs2) := by
  refine ⟨fun t => ?_, fun c hc => ?_⟩
  · show (R (bs1 ++ bs2 ++ t)).on f = _
    rw [List.append_assoc, h.whole]
    exact g.whole t
  · show (R ((bs1 ++ bs2).take c)).on f = _
    by_cases h1 : c < bs1.length
    · rw [List.take_append_of_le_length (by omega), h.cut c h1]
      rfl
    · rw [List.take_append, List.take_of_length_le (by omega), h.whole]
      rw [List.length_append] at hc
      exact g.cut (c - bs1.length) (by omega)

theorem num_short (k c : Nat) (hc : c < (Pack.num k).length) : num ((Pack.num k).take c) = .error 3 := by
  have hr : Pack.read ((Pack.num k).take c) = (0, 0, 3) := by
    match c, hc with
    | 0, _ => rfl
    | c + 1, hc =>
      unfold Pack.num at hc ⊢
      by_cases h0 : k < 248
      · rw [if_pos h0] at hc; simp at hc
      · rw [if_neg h0] at hc ⊢
        by_cases h1 : k < 256
        · rw [if_pos h1] at hc ⊢
          simp only [List.take_succ_cons, Pack.read_cons]
          rw [if_neg (by decide), if_neg (by decide), if_pos]
          simp at hc ⊢
          omega
        · rw [if_neg h1] at hc ⊢
          by_cases h2 : k < 65536
          · rw [if_pos h2] at hc ⊢
            simp only [List.take_succ_cons, Pack.read_cons]
            rw [if_neg (by decide), if_neg (by decide), if_pos]
            simp at hc ⊢
            omega
          · rw [if_neg h2] at hc ⊢
            by_cases h3 : k < 16777216
            · rw [if_pos h3] at hc ⊢
              simp only [List.take_succ_cons, Pack.read_cons]
              rw [if_neg (by decide), if_neg (by decide), if_pos]
              simp at hc ⊢
              omega
            · rw [if_neg h3] at hc ⊢
              simp only [List.take_succ_cons, Pack.read_cons]
              rw [if_neg (by decide), if_neg (by decide), if_pos]
              simp at hc ⊢
              omega
  unfold num Pack.take
  rw [hr]
  simp

theorem cuts_num {n : Int} (h : Fit n) : Cuts num n (Pack.num n.toNat) := by
  obtain ⟨h0, h1⟩ := h
  refine ⟨fun t => ?_, fun c hc => num_short _ c hc⟩
  rw [num_write _ _ (by omega)]
  congr 1
  omega

/-- So many numbers. -/
def nums : Nat → List UInt8 → Got (List Int)
  | 0, l => .ok [] l
  | k + 1, l => (num l).on fun n l1 => (nums k l1).on fun ns l2 => .ok (n :: ns) l2

theorem eachN_succ (k : Nat) (l : List UInt8) : Pack.eachN (k + 1) l = (if (Pack.take l).2.2 = 0 then if (Pack.eachN k (Pack.take l).2.1).2.2 = 0 then ((Pack.take l).1 :: (Pack.eachN k (Pack.take l).2.1).1, (Pack.eachN k (Pack.take l).2.1).2.1, 0) else ([], [], (Pack.eachN k (Pack.take l).2.1).2.2) else ([], [], (Pack.take l).2.2)) := rfl

theorem nums_eachN : ∀ (k : Nat) (l : List UInt8), nums k l = if (Pack.eachN k l).2.2 = 0 then .ok ((Pack.eachN k l).1.map Int.ofNat) (Pack.eachN k l).2.1 else .error (Pack.eachN k l).2.2
  | 0, l => rfl
  | k + 1, l => by
    have ih := nums_eachN k
    rcases Pack.take_cases l with ⟨n, t, ht, hn, hl⟩ | ⟨e, ht, he⟩
    · have h1 : num l = .ok (n : Int) t := by unfold num; rw [ht]; rfl
      have h2 : nums (k + 1) l = (nums k t).on fun ns l2 => .ok ((n : Int) :: ns) l2 := by
        show (num l).on _ = _
        rw [h1]
        rfl
      rw [h2, ih t, eachN_succ, ht]
      simp only [if_true]
      by_cases hz : (Pack.eachN k t).2.2 = 0
      · rw [if_pos hz, if_pos hz]
        rfl
      · rw [if_neg hz, if_neg hz]
        simp only [hz, if_false]
        rfl
    · have hne : e ≠ 0 := by omega
      have h1 : num l = .error e := by unfold num; rw [ht, if_neg hne]
      have h2 : nums (k + 1) l = .error e := by
        show (num l).on _ = _
        rw [h1]
        rfl
      rw [h2, eachN_succ, ht]
      simp only [hne, if_false]

theorem list_nums (l : List UInt8) : list l = (num l).on fun n l1 => if 1000 < n then .error 2 else nums n.toNat l1 := by
  rcases Pack.take_cases l with ⟨n, t, ht, hn, hl⟩ | ⟨e, ht, he⟩
  · have h1 : num l = .ok (n : Int) t := by unfold num; rw [ht]; rfl
    rw [h1]
    show _ = if 1000 < (n : Int) then Got.error 2 else nums (n : Int).toNat t
    by_cases h9 : 1000 < n
    · have e : Pack.each l = ([], [], 2) := by unfold Pack.each; rw [ht]; simp [h9]
      have e2 : (1000 : Int) < (n : Int) := by omega
      unfold list
      rw [e, if_pos e2]
      rfl
    · have e : Pack.each l = Pack.eachN n t := by unfold Pack.each; rw [ht]; simp [h9]
      have e2 : ¬ (1000 : Int) < (n : Int) := by omega
      unfold list
      rw [e, if_neg e2, Int.toNat_natCast, nums_eachN]
  · have hne : e ≠ 0 := by omega
    have h1 : num l = .error e := by unfold num; rw [ht, if_neg hne]
    have e : Pack.each l = ([], [], e) := by unfold Pack.each; rw [ht]; simp [hne]
    rw [h1]
    unfold list
    rw [e]
    simp only [hne, if_false]
    rfl

theorem cuts_nums : ∀ zs : List Int, (∀ z ∈ zs, Fit z) → Cuts (nums zs.length) zs (numsI zs)
  | [], _ => Cuts.pure []
  | z :: zs, h => by
    have h1 := cuts_num (h z (List.mem_cons_self ..))
    have h2 := cuts_nums zs (fun x hx => h x (List.mem_cons_of_mem _ hx))
    have e : numsI (z :: zs) = Pack.num z.toNat ++ (numsI zs ++ []) := by simp [numsI, Pack.nums]
    rw [e]
    exact h1.on (f := fun n l1 => (nums zs.length l1).on fun ns l2 => .ok (n :: ns) l2) (h2.on (Cuts.pure (z :: zs)))

theorem cuts_list (zs : List Int) (hl : zs.length ≤ 1000) (h : ∀ z ∈ zs, Fit z) : Cuts list zs (Pack.num zs.length ++ numsI zs) := by
  have e : list = fun l => (num l).on fun n l1 => if 1000 < n then .error 2 else nums n.toNat l1 := funext list_nums
  rw [e]
  have h1 := cuts_num (n := (zs.length : Int)) ⟨by omega, by omega⟩
  rw [Int.toNat_natCast] at h1
  refine h1.on (f := fun n l1 => if 1000 < n then .error 2 else nums n.toNat l1) ?_
  have e2 : (fun l1 : List UInt8 => if (1000 : Int) < (zs.length : Int) then (Got.error 2 : Got (List Int)) else nums (zs.length : Int).toNat l1) = nums zs.length := by
    funext l1
    rw [if_neg (by omega), Int.toNat_natCast]
  show Cuts (fun l1 : List UInt8 => if (1000 : Int) < (zs.length : Int) then (Got.error 2 : Got (List Int)) else nums (zs.length : Int).toNat l1) zs (numsI zs)
  rw [e2]
  exact cuts_nums zs h

theorem cuts_id {x : Id} (h1 : Fit x.time) (h2 : Fit x.site) : Cuts rid x (numsI [x.time, x.site]) := by
  have e : numsI [x.time, x.site] = Pack.num x.time.toNat ++ (Pack.num x.site.toNat ++ []) := by simp [numsI, Pack.nums]
  rw [e]
  exact (cuts_num h1).on (f := fun t l1 => (num l1).on fun s l2 => .ok (⟨t, s⟩ : Id) l2) ((cuts_num h2).on (Cuts.pure x))
theorem cuts_idIf {x : Id} (b : Bool) (h : b = true → Fit x.time ∧ Fit x.site) (hz : b = false → x = zero) : Cuts (idIf b) x (if b then numsI [x.time, x.site] else []) := by
  cases b with
  | true => exact cuts_id (h rfl).1 (h rfl).2
  | false => rw [hz rfl]; exact Cuts.pure zero
theorem cuts_numIf {n : Int} (b : Bool) (h : b = true → Fit n) (hz : b = false → n = 0) : Cuts (numIf b) n (if b then numsI [n] else []) := by
  cases b with
  | true =>
    have e : numsI [n] = Pack.num n.toNat := by simp [numsI, Pack.nums]
    show Cuts num n (numsI [n])
    rw [e]
    exact cuts_num (h rfl)
  | false => rw [hz rfl]; exact Cuts.pure 0

def opBytes (o : Op) : List UInt8 := Pack.num o.kind.toNat ++ (Pack.num o.epoch.toNat ++ ((if decide (o.kind = 1 ∨ o.kind = 6) then numsI [o.id.time, o.id.site] else []) ++ ((if decide (o.kind ≠ 6) then numsI [o.ref.time, o.ref.site] else []) ++ ((if decide (o.kind = 1) then numsI [o.rune] else []) ++ []))))

theorem cuts_op {m : Msg} (h : may m = true) : Cuts rop m.op (opBytes m.op) := by
  obtain ⟨k1, k8, he, ⟨h1, h2⟩, ⟨h3, h4⟩, h5⟩ := may_op h
  obtain ⟨z1, z2, z3⟩ := may_zeros h
  have hk : Fit m.op.kind := ⟨by omega, by omega⟩
  refine (cuts_num hk).on (f := fun k l1 => if k < 1 ∨ 8 < k then .error 2 else (num l1).on fun ep l2 => (idIf (decide (k = 1 ∨ k = 6)) l2).on fun i l3 => (idIf (decide (k ≠ 6)) l3).on fun r l4 => (numIf (decide (k = 1)) l4).on fun u l5 => .ok (⟨k, ep, i, r, u⟩ : Op) l5) ?_
  have e : (fun l1 : List UInt8 => if m.op.kind < 1 ∨ 8 < m.op.kind then (Got.error 2 : Got Op) else (num l1).on fun ep l2 => (idIf (decide (m.op.kind = 1 ∨ m.op.kind = 6)) l2).on fun i l3 => (idIf (decide (m.op.kind ≠ 6)) l3).on fun r l4 => (numIf (decide (m.op.kind = 1)) l4).on fun u l5 => .ok (⟨m.op.kind, ep, i, r, u⟩ : Op) l5)
      = fun l1 => (num l1).on fun ep l2 => (idIf (decide (m.op.kind = 1 ∨ m.op.kind = 6)) l2).on fun i l3 => (idIf (decide (m.op.kind ≠ 6)) l3).on fun r l4 => (numIf (decide (m.op.kind = 1)) l4).on fun u l5 => .ok (⟨m.op.kind, ep, i, r, u⟩ : Op) l5 := by
    funext l1
    rw [if_neg (by omega)]
  show Cuts (fun l1 : List UInt8 => if m.op.kind < 1 ∨ 8 < m.op.kind then (Got.error 2 : Got Op) else (num l1).on fun ep l2 => (idIf (decide (m.op.kind = 1 ∨ m.op.kind = 6)) l2).on fun i l3 => (idIf (decide (m.op.kind ≠ 6)) l3).on fun r l4 => (numIf (decide (m.op.kind = 1)) l4).on fun u l5 => .ok (⟨m.op.kind, ep, i, r, u⟩ : Op) l5) m.op _
  rw [e]
  exact (cuts_num he).on (f := fun ep l2 => (idIf (decide (m.op.kind = 1 ∨ m.op.kind = 6)) l2).on fun i l3 => (idIf (decide (m.op.kind ≠ 6)) l3).on fun r l4 => (numIf (decide (m.op.kind = 1)) l4).on fun u l5 => .ok (⟨m.op.kind, ep, i, r, u⟩ : Op) l5)
    ((cuts_idIf _ (fun _ => ⟨h1, h2⟩) (fun hf => by simp at hf; rcases z1 with z | z | z <;> first | exact z | exact absurd z hf.1 | exact absurd z hf.2)).on (f := fun i l3 => (idIf (decide (m.op.kind ≠ 6)) l3).on fun r l4 => (numIf (decide (m.op.kind = 1)) l4).on fun u l5 => .ok (⟨m.op.kind, m.op.epoch, i, r, u⟩ : Op) l5)
      ((cuts_idIf _ (fun _ => ⟨h3, h4⟩) (fun hf => by simp at hf; exact z2 hf)).on (f := fun r l4 => (numIf (decide (m.op.kind = 1)) l4).on fun u l5 => .ok (⟨m.op.kind, m.op.epoch, m.op.id, r, u⟩ : Op) l5)
        ((cuts_numIf _ (fun _ => h5) (fun hf => by simp at hf; rcases z3 with z | z <;> first | exact z | exact absurd z hf)).on (f := fun u l5 => .ok (⟨m.op.kind, m.op.epoch, m.op.id, m.op.ref, u⟩ : Op) l5) (Cuts.pure m.op))))

def msgBytes (m : Msg) : List UInt8 := Pack.num m.site.toNat ++ (Pack.num m.seq.toNat ++ ((Pack.num m.know.length ++ numsI m.know) ++ (opBytes m.op ++ [])))

theorem msgBytes_is (m : Msg) : msgBytes m = bytes m := by
  unfold msgBytes bytes opBytes
  by_cases h1 : m.op.kind = 1
  · simp [h1, numsI, Pack.nums]
  · by_cases h6 : m.op.kind = 6
    · simp [h6, numsI, Pack.nums]
    · simp [h1, h6, numsI, Pack.nums]

theorem cuts_msg {m : Msg} (h : may m = true) : Cuts rmsg m (bytes m) := by
  obtain ⟨h1, h16, hk, hs, hq⟩ := may_head h
  rw [← msgBytes_is]
  exact (cuts_num hs).on (f := fun a l1 => (num l1).on fun b l2 => (list l2).on fun kn l3 => (rop l3).on fun o l4 => .ok (⟨a, b, kn, o⟩ : Msg) l4)
    ((cuts_num hq).on (f := fun b l2 => (list l2).on fun kn l3 => (rop l3).on fun o l4 => .ok (⟨m.site, b, kn, o⟩ : Msg) l4)
      ((cuts_list m.know (by omega) hk).on (f := fun kn l3 => (rop l3).on fun o l4 => .ok (⟨m.site, m.seq, kn, o⟩ : Msg) l4)
        ((cuts_op h).on (f := fun o l4 => .ok (⟨m.site, m.seq, m.know, o⟩ : Msg) l4) (Cuts.pure m))))

/-- What is written is read. -/
theorem decode_bytes {m : Msg} (h : may m = true) : decode (bytes m) = .ok m [] := by
  have := (cuts_msg h).whole []
  rw [List.append_nil] at this
  unfold decode
  rw [this]
  simp [Got.on, h]
/-- Cut off it is not. -/
theorem decode_cut {m : Msg} (h : may m = true) (c : Nat) (hc : c < (bytes m).length) : decode ((bytes m).take c) = .error 3 := by
  unfold decode
  rw [(cuts_msg h).cut c hc]
  rfl

theorem on_ok {α β : Type} {r : Got α} {f : α → List UInt8 → Got β} {x : β} {t : List UInt8} (h : r.on f = .ok x t) : ∃ a l, r = .ok a l ∧ f a l = .ok x t := by
  cases r with
  | ok a l => exact ⟨a, l, rfl, h⟩
  | error e => cases h

theorem num_back {l t : List UInt8} {n : Int} (h : num l = .ok n t) : l = Pack.num n.toNat ++ t := by
  obtain ⟨k, rfl, _, _, hl⟩ := num_ok h
  exact hl
theorem nums_back : ∀ (k : Nat) (l t : List UInt8) (zs : List Int), nums k l = .ok zs t → zs.length = k ∧ l = numsI zs ++ t
  | 0, l, t, zs, h => by
    change Got.ok [] l = Got.ok zs t at h
    injection h with h1 h2
    subst h1 h2
    exact ⟨rfl, rfl⟩
  | k + 1, l, t, zs, h => by
    obtain ⟨n, l1, h1, h2⟩ := on_ok (r := num l) h
    obtain ⟨ns, l2, h3, h4⟩ := on_ok (r := nums k l1) h2
    injection h4 with h5 h6
    subst h5 h6
    have h7 := nums_back k l1 l2 ns h3
    refine ⟨by simp [h7.1], ?_⟩
    have e : numsI (n :: ns) = Pack.num n.toNat ++ numsI ns := by simp [numsI, Pack.nums]
    rw [e, List.append_assoc, ← h7.2]
    exact num_back h1
theorem list_back {l t : List UInt8} {zs : List Int} (h : list l = .ok zs t) : l = (Pack.num zs.length ++ numsI zs) ++ t := by
  rw [list_nums] at h
  obtain ⟨n, l1, h1, h2⟩ := on_ok h
  obtain ⟨k, rfl, _, _, hl⟩ := num_ok h1
  by_cases h9 : 1000 < (k : Int)
  · rw [if_pos h9] at h2; cases h2
  · rw [if_neg h9, Int.toNat_natCast] at h2
    have h7 := nums_back k l1 t zs h2
    rw [hl, h7.2, h7.1, List.append_assoc]
theorem id_back {l t : List UInt8} {x : Id} (h : rid l = .ok x t) : l = numsI [x.time, x.site] ++ t := by
  obtain ⟨a, l1, h1, h2⟩ := on_ok (r := num l) h
  obtain ⟨b, l2, h3, h4⟩ := on_ok (r := num l1) h2
  injection h4 with h5 h6
  subst h5 h6
  have e : numsI [a, b] = Pack.num a.toNat ++ (Pack.num b.toNat ++ []) := by simp [numsI, Pack.nums]
  show l = numsI [a, b] ++ l2
  rw [e, num_back h1, num_back h3]
  simp
theorem idIf_back {b : Bool} {l t : List UInt8} {x : Id} (h : idIf b l = .ok x t) : l = (if b then numsI [x.time, x.site] else []) ++ t := by
  cases b with
  | true => exact id_back h
  | false =>
    change Got.ok zero l = Got.ok x t at h
    injection h with _ h2
theorem numIf_back {b : Bool} {l t : List UInt8} {n : Int} (h : numIf b l = .ok n t) : l = (if b then numsI [n] else []) ++ t := by
  cases b with
  | true =>
    have e : numsI [n] = Pack.num n.toNat := by simp [numsI, Pack.nums]
    show l = numsI [n] ++ t
    rw [e]
    exact num_back h
  | false =>
    change Got.ok 0 l = Got.ok n t at h
    injection h with _ h2

theorem op_back {l t : List UInt8} {o : Op} (h : rop l = .ok o t) : l = opBytes o ++ t := by
  obtain ⟨k, l1, h1, h2⟩ := on_ok (r := num l) h
  by_cases hk : k < 1 ∨ 8 < k
  · rw [if_pos hk] at h2; cases h2
  · rw [if_neg hk] at h2
    obtain ⟨ep, l2, h3, h4⟩ := on_ok (r := num l1) h2
    obtain ⟨i, l3, h5, h6⟩ := on_ok h4
    obtain ⟨r, l4, h7, h8⟩ := on_ok h6
    obtain ⟨u, l5, h9, h10⟩ := on_ok h8
    injection h10 with h11 h12
    subst h11 h12
    have e1 := num_back h1
    have e2 := num_back h3
    have e3 := idIf_back h5
    have e4 := idIf_back h7
    have e5 := numIf_back h9
    unfold opBytes
    simp only [List.append_assoc, List.nil_append]
    rw [← e5, ← e4, ← e3, ← e2, ← e1]

/-- What is read may be, and is what was written. -/
theorem decode_back {l t : List UInt8} {m : Msg} (h : decode l = .ok m t) : may m = true ∧ bytes m = l ∧ t = [] := by
  obtain ⟨m', r, h1, h2⟩ := on_ok (r := rmsg l) h
  by_cases hr : r ≠ []
  · rw [if_pos hr] at h2; cases h2
  · rw [if_neg hr] at h2
    by_cases hm : may m' = true
    · rw [if_pos hm] at h2
      injection h2 with h3 h4
      subst h3
      refine ⟨hm, ?_, h4.symm⟩
      obtain ⟨a, l1, g1, g2⟩ := on_ok (r := num l) h1
      obtain ⟨b, l2, g3, g4⟩ := on_ok (r := num l1) g2
      obtain ⟨kn, l3, g5, g6⟩ := on_ok (r := list l2) g4
      obtain ⟨o, l4, g7, g8⟩ := on_ok (r := rop l3) g6
      injection g8 with g9 g10
      subst g9 g10
      have hr' : l4 = [] := Classical.byContradiction hr
      rw [← msgBytes_is]
      unfold msgBytes
      have e1 := num_back g1
      have e2 := num_back g3
      have e3 := list_back g5
      have e4 := op_back g7
      rw [hr'] at e4
      simp only
      rw [← e4, ← e3, ← e2, ← e1]
    · rw [if_neg hm] at h2; cases h2

theorem bytes_inj {a b : Msg} (ha : may a = true) (hb : may b = true) (h : bytes a = bytes b) : a = b := by
  have h1 := decode_bytes ha
  have h2 := decode_bytes hb
  rw [h, h2] at h1
  injection h1 with h1
  exact h1.symm

theorem site_of_may {m : Msg} (h : may m = true) : 0 ≤ m.site ∧ m.site < (m.know.length : Int) := by
  simp only [may, Bool.and_eq_true] at h
  have h1 := h.1
  simp [headMay] at h1
  omega

theorem bytes_len {m : Msg} (h : may m = true) : (bytes m).length ≤ 5 * m.know.length + 40 ∧ m.know.length + 7 ≤ (bytes m).length := by
  have nl := fun k => Pack.num_len_le k
  have hn : ∀ zs : List Int, zs.length ≤ (numsI zs).length ∧ (numsI zs).length ≤ 5 * zs.length := by
    intro zs
    induction zs with
    | nil => simp [numsI, Pack.nums]
    | cons z zs ih =>
      have e : numsI (z :: zs) = Pack.num z.toNat ++ numsI zs := by simp [numsI, Pack.nums]
      have := nl z.toNat
      rw [e, List.length_append, List.length_cons]
      omega
  have h0 := hn m.know
  have h1 := hn [m.site, m.seq]
  have h2 := hn [m.op.kind, m.op.epoch]
  have h3 := hn [m.op.id.time, m.op.id.site]
  have h4 := hn [m.op.ref.time, m.op.ref.site]
  have h5 := hn [m.op.rune]
  have h6 := nl m.know.length
  simp only [List.length_cons, List.length_nil] at h1 h2 h3 h4 h5
  have hl : (Pack.num m.know.length).length = 1 := by
    have := (may_head h).2.1
    unfold Pack.num
    rw [if_pos (by omega)]
    rfl
  have two : ∀ x y : Int, x < 248 → (numsI [x, y]).length ≤ 6 := by
    intro x y hx
    have e : numsI [x, y] = Pack.num x.toNat ++ Pack.num y.toNat := by simp [numsI, Pack.nums]
    have e1 : (Pack.num x.toNat).length = 1 := by
      unfold Pack.num
      rw [if_pos (by omega)]
      rfl
    have := nl y.toNat
    rw [e, List.length_append, e1]
    omega
  have s1 := two m.site m.seq (by have := site_of_may h; have := (may_head h).2.1; omega)
  have s2 := two m.op.kind m.op.epoch (by have := may_op h; omega)
  unfold bytes
  have q1 : ∀ (c : Prop) [Decidable c] (x : List UInt8), (if c then x else []).length ≤ x.length := by
    intro c _ x
    by_cases hc : c
    · rw [if_pos hc]; omega
    · rw [if_neg hc]; simp
  have q2 : 2 ≤ (if m.op.kind = 1 ∨ m.op.kind = 6 then numsI [m.op.id.time, m.op.id.site] else []).length + (if m.op.kind = 6 then [] else numsI [m.op.ref.time, m.op.ref.site]).length := by
    by_cases k6 : m.op.kind = 6
    · rw [if_pos (Or.inr k6)]; omega
    · rw [if_neg (c := m.op.kind = 6) k6]; omega
  have q3 := q1 (m.op.kind = 1 ∨ m.op.kind = 6) (numsI [m.op.id.time, m.op.id.site])
  have q4 : (if m.op.kind = 6 then [] else numsI [m.op.ref.time, m.op.ref.site]).length ≤ (numsI [m.op.ref.time, m.op.ref.site]).length := by
    by_cases k6 : m.op.kind = 6
    · rw [if_pos k6]; simp
    · rw [if_neg k6]; omega
  have q5 := q1 (m.op.kind = 1) (numsI [m.op.rune])
  simp only [List.length_append]
  omega
end Mesg
