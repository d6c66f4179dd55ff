/- Plain mathematics of networks. -/
import Derived.Test.YtlihdnlojbmhjaaHead
set_option linter.unusedVariables false
namespace Links

structure Net where
  sites : Nat
  room : Nat
  q : Nat → Nat → List (List UInt8)

/-- Is there a link? -/
def lk (n : Nat) (a b : Int) : Bool := decide (0 ≤ a ∧ a < n ∧ 0 ≤ b ∧ b < n ∧ a ≠ b)
def Lk (n i j : Nat) : Prop := i < n ∧ j < n ∧ i ≠ j
theorem lk_nat {n : Nat} {a b : Int} (h : lk n a b = true) : ∃ i j : Nat, a = i ∧ b = j ∧ Lk n i j := by
  simp only [lk, decide_eq_true_eq] at h
  exact ⟨a.toNat, b.toNat, by omega, by omega, by omega, by omega, by omega⟩
theorem lk_of {n i j : Nat} (h : Lk n i j) : lk n (i : Int) (j : Int) = true := by
  obtain ⟨h1, h2, h3⟩ := h
  simp only [lk, decide_eq_true_eq]
  omega

def Net.set (N : Net) (i j : Nat) (ts : List (List UInt8)) : Net := { N with q := fun i' j' => if i' = i ∧ j' = j then ts else N.q i' j' }
theorem set_q (N : Net) (i j : Nat) (ts : List (List UInt8)) : (N.set i j ts).q i j = ts := by simp [Net.set]
theorem set_other (N : Net) {i j i' j' : Nat} (ts : List (List UInt8)) (h : ¬ (i' = i ∧ j' = j)) : (N.set i j ts).q i' j' = N.q i' j' := by simp [Net.set, h]
theorem set_sites (N : Net) (i j : Nat) (ts : List (List UInt8)) : (N.set i j ts).sites = N.sites := rfl
theorem set_room (N : Net) (i j : Nat) (ts : List (List UInt8)) : (N.set i j ts).room = N.room := rfl

/-- What stands on a link; nothing where there is none. -/
def Net.on (N : Net) (a b : Int) : List (List UInt8) := if lk N.sites a b then N.q a.toNat b.toNat else []
theorem on_nat {N : Net} {i j : Nat} (h : Lk N.sites i j) : N.on i j = N.q i j := by unfold Net.on; rw [lk_of h]; rfl
theorem on_no {N : Net} {a b : Int} (h : lk N.sites a b = false) : N.on a b = [] := by unfold Net.on; rw [h]; rfl

/-- Send. -/
def send (N : Net) (a b : Int) (s : List UInt8) : Int × Net :=
  if lk N.sites a b = true ∧ s.length ≤ 5000 then (if (N.on a b).length < N.room then (0, N.set a.toNat b.toNat (N.on a b ++ [s])) else (5, N)) else (1, N)
/-- Is there an i-th text? -/
def has (N : Net) (a b i : Int) : Bool := decide (0 ≤ i) && decide (i < (N.on a b).length)
theorem has_nat {N : Net} {a b i : Int} (h : has N a b i = true) : ∃ k : Nat, i = k ∧ k < (N.on a b).length := by
  simp only [has, Bool.and_eq_true, decide_eq_true_eq] at h
  exact ⟨i.toNat, by omega, by omega⟩
theorem has_lk {N : Net} {a b i : Int} (h : has N a b i = true) : lk N.sites a b = true := by
  obtain ⟨k, _, hk⟩ := has_nat h
  cases hl : lk N.sites a b
  · rw [on_no hl] at hk; simp at hk
  · rfl
def take (N : Net) (a b i : Int) : List UInt8 × Bool × Net :=
  if has N a b i then ((N.on a b).getD i.toNat [], true, N.set a.toNat b.toNat ((N.on a b).eraseIdx i.toNat)) else ([], false, N)
def double (N : Net) (a b i : Int) : Int × Net :=
  if lk N.sites a b then (if has N a b i then (if (N.on a b).length < N.room then (0, N.set a.toNat b.toNat (N.on a b ++ [(N.on a b).getD i.toNat []])) else (5, N)) else (6, N)) else (1, N)
def turns (N : Net) (a b i k : Int) : Bool := has N a b i && decide (0 ≤ k) && decide (k < ((N.on a b).getD i.toNat []).length)
def turn (N : Net) (a b i k : Int) (c : UInt8) : Bool × Net :=
  if turns N a b i k then (true, N.set a.toNat b.toNat ((N.on a b).set i.toNat (((N.on a b).getD i.toNat []).set k.toNat (((N.on a b).getD i.toNat []).getD k.toNat 0 ^^^ c)))) else (false, N)
/-- Cast to the sites below k. -/
def castTo (N : Net) (a : Int) (s : List UInt8) : Nat → Int × Net
  | 0 => (0, N)
  | k + 1 => ((castTo N a s k).1 + (if (send (castTo N a s k).2 a k s).1 = 0 then 1 else 0), (send (castTo N a s k).2 a k s).2)
def cast (N : Net) (a : Int) (s : List UInt8) : Int × Net := castTo N a s N.sites

theorem send_sites (N : Net) (a b : Int) (s : List UInt8) : (send N a b s).2.sites = N.sites ∧ (send N a b s).2.room = N.room := by
  unfold send
  split
  · split <;> exact ⟨rfl, rfl⟩
  · exact ⟨rfl, rfl⟩
theorem castTo_sites (N : Net) (a : Int) (s : List UInt8) : ∀ k, (castTo N a s k).2.sites = N.sites ∧ (castTo N a s k).2.room = N.room
  | 0 => ⟨rfl, rfl⟩
  | k + 1 => by
    have ih := castTo_sites N a s k
    have h := send_sites (castTo N a s k).2 a k s
    exact ⟨h.1.trans ih.1, h.2.trans ih.2⟩
theorem castTo_le (N : Net) (a : Int) (s : List UInt8) : ∀ k : Nat, 0 ≤ (castTo N a s k).1 ∧ (castTo N a s k).1 ≤ k
  | 0 => ⟨Int.le_refl _, Int.le_refl _⟩
  | k + 1 => by
    have ih := castTo_le N a s k
    unfold castTo
    split <;> simp only <;> omega
def new (n r : Nat) : Net := ⟨n, r, fun _ _ => []⟩
end Links
