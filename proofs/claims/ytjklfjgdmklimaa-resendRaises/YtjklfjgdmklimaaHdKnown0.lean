/- Plain mathematics of Known of hold. -/
import Derived.Test.YtjklfjgdmklimaaHdMath
import Derived.Test.YtjklfjgdmklimaaVecMake
import Derived.Test.YtjklfjgdmklimaaVecJoin
namespace Hold
open Go.Proofs.Ytjklfjgdmklimaa

def bump (m : Mesg.Msg) : List Int := Vecs.tick m.know m.site.toNat
def knowF (c : List Int) (m : Mesg.Msg) : List Int := Vecs.join c (bump m)
def known (s : St) : List Int := s.l.foldl knowF s.clock

theorem knowF_comm (c : List Int) (a b : Mesg.Msg) : knowF (knowF c a) b = knowF (knowF c b) a := by
  unfold knowF Vecs.join
  apply List.ext_getElem
  · simp only [List.length_zipWith]
    omega
  · intro i h1 h2
    simp only [List.getElem_zipWith]
    omega
/-- The order in which a map is walked does not show. -/
theorem known_perm {c : List Int} {l l' : List Mesg.Msg} (h : l.Perm l') : l.foldl knowF c = l'.foldl knowF c :=
  h.foldl_eq' (fun x _ y _ z => knowF_comm z x y) c
theorem bump_len (m : Mesg.Msg) : (bump m).length = m.know.length := by simp [bump, Vecs.tick]
theorem bump_may {m : Mesg.Msg} (h : Mesg.may m = true) : Vecs.may (bump m) = true := by
  have hb := Resend.may_bounds h
  refine Vecs.may_iff.2 ⟨by rw [bump_len]; exact hb.1, by rw [bump_len]; exact hb.2.1, fun z hz => ?_⟩
  unfold bump Vecs.tick at hz
  rcases List.mem_or_eq_of_mem_set hz with h1 | h1
  · exact hb.2.2.2.2.1 z h1
  · rw [hb.2.2.2.2.2] at h1
    have h2 := hb.2.2.2.1
    subst h1
    constructor <;> omega
theorem knowF_len {c : List Int} {m : Mesg.Msg} (hl : m.know.length = c.length) : (knowF c m).length = c.length := by
  unfold knowF Vecs.join
  rw [List.length_zipWith, bump_len, hl, Nat.min_self]
theorem knowF_may {c : List Int} {m : Mesg.Msg} (hc : Vecs.may c = true) (h : Mesg.may m = true) (hl : m.know.length = c.length) : Vecs.may (knowF c m) = true := by
  refine Vecs.may_of (by rw [knowF_len hl]; exact (Vecs.may_len hc).1) (by rw [knowF_len hl]; exact (Vecs.may_len hc).2) fun k hk => ?_
  have h1 : k < c.length := by rw [knowF_len hl] at hk; exact hk
  have h2 : k < (bump m).length := by rw [bump_len, hl]; exact h1
  have e : (knowF c m)[k] = max c[k] (bump m)[k] := by simp [knowF, Vecs.join]
  have a := Vecs.may_ok hc k h1
  have b := Vecs.may_ok (bump_may h) k h2
  rw [e]
  omega
theorem tick_bump {m : Mesg.Msg} (h : Mesg.may m = true) (hk : Vecs.may m.know = true) : tickR m.know m.site = (bump m, 0) := by
  have hb := Resend.may_bounds h
  unfold tickR
  simp only [hk, hb.2.2.1.1, hb.2.2.1.2, hb.2.2.2.2.2]
  have h2 := hb.2.2.2.1
  have h3 : ¬ m.seq - 1 = 4294967295 := by omega
  simp [h3, bump]
theorem know_may {m : Mesg.Msg} (h : Mesg.may m = true) : Vecs.may m.know = true := by
  have hb := Resend.may_bounds h
  exact Vecs.may_iff.2 ⟨hb.1, hb.2.1, hb.2.2.2.2.1⟩
theorem join_bump {c : List Int} {m : Mesg.Msg} (hc : Vecs.may c = true) (h : Mesg.may m = true) (hl : m.know.length = c.length) : joinR c (bump m) = (knowF c m, 0) := by
  unfold joinR
  have h1 : Vecs.together c (bump m) = true := by
    unfold Vecs.together
    rw [hc, bump_may h, bump_len, hl]
    simp
  rw [h1]
  rfl
end Hold
