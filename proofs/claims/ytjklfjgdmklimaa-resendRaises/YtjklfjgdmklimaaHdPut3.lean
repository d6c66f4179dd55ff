/- What Put of hold comes to. -/
import Derived.Test.YtjklfjgdmklimaaHdPut2
namespace Go.Proofs.Ytjklfjgdmklimaa
open Go.RowKit Go.Maps

theorem hold_Put {w : World} {F : Nat → Prop} {p : Nat} {s : Hold.St} (h : IsHold w F p s) (hrm : s.l.length ≤ s.room) (m : Mesg.Msg) (v : Value) (hv : SliceI w v m.know) (hm : m.know.length ≤ 1000000000) :
    Calls Try.prog 12 #[.pointer (some ⟨p, 0, none⟩), msgV m v] w fun e w' => ∃ r, e = .returned r ∧ PutOut w F p (Hold.put s m) r w' := by
  by_cases hc : Mesg.may m = true ∧ m.know.length = s.clock.length
  · exact hold_Put_yes h hrm m v hv hm hc.1 hc.2
  · refine (hold_Put_bad h m v hv hm hc).mono ?_
    rintro e w' ⟨rfl, h2, hb⟩
    exact ⟨_, rfl, by rw [h2]; exact PutOut.no h hrm hb⟩
end Go.Proofs.Ytjklfjgdmklimaa
