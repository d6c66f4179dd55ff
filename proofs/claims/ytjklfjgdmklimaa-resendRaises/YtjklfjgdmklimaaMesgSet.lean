/- A message is put into a block. -/
import Derived.Test.YtjklfjgdmklimaaMesgCheck3
namespace Go.Proofs.Ytjklfjgdmklimaa
open Go.RowKit
set_option linter.unusedVariables false

theorem msg_free {W : World} {g : Nat} {cs : List Value} {t : TypeId} (h : Holds W g cs t) (j : Nat) : W.frozen? ⟨g, j, none⟩ = false := h.frozen j

/-- A message is put into a block. -/
def setMsg (W : World) (r : Nat) (m : Mesg.Msg) (v : Value) : World :=
  (((((((((W.setCell ⟨r, 0, none⟩ (.int .i64 m.site)).setCell ⟨r, 1, none⟩ (.int .i64 m.seq)).setCell ⟨r, 2, none⟩ v).setCell ⟨r, 3, none⟩ (.int .i64 m.op.kind)).setCell ⟨r, 4, none⟩ (.int .i64 m.op.epoch)).setCell ⟨r, 5, none⟩ (.int .i64 m.op.id.time)).setCell ⟨r, 6, none⟩ (.int .i64 m.op.id.site)).setCell ⟨r, 7, none⟩ (.int .i64 m.op.ref.time)).setCell ⟨r, 8, none⟩ (.int .i64 m.op.ref.site)).setCell ⟨r, 9, none⟩ (.int .i64 m.op.rune)
theorem setMsg_holds {W : World} {r : Nat} {x : Mesg.Msg} {u : Value} {t : TypeId} (h : Holds W r (msgL x u) t) (m : Mesg.Msg) (v : Value) : Holds (setMsg W r m v) r (msgL m v) t :=
  (((((((((h.set 0 _ (by simp [msgL])).set 1 _ (by simp [msgL])).set 2 _ (by simp [msgL])).set 3 _ (by simp [msgL])).set 4 _ (by simp [msgL])).set 5 _ (by simp [msgL])).set 6 _ (by simp [msgL])).set 7 _ (by simp [msgL])).set 8 _ (by simp [msgL])).set 9 _ (by simp [msgL])
theorem setMsg_keep (W : World) (r : Nat) (m : Mesg.Msg) (v : Value) : Keep (Just r) W (setMsg W r m v) :=
  (((((((((Keep.setCell _ _ _ _).trans (Keep.setCell _ _ _ _) (fun _ _ h => h)).trans (Keep.setCell _ _ _ _) (fun _ _ h => h)).trans (Keep.setCell _ _ _ _) (fun _ _ h => h)).trans (Keep.setCell _ _ _ _) (fun _ _ h => h)).trans (Keep.setCell _ _ _ _) (fun _ _ h => h)).trans (Keep.setCell _ _ _ _) (fun _ _ h => h)).trans (Keep.setCell _ _ _ _) (fun _ _ h => h)).trans (Keep.setCell _ _ _ _) (fun _ _ h => h)).trans (Keep.setCell _ _ _ _) (fun _ _ h => h)
end Go.Proofs.Ytjklfjgdmklimaa
