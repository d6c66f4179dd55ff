/- A line, with its maps or without; Insert, Len, New. -/
import Derived.Test.YtohmhbjiapflpaaWvPut2
namespace Go.Proofs.Ytohmhbjiapflpaa
open Go.RowKit Go.Maps
set_option linter.unusedVariables false

theorem kids_nil_map (x : Int × Int) (h1 : I64 x.1) (h2 : I64 x.2) (w : World) : (Instr.lookup 82 (.map none) (idV x) false).run Try.prog w = .ok (.slice none 0 0) w := by
  have h : (Instr.lookup 82 (.map none) (keyV (x.1, x.2)) false).run Try.prog w = .ok (kslC.enc KSl.none) w := by simpa using Maps.look_nil (w := w) false id_keyed kids_map (zero_ksl w) (id_key.make x.1 x.2 h1 h2)
  exact h
theorem has_nil_map (x : Int × Int) (h1 : I64 x.1) (h2 : I64 x.2) (w : World) : (Instr.lookup 81 (.map none) (idV x) true).run Try.prog w = .ok (.tuple #[Wel.val ⟨(0, 0), (0, 0), 0⟩, .bool false]) w := by
  have h : (Instr.lookup 81 (.map none) (keyV (x.1, x.2)) true).run Try.prog w = .ok (.tuple #[welC.enc Wel.zero, .bool false]) w := by simpa using Maps.look_nil (w := w) true id_keyed has_map (zero_wel w) (id_key.make x.1 x.2 h1 h2)
  exact h
theorem len_nil_map (ty : TypeId) (w : World) : (Builtin.len_ #[81] ty #[.map none]).run Try.prog w = .ok (.int .i64 0) w := by kernel_rfl

theorem IsLine.read {w : World} {F : Nat → Prop} {p : Nat} {L : List Wel} (h : IsLine w F p L) : LRead w p L := by
  rcases h.is with ⟨rfl, hb⟩ | ⟨mh, mk, ks, hl, _⟩
  · refine ⟨.map none, .map none, hb, fun x k1 k2 => ⟨.slice none 0 0, ⟨none, 0, rfl, Nat.le_refl _, .inl rfl⟩, fun W _ => kids_nil_map x k1 k2 W⟩, by simp, fun x k1 k2 W _ => has_nil_map x k1 k2 W, fun W _ ty => len_nil_map ty W⟩
  · exact hl.read
theorem IsLine.ok {w : World} {F : Nat → Prop} {p : Nat} {L : List Wel} (h : IsLine w F p L) : Weave.Ok L := by
  rcases h.is with ⟨rfl, hb⟩ | ⟨mh, mk, ks, hl, _⟩
  · exact ⟨.nil, by simp, by simp, by simp⟩
  · exact hl.ok
theorem IsLine.below {w w' : World} {F : Nat → Prop} {p : Nat} {L : List Wel} (h : IsLine w F p L) (hb : Below w.heap.size w w') : IsLine w' F p L := by
  refine ⟨h.at', fun k hk => Nat.lt_of_lt_of_le (h.lt k hk) hb.size, ?_⟩
  rcases h.is with ⟨h1, h2⟩ | ⟨mh, mk, ks, hl, hr⟩
  · exact .inl ⟨h1, h2.keep (Keep.of_grew hb Non) (fun h => h)⟩
  · exact .inr ⟨mh, mk, ks, hl.below hb, hr⟩
theorem LStep.grew {w w' : World} {F : Nat → Prop} {p : Nat} {L : List Wel} (h : IsLine w F p L) (hb : Below w.heap.size w w') : LStep w F p L w' := ⟨F, h.below hb, Keep.of_grew hb F, fun k hk => .inl hk⟩
theorem LStep.after {w w1 w' : World} {F : Nat → Prop} {p : Nat} {L : List Wel} (hb : Below w.heap.size w w1) (h : LStep w1 F p L w') : LStep w F p L w' := by
  obtain ⟨F', h1, h2, h3⟩ := h
  exact ⟨F', h1, (Keep.of_grew hb F).trans h2 (fun _ _ h => h), fun k hk => (h3 k hk).imp (fun h => h) (fun h => Nat.le_trans hb.size h)⟩
end Go.Proofs.Ytohmhbjiapflpaa
