/- A slice of bytes that the call itself makes and appends to. -/
import Derived.Test.YtepddieblankpaaDoorBytes
import Derived.Laws.AppendOwn
import Derived.OwnWalk
namespace Go.Proofs.YtepddieblankpaaDoor
open Go.RowKit
set_option linter.unusedVariables false

def byteCells (l : List UInt8) : List Value := l.map fun c => Value.int .u8 (c.toNat : Int)

/-- The slice v owns the bytes l, in a block from base on. -/
def OwnsB (w : World) (base : Nat) (v : Value) (l : List UInt8) : Prop := w.ownsRow base 5 1 v l.length (byteCells l)

theorem info_u8 : (Tryd.prog.info? 5).map (fun i => (i.zero, i.size, i.bytes)) = some (some (.int .u8 0), 1, 1) := by kernel_rfl

theorem OwnsB.nil (w : World) (base : Nat) : OwnsB w base (.slice none 0 0) [] := World.ownsRow_nil _ _ _ _

/-- 'b = append(b, c)'. -/
theorem wp_append_byte {ops : Array Oper} {rest : List Oper} {o : Oper} {a : Act} {w : World} {Q : Exit → Act → World → Prop} (hgd : o.guard = none) (s x : Operand)
    (ho : o.op = .call { callee := .builtin .append, args := #[s, x], argTypes := #[80, 80] })
    (base : Nat) (v : Value) (l : List UInt8) (d : Int) (c : UInt8) (hd : d = (c.toNat : Int)) (hs : a.eval s = v) (hx : a.eval x = .slice (some ⟨w.heap.size, 0, none⟩) 1 1)
    (hown : OwnsB w base v l) (hbase : base ≤ w.heap.size) (hlen : l.length < 1000000000)
    (h : ∀ v' w', OwnsB w' base v' (l ++ [c]) → Below base w w' → wpList Tryd.prog ops Q rest (a.put o.dst v') w') :
    wpList Tryd.prog ops Q (o :: rest) a (w.alloc (.cells #[.int .u8 d] 5)) := by
  obtain ⟨i0, hi, hz0, hz1, hz2⟩ := info_parts info_u8
  subst hd
  refine wpList_append_own (P := Tryd.prog) _ hgd s x 80 ho base 5 i0 (.int .u8 0) 1 1 Tryd.underlying80 hi hz0 hz1 hz2 rfl (by decide) v l.length (byteCells l) hs (World.ownsRow.alloc hown _) ⟨w.heap.size, 0, none⟩ 1 1 [.int .u8 (c.toNat : Int)] hx rfl ?_ ?_ ?_ ?_ ?_ ?_
  · exact cell_one_new _ _ _
  · intro u hu
    simp at hu
    subst hu
    rfl
  · unfold maxLen; omega
  · omega
  · simp; omega
  · intro v' w' h1 h2 _
    refine h v' w' ?_ ?_
    · unfold OwnsB
      have e : byteCells (l ++ [c]) = byteCells l ++ [.int .u8 (c.toNat : Int)] := by simp [byteCells]
      rw [e, List.length_append]
      exact h1
    · refine (((Below.refl base w).alloc hbase _).grown h2 (by simp; omega) ?_)
      intro k hk
      exact (hown.lt k hk).1

/-- 'string(b)'. -/
theorem OwnsB.text {w : World} {base : Nat} {v : Value} {l : List UInt8} (h : OwnsB w base v l) :
    (convert 80 9 v).run Tryd.prog w = .ok (.string ⟨l.toArray⟩) w := by
  rcases h.2 with ⟨rfl, h0⟩ | ⟨g, cap, cur, rfl, hb, hg, hn, hm, hc, ht⟩
  · have : l = [] := List.eq_nil_of_length_eq_zero h0
    subst this
    rw [run_convert_bytes_nil (P := Tryd.prog) w 80 5 Tryd.underlying80 Tryd.underlying5 0 0 9 Tryd.underlying9]
    rfl
  · refine run_convert_bytes_back (P := Tryd.prog) w 80 9 5 ⟨g, 0, none⟩ cap l Tryd.underlying80 Tryd.underlying5 Tryd.underlying9 (fun j hj => ?_)
    exact World.ownsRow.cells h rfl j _ (by simp [byteCells, List.getElem?_eq_getElem hj])
end Go.Proofs.YtepddieblankpaaDoor
