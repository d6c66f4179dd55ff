/- A region that draws its order, whose operations only read, and whose callees tell a fixed answer and turn nothing that lay: walked once. -/
import Derived.Test.YtohmhbjiapflpaaStr
import Derived.BigQuiet
import Derived.Deep.QuietTactic
import Derived.Shelf.SlSortCmp.QuietGrown
namespace Go.Proofs.Ytohmhbjiapflpaa
open Go.RowKit
set_option linter.unusedVariables false

/-- A world in which all that lay in w lies as it lay. -/
structure Later (w : World) where
  at' : World
  bel : Below w.heap.size w at'
theorem Later.cell {w : World} (p : Later w) {b o : Nat} {v : Value} (hb : b < w.heap.size) (h : w.cell? ⟨b, o, none⟩ = some v) : p.at'.cell? ⟨b, o, none⟩ = some v := (p.bel.cell (p := ⟨b, o, none⟩) hb).trans h
theorem wp_region_later {P : Program} {id : Nat} {Q : Exit → Act → World → Prop} {a : Act} {w : World} {l : List Oper} (hm : P.follows .mixedOrders = true) (hB : Region.lexB .any l.toArray = true)
    (h : wpQuiet P l.toArray (fun w' => ∃ p : Later w, w' = p.at') (fun a' => ∀ w', (∃ p : Later w, w' = p.at') → Q .normal a' w') l a) : (Code.region id l.toArray true).wp P Q a w :=
  wp_region_quiet (C := fun w' => ∃ p : Later w, w' = p.at') hm hB ⟨⟨w.drew, grew_drew w⟩, rfl⟩ (by simpa using h)
theorem Calls.later {P : Program} {f : FuncId} {args : Array Value} {w : World} {p : Later w} {v : Value} (h : Calls P f args p.at' fun e w' => e = .returned v ∧ Below p.at'.heap.size p.at' w') : Calls P f args p.at' fun e w'' => e = .returned v ∧ ∃ q : Later w, w'' = q.at' :=
  h.mono fun _ w' ⟨he, hb⟩ => ⟨he, ⟨w', grew p.bel hb⟩, rfl⟩
end Go.Proofs.Ytohmhbjiapflpaa
