/- The walk of SearchNil. -/
import Derived.Test.YtepddieblankpaaDoorSeOpen
namespace Go.Proofs.YtepddieblankpaaDoor
open Go.RowKit
set_option linter.unusedVariables false

set_option maxHeartbeats 4000000 in
theorem walk_SearchNil (o : Int × Int) (w : World) (ho : In64 o.1 ∧ In64 o.2) (hk : Kit w) :
    Calls Tryd.prog 4 #[.agg #[.int .i64 o.1, .int .i64 o.2]] w fun e w' => e = .returned (.bool true) ∧ Below w.heap.size w w' := by
  obtain ⟨a, b⟩ := o
  have HK := Lib.hid hk
  clear hk ho
  simp only
  go_enter Tryd.func4, Tryd.ntmps4
  go_wp2_with fail
  have HB0 := Lib.hid (grew_alloc w (.cells #[.int .i64 a, .int .i64 b] 31))
  have HK0 := Lib.hid (HK.out.below HB0.out)
  have HC : ∀ j u, [Value.int .i64 a, Value.int .i64 b][j]? = some u → (w.alloc (.cells #[.int .i64 a, .int .i64 b] 31)).cell? ⟨w.heap.size, j, none⟩ = some u := fun j u hu => by
    rw [cell_of_row _ _ _ _ _ _ (heap_alloc_new _ _)]
    simpa using hu
  have c0 := HC 0 _ rfl
  have c1 := HC 1 _ rfl
  clear HC
  generalize w.alloc (.cells #[.int .i64 a, .int .i64 b] 31) = W at *
  have HN : Hid (∀ r, _) := Lib.hid (fun r => search_nil r W)
  have HBN := Lib.hid (browse_nil W)
  refine (HN.out 0).2.2.2.2.2.mono ?_
  rintro e w1 ⟨rfl, h1⟩
  subst h1
  go_wp2_with fail
  refine (HBN.out.2.2.2 _).mono ?_
  rintro e w1 ⟨⟨u, rfl⟩, h1⟩
  subst h1
  go_wp2_with fail
  refine (HN.out b).1.mono ?_
  rintro e w1 ⟨rfl, h1⟩
  subst h1
  go_wp2_with fail
  refine (HN.out b).2.1.mono ?_
  rintro e w1 ⟨rfl, h1⟩
  subst h1
  go_wp2_with fail
  refine (HN.out b).2.2.1.mono ?_
  rintro e w1 ⟨rfl, h1⟩
  subst h1
  go_wp2_with fail
  refine (HN.out b).2.2.2.1.mono ?_
  rintro e w1 ⟨rfl, h1⟩
  subst h1
  go_wp2_with fail
  refine (HN.out b).2.2.2.2.1.mono ?_
  rintro e w1 ⟨rfl, h1⟩
  subst h1
  go_wp2_with fail
  refine HBN.out.1.mono ?_
  rintro e w1 ⟨rfl, h1⟩
  subst h1
  go_wp2_with fail
  refine HBN.out.2.1.mono ?_
  rintro e w1 ⟨rfl, hb⟩
  have HK1 := Lib.hid (HK0.out.below hb)
  have HB1 := Lib.hid (grew HB0.out hb)
  clear hb
  go_wp2_with fail
  refine (browse_nil w1).2.2.1.mono ?_
  rintro e w2 ⟨rfl, h1⟩
  subst h1
  go_wp2_with fail
  refine (law19_live w1 HK1.out).mono ?_
  rintro e w3 ⟨rfl, hb⟩
  have HB2 := Lib.hid (grew HB1.out hb)
  clear hb
  go_wp2
  go_ret
  exact ⟨rfl, HB2.out⟩
end Go.Proofs.YtepddieblankpaaDoor
