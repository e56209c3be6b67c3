import Derived.Test.YtpaakikgfojplaaCRefWith
import Derived.Laws.CopyOwn
import Derived.Test.YtpaakikgfojplaaCFr
/-
  THE WALKS of beaconref: copied; stakes.
-/
namespace Go.Proofs.Ytpaakikgfojplaa
open Go.RowKit Num Bk
set_option linter.unusedVariables false

theorem icells_one (l : List Int) : ∀ u ∈ icells l, u.oneCell' = true := by
  intro u hu
  obtain ⟨_, _, rfl⟩ := List.mem_map.1 hu
  rfl

theorem Try.size3 : (Try.prog.info? 3).map (·.size) = some 1 := by kernel_rfl

/-- A row that is known whole, owned whole. -/
theorem own_whole {w : World} {base g : Nat} {e : TypeId} {xs : List Value} {arr : Array Value} (h : w.heap[g]? = some (.cells arr e (0, 0))) (hb : base ≤ g) (ha : arr.toList = xs) (hm : xs.length ≤ maxLen) :
    w.ownsRow base e 1 (.slice (some ⟨g, 0, none⟩) xs.length xs.length) xs.length xs := by
  refine ⟨by omega, Or.inr ⟨g, xs.length, arr, rfl, hb, h, Nat.le_refl _, hm, ?_, ?_⟩⟩
  · rw [← ha]; simp
  · rw [ha]; simp

end Go.Proofs.Ytpaakikgfojplaa

