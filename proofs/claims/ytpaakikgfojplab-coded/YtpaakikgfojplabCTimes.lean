import Derived.Test.YtpaakikgfojplabCEdge
/-
  THE WALKS of the document's own numbers (package beaconref): times, often, above, below, Leads, by contracts.
-/
namespace Go.Proofs.Ytpaakikgfojplab
open Go.RowKit Num

theorem one_int (n : Int) : ∀ u ∈ [Value.int .i64 n], u.oneCell' = true := by
  intro u hu; simp at hu; subst hu; rfl

theorem own_weak {w : World} {b0 b1 n : Nat} {v : Value} {xs : List Value} (h : w.ownsRow b1 3 1 v n xs) (hb : b0 ≤ b1) : w.ownsRow b0 3 1 v n xs := by
  refine ⟨h.1, ?_⟩
  rcases h.2 with hn | ⟨g, cap, cur, hv, hb', r⟩
  · exact Or.inl hn
  · exact Or.inr ⟨g, cap, cur, hv, by omega, r⟩

theorem more_by {B : Nat} {xs ys : List Nat} (hB : 1 ≤ B) (hx : DGood B xs) (hy : DGood B ys) (h : xs.length ≠ ys.length) : decide (ys.length < xs.length) = decide (dval B ys < dval B xs) := less_by hB hy hx (Ne.symm h)

end Go.Proofs.Ytpaakikgfojplab

