import Derived.Test.YtpaakikgfojplabCEdge
/-
  THE CONTRACT of beacon.Leads: where its numbers may be, the inequality; else ErrArg.
-/
namespace Go.Proofs.Ytpaakikgfojplab
open Go.RowKit Num

/-- The numbers that may be. -/
def okArgs (p s t a b : Int) : Prop := 0 ≤ p ∧ p < 1024 ∧ 1 ≤ t ∧ t ≤ 240 ∧ 0 ≤ s ∧ s ≤ t ∧ 2 ≤ b ∧ b ≤ 20 ∧ 1 ≤ a ∧ a < b

end Go.Proofs.Ytpaakikgfojplab

