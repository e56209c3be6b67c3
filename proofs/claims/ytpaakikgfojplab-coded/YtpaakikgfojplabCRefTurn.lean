import Derived.Test.YtpaakikgfojplabCRefCopy
/-
  THE WALKS of beaconref: Stake, Count, Draw, Turn.
-/
namespace Go.Proofs.Ytpaakikgfojplab
open Go.RowKit Num Bk
set_option linter.unusedVariables false

theorem missing_vals (s : St) (id : Int) : missing s id = 0 ∨ missing s id = 2 ∨ missing s id = 3 := by
  unfold missing; split
  · exact Or.inl rfl
  · split
    · exact Or.inr (Or.inl rfl)
    · exact Or.inr (Or.inr rfl)

/-- What Stake and Count answer. -/
def askErr (s : St) (id pool : Int) : Int := if missing s id ≠ 0 then missing s id else if poolOk s pool = false then 5 else 0
def stakeV (s : St) (id pool : Int) : Int := if askErr s id pool = 0 then (stakesAt s.par s.all id.toNat).getD pool.toNat 0 else 0
def countV (s : St) (id pool : Int) : Int := if askErr s id pool = 0 then countAt s.all pool id.toNat else 0

def turnV (s : St) (id slot pool : Int) : Value :=
  if turnErr s id slot pool = 0 then .agg #[.int .i64 (nonceAt s id.toNat slot), .int .i64 (proofAt s id.toNat slot pool), .int .i64 (stakeAt s id.toNat slot pool), .bool (leadsAt s id.toNat slot pool)]
  else .agg #[.int .i64 0, .int .i64 0, .int .i64 0, .bool false]

theorem sum_take (l : List Int) (k : Nat) (h : k < l.length) : (l.take (k + 1)).sum = (l.take k).sum + l.getD k 0 := by
  rw [List.take_succ_eq_append_getElem h, List.sum_append]
  simp [List.getD, h]

theorem sum_take_le (l : List Int) (h : ∀ x ∈ l, 0 ≤ x) (k : Nat) : 0 ≤ (l.take k).sum ∧ (l.take k).sum ≤ l.sum := by
  have e : l.sum = (l.take k).sum + (l.drop k).sum := by rw [← List.sum_append, List.take_append_drop]
  have h1 := le_sum (l.take k) (fun x hx => h x (List.mem_of_mem_take hx)) (l.take k).length
  have h2 := le_sum (l.drop k) (fun x hx => h x (List.mem_of_mem_drop hx)) (l.drop k).length
  simp [List.getD] at h1 h2
  omega

end Go.Proofs.Ytpaakikgfojplab

