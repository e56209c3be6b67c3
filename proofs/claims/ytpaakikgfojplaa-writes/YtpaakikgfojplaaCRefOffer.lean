import Derived.Test.YtpaakikgfojplaaCRefTurn
/-
  THE WALKS of beaconref: Turn (whole), there, refused.
-/
namespace Go.Proofs.Ytpaakikgfojplaa
open Go.RowKit Num Bk
set_option linter.unusedVariables false

theorem below_zero {w A : World} {cs : Array Value} {t : TypeId} (hA : w.alloc (.cells cs t) = A) : A.heap.size = w.heap.size + 1 ∧ Below w.heap.size w A ∧ A.heap[w.heap.size]? = some (.cells cs t (0, 0)) := by
  subst hA
  exact ⟨by simp, (Below.refl _ _).alloc (Nat.le_refl _) _, heap_alloc_new w _⟩

theorem turn_ok {s : St} (hv : Inv s) {id slot pool : Int} (he : turnErr s id slot pool = 0) : ∃ k pN : Nat, id = (k : Int) ∧ pool = (pN : Int) ∧ k ∈ s.keep ∧ missing s id = 0 ∧ slotOk s k slot = true ∧ pN < s.par.stakes.length := by
  unfold turnErr at he
  by_cases hm : missing s id = 0
  · rw [if_neg (by simpa using hm)] at he
    obtain ⟨k, hk, rfl⟩ := missing_zero hm
    rw [Int.toNat_natCast] at he
    cases hs : slotOk s k slot
    · rw [if_pos hs] at he; omega
    · rw [if_neg (by simp [hs])] at he
      cases hp : poolOk s pool
      · rw [if_pos hp] at he; omega
      · simp [poolOk] at hp
        obtain ⟨pN, rfl⟩ := Int.eq_ofNat_of_zero_le hp.1
        exact ⟨k, pN, rfl, rfl, hk, hm, hs, by omega⟩
  · rw [if_pos (by simpa using hm)] at he; omega

end Go.Proofs.Ytpaakikgfojplaa

