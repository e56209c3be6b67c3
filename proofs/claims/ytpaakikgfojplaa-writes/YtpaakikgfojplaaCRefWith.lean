import Derived.Test.YtpaakikgfojplaaCRefGo
/-
  THE WALKS of beaconref: what goes with a header: counts, running, last, stakes.
-/
namespace Go.Proofs.Ytpaakikgfojplaa
open Go.RowKit Num Bk
set_option linter.unusedVariables false

theorem fold_tail {α : Type} (f : α → Nat → α) (a : α) (L : List Nat) (k : Nat) (h1 : 1 ≤ k) (h : k < L.length) : (L.tail.take (k + 1 - 1)).foldl f a = f ((L.tail.take (k - 1)).foldl f a) (L.getD k 0) := by
  obtain ⟨j, rfl⟩ : ∃ j, k = j + 1 := ⟨k - 1, by omega⟩
  cases L with
  | nil => simp at h
  | cons y L =>
    have h' : j < L.length := by simpa using h
    show (L.take (j + 1)).foldl f a = f ((L.take j).foldl f a) ((y :: L).getD (j + 1) 0)
    rw [take_succ_getD L j h', List.foldl_append]
    rfl

theorem fold_tail_end {α : Type} (f : α → Nat → α) (a : α) (L : List Nat) (k : Nat) (h : k = L.length) : (L.tail.take (k - 1)).foldl f a = L.tail.foldl f a := by
  rw [List.take_of_length_le (by simp; omega)]

end Go.Proofs.Ytpaakikgfojplaa

