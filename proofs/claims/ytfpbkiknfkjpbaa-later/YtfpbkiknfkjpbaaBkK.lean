/-
  PLAIN MATHEMATICS: a book's own way to the tip and to what is kept.
-/
import Derived.Test.YtfpbkiknfkjpbaaBkB
namespace Go.Proofs.Ytfpbkiknfkjpbaa.Bk
open Num
set_option linter.unusedVariables false

theorem sorted_eq : ∀ (l m : List Nat), l.Pairwise (· < ·) → m.Pairwise (· < ·) → (∀ x, x ∈ l ↔ x ∈ m) → l = m := by
  intro l
  induction l with
  | nil =>
    intro m _ _ h
    cases m with
    | nil => rfl
    | cons b m => have := (h b).2 (by simp); simp at this
  | cons a l ih =>
    intro m hl hm h
    cases m with
    | nil => have := (h a).1 (by simp); simp at this
    | cons b m =>
      rw [List.pairwise_cons] at hl hm
      have hab : a = b := by
        have h1 := (h a).1 (by simp)
        have h2 := (h b).2 (by simp)
        rcases List.mem_cons.1 h1 with h1 | h1
        · exact h1
        · rcases List.mem_cons.1 h2 with h2 | h2
          · exact h2.symm
          · have := hm.1 a h1; have := hl.1 b h2; omega
      subst hab
      congr 1
      refine ih m hl.2 hm.2 ?_
      intro x
      constructor
      · intro hx
        rcases List.mem_cons.1 ((h x).1 (List.mem_cons_of_mem _ hx)) with e | e
        · have := hl.1 x hx; omega
        · exact e
      · intro hx
        rcases List.mem_cons.1 ((h x).2 (List.mem_cons_of_mem _ hx)) with e | e
        · have := hm.1 x hx; omega
        · exact e

theorem keep_eq {s : St} (hi : Inv s) : (List.range s.all.length).filter (fun i => has (line s.all i) (fin s)) = s.keep := by
  refine sorted_eq _ _ (List.Pairwise.filter _ List.pairwise_lt_range) hi.rise ?_
  intro x
  rw [List.mem_filter, List.mem_range, has_nat, hi.keep]

/-- The first of the highest among the first k. -/
def Best (all : List Itm) (k b : Nat) : Prop := (∀ i, i < k → height all i ≤ height all b) ∧ ∀ i, i < b → height all i < height all b

theorem best_tip {s : St} (hi : Inv s) {b : Nat} (hb : b < s.all.length) (h : Best s.all s.all.length b) : b = tip s := by
  have ht := inv_lt hi hi.tipin
  have h1 := h.1 _ ht
  have h2 := hi.high b hb
  rcases Nat.lt_trichotomy b (tip s) with h3 | h3 | h3
  · have := hi.first b h3; omega
  · exact h3
  · have := h.2 _ h3; omega

theorem range_take (n k : Nat) (h : k ≤ n) : (List.range n).take k = List.range k := by
  rw [List.take_range]; congr 1; omega

theorem filter_range_succ (k : Nat) (p : Nat → Bool) : (List.range (k + 1)).filter p = (List.range k).filter p ++ (if p k then [k] else []) := by
  rw [List.range_succ, List.filter_append]
  simp only [List.filter_cons, List.filter_nil]

/-- What is final, off the line turned round. -/
theorem fin_rev {s : St} (hw : Wk s) (h : ¬ (height s.all (tip s) : Int) < s.par.depth) : (line s.all (tip s)).reverse.getD s.par.depth.toNat 0 = fin s := by
  unfold fin finOf
  rw [if_neg h]
  have hl := line_length hw.tree (tip s)
  have hd := hw.d1
  simp only [List.getD]
  rw [List.getElem?_reverse (by omega), hl]
  congr 2

theorem rev_at {all : List Itm} (ht : Tree all) (id i : Nat) (h : i ≤ height all id) : (line all id).reverse.getD i 0 = (line all id).getD (height all id - i) 0 := by
  have hl := line_length ht id
  simp only [List.getD]
  rw [List.getElem?_reverse (by omega), hl]
  congr 2

theorem rev_pa {all : List Itm} (ht : Tree all) (id i : Nat) (h : i < height all id) : pa all ((line all id).reverse.getD i 0) = (line all id).reverse.getD (i + 1) 0 ∧ 0 < (line all id).reverse.getD i 0 := by
  have h1 := line_pa ht id (height all id - i - 1) (by omega)
  rw [show height all id - i - 1 + 1 = height all id - i by omega] at h1
  rw [rev_at ht id i (by omega), rev_at ht id (i + 1) (by omega), show height all id - (i + 1) = height all id - i - 1 by omega]
  exact h1

theorem rev_le {all : List Itm} (ht : Tree all) (id i : Nat) (h : i ≤ height all id) : (line all id).reverse.getD i 0 ≤ id := by
  rw [rev_at ht id i h]
  exact line_le ht id _ (line_take ht id _ (by omega)).2.1

theorem rev_zero {all : List Itm} (ht : Tree all) (id : Nat) : (line all id).reverse.getD 0 0 = id := by
  rw [rev_at ht id 0 (by omega)]
  obtain ⟨_, h2, h3⟩ := line_take ht id (height all id - 0) (by omega)
  exact line_unique ht h2 (line_self ht id) (by omega)

theorem rev_end {all : List Itm} (ht : Tree all) (id : Nat) : (line all id).reverse.getD (height all id) 0 = 0 := by
  rw [rev_at ht id _ (Nat.le_refl _)]
  obtain ⟨_, h2, h3⟩ := line_take ht id (height all id - height all id) (by omega)
  exact line_unique ht h2 (line_zero_mem ht id) (by rw [h3, height_zero]; omega)

end Go.Proofs.Ytfpbkiknfkjpbaa.Bk
