import Derived.Test.YtpaakikgfojplabCTr6
/-
  Loads of whole pages and nodes in regions that draw: under one name each.
-/
namespace Go.Proofs.Ytpaakikgfojplab
open Go.RowKit Num Bk
set_option linter.unusedVariables false

def rdP (w : World) (b o n : Nat) : Array Value := ((List.range n).map fun j => (w.cell? ⟨b, o + j, none⟩).getD undef).toArray
def okP (w : World) (b o n : Nat) : Bool := (List.range n).all fun j => (w.cell? ⟨b, o + j, none⟩).isSome

theorem range_rd {w : World} {b o n : Nat} (h : okP w b o n = true) : w.rangeAt b o (rdP w b o n).toList := by
  intro j v hv
  unfold okP at h
  rw [List.all_eq_true] at h
  unfold rdP at hv
  have hj : j < n := by have := (List.getElem?_eq_some_iff.1 hv).1; simpa using this
  have := h j (by simpa using hj)
  simp [hj] at hv
  rw [← hv]
  cases hc : w.cell? ⟨b, o + j, none⟩ with
  | none => rw [hc] at this; simp at this
  | some u => rfl
theorem rd_size (w : World) (b o n : Nat) : (rdP w b o n).size = n := by simp [rdP]

def loadPg (v : Value) : Sem Value := Instr.loadAt 87 v
def loadNd (v : Value) : Sem Value := Instr.loadAt 89 v
theorem loadPg_eq (v : Value) : Instr.loadAt 87 v = loadPg v := rfl
theorem loadNd_eq (v : Value) : Instr.loadAt 89 v = loadNd v := rfl

theorem run_loadPg (w : World) (b o : Nat) (h : okP w b o 27 = true) : (loadPg (.pointer (some ⟨b, o, none⟩))).run Try.prog w = .ok (.agg (rdP w b o 27)) w := by
  have := run_loadAt_mid (P := Try.prog) w b o 87 (rdP w b o 27).toList _ (range_rd h) Try.underlying87 rfl (by
    rw [Array.length_toList, rd_size]; kernel_rfl)
  simpa [loadPg] using this
theorem run_loadNd (w : World) (b o : Nat) (h : okP w b o 37 = true) : (loadNd (.pointer (some ⟨b, o, none⟩))).run Try.prog w = .ok (.agg (rdP w b o 37)) w := by
  have := run_loadAt_mid (P := Try.prog) w b o 89 (rdP w b o 37).toList _ (range_rd h) Try.underlying89 rfl (by
    rw [Array.length_toList, rd_size]; kernel_rfl)
  simpa [loadNd] using this

/-- A part of a block that is known whole. -/
theorem part_in {w : World} {B o n : Nat} {t : TypeId} {cs ps : Array Value} (h : w.heap[B]? = some (.cells cs t (0, 0))) (hp : ps.size = n) (hc : ∀ j, j < n → cs[o + j]? = ps[j]?) : okP w B o n = true ∧ rdP w B o n = ps := by
  have hcell : ∀ j (hj : j < n), w.cell? ⟨B, o + j, none⟩ = some (ps[j]'(by omega)) := fun j hj => cell_of_cells h (by rw [hc j hj, Array.getElem?_eq_getElem])
  constructor
  · unfold okP
    rw [List.all_eq_true]
    intro j hj
    rw [hcell j (by simpa using hj)]; rfl
  · unfold rdP
    apply Array.ext
    · simp [hp]
    · intro i h1 h2
      have hi : i < n := by simpa using h1
      simp [hcell i hi]
theorem page_in {w : World} {B : Nat} {n : Nd} (h : w.heap[B]? = some (.cells (ndA n) 89 (0, 0))) : okP w B 10 27 = true ∧ rdP w B 10 27 = pgA n.pg := by
  refine part_in h rfl ?_
  intro j _
  show (ndC n).toArray[10 + j]? = _
  rw [List.getElem?_toArray]
  unfold ndC
  rw [List.getElem?_append_right (by simp)]
  simp
theorem page_at {w : World} {B : Nat} {g : Pg} (h : w.heap[B]? = some (.cells (pgA g) 87 (0, 0))) : okP w B 0 27 = true ∧ rdP w B 0 27 = pgA g :=
  part_in h rfl (fun j _ => by rw [Nat.zero_add])
theorem node_at {w : World} {B : Nat} {n : Nd} (h : w.heap[B]? = some (.cells (ndA n) 89 (0, 0))) : okP w B 0 37 = true ∧ rdP w B 0 37 = ndA n :=
  part_in h rfl (fun j _ => by rw [Nat.zero_add])

theorem part_keep {w w' : World} {B o n C : Nat} (hb : Below C w w') (hB : B < C) : okP w' B o n = okP w B o n ∧ rdP w' B o n = rdP w B o n := by
  have hc : ∀ j, w'.cell? ⟨B, o + j, none⟩ = w.cell? ⟨B, o + j, none⟩ := fun j => hb.cell (p := ⟨B, o + j, none⟩) hB
  unfold okP rdP
  simp only [hc]
  exact ⟨trivial, trivial⟩

end Go.Proofs.Ytpaakikgfojplab

