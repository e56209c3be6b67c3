import Derived.Test.YtpaakikgfojplaaCBelow
import Derived.Test.YtpaakikgfojplaaCBkB
/-
  The document's chain (package beaconref) in memory: its block, its rows; what stays when nothing old is written.
-/
namespace Go.Proofs.Ytpaakikgfojplaa
open Go.RowKit Num Bk
set_option linter.unusedVariables false

def icells (l : List Int) : List Value := l.map (Value.int .i64)
def hcells (h : Hdr) : List Value := [.int .i64 h.slot, .int .i64 h.pool, .int .i64 h.proof, .int .i64 h.count, .int .i64 h.frm, .int .i64 h.dst, .int .i64 h.amount]
def itcells (x : Itm) : List Value := [.int .i64 x.hdr.slot, .int .i64 x.hdr.pool, .int .i64 x.hdr.proof, .int .i64 x.hdr.count, .int .i64 x.hdr.frm, .int .i64 x.hdr.dst, .int .i64 x.hdr.amount, .int .i64 (x.par : Int)]
def acells (l : List Itm) : List Value := l.flatMap itcells

theorem itcells_length (x : Itm) : (itcells x).length = 8 := rfl
theorem acells_length (l : List Itm) : (acells l).length = l.length * 8 := by
  induction l with
  | nil => rfl
  | cons x l ih => simp [acells, itcells] at ih ⊢; omega
theorem acells_append (l m : List Itm) : acells (l ++ m) = acells l ++ acells m := by simp [acells]

theorem acells_at (l : List Itm) (i j : Nat) (hi : i < l.length) (hj : j < 8) : (acells l)[i * 8 + j]? = (itcells (item l i))[j]? := by
  induction l generalizing i with
  | nil => simp at hi
  | cons x l ih =>
    have e : acells (x :: l) = itcells x ++ acells l := by simp [acells]
    rw [e]
    cases i with
    | zero =>
      rw [List.getElem?_append_left (by rw [itcells_length]; omega)]
      simp [item, List.getD]
    | succ i =>
      rw [List.getElem?_append_right (by rw [itcells_length]; omega), itcells_length]
      have := ih i (by simpa using hi)
      have e2 : (i + 1) * 8 + j - 8 = i * 8 + j := by omega
      rw [e2, this]
      simp [item, List.getD]

theorem icells_length (l : List Int) : (icells l).length = l.length := by simp [icells]
theorem icells_at (l : List Int) (k : Nat) (h : k < l.length) : (icells l)[k]? = some (.int .i64 (l.getD k 0)) := by simp [icells, List.getD, h]
theorem icells_set (l : List Int) (k : Nat) (x : Int) : (icells l).set k (.int .i64 x) = icells (l.set k x) := by simp [icells, List.map_set]
theorem icells_append (l m : List Int) : icells (l ++ m) = icells l ++ icells m := by simp [icells]

theorem cell_of_cells {w : World} {b j : Nat} {cs : Array Value} {t : TypeId} {v : Value} (h : w.heap[b]? = some (.cells cs t (0, 0))) (hv : cs[j]? = some v) : w.cell? ⟨b, j, none⟩ = some v := by
  simp [World.cell?, h, hv]
theorem free_of_cells {w : World} {b j : Nat} {cs : Array Value} {t : TypeId} (h : w.heap[b]? = some (.cells cs t (0, 0))) : w.frozen? ⟨b, j, none⟩ = false := by
  simp [World.frozen?, h]

/-- A row stays while nothing old is written. -/
theorem row_keep {w w' : World} {base B n e size : Nat} {v : Value} {xs : List Value} (h : w.ownsRow base e size v n xs) (hb : Below B w w') (hB : w.heap.size ≤ B) : w'.ownsRow base e size v n xs := by
  refine ⟨h.1, ?_⟩
  rcases h.2 with hn | ⟨g, cap, cur, hv, hb', hg, r⟩
  · exact Or.inl hn
  · refine Or.inr ⟨g, cap, cur, hv, hb', ?_, r⟩
    rw [hb.block g (by have := lt_of_block hg; omega)]; exact hg

theorem row_weak {w : World} {b0 b1 n e size : Nat} {v : Value} {xs : List Value} (h : w.ownsRow b1 e size v n xs) (hb : b0 ≤ b1) : w.ownsRow b0 e size v n xs := by
  refine ⟨h.1, ?_⟩
  rcases h.2 with hn | ⟨g, cap, cur, hv, hb', r⟩
  · exact Or.inl hn
  · exact Or.inr ⟨g, cap, cur, hv, by omega, r⟩

/-- What an owned value looks like. -/
theorem own_any {w : World} {base n e size : Nat} {v : Value} {xs : List Value} (h : w.ownsRow base e size v n xs) : ∃ ao cap, v = .slice ao n cap ∧ (0 < n → ∃ g, ao = some ⟨g, 0, none⟩) := by
  rcases h.2 with ⟨rfl, rfl⟩ | ⟨g, cap, cur, hv, _⟩
  · exact ⟨none, 0, rfl, fun h => by omega⟩
  · exact ⟨_, _, hv, fun _ => ⟨g, rfl⟩⟩

end Go.Proofs.Ytpaakikgfojplaa

