import Derived.Test.YtpaakikgfojplaaCRefK
/-
  THE WALKS of beaconref: Line, in, height.
-/
namespace Go.Proofs.Ytpaakikgfojplaa
open Go.RowKit Num Bk
set_option linter.unusedVariables false

theorem has_take (l : List Nat) (k : Nat) (h : k < l.length) (i : Int) : has (l.take (k + 1)) i = (has (l.take k) i || ((l.getD k 0 : Nat) : Int) == i) := by
  rw [take_succ_getD l k h]
  simp [has]

theorem tip_step (all : List Itm) (l : List Nat) (k : Nat) (h : k < l.length) (b : Nat) :
    (l.take (k + 1)).foldl (fun best k => if better all k best then k else best) b = if better all (l.getD k 0) ((l.take k).foldl (fun best k => if better all k best then k else best) b) then l.getD k 0 else (l.take k).foldl (fun best k => if better all k best then k else best) b := by
  rw [take_succ_getD l k h, List.foldl_append]; rfl

end Go.Proofs.Ytpaakikgfojplaa

