import Derived.Test.YtpaakikgfojplabCTimes
import Derived.Test.YtpaakikgfojplabCLeads
/-
  THE WALKS of the document's own answer (package beaconref): below, Leads.
-/
namespace Go.Proofs.Ytpaakikgfojplab
open Go.RowKit Num

theorem dcells_one (ds : List Nat) : ∀ u ∈ dcells ds, u.oneCell' = true := by
  intro u hu
  obtain ⟨_, _, rfl⟩ := List.mem_map.1 hu
  rfl

theorem below_eq (p s t a b x y : Nat) (hx : x = 1024 ^ t * ((b - a) ^ s * dval 1024 [1])) (hy : y = (1024 - p) ^ t * (b ^ s * dval 1024 [1])) : decide (x < y) = leads p s t a b := by
  have e : dval 1024 [1] = 1 := rfl
  subst hx; subst hy
  unfold leads
  rw [e, Nat.mul_one, Nat.mul_one, Nat.mul_comm (1024 ^ t), Nat.mul_comm ((1024 - p) ^ t)]

theorem own_lit {base : Nat} (w : World) (h : base ≤ w.heap.size) : (w.alloc (.cells #[.int .i64 1] 3)).ownsRow base 3 1 (.slice (some ⟨w.heap.size, 0, none⟩) [1].length 1) [1].length (dcells [1]) :=
  World.ownsRow_lit (base := base) (e := 3) (size := 1) w #[.int .i64 1] 1 h (by unfold maxLen; omega) rfl

end Go.Proofs.Ytpaakikgfojplab

