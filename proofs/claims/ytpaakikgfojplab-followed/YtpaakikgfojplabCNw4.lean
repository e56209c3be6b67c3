import Derived.Test.YtpaakikgfojplabCM38
import Derived.Test.YtpaakikgfojplabCBc3
/-
  THE WALKS of the program's New: tree.Begin.
-/
namespace Go.Proofs.Ytpaakikgfojplab
open Go.RowKit Num Bk
set_option linter.unusedVariables false

def zeroT : Array Value := #[.int .i64 0, .int .i64 0, .int .i64 0, .slice none 0 0, .slice none 0 0]
def treA (d r : Int) (g : Nat) : Array Value := #[.int .i64 d, .int .i64 r, .int .i64 0, .slice (some ⟨g, 0, none⟩) 1 1, .slice none 0 0]
theorem info_tre : (Try.prog.info? 80).map (·.size) = some 5 := by kernel_rfl
theorem treA_one (d r : Int) (g : Nat) : (treA d r g).all (·.oneCell') = true := by simp [treA, Value.oneCell']
theorem zeroT_one : zeroT.all (·.oneCell') = true := by simp [zeroT, Value.oneCell']

/-- The first header's node. -/
def firstN (g : Pg) : Nd := ⟨0, -1, 0, zeroH, g⟩
def buildN2 (parts : Array (Nat × Value)) : Sem Value := Instr.build 89 parts
theorem buildN2_eq (parts : Array (Nat × Value)) : Instr.build 89 parts = buildN2 parts := rfl
theorem run_buildN2 (w : World) (a : Int) (g : Pg) : (buildN2 #[(1, .int .i64 a), (4, .agg (pgA g))]).run Try.prog w = .ok (.agg (ndA ⟨0, a, 0, zeroH, g⟩)) w := by
  unfold buildN2
  exact run_build w 89 _ (ndA ⟨0, a, 0, zeroH, g⟩) (by kernel_rfl)

attribute [local go_sem ↓] buildN2_eq buildNs_eq
attribute [local go_sem] run_buildN2 run_buildNs

set_option maxHeartbeats 6400000 in
set_option maxRecDepth 1000000 in
theorem tbegin_no (d r : Int) (g : Pg) (w : World) (h : d < 1 ∨ 8 < d ∨ r < 2 ∨ 40 < r) :
    Calls Try.prog 58 #[.int .i64 d, .int .i64 r, .agg (pgA g)] w fun e w' => e = .returned (.tuple #[.agg zeroT, .int .i64 1]) ∧ Below w.heap.size w w' := by
  go_enter Try.func58, Try.ntmps58
  go_upto_region 1 with fail
  generalize hA : (w.alloc (.cells (pgA g) 87)).alloc (.cells #[.int .i64 0, .int .i64 0, .int .i64 0, .slice none 0 0, .slice none 0 0] 80) = A at *
  obtain ⟨hsA, hbA, k0, k1⟩ : w.heap.size + 2 ≤ A.heap.size ∧ Below w.heap.size w A ∧ A.heap[w.heap.size]? = some (.cells (pgA g) 87 (0, 0)) ∧ A.heap[w.heap.size + 1]? = some (.cells zeroT 80 (0, 0)) := by
    subst hA
    exact blocks2 (Below.refl _ _)
  clear hA
  by_cases q1 : d < 1
  · go_wp2_with (refine wpList_store_row rfl 80 _ _ rfl (w.heap.size + 1) zeroT rfl rfl 80 zeroT k1 info_tre rfl zeroT_one ?_)
    refine bodyPost_ret (results_ct rfl _ _ _ (w.heap.size + 1) 80 zeroT (0, 0) _ rfl (setRow_heap _ _ _ _ _ _ k1) rfl Try.underlying80 info_tre) rfl ⟨rfl, Below.setRow hbA (by omega) _⟩
  by_cases q2 : 8 < d
  · go_wp2_with (refine wpList_store_row rfl 80 _ _ rfl (w.heap.size + 1) zeroT rfl rfl 80 zeroT k1 info_tre rfl zeroT_one ?_)
    refine bodyPost_ret (results_ct rfl _ _ _ (w.heap.size + 1) 80 zeroT (0, 0) _ rfl (setRow_heap _ _ _ _ _ _ k1) rfl Try.underlying80 info_tre) rfl ⟨rfl, Below.setRow hbA (by omega) _⟩
  by_cases q3 : r < 2
  · go_wp2_with (refine wpList_store_row rfl 80 _ _ rfl (w.heap.size + 1) zeroT rfl rfl 80 zeroT k1 info_tre rfl zeroT_one ?_)
    refine bodyPost_ret (results_ct rfl _ _ _ (w.heap.size + 1) 80 zeroT (0, 0) _ rfl (setRow_heap _ _ _ _ _ _ k1) rfl Try.underlying80 info_tre) rfl ⟨rfl, Below.setRow hbA (by omega) _⟩
  have q4 : 40 < r := by omega
  go_wp2_with (refine wpList_store_row rfl 80 _ _ rfl (w.heap.size + 1) zeroT rfl rfl 80 zeroT k1 info_tre rfl zeroT_one ?_)
  refine bodyPost_ret (results_ct rfl _ _ _ (w.heap.size + 1) 80 zeroT (0, 0) _ rfl (setRow_heap _ _ _ _ _ _ k1) rfl Try.underlying80 info_tre) rfl ⟨rfl, Below.setRow hbA (by omega) _⟩

set_option maxHeartbeats 6400000 in
set_option maxRecDepth 1000000 in
theorem tbegin_yes (d r : Int) (g : Pg) (w : World) (h1 : 1 ≤ d) (h2 : d ≤ 8) (h3 : 2 ≤ r) (h4 : r ≤ 40) :
    Calls Try.prog 58 #[.int .i64 d, .int .i64 r, .agg (pgA g)] w fun e w' => ∃ b, e = .returned (.tuple #[.agg (treA d r b), .int .i64 0]) ∧ w'.heap[b]? = some (.cells (ndA (firstN g)) 89 (0, 0)) ∧ w.heap.size ≤ b ∧ Below w.heap.size w w' := by
  go_enter Try.func58, Try.ntmps58
  go_upto_region 1 with fail
  generalize hA : (w.alloc (.cells (pgA g) 87)).alloc (.cells #[.int .i64 0, .int .i64 0, .int .i64 0, .slice none 0 0, .slice none 0 0] 80) = A at *
  obtain ⟨hsA, hbA, k0, k1⟩ : w.heap.size + 2 ≤ A.heap.size ∧ Below w.heap.size w A ∧ A.heap[w.heap.size]? = some (.cells (pgA g) 87 (0, 0)) ∧ A.heap[w.heap.size + 1]? = some (.cells zeroT 80 (0, 0)) := by
    subst hA
    exact blocks2 (Below.refl _ _)
  clear hA
  go_upto_region 4 with (first | refine wpList_load_row rfl 87 _ rfl w.heap.size rfl 87 (pgA g) (0, 0) _ k0 Try.underlying87 rfl (info_page _) ?_ | refine wpList_store_row rfl 89 _ _ rfl A.heap.size (ndA (firstN g)) rfl rfl 89 (ndA zeroN) (heap_alloc_new A _) (info_nodeA _) rfl (nd_one _) ?_)
  generalize hW : (A.alloc (.cells #[.int .i64 0, .int .i64 0, .int .i64 0, .int .i64 0, .int .i64 0, .int .i64 0, .int .i64 0, .int .i64 0, .int .i64 0, .int .i64 0, .int .i64 0, .int .i64 0, .int .i64 0, .int .i64 0, .int .i64 0, .int .i64 0, .int .i64 0, .int .i64 0, .int .i64 0, .int .i64 0, .int .i64 0, .int .i64 0, .int .i64 0, .int .i64 0, .int .i64 0, .int .i64 0, .int .i64 0, .int .i64 0, .int .i64 0, .int .i64 0, .int .i64 0, .int .i64 0, .int .i64 0, .int .i64 0, .int .i64 0, .int .i64 0, .int .i64 0] 89)).setRow A.heap.size (ndA (firstN g)) = W at *
  obtain ⟨hsW, hbW, hWR⟩ := row_new hW
  clear hW
  have m1 : W.heap[w.heap.size + 1]? = _ := (hbW.block _ (by omega)).trans k1
  have hbw := hbA.trans (hbW.mono (by omega))
  have hk1 : ∀ o, (W.alloc o).heap[w.heap.size + 1]? = some (.cells zeroT 80 (0, 0)) := fun o => (Below.heap_alloc _ _ _ (lt_of_block m1)).trans m1
  generalize A.heap.size = B at *
  clear k0 k1 hbA hbW m1
  have hwW : w.heap.size + 1 < W.heap.size := by omega
  go_wp2_with (first | refine wpList_load_row rfl 89 _ rfl B rfl 89 (ndA (firstN g)) (0, 0) _ hWR Try.underlying89 rfl (info_nodeA _) ?_ | refine wpList_store_row rfl 80 _ _ rfl (w.heap.size + 1) (treA d r W.heap.size) rfl rfl 80 zeroT (hk1 _) info_tre rfl (treA_one _ _ _) ?_)
  refine bodyPost_ret (results_ct rfl _ _ _ (w.heap.size + 1) 80 (treA d r W.heap.size) (0, 0) _ rfl (setRow_heap _ _ _ _ _ _ (hk1 _)) rfl Try.underlying80 info_tre) rfl ⟨W.heap.size, rfl, ?_, by omega, Below.setRow (hbw.alloc (by omega) _) (by omega) _⟩
  rw [setRow_other _ _ _ _ (by omega)]
  exact heap_alloc_new W _

end Go.Proofs.Ytpaakikgfojplab

